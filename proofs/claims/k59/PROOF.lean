import PyProof.Rows.All
import Wide.All
import OpenK.AllK
import Wide.FinOn
import HandS.Base
import HandS.Call
import HandS.List
import HandS.Comp
import HandS.Ends
import HandS.Words
import HandS.Wide
import HandS.WideBits
import HandS.More
import HandS.IsInst
import HandS.CallLocal
import HandS.Text
import HandS.Iter
import HandS.Dict
import HandS.Defaults
import HandS.DeepEq
import HandS.Codes
import HandS.Zip
import HandS.Walk
import HandS.TupAny
import KE.GoesEnum
import KE.GoesMore
import HandS.Style
import HandS.Strs
import HandS.Conv
import HandS.SortKw
import KE.DataMinMax
import KE.KDictList
import PySem.PyData
import HandS.Rev
import HandS.DictComp
import PyProof.DictUpdate
import PyProof.SetRoads
import HandS.TupMul
import HandS.Remove
import HandS.SetKeys
import HandS.SortInts
import HandS.SortRule
import KE.SortData
import HandS.NoneIn
import HandS.Deep
import KE.BitLaws
import HandS.RevTup
import PySem.Challenge.RW_beatfabric_k59_bars_judged
set_option Elab.async false
set_option linter.all false
set_option maxRecDepth 100000
set_option maxHeartbeats 4000000
namespace Bf
open PySem PySem.Spec PyProof.Rows L2

/-! ### rules that the layer lacks -/
section
variable {X : Cx}
def rGetL : V → V → Hp → VK → Prop := fun o i H Q => ∃ p xs k v, o = .ref p ∧ i = .int k ∧ H p = some (.lst xs) ∧ atI xs k = some v ∧ Q v H
theorem get_list : PGet X rGetL := by
  intro pins s σ H o i ov iv Q I ro ri h
  obtain ⟨p, xs, k, z, rfl, rfl, hp, he, q⟩ := h
  cases ro
  obtain ⟨t, rfl⟩ := ri
  obtain ⟨its, r, pl, hz⟩ := I.list (SqL.of hp)
  obtain ⟨j, h1, h2, h3, h4, h5⟩ := atI_get he
  obtain ⟨w, ew, rw'⟩ := r.get h2
  have hl := r.length
  have hn := line63
  have fin : EP X pins σ Q w s := ⟨z, H, I, rw', q⟩
  by_cases h0 : 0 ≤ k
  · have hj : k.toNat = j := by
      rw [seqIndex_of h0 h5] at h1
      exact Option.some.inj h1
    refine PySem.wpAny_getItem_list pl.isList h0 (by omega) (by rw [hj]; simpa using ew) fin
  · have hj : (k + (its.toArray.size : Int)).toNat = j := by
      rw [seqIndex_neg (by omega) h4] at h1
      rw [List.size_toArray, ← hl]
      exact Option.some.inj h1
    exact wpAny_getItem_list_neg pl.isList (by omega) (by rw [List.size_toArray] <;> omega) (by omega) (by rw [hj]; simpa using ew) fin

/-- max, min of two numbers that are not negative -/
theorem cr_maxN (hc : X.calm = true) : CallR X (.builtin "max") (fun xs H Q => ∃ i j : Nat, xs = [V.int i, V.int j] ∧ Q (V.int ((max i j : Nat) : Int)) H) := by
  intro pins s σ H vs us Q I r h
  obtain ⟨i, j, rfl, q⟩ := h
  refine call_max2 hc pins s σ H _ us Q I r ⟨i, j, rfl, ?_⟩
  have e : (if (j : Int) > (i : Int) then (j : Int) else (i : Int)) = ((max i j : Nat) : Int) := by
    by_cases h : (j : Int) > i
    · rw [if_pos h, Nat.max_eq_right (by omega)]
    · rw [if_neg h, Nat.max_eq_left (by omega)]
  rw [e]
  exact q
theorem cr_minN (hc : X.calm = true) : CallR X (.builtin "min") (fun xs H Q => ∃ i j : Nat, xs = [V.int i, V.int j] ∧ Q (V.int ((min i j : Nat) : Int)) H) := by
  intro pins s σ H vs us Q I r h
  obtain ⟨i, j, rfl, q⟩ := h
  refine call_min2 hc pins s σ H _ us Q I r ⟨i, j, rfl, ?_⟩
  have e : (if (j : Int) < (i : Int) then (j : Int) else (i : Int)) = ((min i j : Nat) : Int) := by
    by_cases h : (j : Int) < i
    · rw [if_pos h, Nat.min_eq_right (by omega)]
    · rw [if_neg h, Nat.min_eq_left (by omega)]
  rw [e]
  exact q
/-- sum of a tuple of ints -/
def rSumT (K : PySem.W.Frag) : List V → Hp → VK → Prop := fun vs H Q => ∃ (a : Addr) (ns : List Int), vs = [V.ref a] ∧ SqT K H a (ns.map V.int) ∧ Q (.int ns.sum) H
theorem cr_sumT (hc : X.calm = true) : CallR X (.builtin "sum") (rSumT X.K) := by
  intro pins s σ H vs us Q I r h
  obtain ⟨a, ns, rfl, hs, q⟩ := h
  obtain ⟨its, rv, hl, _⟩ := I.tuple hs
  rw [Vals.ref1 r]
  obtain ⟨xs, e⟩ := rv.ints.allInts.items
  have hn : numsOf (intItems xs).toList = ns := by rw [← e]; exact rv.ints.numsOf
  rw [nums_intItems] at hn
  have hl' : s.heap.IsTuple a (intItems xs) := by
    rw [← e]
    exact hl
  refine PySem.W.ktm_sumG (I.ok.hd hc) hl' fun h' tk t' hk => ?_
  rw [preSum_eq, List.take_of_length_le (by simp), hn]
  exact ⟨.int _, H, I.kept hk, ⟨_, rfl⟩, q⟩
end

/-- a def that stands, with its promise -/
def vI (n : Nat) : V := .int (n : Int)
structure Dn (P : Program) (w : World) (K : PySem.W.Frag) (mg : Str → Option Value) (base : Heap) (x : Str) (ps : List Str) (k : Nat) (sp : Sp) : Prop where
  ex : ∃ (f : Addr) (fd : FuncData), FnOk P w K mg base CX0 k f fd ps sp ∧ mg x = some (.ref f) ∧ PySem.W.keepIn K (.ref f) = true ∧ Binds K fd ps []
def tCallD (sp : Sp) (t : TA) : TE := fun σ H Q => t σ H fun vs H1 => sp vs H1 Q E0
section
variable {X : Cx} {x : Str} {ps : List Str} {k : Nat} {sp : Sp} {e : Expr} {es : List Expr} {t : TA} {p pos : Pos}
theorem pe_dn (D : Dn X.prog X.w X.K X.mg X.base x ps k sp) (hr : Room k X.A) (hg : Gl X x) (ha : PA X (e :: es) t) (hdb : (x == ("__debug__" : Str)) = false := by decide)
    (he : starEach (e :: es) X.env = (false, eval e X.env) :: starEach es X.env := by rfl) (hpl : (backTo pos (starEach es X.env)).any (·.1) = false := by rfl) :
    PE X (.Call (.Name x p) (e :: es) [] pos) (tCallD sp t) := by
  obtain ⟨f, fd, F, hm, hk, hb⟩ := D.ex
  refine ⟨fun pins s σ H Q I h => (pe_call (E := E0) F hr hg hm hk hb .nil pass0 ha hdb he hpl).run pins s σ H Q I ?_⟩
  have e0 : (fun (vs : List V) (H1 : Hp) => sp (vs ++ []) H1 Q E0) = fun vs H1 => sp vs H1 Q E0 := by
    funext vs H1
    rw [List.append_nil]
  show t σ H (fun vs H1 => sp (vs ++ []) H1 Q E0)
  rw [e0]
  exact h
theorem pe_dn0 (D : Dn X.prog X.w X.K X.mg X.base x ps k sp) (hr : Room k X.A) (hg : Gl X x) (hdb : (x == ("__debug__" : Str)) = false := by decide) :
    PE X (.Call (.Name x p) [] [] pos) (tCallD sp tNil) := by
  obtain ⟨f, fd, F, hm, hk, hb⟩ := D.ex
  exact ⟨fun pins s σ H Q I h => (pe_call0 (E := E0) F hr hg hm hk hb .nil pass0 hdb).run pins s σ H Q I h⟩
end
/-- the same where the last arguments are defaults -/
structure DnD (P : Program) (w : World) (K : PySem.W.Frag) (mg : Str → Option Value) (base : Heap) (x : Str) (ps : List Str) (dvs : List V) (k : Nat) (sp : Sp) : Prop where
  ex : ∃ (f : Addr) (fd : FuncData) (ds : List Value), FnOk P w K mg base CX0 k f fd ps sp ∧ mg x = some (.ref f) ∧ PySem.W.keepIn K (.ref f) = true ∧ Binds K fd ps ds ∧ Vals dvs ds
theorem pe_dnD {X : Cx} {x : Str} {ps : List Str} {dvs : List V} {k : Nat} {sp : Sp} {e : Expr} {es : List Expr} {t : TA} {p pos : Pos} (D : DnD X.prog X.w X.K X.mg X.base x ps dvs k sp) (hr : Room k X.A) (hg : Gl X x) (ha : PA X (e :: es) t) (hdb : (x == ("__debug__" : Str)) = false := by decide)
    (he : starEach (e :: es) X.env = (false, eval e X.env) :: starEach es X.env := by rfl) (hpl : (backTo pos (starEach es X.env)).any (·.1) = false := by rfl) :
    PE X (.Call (.Name x p) (e :: es) [] pos) (tCall sp dvs E0 t) := by
  obtain ⟨f, fd, ds, F, hm, hk, hb, hv⟩ := D.ex
  exact pe_call (E := E0) F hr hg hm hk hb hv pass0 ha hdb he hpl
/-- a def of the text, its promise: the level a letter -/
theorem Dn.mk' {P : Program} {w : World} {K : PySem.W.Frag} {mg : Str → Option Value} {base : Heap} {x : Str} {st : Stmt} {ps : List Str} {k : Nat} {sp : Sp} {f : Addr} {fd : FuncData}
    (F : Fun K x x st f fd) (hm : mg x = some (.ref f)) (hb : Binds K fd ps []) (ok : FnOk P w K mg base CX0 k f fd ps sp) : Dn P w K mg base x ps k sp :=
  ⟨f, fd, ok, hm, F.kp, hb⟩
end Bf
namespace Bf
open PySem PySem.Spec PyProof.Rows L2
section
variable {X : Cx} {d : Addr} {es : Array DictEntry} {n : Nat}
/-- d[k], d a dict of the module with text keys -/
theorem ix_kd (D : KDict X.K X.w d es n) : IxR X (fun x y H Q => ∃ (z : Str) (u0 : Value) (v0 : V), x = .ref d ∧ y = .str z ∧ PySem.W.nsIn X.K d z = some (some u0) ∧ RelV v0 u0 ∧ Q v0 H) := by
  intro value slice pins s σ H x y v u Q I rx ry h hs
  have h0 := h
  obtain ⟨z, u0, v0, rfl, rfl, e, r, q⟩ := h
  cases rx
  exact tail_any (kd_type D I) PySem.slot_dict_getitem.lookup (op_item_kd D pins s σ H (V.ref d) (V.str z) _ u Q I (show RelV (V.ref d) (Value.ref d) from rfl) ry h0) hs
/-- of several defs that the slot may hold: the def and its promise are told in the reading -/
def tCallH (P : Program) (w : World) (K : PySem.W.Frag) (mg : Str → Option Value) (base : Heap) (k i : Nat) (t : TA) : TE := fun σ H Q => ∃ f sp fd ps, σ[i]? = some (some (.ref f)) ∧ FnOk P w K mg base CX0 k f fd ps sp ∧ PySem.W.keepIn K (.ref f) = true ∧ Binds K fd ps [] ∧ t σ H fun vs H1 => sp vs H1 Q E0
theorem pe_held {i k : Nat} {x : Str} {p pos : Pos} {e : Expr} {es : List Expr} {t : TA} (hr : Room k X.A) (hN : X.N[i]? = some x) (hv : Vis X.env.scope x) (ha : PA X (e :: es) t)
    (hdb : (x == ("__debug__" : Str)) = false := by decide) (hcd : (x == ("__classdict__" : Str)) = false := by decide)
    (he : starEach (e :: es) X.env = (false, eval e X.env) :: starEach es X.env := by rfl) (hpl : (backTo pos (starEach es X.env)).any (·.1) = false := by rfl) : PE X (.Call (.Name x p) (e :: es) [] pos) (tCallH X.prog X.w X.K X.mg X.base k i t) := by
  refine ⟨fun pins s σ H Q I h => ?_⟩
  obtain ⟨f, sp, fd, ps, hs, F, hk, hb, ht⟩ := h
  refine (pe_callL (i := i) (f := f) (sp := sp) (dvs := []) (E := E0) F hr hN hv hk hb .nil pass0 ha hdb hcd he hpl).run pins s σ H Q I ⟨hs, ?_⟩
  have e0 : (fun (vs : List V) (H1 : Hp) => sp (vs ++ []) H1 Q E0) = fun vs H1 => sp vs H1 Q E0 := by
    funext vs H1
    rw [List.append_nil]
  show t σ H (fun vs H1 => sp (vs ++ []) H1 Q E0)
  rw [e0]
  exact ht
end
end Bf

set_option Elab.async false
set_option linter.all false
set_option maxRecDepth 100000
set_option maxHeartbeats 4000000
namespace Bf
open PySem PySem.Spec PyProof.Rows L2
/-! ### small steps of a reading -/
theorem ifY {c : Bool} {A B : Prop} (e : c = true) (h : A) : if c = true then A else B := by
  rw [if_pos e]
  exact h
theorem ifN {c : Bool} {A B : Prop} (e : c = false) (h : B) : if c = true then A else B := by
  rw [e]
  exact iteF h
theorem rdL {K : PySem.W.Frag} {H : Hp} {a : Addr} {xs : List V} {i : Int} {v : V} {Q : VK} (h : SqL K H a xs) (e : atI xs i = some v) (k : Q v H) : rIxL K (.ref a) (.int i) H Q := ⟨a, xs, _, v, rfl, rfl, h, e, k⟩
theorem rdC {v : V} {σ : L2.St} {H : Hp} {Q : VK} (k : Q v H) : tC v σ H Q := k
theorem seqNew {K : PySem.W.Frag} {H : Hp} {a p : Addr} {o : HO} {xs : List V} (hp : H p = none) (h : SqL K H a xs) : SqL K (upd H p o) a xs := by
  rcases h with (h | ⟨u, h⟩) | h
  · exact .inl (.inl (by rw [upd_ne (ne_of_none h hp)]; exact h))
  · exact .inl (.inr ⟨u, by rw [upd_ne (ne_of_none h hp)]; exact h⟩)
  · exact .inr h
theorem le1000 {n : Nat} (h : n ≤ 1000) : n ≤ sizeLine := Nat.le_of_lt (small1000 h)
end Bf

set_option Elab.async false
set_option linter.all false
set_option maxRecDepth 100000
set_option maxHeartbeats 4000000
namespace Bf
open PySem PySem.Spec PyProof.Rows L2

/-! ### what enumerate and zip walk: a list or a tuple -/
structure Src where
  sq : PySem.W.Frag → Hp → Addr → List V → Prop
  itr : Heap → Addr → Addr → Nat → Prop
  isS : Heap → Addr → Array Value → Prop
  ob : Addr → Obj
  inv : ∀ {X : Cx} {pins : List (Addr × Obj)} {σ : L2.St} {H : Hp} {s : Shared} {a : Addr} {xs : List V}, Inv X pins σ H s → sq X.K H a xs → ∃ its : List Value, Vals xs its ∧ isS s.heap a its.toArray
  inj : ∀ {X : Cx} {pins : List (Addr × Obj)} {σ : L2.St} {H : Hp} {s : Shared} {a : Addr} {xs ys : List V}, Inv X pins σ H s → sq X.K H a xs → sq X.K H a ys → xs = ys
  draws : ∀ {prog : Program} {w : World} {A : Around}, A.handled = none → ∀ (it l : Addr), l ≠ it → ∀ (items : Array Value), Draws prog w A it [it, l] items.size (fun i v => items[i]? = some v) (fun i h => itr h it l i ∧ isS h l items)
  obj : ∀ {h : Heap} {it a : Addr} {i : Nat}, itr h it a i → ∃ o, h.get? it = some o ∧ ∀ v, o.data ≠ .cell v
  at_ : ∀ {h h' : Heap} {it a : Addr} {i : Nat}, itr h it a i → (∀ o, h.get? it = some o → h'.get? it = some o) → itr h' it a i
  beg : ∀ (a : Addr) (items : Array Value), Begins (.ref a) (ob a) (fun h => isS h a items)
  start : ∀ {h : Heap} {it a : Addr}, h.get? it = some (ob a) → itr h it a 0
  lt : ∀ {h : Heap} {a : Addr} {items : Array Value}, isS h a items → a < h.objs.size
  keep : ∀ {K : PySem.W.Frag} {H H' : Hp} {a : Addr} {xs : List V}, Same H H' → sq K H a xs → sq K H' a xs
theorem seqT_same {K : PySem.W.Frag} {H H' : Hp} {a : Addr} {xs : List V} (k : Same H H') (h : SqT K H a xs) : SqT K H' a xs := by
  rcases h with (h | ⟨u, h⟩) | h
  · exact .inl (.inl (k _ _ h))
  · exact .inl (.inr ⟨u, k _ _ h⟩)
  · exact .inr h

def srcL : Src where
  sq := fun K H a xs => SqL K H a xs
  itr := fun h it a i => h.IsListIter it a i
  isS := fun h a items => h.IsList a items
  ob := fun a => { cls := .type "list_iterator", data := .fields #[.ref a, .int 0 0] }
  inv := fun I h => let ⟨its, r, p, _⟩ := I.list h; ⟨its, r, p.isList⟩
  inj := fun I h h' => I.list_inj h h'
  draws := fun hh it l hne items => Draws.list hh it l hne items
  obj := fun ⟨o, e, c, d⟩ => ⟨o, e, fun v z => by rw [d] at z; cases z⟩
  at_ := fun x k => x.at k
  beg := fun a items => begins_list a items
  start := fun e => ⟨_, e, rfl, rfl⟩
  lt := fun ⟨o, e, _⟩ => Heap.lt_size e
  keep := fun k h => k.seq h

def srcT : Src where
  sq := fun K H a xs => SqT K H a xs
  itr := fun h it a i => h.IsTupleIter it a i
  isS := fun h a items => h.IsTuple a items
  ob := fun a => { cls := .type "tuple_iterator", data := .fields #[.ref a, .int 0 0] }
  inv := fun I h => let ⟨its, r, p, _⟩ := I.tuple h; ⟨its, r, p⟩
  inj := fun I h h' => I.tuple_inj h h'
  draws := fun hh it l hne items => Draws.tuple hh it l hne items
  obj := fun ⟨o, e, c, d⟩ => ⟨o, e, fun v z => by rw [d] at z; cases z⟩
  at_ := fun x k => x.at k
  beg := fun a items => begins_tuple a items
  start := fun e => ⟨_, e, rfl, rfl⟩
  lt := fun ⟨o, e, _⟩ => Heap.lt_size e
  keep := fun k h => seqT_same k h

/-! ### enumerate -/
def ItE (S : Src) (K : PySem.W.Frag) (a : Addr) : It :=
  ⟨fun i H => ∃ (xs : List V) (x : V), S.sq K H a xs ∧ xs[i]? = some x, fun i H v H' => ∃ T x, v = .ref T ∧ H T = none ∧ H' = upd H T (.tup [.int (i : Nat), x]) ∧ ∀ xs, S.sq K H a xs → xs[i]? = some x, fun i H => ∃ xs : List V, S.sq K H a xs ∧ xs.length = i⟩

theorem turn_enumG (S : Src) {P : Program} {w : World} {K : PySem.W.Frag} {elts : List Expr} {kk : Nat} {tpos : Pos} (a e it : Addr) :
    Turn P w K (.Tuple elts kk tpos) (ItE S K a) [e, it] e (fun i h => (∃ old, IsEnum h e it ((i : Nat) : Int) old) ∧ S.itr h it a i ∧ e ≠ it ∧ e ≠ a ∧ a ≠ it) where
  mem := by simp
  obj := fun i h st b hb => by
    obtain ⟨⟨old, he⟩, hi, _⟩ := st
    have e' : b = e ∨ b = it := by simpa using hb
    rcases e' with z | z
    · rw [z]; exact ⟨_, he, fun v q => nomatch q⟩
    · rw [z]; exact S.obj hi
  keep := fun i h h' st k => let ⟨⟨old, he⟩, hi, r⟩ := st; ⟨⟨old, k e (by simp) _ he⟩, S.at_ hi fun o q => k it (by simp) o q, r⟩
  item := by
    intro X hP hw hK hc i pins s σ H E I hf st hg
    subst hP hw hK
    obtain ⟨⟨old, he⟩, hit, hne, hea, hai⟩ := st
    obtain ⟨xs, x, hq, hx⟩ := hg
    obtain ⟨its, rv, p⟩ := S.inv I hq
    obtain ⟨u, hu, ru⟩ := rv.get hx
    have hel : e < s.heap.objs.size := Heap.lt_size he
    have hil : it < s.heap.objs.size := by obtain ⟨_, q, _⟩ := S.obj hit; exact Heap.lt_size q
    have hlt : i < its.toArray.size := by
      have q := (List.getElem?_eq_some_iff.mp hu).1
      simpa using q
    refine wpAny_pyNext_enum_itemD (S.draws (show X.A.in1.handled = none from I.ok.hd hc) it a hai its.toArray) he ⟨hit, p⟩ hlt hne (by simp [hne, hea]) fun v h' tk hv ho hst hT hsz hk => ?_
    have ev : u = v := by
      have q : its[i]? = some v := by simpa using hv
      rw [hu] at q; cases q; rfl
    subst ev
    refine ⟨_, rfl, wpAny_letOwnedTupleGo_enum (s := { s with heap := h', toks := tk + 1 }) ho fun h'' he' sb => ?_⟩
    have hT2 : h''.get? s.heap.objs.size = some { cls := .type "tuple", data := .seq #[.int i tk, u] } := (sb.2 _ (Nat.ne_of_gt hel)).trans hT
    have new : ObjOk X.prog X.w (upd H s.heap.objs.size (.tup [.int (i : Nat), x])) h'' s.heap.objs.size (.tup [.int (i : Nat), x]) :=
      ⟨by show 2 ≤ sizeLine; decide, [.int i tk, u], .cons ⟨_, rfl⟩ (.cons ru .nil), ⟨_, hT2, rfl, _, rfl⟩⟩
    have I1 : Inv X pins σ (upd H s.heap.objs.size (.tup [.int (i : Nat), x])) { s with heap := h'', toks := tk + 1 } :=
      I.turnedNew (ch := [e, it]) (fun b ob hb q => (sb.2 b (fun z => hb (by simp [z]))).trans (hk b ob (fun z => hb (by simp [z])) (fun z => hb (by simp [z])) q)) hf (Nat.le_refl _) new
    refine ⟨.ref s.heap.objs.size, _, I1, rfl, ⟨_, x, rfl, I.hok.fresh (Nat.le_refl _), rfl, fun ys hy => by rw [S.inj I hy hq]; exact hx⟩, ⟨⟨u, ?_⟩, S.at_ hst.1 fun o q => (sb.2 it (Ne.symm hne)).trans q, hne, hea, hai⟩, fun b hb => ?_⟩
    · have e1 : ((i + 1 : Nat) : Int) = (i : Int) + 1 := by omega
      rw [e1]; exact he'
    · have hb' : b < s.heap.objs.size := by
        have e' : b = e ∨ b = it := by simpa using hb
        rcases e' with z | z
        · rw [z]; exact hel
        · rw [z]; exact hil
      rw [upd_ne (Nat.ne_of_lt hb')]
      exact (hf b hb).1
  done := by
    intro X hP hw hK hc i pins s σ H E I hf st hg
    subst hP hw hK
    obtain ⟨⟨old, he⟩, hit, hne, hea, hai⟩ := st
    obtain ⟨xs, hq, hx⟩ := hg
    obtain ⟨its, rv, p⟩ := S.inv I hq
    obtain ⟨f0, f1, f2, f3, f4, f5⟩ := hf it (by simp)
    have hl := rv.length
    have hn : its.toArray.size = i := by rw [List.size_toArray]; omega
    subst hn
    exact wpAny_pyNext_enum_endD (S.draws (show X.A.in1.handled = none from I.ok.hd hc) it a hai its.toArray) he ⟨hit, p⟩ fun h' eb => ⟨rfl, I.turned (t' := s.toks) (fun b o hb q => eb b o hb q) f0 f1 f3 f4 f5⟩
  self := fun A i s Q E st h => let ⟨⟨_, he⟩, _⟩ := st; wpAny_pyIter_enum he h

theorem meets_enum_new0 {v : Value} {o : Obj} {H : Heap → Prop} (B : Begins v o H) :
    Meets (Builtin.«enumerate.__new__» ⟨[.type "enumerate", v], []⟩) (fun _ R s => H s.heap ∧
      R (.ok (.ret (.ref (s.heap.push o).objs.size))) { s with heap := (s.heap.push o).push { cls := .type "enumerate", data := .fields #[.none, .bool false, .ref s.heap.objs.size, rawInt 0, .none, .none] } }) :=
  .of_wp fun prog w A R s h => by
    obtain ⟨hp, g, d, tk, os⟩ := s; obtain ⟨h1, h⟩ := h
    have hsub := sub_enumerate
    have q1 : ∀ {A' : Around} {E : Value → Shared → Prop} {Q : Value → Shared → Prop}, Q (.ref hp.objs.size) ⟨hp.push o, g, d, tk, os⟩ → wpAny (model prog w) A' (pyIter v) Q E ⟨hp, g, d, tk, os⟩ :=
      fun q => B.iter prog w _ _ ⟨hp, g, d, tk, os⟩ _ h1 q
    wp_walk using q1
    refine wpAny_stack_any fun st => wpAny_pure ?_
    split
    · rename_i c _ _ _ _ _
      cases (c == Value.type "enumerate")
      · wp_walk using q1
        exact ⟨_, rfl, h⟩
      · wp_walk using q1
        exact ⟨_, rfl, h⟩
    · wp_walk using q1
      exact ⟨_, rfl, h⟩
section
variable {prog : Program} {w : World} {A : Around} {E : Value → Shared → Prop} {s : Shared}
theorem enum_begins0 {v : Value} {o : Obj} {H : Heap → Prop} {Q : Value → Shared → Prop} (B : Begins v o H) (h1 : H s.heap)
    (h : ∀ h', IsEnum h' (s.heap.objs.size + 1) s.heap.objs.size 0 .none → h'.get? s.heap.objs.size = some o → h'.objs.size = s.heap.objs.size + 2 →
      (∀ b o, s.heap.get? b = some o → h'.get? b = some o) → Q (.ref (s.heap.objs.size + 1)) { s with heap := h' }) :
    wpAny (model prog w) A (call (.type "enumerate") [v]) Q E s := by
  refine callType_new F.called_enumerate (by decide) (F.typeCall_enumerate_1 _) (F.newCall_enumerate_1 _) (fun obj => F.args_object_init_2 obj _) F.entry_enumerate_new
    (meets_enum_new0 B) ⟨h1, ?_⟩
  have hz : (s.heap.push o).objs.size = s.heap.objs.size + 1 := Heap.size_push ..
  show _ ∧ _
  rw [hz]
  have he : IsEnum ((s.heap.push o).push { cls := .type "enumerate", data := .fields #[.none, .bool false, .ref s.heap.objs.size, rawInt 0, .none, .none] }) (s.heap.objs.size + 1) s.heap.objs.size 0 .none := by
    have := Heap.get?_push_size (s.heap.push o) (o := { cls := .type "enumerate", data := .fields #[.none, .bool false, .ref s.heap.objs.size, rawInt 0, .none, .none] }) rfl
    rw [hz] at this; exact this
  exact ⟨⟨_, he, rfl⟩, h _ he (Heap.get?_push_of_some _ (Heap.get?_push_size _ B.free)) (by rw [Heap.size_push, hz]) fun b o x => Heap.get?_push_of_some _ (Heap.get?_push_of_some _ x)⟩
end
def iEnG (S : Src) (K : PySem.W.Frag) (ta : TA) : TI := fun σ H R => ta σ H fun vs H1 => ∃ a xs, vs = [.ref a] ∧ S.sq K H1 a xs ∧ R (ItE S K a) H1
theorem enumG_run (S : Src) {X : Cx} {pins : List (Addr × Obj)} {σ : L2.St} {H1 : Hp} {s1 : Shared} {us : List Value} {vs : List V} {elts : List Expr} {kk : Nat} {tpos : Pos} {R : It → Hp → Prop} (I1 : Inv X pins σ H1 s1) (r1 : Vals vs us)
    (q1 : ∃ (a : Addr) (xs : List V), vs = [.ref a] ∧ S.sq X.K H1 a xs ∧ R (ItE S X.K a) H1) :
    wpAny (model X.prog X.w) X.A (call (.type "enumerate") us) (fun v s1 => wpAny (model X.prog X.w) X.A (pyIter v) (PIE X pins σ (.Tuple elts kk tpos) R) X.xe s1) X.xe s1 := by
  obtain ⟨a, xs, ex, hq, q⟩ := q1
  subst ex
  cases r1 with
  | cons r rr =>
    cases rr
    cases r
    obtain ⟨its, rv, p'⟩ := S.inv I1 hq
    have la := S.lt p'
    refine enum_begins0 (S.beg a its.toArray) p' fun h' he hit hsz hk => wpAny_pyIter_enum he ?_
    have I2 : Inv X pins σ H1 { s1 with heap := h' } := I1.kept (t' := s1.toks) hk
    refine ⟨s1.heap.objs.size + 1, [s1.heap.objs.size + 1, s1.heap.objs.size], _, _, H1, rfl, I2, turn_enumG S a (s1.heap.objs.size + 1) s1.heap.objs.size, ⟨⟨.none, he⟩, S.start hit, Nat.succ_ne_self _, Nat.ne_of_gt (Nat.lt_succ_of_lt la), Nat.ne_of_lt la⟩, fun b hb => ?_, q⟩
    have e' : b = s1.heap.objs.size + 1 ∨ b = s1.heap.objs.size := by simpa using hb
    have hle : s1.heap.objs.size ≤ b := by
      rcases e' with z | z
      · rw [z]; exact Nat.le_add_right _ _
      · rw [z]; exact Nat.le_refl _
    exact I1.fpOk hle (I1.hok.fresh hle)

/-! ### zip of two -/
def ItZ (S1 S2 : Src) (K : PySem.W.Frag) (a b : Addr) : It :=
  ⟨fun i H => ∃ (xs ys : List V) (x y : V), S1.sq K H a xs ∧ S2.sq K H b ys ∧ xs[i]? = some x ∧ ys[i]? = some y,
    fun i H v H' => ∃ T x y, v = .ref T ∧ H T = none ∧ H' = upd H T (.tup [x, y]) ∧ (∀ xs, S1.sq K H a xs → xs[i]? = some x) ∧ ∀ ys, S2.sq K H b ys → ys[i]? = some y,
    fun i H => ∃ xs ys : List V, S1.sq K H a xs ∧ S2.sq K H b ys ∧ i ≤ xs.length ∧ i ≤ ys.length ∧ (i = xs.length ∨ i = ys.length)⟩
theorem turn_zipG (S1 S2 : Src) {P : Program} {w : World} {K : PySem.W.Frag} {elts : List Expr} {kk : Nat} {tpos : Pos} {a b z TI TO i1 i2 : Addr} (D : ZipSep2 z TI TO i1 i2 [i1, a] [i2, b]) (ha1 : a ≠ i1) (hb2 : b ≠ i2) :
    Turn P w K (.Tuple elts kk tpos) (ItZ S1 S2 K a b) [z, TI, TO, i1, i2] z (fun i h => IsZip h z TI TO .none ∧ IsTupOf2 h TI (.ref i1) (.ref i2) ∧ (∃ x y, IsTupOf2 h TO x y) ∧ S1.itr h i1 a i ∧ S2.itr h i2 b i) where
  mem := by simp
  obj := fun i h st c hc => by
    obtain ⟨hz, hTI, ⟨x, y, hTO⟩, h1, h2⟩ := st
    have e' : c = z ∨ c = TI ∨ c = TO ∨ c = i1 ∨ c = i2 := by simpa using hc
    rcases e' with q | q | q | q | q
    · rw [q]; exact ⟨_, hz, fun v q => nomatch q⟩
    · rw [q]; exact ⟨_, hTI, fun v q => nomatch q⟩
    · rw [q]; exact ⟨_, hTO, fun v q => nomatch q⟩
    · rw [q]; exact S1.obj h1
    · rw [q]; exact S2.obj h2
  keep := fun i h h' st k => by
    obtain ⟨hz, hTI, ⟨x, y, hTO⟩, h1, h2⟩ := st
    exact ⟨k z (by simp) _ hz, k TI (by simp) _ hTI, ⟨x, y, k TO (by simp) _ hTO⟩, S1.at_ h1 fun o q => k i1 (by simp) o q, S2.at_ h2 fun o q => k i2 (by simp) o q⟩
  item := by
    intro X hP hw hK hc i pins s σ H E I hf st hg
    subst hP hw hK
    obtain ⟨hz, hTI, ⟨x0, y0, hTO⟩, h1, h2⟩ := st
    obtain ⟨xs, ys, x, y, hqx, hqy, hx, hy⟩ := hg
    obtain ⟨its, rv, p⟩ := S1.inv I hqx
    obtain ⟨its2, rv2, p2⟩ := S2.inv I hqy
    obtain ⟨u, hu, ru⟩ := rv.get hx
    obtain ⟨u2, hu2, ru2⟩ := rv2.get hy
    have hzl : z < s.heap.objs.size := Heap.lt_size hz
    have hlt : i < its.toArray.size := by
      have q := (List.getElem?_eq_some_iff.mp hu).1
      simpa using q
    have hlt2 : i < its2.toArray.size := by
      have q := (List.getElem?_eq_some_iff.mp hu2).1
      simpa using q
    have hh : X.A.in1.handled = none := I.ok.hd hc
    refine wpAny_pyNext_zipD2_item D (S1.draws hh i1 a ha1 its.toArray) (S2.draws hh i2 b hb2 its2.toArray) hz hTI hTO ⟨h1, p⟩ ⟨h2, p2⟩ hlt hlt2 fun v v2 h' tk hv hv2 z' TO' st1 st2 hT hsz hk => ?_
    have ev : u = v := by
      have q : its[i]? = some v := by simpa using hv
      rw [hu] at q; cases q; rfl
    have ev2 : u2 = v2 := by
      have q : its2[i]? = some v2 := by simpa using hv2
      rw [hu2] at q; cases q; rfl
    subst ev ev2
    refine ⟨_, rfl, wpAny_letOwnedTupleGo_zip (s := { s with heap := h', toks := tk }) z' fun h'' z'' sb => ?_⟩
    have hT2 : h''.get? s.heap.objs.size = some { cls := .type "tuple", data := .seq #[u, u2] } := (sb.2 _ (Nat.ne_of_gt hzl)).trans hT
    have new : ObjOk X.prog X.w (upd H s.heap.objs.size (.tup [x, y])) h'' s.heap.objs.size (.tup [x, y]) :=
      ⟨by show 2 ≤ sizeLine; decide, [u, u2], .cons ru (.cons ru2 .nil), ⟨_, hT2, rfl, _, rfl⟩⟩
    have I1 : Inv X pins σ (upd H s.heap.objs.size (.tup [x, y])) { s with heap := h'', toks := tk } :=
      I.turnedNew (ch := [z, TI, TO, i1, i2]) (fun c o hb q => (sb.2 c (fun q' => hb (by simp [q']))).trans (hk c o (fun q' => hb (by simp [q'])) (fun q' => hb (by simp [q'])) (fun q' => hb (by simp [q'])) (fun q' => hb (by simp [q'])) q)) hf (Nat.le_refl _) new
    have zi1 : i1 ≠ z := fun q => D.zf1 (by simp [q])
    have zi2 : i2 ≠ z := fun q => D.zf2 (by simp [q])
    refine ⟨.ref s.heap.objs.size, _, I1, rfl, ⟨_, x, y, rfl, I.hok.fresh (Nat.le_refl _), rfl, fun l hl => by rw [S1.inj I hl hqx]; exact hx, fun l hl => by rw [S2.inj I hl hqy]; exact hy⟩, ⟨z'', ?_, ⟨u, u2, ?_⟩, ?_, ?_⟩, fun c hcm => ?_⟩
    · exact (sb.2 _ D.TIz).trans (hk _ _ D.TIz D.TITO D.TIi1 D.TIi2 hTI)
    · exact (sb.2 _ D.TOz).trans TO'
    · exact S1.at_ st1.1 fun o q => (sb.2 _ zi1).trans q
    · exact S2.at_ st2.1 fun o q => (sb.2 _ zi2).trans q
    · have hlt : c < s.heap.objs.size := by
        have e' : c = z ∨ c = TI ∨ c = TO ∨ c = i1 ∨ c = i2 := by simpa using hcm
        rcases e' with q | q | q | q | q
        · rw [q]; exact hzl
        · rw [q]; exact Heap.lt_size hTI
        · rw [q]; exact Heap.lt_size hTO
        · rw [q]; obtain ⟨_, e1, _⟩ := S1.obj h1; exact Heap.lt_size e1
        · rw [q]; obtain ⟨_, e2, _⟩ := S2.obj h2; exact Heap.lt_size e2
      rw [upd_ne (Nat.ne_of_lt hlt)]
      exact (hf c hcm).1
  done := by
    intro X hP hw hK hc i pins s σ H E I hf st hg
    subst hP hw hK
    obtain ⟨hz, hTI, ⟨x0, y0, hTO⟩, h1, h2⟩ := st
    obtain ⟨xs, ys, hqx, hqy, le1, le2, hend⟩ := hg
    obtain ⟨its, rv, p⟩ := S1.inv I hqx
    obtain ⟨its2, rv2, p2⟩ := S2.inv I hqy
    have l1 := rv.length
    have l2 := rv2.length
    have hh : X.A.in1.handled = none := I.ok.hd hc
    exact wpAny_pyNext_zipD2_end D (S1.draws hh i1 a ha1 its.toArray) (S2.draws hh i2 b hb2 its2.toArray) hz hTI hTO ⟨h1, p⟩ ⟨h2, p2⟩ (by rw [List.size_toArray]; omega) (by rw [List.size_toArray]; omega)
      (by rw [List.size_toArray, List.size_toArray]; omega) fun h' tk hk => ⟨rfl, I.turnedL (t' := tk) (ch := [z, TI, TO, i1, i2]) (fun c o hb q =>
      hk c o (fun q' => hb (by simp [q'])) (fun q' => hb (by simp [q'])) (fun q' => hb (by simp [q'])) (fun q' => hb (by simp [q'])) q) hf⟩
  self := fun A i s Q E st h => wpAny_pyIter_zip st.1 h
def iZpG (S1 S2 : Src) (K : PySem.W.Frag) (ta : TA) : TI := fun σ H R => ta σ H fun vs H1 => ∃ a b xs ys, vs = [.ref a, .ref b] ∧ S1.sq K H1 a xs ∧ S2.sq K H1 b ys ∧ R (ItZ S1 S2 K a b) H1
theorem zipG_run (S1 S2 : Src) {X : Cx} {pins : List (Addr × Obj)} {σ : L2.St} {H1 : Hp} {s1 : Shared} {us : List Value} {vs : List V} {elts : List Expr} {kk : Nat} {tpos : Pos} {R : It → Hp → Prop} (I1 : Inv X pins σ H1 s1) (r1 : Vals vs us)
    (q1 : ∃ (a b : Addr) (xs ys : List V), vs = [.ref a, .ref b] ∧ S1.sq X.K H1 a xs ∧ S2.sq X.K H1 b ys ∧ R (ItZ S1 S2 X.K a b) H1) :
    wpAny (model X.prog X.w) X.A (call (.type "zip") us) (fun v s1 => wpAny (model X.prog X.w) X.A (pyIter v) (PIE X pins σ (.Tuple elts kk tpos) R) X.xe s1) X.xe s1 := by
  obtain ⟨a, b, xs, ys, ex, hqx, hqy, q⟩ := q1
  subst ex
  cases r1 with
  | cons r rr =>
    cases rr with
    | cons r' rr =>
      cases rr
      cases r
      cases r'
      obtain ⟨its, rv, p1⟩ := S1.inv I1 hqx
      obtain ⟨its2, rv2, p2⟩ := S2.inv I1 hqy
      have la := S1.lt p1
      have lb := S2.lt p2
      refine zip_begins2 (S1.beg a its.toArray) (S2.beg b its2.toArray) p1 p2 fun h' hz hTI hTO h1 h2 hsz hk => wpAny_pyIter_zip hz ?_
      have I2 : Inv X pins σ H1 { s1 with heap := h' } := I1.kept (t' := s1.toks) hk
      refine ⟨s1.heap.objs.size + 4, [s1.heap.objs.size + 4, s1.heap.objs.size + 2, s1.heap.objs.size + 3, s1.heap.objs.size, s1.heap.objs.size + 1], _, _, H1, rfl, I2,
        turn_zipG S1 S2 (zip_sep2 (fp1 := [a]) (fp2 := [b]) (by intro c hc; rw [List.mem_singleton.mp hc]; exact la) (by intro c hc; rw [List.mem_singleton.mp hc]; exact lb)) (Nat.ne_of_lt la) (Nat.ne_of_lt (Nat.lt_succ_of_lt lb)),
        ⟨hz, hTI, ⟨_, _, hTO⟩, S1.start h1, S2.start h2⟩, fun c hcm => ?_, q⟩
      have e' : c = s1.heap.objs.size + 4 ∨ c = s1.heap.objs.size + 2 ∨ c = s1.heap.objs.size + 3 ∨ c = s1.heap.objs.size ∨ c = s1.heap.objs.size + 1 := by simpa using hcm
      have hle : s1.heap.objs.size ≤ c := by
        rcases e' with z | z | z | z | z
        · rw [z]; exact Nat.le_add_right _ _
        · rw [z]; exact Nat.le_add_right _ _
        · rw [z]; exact Nat.le_add_right _ _
        · rw [z]; exact Nat.le_refl _
        · rw [z]; exact Nat.le_add_right _ _
      exact I1.fpOk hle (I1.hok.fresh hle)

/-! ### for over them -/
theorem for_enumG (S : Src) {K : PySem.W.Frag} {a : Addr} {xs : List V} {g : TG} {tb : TS} {D : Ends} {σ : L2.St} {H : Hp} (Pv : Nat → L2.St → Hp → Prop) (h0 : Pv 0 σ H) (hq : ∀ i σ H, Pv i σ H → S.sq K H a xs)
    (hs : ∀ (i : Nat) (x : V) (T : Addr) (σ : L2.St) (H : Hp), xs[i]? = some x → Pv i σ H → H T = none → g (.ref T) σ (upd H T (.tup [.int (i : Nat), x])) fun σ2 H2 => tb { D with nx := Pv (i + 1), ct := Pv (i + 1), bk := D.nx } σ2 H2) (hd : ∀ σ H, Pv xs.length σ H → D.nx σ H) :
    ∃ W : Nat → Nat → L2.St → Hp → Prop, (∃ m, W 0 m σ H) ∧ ∀ i m σ H, W i m σ H →
      ((ItE S K a).stop i H ∧ D.nx σ H) ∨ ((ItE S K a).go i H ∧ ∃ N : L2.St → Hp → Prop, (∀ σ' H', N σ' H' → ∃ m', m' < m ∧ W (i + 1) m' σ' H') ∧ ∀ v H', (ItE S K a).yld i H v H' → g v σ H' fun σ2 H2 => tb { D with nx := N, ct := N, bk := D.nx } σ2 H2) := by
  refine ⟨fun i m σ H => m = xs.length - i ∧ i ≤ xs.length ∧ Pv i σ H, ⟨xs.length, rfl, Nat.zero_le _, h0⟩, ?_⟩
  rintro i m σ H ⟨rfl, hi, p⟩
  have qx := hq i σ H p
  by_cases hlt : i < xs.length
  · have hx : xs[i]? = some xs[i] := List.getElem?_eq_getElem hlt
    refine .inr ⟨⟨xs, _, qx, hx⟩, Pv (i + 1), fun σ' H' p' => ⟨xs.length - (i + 1), by omega, rfl, hlt, p'⟩, fun v H' y => ?_⟩
    obtain ⟨T, x', rfl, hT, rfl, f1⟩ := y
    exact hs i x' T σ H (f1 xs qx) p hT
  · have e : i = xs.length := by omega
    subst e
    exact .inl ⟨⟨xs, qx, rfl⟩, hd σ H p⟩
theorem for_zipG (S1 S2 : Src) {K : PySem.W.Frag} {a b : Addr} {xs ys : List V} {g : TG} {tb : TS} {D : Ends} {σ : L2.St} {H : Hp} (hl : xs.length = ys.length) (Pv : Nat → L2.St → Hp → Prop) (h0 : Pv 0 σ H) (hq : ∀ i σ H, Pv i σ H → S1.sq K H a xs ∧ S2.sq K H b ys)
    (hs : ∀ (i : Nat) (x y : V) (T : Addr) (σ : L2.St) (H : Hp), xs[i]? = some x → ys[i]? = some y → Pv i σ H → H T = none → g (.ref T) σ (upd H T (.tup [x, y])) fun σ2 H2 => tb { D with nx := Pv (i + 1), ct := Pv (i + 1), bk := D.nx } σ2 H2) (hd : ∀ σ H, Pv xs.length σ H → D.nx σ H) :
    ∃ W : Nat → Nat → L2.St → Hp → Prop, (∃ m, W 0 m σ H) ∧ ∀ i m σ H, W i m σ H →
      ((ItZ S1 S2 K a b).stop i H ∧ D.nx σ H) ∨ ((ItZ S1 S2 K a b).go i H ∧ ∃ N : L2.St → Hp → Prop, (∀ σ' H', N σ' H' → ∃ m', m' < m ∧ W (i + 1) m' σ' H') ∧ ∀ v H', (ItZ S1 S2 K a b).yld i H v H' → g v σ H' fun σ2 H2 => tb { D with nx := N, ct := N, bk := D.nx } σ2 H2) := by
  refine ⟨fun i m σ H => m = xs.length - i ∧ i ≤ xs.length ∧ Pv i σ H, ⟨xs.length, rfl, Nat.zero_le _, h0⟩, ?_⟩
  rintro i m σ H ⟨rfl, hi, p⟩
  obtain ⟨qx, qy⟩ := hq i σ H p
  by_cases hlt : i < xs.length
  · have hx : xs[i]? = some xs[i] := List.getElem?_eq_getElem hlt
    have hlt2 : i < ys.length := by omega
    have hy : ys[i]? = some ys[i] := List.getElem?_eq_getElem hlt2
    refine .inr ⟨⟨xs, ys, _, _, qx, qy, hx, hy⟩, Pv (i + 1), fun σ' H' p' => ⟨xs.length - (i + 1), by omega, rfl, hlt, p'⟩, fun v H' y => ?_⟩
    obtain ⟨T, x', y', rfl, hT, rfl, f1, f2⟩ := y
    exact hs i x' y' T σ H (f1 xs qx) (f2 ys qy) p hT
  · have e : i = xs.length := by omega
    subst e
    exact .inl ⟨⟨xs, ys, qx, qy, Nat.le_refl _, by omega, .inl rfl⟩, hd σ H p⟩

theorem for_zipLe (S1 S2 : Src) {K : PySem.W.Frag} {a b : Addr} {xs ys : List V} {g : TG} {tb : TS} {D : Ends} {σ : L2.St} {H : Hp} (hl : xs.length ≤ ys.length) (Pv : Nat → L2.St → Hp → Prop) (h0 : Pv 0 σ H) (hq : ∀ i σ H, Pv i σ H → S1.sq K H a xs ∧ S2.sq K H b ys)
    (hs : ∀ (i : Nat) (x y : V) (T : Addr) (σ : L2.St) (H : Hp), xs[i]? = some x → ys[i]? = some y → Pv i σ H → H T = none → g (.ref T) σ (upd H T (.tup [x, y])) fun σ2 H2 => tb { D with nx := Pv (i + 1), ct := Pv (i + 1), bk := D.nx } σ2 H2) (hd : ∀ σ H, Pv xs.length σ H → D.nx σ H) :
    ∃ W : Nat → Nat → L2.St → Hp → Prop, (∃ m, W 0 m σ H) ∧ ∀ i m σ H, W i m σ H →
      ((ItZ S1 S2 K a b).stop i H ∧ D.nx σ H) ∨ ((ItZ S1 S2 K a b).go i H ∧ ∃ N : L2.St → Hp → Prop, (∀ σ' H', N σ' H' → ∃ m', m' < m ∧ W (i + 1) m' σ' H') ∧ ∀ v H', (ItZ S1 S2 K a b).yld i H v H' → g v σ H' fun σ2 H2 => tb { D with nx := N, ct := N, bk := D.nx } σ2 H2) := by
  refine ⟨fun i m σ H => m = xs.length - i ∧ i ≤ xs.length ∧ Pv i σ H, ⟨xs.length, rfl, Nat.zero_le _, h0⟩, ?_⟩
  rintro i m σ H ⟨rfl, hi, p⟩
  obtain ⟨qx, qy⟩ := hq i σ H p
  by_cases hlt : i < xs.length
  · have hx : xs[i]? = some xs[i] := List.getElem?_eq_getElem hlt
    have hlt2 : i < ys.length := by omega
    have hy : ys[i]? = some ys[i] := List.getElem?_eq_getElem hlt2
    refine .inr ⟨⟨xs, ys, _, _, qx, qy, hx, hy⟩, Pv (i + 1), fun σ' H' p' => ⟨xs.length - (i + 1), by omega, rfl, hlt, p'⟩, fun v H' y => ?_⟩
    obtain ⟨T, x', y', rfl, hT, rfl, f1, f2⟩ := y
    exact hs i x' y' T σ H (f1 xs qx) (f2 ys qy) p hT
  · have e : i = xs.length := by omega
    subst e
    exact .inl ⟨⟨xs, ys, qx, qy, Nat.le_refl _, by omega, .inl rfl⟩, hd σ H p⟩

/-! ### two tuples of the same numbers -/
theorem canLay_ints : ∀ ns : List Nat, PyData.canLayAll0 (ns.map fun n : Nat => PyData.int (n : Int)) = true
  | [] => by simp [PyData.canLayAll0]
  | n :: r => by
    rw [List.map_cons, PyData.canLayAll0, canLay_ints r]
    simp [PyData.canLay0]
theorem depth_ints : ∀ ns : List Nat, PyData.depthAll (ns.map fun n : Nat => PyData.int (n : Int)) ≤ 1
  | [] => by simp [PyData.depthAll]
  | n :: r => by
    have := depth_ints r
    rw [List.map_cons, PyData.depthAll]
    simp [PyData.depth] <;> omega
theorem dp_ints {K : PySem.W.Frag} {H : Hp} : ∀ ns : List Nat, DpAll K H (ns.map vI) (ns.map fun n : Nat => PyData.int (n : Int))
  | [] => .nil
  | n :: r => .cons (.int _) (dp_ints r)
theorem shaped_ints (ns : List Nat) : SeqAt.shaped (.tuple (ns.map fun n : Nat => PyData.int (n : Int))) = true := by
  have h := depth_ints ns
  unfold SeqAt.shaped
  rw [PyData.canLay0, canLay_ints, Bool.true_and]
  refine decide_eq_true ?_
  rw [PyData.depth]
  omega
def rNeI (K : PySem.W.Frag) : R2 := fun x y H Q => ∃ (a b : Addr) (ns : List Nat), x = .ref a ∧ y = .ref b ∧ SqT K H a (ns.map vI) ∧ SqT K H b (ns.map vI) ∧ Q (.bl false) H
theorem op_neI {X : Cx} (hu : X.A.units + 64 < cLine) : OpR X (compareOp .NotEq) (rNeI X.K) := by
  intro pins s σ H x y v u Q I rx ry h
  obtain ⟨a, b, ns, rfl, rfl, ha, hb, q⟩ := h
  refine op_neD hu pins s σ H _ _ v u Q I rx ry ⟨_, _, .tup ha (dp_ints ns), .tup hb (dp_ints ns), shaped_ints ns, shaped_ints ns, ?_⟩
  rw [SeqAt.eqv_refl _ (SeqAt.canLay_of_shaped (shaped_ints ns))]
  exact q
def rEqI (K : PySem.W.Frag) : R2 := fun x y H Q => ∃ (a b : Addr) (ns : List Nat), x = .ref a ∧ y = .ref b ∧ SqT K H a (ns.map vI) ∧ SqT K H b (ns.map vI) ∧ Q (.bl true) H
theorem op_eqI {X : Cx} (hu : X.A.units + 64 < cLine) : OpR X (compareOp .Eq) (rEqI X.K) := by
  intro pins s σ H x y v u Q I rx ry h
  obtain ⟨a, b, ns, rfl, rfl, ha, hb, q⟩ := h
  refine op_eqD hu pins s σ H _ _ v u Q I rx ry ⟨_, _, .tup ha (dp_ints ns), .tup hb (dp_ints ns), shaped_ints ns, shaped_ints ns, ?_⟩
  rw [SeqAt.eqv_refl _ (SeqAt.canLay_of_shaped (shaped_ints ns))]
  exact q

/-! ### list.extend(tuple) -/
theorem ext_tupA (l : Addr) (items : Array Value) (n : Nat) (b : Addr) (items2 : Array Value) (n2 : Nat) (dd : Option Addr) (sl : Array (Option Value)) (hs0 : ¬(!items.isEmpty && Builtin.List.listTooLong (items.size + items2.size)) = true) (hs1 : items.size ≤ sizeLine) (hs2 : items.size + items2.size ≤ sizeLine + 1) :
    Meets (Builtin.«list.extend» ⟨[.ref l, .ref b], []⟩) (fun _ R s => s.heap.get? l = some { cls := .type "list", dict := none, data := .seq items n, slots := #[] } ∧ s.heap.get? b = some { cls := .type "tuple", dict := dd, data := .seq items2 n2, slots := sl } ∧ R (.ok (.ret Value.none)) { s with heap := s.heap.update l (Obj.mapSeq fun x => x ++ items2), toks := s.toks }) :=
  .of_wp fun prog w A R s h => by
    obtain ⟨hp, g, d, tk, os⟩ := s; obtain ⟨hl, hb, h⟩ := h; have f2 := sub_tuple_tuple; have f3 := sub_list_list; have f4 := sub_tuple_list; have f5 := sub_list_tuple
    have hz' : (items ++ items2).size ≤ sizeLine + 1 := by rw [Array.size_append]; exact hs2
    wp_walk using (wpAny_updateSeq hl rfl (hz := hs1) (_hz' := hz')), wpAny_loadPart' hl, wpAny_loadPart' hb
    exact ⟨_, rfl, h⟩
def rExtT (K : PySem.W.Frag) : V → List V → Hp → VK → Prop := fun x vs H Q => ∃ l b xs zs, x = .ref l ∧ vs = [.ref b] ∧ H l = some (.lst xs) ∧ SqT K H b zs ∧ xs.length + zs.length ≤ sizeLine ∧ Q .non (upd H l (.lst (xs ++ zs)))
theorem mt_extT {X : Cx} : MtM X "list.extend" (rExtT X.K) := by
  intro pins s σ H x vs v us Q I rx rv h
  obtain ⟨l, b, xs, zs, rfl, rfl, hH, hB, hz, q⟩ := h
  cases rx
  obtain ⟨u, rfl, ru⟩ := rv.one
  cases ru
  obtain ⟨z, its, n, r, hl, e⟩ := I.lstM hH
  obtain ⟨its2, r2, p2, hl2⟩ := I.tuple hB
  obtain ⟨⟨cls, dd, data, sl⟩, ho, hc, n2, hd⟩ := id p2
  simp only at hc hd
  subst hc hd
  have len2 := r2.length
  have hsz : its.toArray.size + its2.toArray.size ≤ sizeLine := by rw [List.size_toArray, List.size_toArray]; omega
  have hlong : ¬ (!its.toArray.isEmpty && Builtin.List.listTooLong (its.toArray.size + its2.toArray.size)) = true := by
    rw [notLongL hsz, Bool.and_false]
    exact Bool.false_ne_true
  refine call_meets F.slot_list_extend ⟨_, e, rfl⟩ F.entry_list_extend (F.args_list_extend_2 _ _)
    (ext_tupA l its.toArray n b its2.toArray n2 dd sl hlong (by rw [List.size_toArray]; omega) (by omega)) ⟨e, ho, ?_⟩
  refine ⟨.non, _, I.lset (its' := its ++ its2) hH e (by simp) (r.append r2) ?_, rfl, q⟩
  rw [List.length_append]
  omega

/-! ### the source as it comes -/
def iEnX (K : PySem.W.Frag) (ta : TA) : TI := fun σ H R => ta σ H fun vs H1 => ∃ (S : Src) (a : Addr) (xs : List V), vs = [.ref a] ∧ S.sq K H1 a xs ∧ R (ItE S K a) H1
theorem pi_enumX {X : Cx} {e : Expr} {ta : TA} {p pos tpos : Pos} {elts : List Expr} {kk : Nat} (hg : Gl X "enumerate") (hm : X.mg "enumerate" = none) (ha : PA X [e] ta) (hs : starEach [e] X.env = [(false, eval e X.env)] := by rfl) :
    PI X (.Tuple elts kk tpos) (.Call (.Name "enumerate" p) [e] [] pos) (iEnX X.K ta) := by
  refine ⟨fun pins s σ H R I h => ?_⟩
  have h' : ta σ H fun vs H1 => ∃ S : Src, ∃ (a : Addr) (xs : List V), vs = [.ref a] ∧ S.sq X.K H1 a xs ∧ R (ItE S X.K a) H1 := h
  refine Call_ (ld_blt I hg hm boot_enumerate (PyProof.Rows.callWith_type1 (thn (ha.run pos pins s σ H _ I h') fun us s1 ⟨vs, H1, I1, r1, q1⟩ => ?_) hs rfl))
  obtain ⟨S, a, xs, ex, hq, q⟩ := q1
  exact enumG_run S I1 r1 ⟨a, xs, ex, hq, q⟩
def iZpX (K : PySem.W.Frag) (ta : TA) : TI := fun σ H R => ta σ H fun vs H1 => ∃ (S1 S2 : Src) (a b : Addr) (xs ys : List V), vs = [.ref a, .ref b] ∧ S1.sq K H1 a xs ∧ S2.sq K H1 b ys ∧ R (ItZ S1 S2 K a b) H1
theorem pi_zipX {X : Cx} {e e2 : Expr} {ta : TA} {p pos tpos : Pos} {elts : List Expr} {kk : Nat} (hg : Gl X "zip") (hm : X.mg "zip" = none) (ha : PA X [e, e2] ta)
    (hs : starEach [e, e2] X.env = (false, eval e X.env) :: starEach [e2] X.env := by rfl) (hpl : (backTo pos (starEach [e2] X.env)).any (·.1) = false := by rfl) :
    PI X (.Tuple elts kk tpos) (.Call (.Name "zip" p) [e, e2] [] pos) (iZpX X.K ta) := by
  refine ⟨fun pins s σ H R I h => ?_⟩
  have h' : ta σ H fun vs H1 => ∃ S1 S2 : Src, ∃ (a b : Addr) (xs ys : List V), vs = [.ref a, .ref b] ∧ S1.sq X.K H1 a xs ∧ S2.sq X.K H1 b ys ∧ R (ItZ S1 S2 X.K a b) H1 := h
  refine Call_ (ld_blt I hg hm PyProof.Rows.boot_zip (PyProof.Rows.callWith_type1 (thn (ha.run pos pins s σ H _ I h') fun us s1 ⟨vs, H1, I1, r1, q1⟩ => ?_) hs hpl))
  obtain ⟨S1, S2, a, b, xs, ys, ex, hqx, hqy, q⟩ := q1
  exact zipG_run S1 S2 I1 r1 ⟨a, b, xs, ys, ex, hqx, hqy, q⟩
end Bf

set_option Elab.async false
set_option linter.all false
set_option maxRecDepth 100000
set_option maxHeartbeats 4000000
namespace Bf
open PySem PySem.Spec PyProof.Rows L2
/-! ### data of tuples, ints and texts, as they lie -/
mutual
inductive Lay (H : Hp) : V → PyData → Prop
  | non : Lay H .non .none
  | bl (b : Bool) : Lay H (.bl b) (.bool b)
  | int (i : Int) : Lay H (.int i) (.int i)
  | str (x : Str) : Lay H (.str x) (.str x)
  | tup {a : Addr} {xs : List V} {ds : List PyData} : H a = some (.tup xs) → LayAll H xs ds → Lay H (.ref a) (.tuple ds)
inductive LayAll (H : Hp) : List V → List PyData → Prop
  | nil : LayAll H [] []
  | cons {v : V} {vs : List V} {d : PyData} {ds : List PyData} : Lay H v d → LayAll H vs ds → LayAll H (v :: vs) (d :: ds)
end
/-- what is tracked as a tuple in H is so in H' -/
def KeepT (H H' : Hp) : Prop := ∀ b xs, H b = some (.tup xs) → H' b = some (.tup xs)
theorem KeepT.refl (H : Hp) : KeepT H H := fun _ _ h => h
theorem KeepT.same {H H' : Hp} (k : Same H H') : KeepT H H' := fun b xs h => k _ _ h
theorem KeepT.trans {H H1 H2 : Hp} (a : KeepT H H1) (b : KeepT H1 H2) : KeepT H H2 := fun c o h => b c o (a c o h)
theorem KeepT.new {H : Hp} {p : Addr} {o : HO} (h : H p = none) : KeepT H (upd H p o) := fun b u q => by rw [upd_ne (ne_of_none q h)]; exact q
theorem KeepT.lst {H : Hp} {p : Addr} {o : HO} {l : List V} (h : H p = some (.lst l)) : KeepT H (upd H p o) := fun b u q => by
  rw [upd_ne (fun e => by rw [e, h] at q; cases q)]
  exact q
mutual
theorem Lay.keep {H H' : Hp} (k : KeepT H H') : ∀ (d : PyData) (v : V), Lay H v d → Lay H' v d
  | .none, _, h => by cases h; exact .non
  | .bool b, _, h => by cases h; exact .bl b
  | .int i, _, h => by cases h; exact .int i
  | .str x, _, h => by cases h; exact .str x
  | .list ds, _, h => by cases h
  | .tuple ds, _, h => by
    cases h with
    | tup e a => exact .tup (k _ _ e) (LayAll.keep k ds _ a)
  | .dict _, _, h => by cases h
theorem LayAll.keep {H H' : Hp} (k : KeepT H H') : ∀ (ds : List PyData) (vs : List V), LayAll H vs ds → LayAll H' vs ds
  | [], _, h => by cases h; exact .nil
  | d :: ds, _, h => by
    cases h with
    | cons a b => exact .cons (Lay.keep k d _ a) (LayAll.keep k ds _ b)
end
mutual
theorem Lay.dp {K : PySem.W.Frag} {H : Hp} : ∀ (d : PyData) (v : V), Lay H v d → Dp K H v d
  | .none, _, h => by cases h; exact .non
  | .bool b, _, h => by cases h; exact .bl b
  | .int i, _, h => by cases h; exact .int i
  | .str x, _, h => by cases h; exact .str x
  | .list ds, _, h => by cases h
  | .tuple ds, _, h => by
    cases h with
    | tup e a => exact .tup (SqT.of e) (LayAll.dp ds _ a)
  | .dict _, _, h => by cases h
theorem LayAll.dp {K : PySem.W.Frag} {H : Hp} : ∀ (ds : List PyData) (vs : List V), LayAll H vs ds → DpAll K H vs ds
  | [], _, h => by cases h; exact .nil
  | d :: ds, _, h => by
    cases h with
    | cons a b => exact .cons (Lay.dp d _ a) (LayAll.dp ds _ b)
end
theorem Lay.keep' {H H' : Hp} {d : PyData} {v : V} (h : Lay H v d) (k : KeepT H H') : Lay H' v d := Lay.keep k d v h
theorem LayAll.keep' {H H' : Hp} {ds : List PyData} {vs : List V} (h : LayAll H vs ds) (k : KeepT H H') : LayAll H' vs ds := LayAll.keep k ds vs h
theorem Lay.dp' {K : PySem.W.Frag} {H : Hp} {d : PyData} {v : V} (h : Lay H v d) : Dp K H v d := Lay.dp d v h
theorem LayAll.len {H : Hp} : ∀ {vs : List V} {ds : List PyData}, LayAll H vs ds → vs.length = ds.length
  | _, _, .nil => rfl
  | _, _, .cons _ h => by rw [List.length_cons, List.length_cons, h.len]
theorem LayAll.get {H : Hp} {v : V} : ∀ {vs : List V} {ds : List PyData} (i : Nat), LayAll H vs ds → vs[i]? = some v → ∃ d, ds[i]? = some d ∧ Lay H v d
  | [], _, _, _, e => by simp at e
  | _ :: _, _, 0, h, e => by
    cases h with
    | cons a b => cases e; exact ⟨_, rfl, a⟩
  | x :: vs, ds, i + 1, h, e => by
    cases h with
    | cons a b =>
      obtain ⟨d, q, l⟩ := LayAll.get (vs := vs) i b (by simpa using e)
      exact ⟨d, by simpa using q, l⟩
theorem LayAll.at_ {H : Hp} {d : PyData} : ∀ {vs : List V} {ds : List PyData} (i : Nat), LayAll H vs ds → ds[i]? = some d → ∃ v, vs[i]? = some v ∧ Lay H v d
  | _, [], _, _, e => by simp at e
  | _, _ :: _, 0, h, e => by
    cases h with
    | cons a b => cases e; exact ⟨_, rfl, a⟩
  | vs, x :: ds, i + 1, h, e => by
    cases h with
    | cons a b =>
      obtain ⟨d, q, l⟩ := LayAll.at_ (ds := ds) i b (by simpa using e)
      exact ⟨d, by simpa using q, l⟩
theorem LayAll.app {H : Hp} : ∀ {vs us : List V} {ds es : List PyData}, LayAll H vs ds → LayAll H us es → LayAll H (vs ++ us) (ds ++ es)
  | _, _, _, _, .nil, h => h
  | _, _, _, _, .cons a b, h => .cons a (b.app h)
theorem LayAll.snoc {H : Hp} {vs : List V} {ds : List PyData} {v : V} {d : PyData} (h : LayAll H vs ds) (a : Lay H v d) : LayAll H (vs ++ [v]) (ds ++ [d]) := h.app (.cons a .nil)
theorem LayAll.ints {H : Hp} : ∀ ns : List Nat, LayAll H (ns.map vI) (ns.map fun n : Nat => PyData.int (n : Int))
  | [] => .nil
  | n :: ns => .cons (.int _) (LayAll.ints ns)
theorem LayAll.ints_inv {H : Hp} : ∀ {ns : List Nat} {vs : List V}, LayAll H vs (ns.map fun n : Nat => PyData.int (n : Int)) → vs = ns.map vI
  | [], _, .nil => rfl
  | n :: ns, _, .cons (.int _) h => by rw [LayAll.ints_inv h]; rfl
theorem LayAll.strs_inv {H : Hp} : ∀ {ns : List Str} {vs : List V}, LayAll H vs (ns.map PyData.str) → vs = ns.map V.str
  | [], _, .nil => rfl
  | n :: ns, _, .cons (.str _) h => by rw [LayAll.strs_inv h]; rfl
theorem LayAll.strs {H : Hp} : ∀ ns : List Str, LayAll H (ns.map V.str) (ns.map PyData.str)
  | [] => .nil
  | n :: ns => .cons (.str _) (LayAll.strs ns)
theorem Lay.tup_inv {H : Hp} {v : V} {ds : List PyData} (h : Lay H v (.tuple ds)) : ∃ p vs, v = .ref p ∧ H p = some (.tup vs) ∧ LayAll H vs ds := by
  cases h with
  | tup e a => exact ⟨_, _, rfl, e, a⟩
theorem Lay.int_inv {H : Hp} {v : V} {i : Int} (h : Lay H v (.int i)) : v = .int i := by cases h; rfl
theorem Lay.str_inv {H : Hp} {v : V} {z : Str} (h : Lay H v (.str z)) : v = .str z := by cases h; rfl
theorem LayAll.nil_inv {H : Hp} {vs : List V} (h : LayAll H vs []) : vs = [] := by cases h; rfl
theorem LayAll.cons_inv {H : Hp} {vs : List V} {d : PyData} {ds : List PyData} (h : LayAll H vs (d :: ds)) : ∃ v us, vs = v :: us ∧ Lay H v d ∧ LayAll H us ds := by
  cases h with
  | cons a b => exact ⟨_, _, rfl, a, b⟩
/-! ### the shapes that == serves -/
def Sh (k : Nat) (d : PyData) : Prop := d.canLay0 = true ∧ d.depth ≤ k
theorem Sh.int (k : Nat) (i : Int) : Sh k (.int i) := ⟨by simp only [PyData.canLay0], by simp only [PyData.depth]; omega⟩
theorem Sh.all {k : Nat} : ∀ {ds : List PyData}, (∀ d ∈ ds, Sh k d) → PyData.canLayAll0 ds = true ∧ PyData.depthAll ds ≤ k
  | [], _ => ⟨by simp only [PyData.canLayAll0], by simp only [PyData.depthAll]; omega⟩
  | d :: ds, h => by
    have a := h d (by simp)
    have b := Sh.all (ds := ds) fun e he => h e (by simp [he])
    refine ⟨?_, ?_⟩
    · simp only [PyData.canLayAll0]
      rw [a.1, b.1]
      rfl
    · simp only [PyData.depthAll]
      have := a.2
      have := b.2
      omega
theorem Sh.tup {k : Nat} {ds : List PyData} (h : ∀ d ∈ ds, Sh k d) : Sh (k + 1) (.tuple ds) := by
  have q := Sh.all h
  exact ⟨by simp only [PyData.canLay0]; exact q.1, by simp only [PyData.depth]; omega⟩
theorem Sh.lst {k : Nat} {ds : List PyData} (h : ∀ d ∈ ds, Sh k d) : Sh (k + 1) (.list ds) := by
  have q := Sh.all h
  exact ⟨by simp only [PyData.canLay0]; exact q.1, by simp only [PyData.depth]; omega⟩
theorem Sh.shaped {k : Nat} {d : PyData} (h : Sh k d) (hk : k ≤ 64) : SeqAt.shaped d = true := by
  show (d.canLay0 && decide (d.depth ≤ 64)) = true
  rw [Bool.and_eq_true]
  exact ⟨h.1, decide_eq_true (by have := h.2; omega)⟩
mutual
theorem eqv_self : ∀ d : PyData, d.canLay0 = true → PyData.eqv d d = true
  | .none, _ => by simp [PyData.eqv]
  | .bool b, _ => by simp [PyData.eqv]
  | .int i, _ => by simp [PyData.eqv]
  | .str x, _ => by simp [PyData.eqv]
  | .list ds, h => by
    simp only [PyData.canLay0] at h
    simp only [PyData.eqv]
    exact eqvAll_self ds h
  | .tuple ds, h => by
    simp only [PyData.canLay0] at h
    simp only [PyData.eqv]
    exact eqvAll_self ds h
  | .dict _, h => by simp [PyData.canLay0] at h
theorem eqvAll_self : ∀ ds : List PyData, PyData.canLayAll0 ds = true → PyData.eqvAll ds ds = true
  | [], _ => by simp [PyData.eqvAll]
  | d :: ds, h => by
    simp only [PyData.canLayAll0, Bool.and_eq_true] at h
    simp only [PyData.eqvAll, Bool.and_eq_true]
    exact ⟨eqv_self d h.1, eqvAll_self ds h.2⟩
end
/-! ### bits of numbers that are not negative -/
section
variable {X : Cx}
theorem op_xorB : OpR X (binaryOp .BitXor) (fun x y H Q => ∃ n m : Nat, x = .int (n : Int) ∧ y = .int (m : Int) ∧ Q (vI (n ^^^ m)) H) := by
  intro pins s σ H x y v u Q I rx ry h
  obtain ⟨n, m, rfl, rfl, q⟩ := h
  refine op_xor pins s σ H _ _ v u Q I rx ry ⟨_, _, rfl, rfl, ?_⟩
  show Q (V.int (Builtin.bitXor (n : Int) (m : Int))) H
  rw [Bits.bitXor_pp (Int.natCast_nonneg _) (Int.natCast_nonneg _)]
  exact q
theorem op_andB : OpR X (binaryOp .BitAnd) (fun x y H Q => ∃ n m : Nat, x = .int (n : Int) ∧ y = .int (m : Int) ∧ Q (vI (n &&& m)) H) := by
  intro pins s σ H x y v u Q I rx ry h
  obtain ⟨n, m, rfl, rfl, q⟩ := h
  refine op_and pins s σ H _ _ v u Q I rx ry ⟨_, _, rfl, rfl, ?_⟩
  show Q (V.int (Builtin.bitAnd (n : Int) (m : Int))) H
  rw [bitAnd_pp (Int.natCast_nonneg _) (Int.natCast_nonneg _)]
  exact q
theorem op_orB : OpR X (binaryOp .BitOr) (fun x y H Q => ∃ n m : Nat, x = .int (n : Int) ∧ y = .int (m : Int) ∧ Q (vI (n ||| m)) H) := by
  intro pins s σ H x y v u Q I rx ry h
  obtain ⟨n, m, rfl, rfl, q⟩ := h
  refine op_or pins s σ H _ _ v u Q I rx ry ⟨_, _, rfl, rfl, ?_⟩
  show Q (V.int (Builtin.bitOr (n : Int) (m : Int))) H
  rw [Bits.bitOr_pp (Int.natCast_nonneg _) (Int.natCast_nonneg _)]
  exact q
end
/-! ### wide numbers that are not negative -/
theorem natAbs_cast (n : Nat) : ((n : Int)).natAbs = n := rfl
section
variable {X : Cx}
theorem op_fdivNW : OpR X (binaryOp .FloorDiv) (fun x y H Q => ∃ n m : Nat, x = .int (n : Int) ∧ y = .int (m : Int) ∧ (1 ≤ m ∧ m < 2 ^ 9000) ∧ Q (vI (n / m)) H) := by
  intro pins s σ H x y v u Q I rx ry h
  obtain ⟨n, m, rfl, rfl, ⟨h1, h2⟩, q⟩ := h
  exact op_fdivW pins s σ H _ _ v u Q I rx ry ⟨_, _, rfl, rfl, wide_div (b := 9000) (by omega) h2 (by omega) (by omega), q⟩
theorem op_mulNW : OpR X (binaryOp .Mult) (fun x y H Q => ∃ n m : Nat, x = .int (n : Int) ∧ y = .int (m : Int) ∧ (n < 2 ^ 100000 ∧ m < 2 ^ 100000) ∧ Q (vI (n * m)) H) := by
  intro pins s σ H x y v u Q I rx ry h
  obtain ⟨n, m, rfl, rfl, ⟨h1, h2⟩, q⟩ := h
  refine op_mulW pins s σ H _ _ v u Q I rx ry ⟨_, _, rfl, rfl, wide_mul (a := 100000) (b := 100000) h1 h2 (by omega) (by omega) (by omega), ?_⟩
  show Q (V.int ((n : Int) * (m : Int))) H
  rw [← Int.natCast_mul]
  exact q
theorem op_shlNN : OpR X (binaryOp .LShift) (fun x y H Q => ∃ n k : Nat, x = .int (n : Int) ∧ y = .int (k : Int) ∧ (n < 2 ^ 100000 ∧ k ≤ 100000) ∧ Q (vI (n * 2 ^ k)) H) := by
  intro pins s σ H x y v u Q I rx ry h
  obtain ⟨n, k, rfl, rfl, ⟨h1, h2⟩, q⟩ := h
  refine op_shlN pins s σ H _ _ v u Q I rx ry ⟨_, k, rfl, rfl, shl_ok (n := 100000) h1 (by omega), ?_⟩
  have e : ((n : Int) * 2 ^ k) = ((n * 2 ^ k : Nat) : Int) := by simp
  rw [e]
  exact q
theorem op_oneShlN : OpR X (binaryOp .LShift) (fun x y H Q => ∃ k : Nat, x = .int 1 ∧ y = .int (k : Int) ∧ k ≤ 134217727 ∧ Q (vI (2 ^ k)) H) := by
  intro pins s σ H x y v u Q I rx ry h
  obtain ⟨k, rfl, rfl, h1, q⟩ := h
  refine op_oneShl pins s σ H _ _ v u Q I rx ry ⟨k, rfl, rfl, h1, ?_⟩
  have e : ((2 : Int) ^ k) = ((2 ^ k : Nat) : Int) := by simp
  rw [e]
  exact q
end
/-! ### walks -/
theorem walk_enumG (S : Src) {K : PySem.W.Frag} {a : Addr} {xs : List V} : Walk (ItE S K a) xs.length (fun H => S.sq K H a xs) (YPair (fun i => some (.int (i : Nat))) (fun i => xs[i]?)) := by
  refine ⟨fun i _ hi q => ⟨xs, xs[i], q, by simp [hi]⟩, fun _ q => ⟨xs, q, rfl⟩, fun i H v H' _ q y => ?_⟩
  obtain ⟨T, x, h1, h2, h3, h4⟩ := y
  exact ⟨T, .int (i : Nat), x, h1, h2, h3, rfl, h4 xs q⟩
def rLenK (K : PySem.W.Frag) (xs : List V) (H : Hp) (Q : V → Hp → Prop) : Prop := ∃ p ys, xs = [.ref p] ∧ (SqL K H p ys ∨ SqT K H p ys) ∧ Q (.int ys.length) H
theorem call_lenK {X : Cx} : CallR X (.builtin "len") (rLenK X.K) := call_len_seq
/-! ### small facts -/
theorem refAt {ts : List Addr} {i : Nat} {x : V} (h : (ts.map V.ref)[i]? = some x) : ∃ t, ts[i]? = some t ∧ x = .ref t := by
  rw [List.getElem?_map] at h
  cases e : ts[i]? with
  | none => rw [e] at h; cases h
  | some k => rw [e] at h; exact ⟨k, rfl, (Option.some.inj h).symm⟩
theorem natAt {xs : List Nat} {i : Nat} {x : V} (h : (xs.map vI)[i]? = some x) : ∃ k, xs[i]? = some k ∧ x = vI k := by
  rw [List.getElem?_map] at h
  cases e : xs[i]? with
  | none => rw [e] at h; cases h
  | some k => rw [e] at h; exact ⟨k, rfl, (Option.some.inj h).symm⟩
theorem mapAt {α : Type} {f : α → V} {xs : List α} {i : Nat} {x : V} (h : (xs.map f)[i]? = some x) : ∃ k, xs[i]? = some k ∧ x = f k := by
  rw [List.getElem?_map] at h
  cases e : xs[i]? with
  | none => rw [e] at h; cases h
  | some k => rw [e] at h; exact ⟨k, rfl, (Option.some.inj h).symm⟩
theorem mapAtD {α : Type} {f : α → PyData} {xs : List α} {i : Nat} {x : PyData} (h : (xs.map f)[i]? = some x) : ∃ k, xs[i]? = some k ∧ x = f k := by
  rw [List.getElem?_map] at h
  cases e : xs[i]? with
  | none => rw [e] at h; cases h
  | some k => rw [e] at h; exact ⟨k, rfl, (Option.some.inj h).symm⟩
theorem take_snoc {α : Type} {l : List α} {i : Nat} {x : α} (h : l[i]? = some x) : l.take (i + 1) = l.take i ++ [x] := by
  rw [List.take_add_one, h]
  rfl
theorem same_two {H H' : Hp} {p : Addr} {o : HO} (k : Same H H') (hp : H p = none) : Same H (upd H' p o) := fun b u q => by
  rw [upd_ne (ne_of_none q hp)]
  exact k _ _ q
theorem i62 {n : Nat} (h : n ≤ 1000) : -(2 ^ 62) ≤ (n : Int) ∧ (n : Int) < 2 ^ 62 := by
  have a : (-(2 ^ 62) : Int) ≤ 0 := by decide
  have b : (1001 : Int) ≤ 2 ^ 62 := by decide
  exact ⟨Int.le_trans a (Int.natCast_nonneg _), Int.lt_of_lt_of_le (by omega) b⟩
theorem vInt {i : Int} {n : Nat} (h : i = (n : Int)) : V.int i = vI n := by rw [h]; rfl
theorem all_true : ∀ n : Nat, (List.replicate n true).all id = true
  | 0 => rfl
  | n + 1 => by
    rw [List.replicate_succ, List.all_cons, all_true n]
    rfl
theorem len1000 {n : Nat} (h : n ≤ 1000) : n < sizeLine := small1000 h
end Bf

set_option Elab.async false
set_option linter.all false
set_option maxRecDepth 100000
set_option maxHeartbeats 4000000
namespace Bf
open PySem PySem.Spec PyProof.Rows L2
/-! ### set(list of ints), so that it can be sorted: what set() has, member by member -/
theorem ints_at : ∀ {us : List Value} {xs : List Int}, IntsAre us xs → ∀ (i : Nat) (v : Value), us[i]? = some v → ∃ t, v = .int (xs.getD i 0) t
  | _, _, .nil, i, v, h => by simp at h
  | _, _, .cons n t hr, 0, v, h => by simp at h; exact ⟨t, by rw [← h] <;> rfl⟩
  | _, _, .cons n t hr, i + 1, v, h => by
    simp only [List.getElem?_cons_succ] at h
    obtain ⟨t', e⟩ := ints_at hr i v h
    exact ⟨t', by rw [e] <;> rfl⟩
section
variable {prog : Program} {w : World} {A : Around} {E : Value → Shared → Prop} {s : Shared}
theorem code_set_led1 (a : Value) {Q₁ : Value → Shared → Prop}
    (h : Q₁ (.ref s.heap.objs.size) { s with heap := s.heap.push { cls := .type "set", dict := none, data := .set #[] 0 (.fresh 0 0 (!w.params.followText "set-order")) } }) :
    codeAny (model prog w) A (.call (.builtin "set.__new__") ⟨[.type "set", a], []⟩) (wants Q₁ E) s := by
  refine codeAny_of_tree ?_
  show wpAny _ A.in1 (do checkBuiltinCall "set.__new__" ⟨[.type "set", a], []⟩; again (.builtin "set.__new__" ⟨[.type "set", a], []⟩)) _ _ s
  refine wpAny_bind (wpAny_of_eq (F.newCall_set_1 a) (wpAny_pure ⟨plainId_quiet F.plain_set_new _, codeAny_builtin F.entry_set_new ?_⟩))
  rw [Around.under_plainId F.plain_set_new _]
  unfold Builtin.«set.__new__» Builtin.Frozenset.newClass
  have hsub := sub_set_self
  obtain ⟨hp, g, d, tk, os⟩ := s
  dsimp only
  wp_walk
  refine wpAny_askSetting (wpAny_pure ?_)
  dsimp only
  simp only [newObj]
  refine wpAny_bind (wpAny_alloc (wpAny_pure ?_))
  exact wpAny_pure h
end
section
variable {prog : Program} {w : World} {A : Around} {R : Result → Shared → Prop} {I : Addr} {fp wr : List Addr} {G : Array GenState → Array GenState → Prop} {n : Nat} {P : Nat → Value → Prop} {St : Nat → Shared → Prop}
theorem loopInt (W : WalksS prog w A.in1 I fp wr G n P St) (S : Addr) (hSf : S ∉ fp) (xs : List Int) (hsz : xs.length = n) (hn : n ≤ 4000)
    (hval : ∀ i v, P i v → ∃ t, v = .int (xs.getD i 0) t) :
    ∀ (k i m : Nat) (s : Shared) (Sb : Int → Bool), n - i = k → i ≤ n → m ≤ i → St i s → SetR w s.heap S Sb m → (∀ x, Sb x = true ↔ x ∈ xs.take i) →
      (∀ s' Sb' m', Moved (S :: wr) G s s' → SetR w s'.heap S Sb' m' → m' ≤ n → (∀ x, Sb' x = true ↔ x ∈ xs) → R (.ok (.ret .none)) s') →
      codeAny (model prog w) A (.builtin "set.update.loop" ⟨[.ref S, .ref I], []⟩) R s := by
  have hSw : S ∉ wr := fun h => hSf (W.sub _ h)
  have hsub : ∀ b ∈ wr, b ∈ S :: wr := fun b hb => List.mem_cons_of_mem _ hb
  intro k
  induction k with
  | zero =>
    intro i m s Sb hk hi hm hst hS hSb hR
    have hin : i = n := by omega
    subst hin
    refine codeAny_builtin PyProof.Rows.F.entry_set_update_loop ?_
    rw [Around.under_plainId PyProof.Rows.F.plain_set_update_loop _]
    show wpAny _ A.in1 (pyNext (.ref I) >>= _) _ _ s
    refine wpAny_bind (W.done s _ _ hst fun s' hm' => ?_)
    show wpAny _ A.in1 (ret Value.none) _ _ s'
    refine wpAny_pure (hR s' Sb m (hm'.mono hsub) (hS.at fun o ho => hm'.heap S _ hSw ho) hm fun x => ?_)
    rw [hSb, List.take_of_length_le (by omega)]
  | succ k ih =>
    intro i m s Sb hk hi hm hst hS hSb hR
    have hlt : i < n := by omega
    refine codeAny_builtin PyProof.Rows.F.entry_set_update_loop ?_
    rw [Around.under_plainId PyProof.Rows.F.plain_set_update_loop _]
    show wpAny _ A.in1 (pyNext (.ref I) >>= _) _ _ s
    refine wpAny_bind (W.item i s _ _ hlt hst fun v s' hP hst' hm' => ?_)
    obtain ⟨t, rfl⟩ := hval i v hP
    have hS' : SetR w s'.heap S Sb m := hS.at fun o ho => hm'.heap S _ hSw ho
    show wpAny _ A.in1 (holding [Value.int (xs.getD i 0) t] (setAdd S (.int (xs.getD i 0) t)) >>= _) _ _ s'
    refine wpAny_bind (wpAny_holding ?_)
    unfold setAdd
    refine wpAny_holding ?_
    refine wpAny_bind ((intKind prog w).pyHash (k := xs.getD i 0) (intKind_is _ _ _ _) ?_)
    refine setR_add_hashed (P := prog) (s := { s' with toks := s'.toks + 1 }) hS' (by unfold scanBound; omega) fun h' hsb hS2 => ?_
    have hx : xs[i]? = some (xs.getD i 0) := by
      rw [List.getD_eq_getElem?_getD, List.getElem?_eq_getElem (by omega)]
      rfl
    refine wpAny_pure ⟨plainId_quiet PyProof.Rows.F.plain_set_update_loop _, ih (i + 1) _ _ _ (by omega) hlt (by split <;> omega) (W.frame _ s' _ _ hst' (Nat.le_succ _) fun b hb o e => ?_) hS2 (fun x => ?_) fun s'' Sb' m' hm'' hS'' => ?_⟩
    · rw [hsb.2 b (fun h : b = S => hSf (by rw [← h]; exact hb))]; exact e
    · rw [List.take_add_one, hx, Bool.or_eq_true, hSb, decide_eq_true_iff, List.mem_append]
      simp
    · refine hR s'' Sb' m' (Moved.trans W.gtrans ((hm'.mono hsub).then_heap (Nat.le_succ _) fun b o hb e => ?_) hm'') hS''
      rw [hsb.2 b (fun h : b = S => hb (by rw [h]; exact List.mem_cons_self))]; exact e
end
section
variable {prog : Program} {w : World} {A : Around} {E : Value → Shared → Prop} {s : Shared}
set_option maxHeartbeats 3200000 in
theorem call_set_listI {l : Addr} {items : Array Value} {xs : List Int} {Q : Value → Shared → Prop}
    (hh : A.handled = none) (hl : s.heap.IsList l items) (hi : IntsAre items.toList xs) (hn1 : xs.length ≤ 4000)
    (h : ∀ (h' : Heap) (tk : Nat) (Sb : Int → Bool) (m : Nat), SetR w h' s.heap.objs.size Sb m → m ≤ xs.length → (∀ x, Sb x = true ↔ x ∈ xs) →
      (∀ b o, b < s.heap.objs.size → s.heap.get? b = some o → h'.get? b = some o) → Q (.ref s.heap.objs.size) { s with heap := h', toks := tk }) :
    wpAny (model prog w) A (call (.type "set") [.ref l]) Q E s := by
  obtain ⟨c, tl, hmro⟩ := PySem.F.called_set.mro
  have hmade := PySem.F.called_set.made
  have hsub := PySem.F.called_set.sub
  refine wpAny_call (codeAny_of_tree ?_)
  show wpAny _ _ (callAny (.type "set") _) _ _ _
  refine wpAny_pure ⟨Code.quiet_builtin _ (by decide +kernel), codeAny_builtin PySem.F.entry_type_call ?_⟩
  rw [Around.under_plain (weight_type_call_type "set" [.ref l] []) rfl]
  have h1 := PySem.F.called_set.notType
  have h2 := PySem.F.called_set.canCreate
  have hct := PySem.F.typeCall_set_1 (.ref l)
  repeat (any_goals (first | assumption | wp_step))
  refine codeAny_mono (code_set_led1 (.ref l) (E := E) (Q₁ := fun obj s₁ => obj = .ref s.heap.objs.size ∧ s₁ = { s with heap := s.heap.push { cls := .type "set", dict := none, data := .set #[] 0 (.fresh 0 0 (!w.params.followText "set-order")) } }) ⟨rfl, rfl⟩) fun r s₁ hr => ?_
  cases r with
  | error e => exact hr
  | ok fl =>
    cases fl with
    | ret obj =>
      obtain ⟨rfl, rfl⟩ := hr
      have hF := setR_fresh (h := s.heap) w
      generalize (!w.params.followText "set-order") = led at hF ⊢
      have hS : (s.heap.push { cls := .type "set", dict := none, data := .set #[] 0 (.fresh 0 0 led) }).get? s.heap.objs.size = some { cls := .type "set", dict := none, data := .set #[] 0 (.fresh 0 0 led) } := Heap.get?_push_size _ rfl
      have hT : Shared.TypeIs { s with heap := s.heap.push { cls := .type "set", dict := none, data := .set #[] 0 (.fresh 0 0 led) } } (.ref s.heap.objs.size) "set" := ⟨_, hS, rfl⟩
      have hli := PySem.F.called_set.init.lookup
      have hbi := PySem.F.called_set.init.bind (.ref s.heap.objs.size)
      repeat (any_goals (first | assumption | wp_step))
      refine codeAny_mono (codeAny_call_builtin (R := wants (fun r s₂ => r = .none ∧ ∃ h' tk Sb m, s₂ = { s with heap := h', toks := tk } ∧
          SetR w h' s.heap.objs.size Sb m ∧ m ≤ xs.length ∧ (∀ x, Sb x = true ↔ x ∈ xs) ∧
          (∀ b o, b < s.heap.objs.size → s.heap.get? b = some o → h'.get? b = some o)) E) PySem.F.called_set.init.plain PySem.F.entry_set_init (check_set_init_1 hT ?_)) fun r₂ s₂ hr₂ => ?_
      · obtain ⟨ol, hol, hcl, nl, hdl⟩ := hl
        obtain ⟨ocls, odict, odata, oslots⟩ := ol
        simp only at hcl hdl
        subst hcl; subst hdl
        have hol' : (s.heap.push { cls := .type "set", dict := none, data := .set #[] 0 (.fresh 0 0 led) }).get? l = some { cls := .type "list", dict := odict, data := .seq items nl, slots := oslots } := Heap.get?_push_of_some _ hol
        have hsls := PySem.F.sub_list_set
        have hslf := PySem.F.sub_list_frozenset
        have hne : (Value.type "list" == Value.type "dict") = false := by decide
        have hl1 : (s.heap.push { cls := .type "set", dict := none, data := .set #[] 0 (.fresh 0 0 led) }).IsList l items := ⟨_, hol', rfl, nl, rfl⟩
        unfold Builtin.«set.__init__» noKeywords Builtin.Frozenset.updateFrom
        generalize hPI : pyIter = PI
        wp_walk
        subst hPI
        refine wpAny_pyIter_list hl1 ?_
        refine wpAny_bind (wpAny_runValue ?_)
        have hlS : l < s.heap.objs.size := Heap.lt_size hol
        have hh3 : A.in1.in1.in1.handled = none := by simp [hh]
        have hneI : l ≠ (s.heap.push { cls := .type "set", dict := none, data := .set #[] 0 (.fresh 0 0 led) }).objs.size := by
          rw [Heap.size_push]; exact Nat.ne_of_lt (Nat.lt_succ_of_lt hlS)
        have hSf : s.heap.objs.size ∉ [(s.heap.push { cls := .type "set", dict := none, data := .set #[] 0 (.fresh 0 0 led) }).objs.size, l] := by
          rw [Heap.size_push]; simp only [List.mem_cons, List.mem_singleton, List.not_mem_nil, or_false, not_or]
          exact ⟨Nat.ne_of_lt (Nat.lt_succ_self _), Nat.ne_of_gt hlS⟩
        have hsz : xs.length = items.size := by rw [← IntsAre.length hi, Array.length_toList]
        have hval : ∀ (i : Nat) (v : Value), items[i]? = some v → ∃ t, v = .int (xs.getD i 0) t := fun i v hv => ints_at hi i v (by rw [Array.getElem?_toList]; exact hv)
        refine loopInt ((Walks.list hh3 _ l hneI items).toS) s.heap.objs.size
          hSf xs hsz (by rw [← hsz]; exact hn1) hval (items.size - 0) 0 0 _ (fun _ => false) (by omega) (Nat.zero_le _) (Nat.le_refl _)
          ⟨⟨_, Heap.get?_push_size _ rfl, rfl, rfl⟩, (hl1.push _)⟩ (hF.at fun o ho => Heap.get?_push_of_some _ ho) (fun x => by simp) ?hR
        case hR =>
          intro s' Sb' m' hm hS' hm' hSb'
          obtain ⟨h', g', d', tk', os'⟩ := s'
          have eg : g' = s.gens := hm.gens
          have ed : d' = s.drawn := hm.drawn
          have eo : os' = s.os := hm.os
          subst eg; subst ed; subst eo
          show wpAny _ _ _ _ _ _
          refine wpAny_pure ?_
          show wpAny _ _ (ret Value.none) _ _ _
          refine wpAny_pure ⟨rfl, h', tk', Sb', m', rfl, hS', by omega, hSb', fun b o hb e => ?_⟩
          have hb1 : b ≠ s.heap.objs.size := Nat.ne_of_lt hb
          have hb2 : b ≠ (s.heap.push { cls := .type "set", dict := none, data := .set #[] 0 (.fresh 0 0 led) }).objs.size := by
            rw [Heap.size_push]; exact Nat.ne_of_lt (Nat.lt_succ_of_lt hb)
          exact hm.heap b o (by simp only [List.mem_cons, List.mem_singleton, List.not_mem_nil, or_false, not_or]; exact ⟨hb1, hb2⟩) (Heap.get?_push_of_some _ (Heap.get?_push_of_some _ e))
      · cases r₂ with
        | error e => exact hr₂
        | ok fl₂ =>
          cases fl₂ with
          | ret r =>
            obtain ⟨rfl, h', tk, Sb, m, rfl, hS', hm', hSb', hk'⟩ := hr₂
            repeat (any_goals (first | assumption | wp_step))
            exact h _ _ _ _ hS' hm' hSb' hk'
          | _ => exact hr₂.elim
    | _ => exact hr.elim
end
/-- set(xs), xs a list of ints -/
def rSetI (K : PySem.W.Frag) (w : World) : List V → Hp → VK → Prop := fun vs H Q => ∃ (l : Addr) (xs : List Int), vs = [.ref l] ∧ SqL K H l (xs.map V.int) ∧ xs.length ≤ 4000 ∧
  ∀ (p : Addr) (Sb : Int → Bool) (m : Nat), H p = none → m ≤ xs.length → (∀ x, Sb x = true ↔ x ∈ xs) → Q (.ref p) (upd H p (SetO w p Sb m))
section
variable {X : Cx}
theorem cr_setI (hc : X.calm = true) : CallR X (.type "set") (rSetI X.K X.w) := by
  intro pins s σ H vs us Q I r h
  obtain ⟨l, xs, rfl, hq, hz, q⟩ := h
  rw [Vals.ref1 r]
  obtain ⟨its, rv, pl, _⟩ := I.list hq
  refine call_set_listI (I.ok.hd hc) pl.isList (by simpa using L2.intsAre_of rv) hz fun h' tk Sb m R hm hS k => ?_
  exact ⟨.ref _, upd H s.heap.objs.size (SetO X.w s.heap.objs.size Sb m), I.laid (t' := tk) (fun b u e => k b u (Heap.lt_size e) e) (Nat.le_refl _) (setO_new R), rfl, q _ _ _ (I.hok.fresh (Nat.le_refl _)) hm hS⟩
end
end Bf

set_option Elab.async false
set_option linter.all false
set_option maxRecDepth 100000
set_option maxHeartbeats 4000000
namespace Bf
open PySem PySem.Spec PyProof.Rows L2 PySem.W
/-! ### max and min of a list of ints, with default= -/
def maxOr (d : Int) : List Int → Int
  | [] => d
  | n :: ns => ns.foldl max n
def minOr (d : Int) : List Int → Int
  | [] => d
  | n :: ns => ns.foldl min n
theorem alikeInts (ns : List Int) : AlikeAll (ns.map PyData.int) := by
  refine ⟨fun x hx y hy => ?_, fun x hx e => ?_⟩
  · obtain ⟨a, _, rfl⟩ := List.mem_map.mp hx
    obtain ⟨b, _, rfl⟩ := List.mem_map.mp hy
    rfl
  · obtain ⟨a, _, rfl⟩ := List.mem_map.mp hx
    cases e
theorem depthInts : ∀ ns : List Int, PyData.depthAll (ns.map PyData.int) ≤ 1
  | [] => by
    rw [List.map_nil]
    simp only [PyData.depthAll]
    omega
  | n :: ns => by
    have := depthInts ns
    rw [List.map_cons]
    simp only [PyData.depthAll, PyData.depth]
    omega
theorem dpInts {K : PySem.W.Frag} {H : Hp} : ∀ ns : List Int, DpAll K H (ns.map V.int) (ns.map PyData.int)
  | [] => .nil
  | n :: ns => .cons (.int n) (dpInts ns)
def rMaxD (K : PySem.W.Frag) : List V → List V → Hp → VK → Prop := fun vs zs H Q => ∃ (l : Addr) (ns : List Int) (d : Int), vs = [.ref l] ∧ zs = [.int d] ∧ SqL K H l (ns.map V.int) ∧ Q (.int (maxOr d ns)) H
def rMinD (K : PySem.W.Frag) : List V → List V → Hp → VK → Prop := fun vs zs H Q => ∃ (l : Addr) (ns : List Int) (d : Int), vs = [.ref l] ∧ zs = [.int d] ∧ SqL K H l (ns.map V.int) ∧ Q (.int (minOr d ns)) H
theorem reads_int {h : Heap} {v : Value} {n : Int} {bs : List Addr} (r : Reads h v (.int n) bs) : ∃ t, v = .int n t := by
  cases r
  exact ⟨_, rfl⟩
section
variable {X : Cx}
theorem cr_maxDef (hc : X.calm = true) (hu : X.A.units + 64 < cLine) : CallRK X (.builtin "max") [Str.ofString "default"] (rMaxD X.K) := by
  intro pins s σ H vs zs us ws Q I r rz h
  obtain ⟨l, ns, d, rfl, rfl, hs, q⟩ := h
  obtain rfl := Vals.ref1 r
  obtain ⟨w1, rfl, e1⟩ := vals1 rz
  obtain ⟨tk, rfl⟩ := e1
  obtain ⟨its, rv, pl, _⟩ := I.list hs
  obtain ⟨as, hr⟩ := Dp.readsAll I (ns.map PyData.int) _ _ (dpInts ns) rv
  refine max_list_default (I.ok.hd hc) pl.isList hr (alikeInts ns) (by have := depthInts ns; omega) (fun h0 h' t' k => ?_) fun y ys i v h' t' bs e hv rd k => ?_
  · have : ns = [] := by simpa using h0
    subst this
    exact ⟨.int d, H, I.kept k, ⟨tk, rfl⟩, q⟩
  · obtain ⟨n, ms, rfl⟩ : ∃ n ms, ns = n :: ms := by
      cases ns with
      | nil => cases e
      | cons n ms => exact ⟨n, ms, rfl⟩
    cases e
    rw [maxD_ints] at rd
    obtain ⟨t, rfl⟩ := reads_int rd
    exact ⟨.int (ms.foldl max n), H, I.kept k, ⟨t, rfl⟩, q⟩
theorem cr_minDef (hc : X.calm = true) (hu : X.A.units + 64 < cLine) : CallRK X (.builtin "min") [Str.ofString "default"] (rMinD X.K) := by
  intro pins s σ H vs zs us ws Q I r rz h
  obtain ⟨l, ns, d, rfl, rfl, hs, q⟩ := h
  obtain rfl := Vals.ref1 r
  obtain ⟨w1, rfl, e1⟩ := vals1 rz
  obtain ⟨tk, rfl⟩ := e1
  obtain ⟨its, rv, pl, _⟩ := I.list hs
  obtain ⟨as, hr⟩ := Dp.readsAll I (ns.map PyData.int) _ _ (dpInts ns) rv
  refine min_list_default (I.ok.hd hc) pl.isList hr (alikeInts ns) (by have := depthInts ns; omega) (fun h0 h' t' k => ?_) fun y ys i v h' t' bs e hv rd k => ?_
  · have : ns = [] := by simpa using h0
    subst this
    exact ⟨.int d, H, I.kept k, ⟨tk, rfl⟩, q⟩
  · obtain ⟨n, ms, rfl⟩ : ∃ n ms, ns = n :: ms := by
      cases ns with
      | nil => cases e
      | cons n ms => exact ⟨n, ms, rfl⟩
    cases e
    rw [minD_ints] at rd
    obtain ⟨t, rfl⟩ := reads_int rd
    exact ⟨.int (ms.foldl min n), H, I.kept k, ⟨t, rfl⟩, q⟩
end
end Bf

set_option Elab.async false
set_option linter.all false
set_option maxRecDepth 100000
set_option maxHeartbeats 4000000
namespace Bf
open PySem PySem.Spec PyProof.Rows L2
/-! ### list(d.values()) -/
def rListVals : V → Hp → VK → Prop := fun x H Q => ∃ (d : Addr) (kvs : List (Key × V)), x = .ref d ∧ H d = some (.dK kvs) ∧ ∀ p, H p = none → Q (.ref p) (upd H p (.lst (kvs.map Prod.snd)))
def tListVals (te : TE) : TE := fun σ H Q => te σ H fun x H1 => rListVals x H1 Q
theorem kv_vals {kvs : List (Key × V)} {vs : List (Key × Value)} (h : KV kvs vs) : ∀ (j : Nat) (x : V) (k : Key) (u : Value), (kvs.map Prod.snd)[j]? = some x → vs[j]? = some (k, u) → RelV x u := by
  induction h with
  | nil => intro j x k u h1 h2; simp at h1
  | cons r t ih =>
    intro j x k u h1 h2
    cases j with
    | zero =>
      simp at h1 h2
      rw [← h1]
      have := r.2
      rw [h2] at this
      exact this
    | succ j => exact ih j x k u (by simpa using h1) (by simpa using h2)
section
variable {X : Cx} {e : Expr} {te : TE} {p apos cpos pos : Pos}
theorem pe_listVals (hc : X.calm = true) (he : PE X e te) (hg : Gl X "list") (hm : X.mg "list" = none) (hv : bootBuiltins "list" = some (.type "list")) (hbase : attributeBase e "values" X.env (eval e X.env) = eval e X.env := by rfl) (hline : (apos.endLine == cpos.line) = true := by rfl)
    (hs : starEach [.Call (.Attribute e "values" apos) [] [] cpos] X.env = (false, eval (.Call (.Attribute e "values" apos) [] [] cpos) X.env) :: starEach [] X.env := by rfl) :
    PE X (.Call (.Name "list" p) [.Call (.Attribute e "values" apos) [] [] cpos] [] pos) (tListVals te) := by
  refine ⟨fun pins s σ H Q I hq => ?_⟩
  refine wpAny_Call_Name_kw (ld_blt I hg hm hv ?_)
  refine PyProof.Rows.callWith_type1 ?_ hs rfl
  rw [hs]
  show wpAny _ _ (spliced ((false, eval (.Call (.Attribute e "values" apos) [] [] cpos) X.env) :: backTo pos (starEach [] X.env))) _ _ s
  refine Calls.spliced_cons ?_
  refine wpAny_Call_method (T := "dict") (id := "dict.values") hbase rfl hline F.plainAttrs_dict F.slot_dict_values F.type_dict_values (thn (he.run pins s σ H _ I hq) fun u s1 ⟨x, H1, I1, rx, d, kvs, ex, hd, q⟩ => ?_)
  subst ex
  obtain rfl : u = Value.ref d := rx
  obtain ⟨hz, hs0, vs, kv, hdo⟩ := I1.hok d _ hd
  obtain ⟨ep, hat⟩ := hdo.dictAt
  have lk : kvs.length = vs.length := Paired.length kv
  have I2 : Inv X pins σ H1 { s1 with heap := s1.heap.push { cls := .type "dict_values", data := .fields #[.ref d] } } := I1.kept (t' := s1.toks) fun b ob q => Heap.get?_push_of_some _ q
  refine ⟨hdo.typeIs, hdo.mapOf.noDict, ?_⟩
  show wpAny _ _ (callWith cpos (.builtin "dict.values") [.ref d] [] []) _ X.xe s1
  refine method_meetsIn F.slot_dict_values F.entry_dict_values rfl (PySem.evalArgs_none ⟨rfl, hdo.typeIs, F.args_dict_values_1 _, _, meets_dict_values (mixKind X.prog X.w) d hs0, ⟨vs, hdo⟩, ?_⟩)
  refine Calls.spliced_nil ?_
  refine PySem.W.kdl_call (PySem.W.kdl_values (knd := mixKind X.prog X.w) (r := s1.heap.objs.size) (d := d) (kvs := vs) (ep := ep)) (I1.ok.hd hc) ⟨⟨_, Heap.get?_push_size _ rfl, rfl, rfl⟩, hat.push _⟩ (by rw [← lk]; exact hz) fun h' tk acc c hk hS hacc => ?_
  refine ⟨.ref _, upd H1 _ (.lst (kvs.map Prod.snd)), I2.laid hk (Nat.le_refl _) (show ObjOk X.prog X.w _ _ _ (.lst (kvs.map Prod.snd)) from ⟨?_, acc.toList, c, ?_, ?_⟩), rfl, q _ (I2.hok.fresh (Nat.le_refl _))⟩
  · rw [List.length_map]; exact hz
  · have el : acc.toList.length = acc.size := by simp
    refine vals_of_at (by rw [List.length_map, el, hacc.1, lk]) fun j x w h1 h2 => ?_
    obtain ⟨k, hky⟩ := hacc.2 j w (by rw [← Array.getElem?_toList]; exact h2)
    exact kv_vals kv j x k w h1 hky
  · rw [Array.toArray_toList]; exact hS
end
end Bf

set_option Elab.async false
set_option linter.all false
set_option maxRecDepth 100000
set_option maxHeartbeats 4000000
namespace Bf
open PySem PySem.Spec PyProof.Rows L2
/-! ### ints in sequences; slices of tuples -/
theorem eqV_int (a b : Nat) : eqV (vI a) (vI b) = decide (a = b) := by
  show (((a : Int)) == (b : Int)) = _
  by_cases h : a = b
  · subst h; simp
  · rw [decide_eq_false h]
    simp
    omega
theorem inV_int (x : Nat) (xs : List Nat) : inV (vI x) (xs.map vI) = decide (x ∈ xs) := by
  induction xs with
  | nil => rfl
  | cons a r ih =>
    show (eqV (vI a) (vI x) || inV (vI x) (r.map vI)) = decide (x ∈ a :: r)
    rw [ih, eqV_int]
    by_cases h : a = x
    · subst h; simp
    · by_cases h2 : x ∈ r
      · simp [h2]
      · have : x ≠ a := fun e => h e.symm
        simp [h, h2, this]
theorem flat_ints : ∀ xs : List Nat, (xs.map vI).all flatV = true
  | [] => rfl
  | a :: r => by
    rw [List.map_cons, List.all_cons, flat_ints r]
    rfl
theorem rdIndex {xs : List Nat} {f j : Nat} (hj : xs[j]? = some f) (hn : ∀ m, m < j → xs[m]? ≠ some f) :
    ∃ z : V, (xs.map vI)[j]? = some z ∧ eqV z (vI f) = true ∧ ∀ (m : Nat) (z' : V), m < j → (xs.map vI)[m]? = some z' → eqV z' (vI f) = false := by
  refine ⟨vI f, by rw [List.getElem?_map, hj]; rfl, by rw [eqV_int]; simp, fun m z' hm hz => ?_⟩
  obtain ⟨k, hk, rfl⟩ := natAt hz
  rw [eqV_int]
  exact decide_eq_false fun e => hn m hm (by rw [hk, e])
theorem cut_map {xs : List Nat} {lo hi : Option Int} {i j : Nat} (h1 : HT.sIx xs.length 0 lo = i) (h2 : HT.sIx xs.length xs.length hi = j) : cutV (xs.map vI) lo hi = ((xs.drop i).take (j - i)).map vI := by
  unfold cutV
  rw [List.length_map, h1, h2, ← List.map_drop, ← List.map_take]
theorem rdCut {K : PySem.W.Frag} {H : Hp} {b : Addr} {xs : List Nat} {lo hi : Option Int} {i j : Nat} {Q : VK} (hb : SqT K H b (xs.map vI)) (h1 : HT.sIx xs.length 0 lo = i) (h2 : HT.sIx xs.length xs.length hi = j)
    (k : ∀ (t : Addr) (H' : Hp), Same H H' → SqT K H' t (((xs.drop i).take (j - i)).map vI) → Q (.ref t) H') : rSlA K (.ref b) lo hi H Q := by
  refine ⟨b, xs.map vI, rfl, hb, fun hw => ?_, fun hw p hp => ?_⟩
  · rw [List.length_map, h1, h2] at hw
    obtain ⟨w1, w2⟩ := hw
    subst w1 w2
    refine k b H (Same.refl _) ?_
    rw [List.drop_zero, Nat.sub_zero, List.take_length]
    exact hb
  · refine k p _ (fun b u q => by rw [upd_ne (ne_of_none q hp)]; exact q) ?_
    rw [← cut_map h1 h2]
    exact SqT.of upd_same
theorem sIx_neg {n d k : Nat} (h : 1 ≤ k) : HT.sIx n d (some (-(k : Int))) = n - k := by
  show (if (-(k : Int)) < 0 then ((-(k : Int)) + (n : Int)).toNat else min (-(k : Int)).toNat n) = n - k
  rw [if_pos (by omega)]
  omega
theorem qI {Q : VK} {H : Hp} {i : Int} {n : Nat} (h : i = (n : Int)) (q : Q (vI n) H) : Q (V.int i) H := by
  rw [h]
  exact q
end Bf

set_option Elab.async false
set_option linter.all false
set_option maxRecDepth 100000
set_option maxHeartbeats 4000000
namespace Bf
open PySem PySem.Spec PyProof.Rows L2
/-! ### d.get(k, x), d a dict of the module with text keys -/
def tKGet2 (K : PySem.W.Frag) (d : Addr) (td ty tx : TE) : TE := fun σ H Q => td σ H fun x H1 => x = .ref d ∧ ty σ H1 fun y H2 => tx σ H2 fun z H3 => ∃ (k : Str) (r : Option Value) (v : V), y = .str k ∧ PySem.W.nsIn K d k = some r ∧ (∀ u, r = some u → RelV v u) ∧ (r = none → v = z) ∧ Q v H3
theorem pe_kget2 {X : Cx} {d : Addr} {es : Array DictEntry} {n : Nat} {o e f : Expr} {apos cpos : Pos} {td ty tx : TE} (D : KDict X.K X.w d es n) (ho : PE X o td) (he : PE X e ty) (hf : PE X f tx) (m : M2 X o "get" apos e f cpos) :
    PE X (.Call (.Attribute o "get" apos) [e, f] [] cpos) (tKGet2 X.K d td ty tx) := by
  refine ⟨fun pins s σ H Q I h => ?_⟩
  refine wpAny_Call_method m.base m.few m.line PySem.F.plainAttrs_dict PySem.F.slot_dict_get PySem.F.type_dict_get (thn (ho.run pins s σ H _ I h) fun u s1 ⟨x, H1, I1, rx, ex, q1⟩ => ?_)
  subst ex
  obtain rfl : u = Value.ref d := rx
  have hm := PySem.W.mapOf_K (prog := X.prog) (w := X.w) I1.kIn D.at_ D.lit
  refine ⟨hm.typeIs, hm.noDict, ?_⟩
  rw [m.trees]
  refine Calls.callWith_builtin rfl (Calls.evalArgs_plain (Calls.spliced_cons (thn (he.run pins s1 σ H1 _ I1 q1) fun iv s2 ⟨y, H2, I2, ry, q2⟩ =>
    Calls.spliced_cons (thn (hf.run pins s2 σ H2 _ I2 q2) fun fv s3 ⟨z, H3, I3, rz, k, r, v, ey, ek, e1, e2, q3⟩ => Calls.spliced_nil ?_))))
  subst ey
  obtain ⟨t, rfl⟩ := ry
  have hm3 := PySem.W.mapOf_K (prog := X.prog) (w := X.w) I3.kIn D.at_ D.lit
  refine call_meetsIn PySem.F.slot_dict_get hm3.typeIs PySem.F.entry_dict_get (PySem.F.args_dict_get_3 _ _ _) (meets_dict_get_default (strKind X.prog X.w) d (PySem.strKind_is X.prog X.w k t) D.low fv) ⟨_, hm3, ?_⟩
  rw [PySem.W.find_K D.at_ ek]
  refine ⟨v, H3, I3.tok _, ?_, q3⟩
  cases r with
  | none =>
    rw [e2 rfl]
    exact rz
  | some u => exact e1 u rfl
/-! ### a < b < c < d as a test -/
def tChain3 (r r' r'' : R2) (ta tb tc td : TE) : TT := fun σ H Q => ta σ H fun x H1 => tb σ H1 fun y H2 => r x y H2 fun z H3 => ∃ k, z = .bl k ∧
  if k = true then (tc σ H3 fun w H4 => r' y w H4 fun z' H5 => ∃ k', z' = .bl k' ∧ if k' = true then (td σ H5 fun u H6 => r'' w u H6 fun z'' H7 => ∃ k'', z'' = .bl k'' ∧ Q k'' H7) else Q false H5) else Q false H3
theorem pt_chain3 {X : Cx} {op op' op'' : CmpOp} {r r' r'' : R2} {a b c d : Expr} {pos : Pos} {ta tb tc td : TE} (ho : OpR X (compareOp op) r) (ho' : OpR X (compareOp op') r') (ho'' : OpR X (compareOp op'') r'') (ha : PE X a ta) (hb : PE X b tb) (hc : PE X c tc) (hd : PE X d td)
    (hm : lastMarks [op, op', op''] [b, c, d] = false := by with_unfolding_all rfl) : PT X (.Compare a [op, op', op''] [b, c, d] pos) (tChain3 r r' r'' ta tb tc td) := by
  refine ⟨fun pins s σ H Q I h => ?_⟩
  refine isTrue_chain (thn (ha.run pins s σ H _ I h) fun v s1 ⟨x, H1, I1, r1, q1⟩ => test_link (thn (hb.run pins s1 σ H1 _ I1 q1) fun u s2 ⟨y, H2, I2, r2, q2⟩ =>
    thn (ho pins s2 σ H2 x y v u _ I2 r1 r2 q2) fun d s3 ⟨z, H3, I3, r3, k, e, q3⟩ => ?_)) hm
  subst e
  cases r3
  refine wpAny_truthy_bool ?_
  cases k with
  | false => exact ite_ff ⟨H3, I3, q3⟩
  | true =>
    refine ite_tt (test_link (thn (hc.run pins s3 σ H3 _ I3 q3) fun w s4 ⟨z', H4, I4, r4, q4⟩ => thn (ho' pins s4 σ H4 y z' u w _ I4 r2 r4 q4) fun d' s5 ⟨z2, H5, I5, r5, k', e', q5⟩ => ?_))
    subst e'
    cases r5
    refine wpAny_truthy_bool ?_
    cases k' with
    | false => exact ite_ff ⟨H5, I5, q5⟩
    | true =>
      refine ite_tt (test_last (thn (hd.run pins s5 σ H5 _ I5 q5) fun w2 s6 ⟨z3, H6, I6, r6, q6⟩ => thn (ho'' pins s6 σ H6 z' z3 w w2 _ I6 r4 r6 q6) fun d2 s7 ⟨z4, H7, I7, r7, k2, e2, q7⟩ => ?_))
      subst e2
      cases r7
      exact wpAny_truthy_bool ⟨H7, I7, q7⟩
end Bf

set_option Elab.async false
set_option linter.all false
set_option maxRecDepth 100000
set_option maxHeartbeats 4000000
namespace Bf
open PySem
/-! ### nets of bits -/
structure Net where
  ins : List Str
  regs : List (Str × Nat × Nat)
  ands : List (Nat × Nat)
  outs : List (Str × Nat)
  cls : List (Str × Nat)
def Net.many (N : Net) : Nat := N.ins.length + N.regs.length
def Net.first (N : Net) : Nat := 1 + N.ins.length + N.regs.length
def Net.size (N : Net) : Nat := N.first + N.ands.length
theorem Net.first_eq (N : Net) : N.first = 1 + N.many := by
  unfold Net.first Net.many
  omega
structure Net.Right (N : Net) : Prop where
  regs : ∀ r ∈ N.regs, r.2.1 < 2 ∧ r.2.2 < 2 * N.size
  ands : ∀ (i : Nat) (p : Nat × Nat), N.ands[i]? = some p → p.1 < 2 * (N.first + i) ∧ p.2 < 2 * (N.first + i)
  outs : ∀ o ∈ N.outs, o.2 < 2 * N.size
  cls : ∀ o ∈ N.cls, o.2 < 2 * N.size
/-! ### masks: all bits of a node at once -/
def whole (m : Nat) : Nat := 2 ^ (2 ^ m) - 1
def maskN (ms : List Nat) (w l : Nat) : Nat := if l % 2 = 1 then ms.getD (l / 2) 0 ^^^ w else ms.getD (l / 2) 0
def patN (m j : Nat) : Nat := whole m / (2 ^ (2 * 2 ^ j) - 1) * ((2 ^ (2 ^ j) - 1) * 2 ^ (2 ^ j))
def patsN (m k : Nat) : List Nat := (List.range k).map (patN m)
def mstep (w : Nat) (ms : List Nat) (p : Nat × Nat) : List Nat := ms ++ [maskN ms w p.1 &&& maskN ms w p.2]
def Net.base (N : Net) : List Nat := 0 :: patsN N.many N.many
def Net.masksTo (N : Net) (i : Nat) : List Nat := (N.ands.take i).foldl (mstep (whole N.many)) N.base
def Net.masks (N : Net) : List Nat := N.masksTo N.ands.length
/-! ### the clauses -/
def andC (n : Nat) (p : Nat × Nat) : List (List Nat) := [[2 * n + 1, p.1], [2 * n + 1, p.2], [2 * n, p.1 ^^^ 1, p.2 ^^^ 1]]
def Net.clausesTo (N : Net) (i : Nat) : List (List Nat) := [1] :: ((List.range i).map fun k => andC (N.first + k) (N.ands.getD k (0, 0))).flatten
def Net.clauses (N : Net) : List (List Nat) := N.clausesTo N.ands.length
def orN (ms : List Nat) (w : Nat) (c : List Nat) : Nat := c.foldl (fun a l => a ||| maskN ms w l) 0
def allN (ms : List Nat) (w : Nat) (cs : List (List Nat)) : Nat := cs.foldl (fun a c => a &&& orN ms w c) w
theorem clausesTo_succ (N : Net) (i : Nat) : N.clausesTo (i + 1) = N.clausesTo i ++ andC (N.first + i) (N.ands.getD i (0, 0)) := by
  unfold Net.clausesTo
  rw [List.range_succ, List.map_append, List.flatten_append]
  simp
theorem masksTo_succ (N : Net) {i : Nat} {p : Nat × Nat} (h : N.ands[i]? = some p) : N.masksTo (i + 1) = N.masksTo i ++ [maskN (N.masksTo i) (whole N.many) p.1 &&& maskN (N.masksTo i) (whole N.many) p.2] := by
  unfold Net.masksTo
  rw [List.take_add_one, h, List.foldl_append]
  rfl
theorem patsN_succ (m k : Nat) : patsN m (k + 1) = patsN m k ++ [patN m k] := by
  unfold patsN
  rw [List.range_succ, List.map_append]
  rfl
theorem patsN_len (m k : Nat) : (patsN m k).length = k := by simp [patsN]
theorem base_len (N : Net) : N.base.length = N.first := by
  unfold Net.base
  rw [List.length_cons, patsN_len, Net.first_eq]
  omega
theorem masksTo_len (N : Net) : ∀ i : Nat, i ≤ N.ands.length → (N.masksTo i).length = N.first + i
  | 0, _ => by
    unfold Net.masksTo
    rw [List.take_zero, List.foldl_nil, base_len]
    rfl
  | i + 1, h => by
    have hi : i < N.ands.length := h
    rw [masksTo_succ N (List.getElem?_eq_getElem hi), List.length_append, masksTo_len N i (by omega)]
    rfl
theorem masksTo_get (N : Net) {n : Nat} : ∀ (i j : Nat), i ≤ j → j ≤ N.ands.length → n < N.first + i → (N.masksTo j)[n]? = (N.masksTo i)[n]? := by
  intro i j hij
  induction hij with
  | refl => intro _ _; rfl
  | @step j h ih =>
    intro hj hn
    have hj' : j < N.ands.length := hj
    have h2 : i ≤ j := h
    rw [masksTo_succ N (List.getElem?_eq_getElem hj'), List.getElem?_append_left (by rw [masksTo_len N j (by omega)]; omega)]
    exact ih (by omega) hn
/-! ### bit by bit -/
theorem whole_bit (m b : Nat) : (whole m).testBit b = decide (b < 2 ^ m) := by
  unfold whole
  exact Nat.testBit_two_pow_sub_one _ _
theorem pat_le (m j : Nat) : patN m j ≤ whole m := by
  unfold patN
  have h1 : (2 ^ (2 ^ j) - 1) * 2 ^ (2 ^ j) ≤ 2 ^ (2 * 2 ^ j) - 1 := by
    rw [Nat.sub_mul, Nat.one_mul, ← Nat.pow_add, show 2 ^ j + 2 ^ j = 2 * 2 ^ j by omega]
    have : 1 ≤ 2 ^ (2 ^ j) := Nat.pow_pos (by decide)
    omega
  exact Nat.le_trans (Nat.mul_le_mul_left _ h1) (Nat.div_mul_le_self _ _)
theorem whole_lt (m : Nat) : whole m < 2 ^ (2 ^ m) := Nat.sub_lt (Nat.pow_pos (by decide)) (by decide)
theorem lt_bit {x W b : Nat} (h : x < 2 ^ W) (hb : ¬ b < W) : x.testBit b = false := Nat.testBit_lt_two_pow (Nat.lt_of_lt_of_le h (Nat.pow_le_pow_right (by decide) (by omega)))
theorem getD_eq {l : List Nat} {n x : Nat} (h : l[n]? = some x) : l.getD n 0 = x := by rw [List.getD_eq_getElem?_getD, h]; rfl
/-- the bit b of a literal -/
def litB (ms : List Nat) (b l : Nat) : Bool := ((ms.getD (l / 2) 0).testBit b) ^^ decide (l % 2 = 1)
def Low (m : Nat) (ms : List Nat) : Prop := ∀ x ∈ ms, x < 2 ^ (2 ^ m)
theorem Low.getD {m : Nat} {ms : List Nat} (h : Low m ms) (n : Nat) : ms.getD n 0 < 2 ^ (2 ^ m) := by
  rw [List.getD_eq_getElem?_getD]
  cases e : ms[n]? with
  | none => exact Nat.pow_pos (by decide)
  | some x => exact h x (List.mem_of_getElem? e)
theorem mask_bit {m : Nat} {ms : List Nat} (b l : Nat) (hb : b < 2 ^ m) : (maskN ms (whole m) l).testBit b = litB ms b l := by
  unfold maskN litB
  by_cases h : l % 2 = 1
  · rw [if_pos h, Nat.testBit_xor, whole_bit, decide_eq_true hb, decide_eq_true h]
  · rw [if_neg h, decide_eq_false h, Bool.xor_false]
theorem mask_lt {m : Nat} {ms : List Nat} (h : Low m ms) (l : Nat) : maskN ms (whole m) l < 2 ^ (2 ^ m) := by
  unfold maskN
  by_cases e : l % 2 = 1
  · rw [if_pos e]
    exact Nat.xor_lt_two_pow (h.getD _) (whole_lt m)
  · rw [if_neg e]
    exact h.getD _
theorem or_bit {m : Nat} {ms : List Nat} (b : Nat) (hb : b < 2 ^ m) : ∀ (c : List Nat) (a : Nat), (c.foldl (fun a l => a ||| maskN ms (whole m) l) a).testBit b = (a.testBit b || c.any (litB ms b))
  | [], a => by simp
  | l :: c, a => by
    rw [List.foldl_cons, or_bit b hb c, Nat.testBit_or, mask_bit b l hb, List.any_cons, Bool.or_assoc]
theorem all_bit {m : Nat} {ms : List Nat} (b : Nat) (hb : b < 2 ^ m) : ∀ (cs : List (List Nat)) (a : Nat), (cs.foldl (fun a c => a &&& orN ms (whole m) c) a).testBit b = (a.testBit b && cs.all fun c => c.any (litB ms b))
  | [], a => by simp
  | c :: cs, a => by
    rw [List.foldl_cons, all_bit b hb cs, Nat.testBit_and, List.all_cons, Bool.and_assoc]
    congr 2
    unfold orN
    rw [or_bit b hb c 0, Nat.zero_testBit, Bool.false_or]
theorem all_le {m : Nat} {ms : List Nat} : ∀ (cs : List (List Nat)) (a : Nat), a < 2 ^ (2 ^ m) → cs.foldl (fun a c => a &&& orN ms (whole m) c) a < 2 ^ (2 ^ m)
  | [], a, h => h
  | c :: cs, a, h => by
    rw [List.foldl_cons]
    exact all_le cs _ (Nat.lt_of_le_of_lt Nat.and_le_left h)
theorem allN_bit {m : Nat} {ms : List Nat} (cs : List (List Nat)) (b : Nat) : (allN ms (whole m) cs).testBit b = (decide (b < 2 ^ m) && cs.all fun c => c.any (litB ms b)) := by
  by_cases hb : b < 2 ^ m
  · unfold allN
    rw [all_bit b hb, whole_bit]
  · rw [decide_eq_false hb, Bool.false_and]
    exact lt_bit (all_le cs _ (whole_lt m)) hb
theorem allN_whole {m : Nat} {ms : List Nat} {cs : List (List Nat)} (h : ∀ b, b < 2 ^ m → ∀ c ∈ cs, c.any (litB ms b) = true) : allN ms (whole m) cs = whole m := by
  apply Nat.eq_of_testBit_eq
  intro b
  rw [allN_bit, whole_bit]
  by_cases hb : b < 2 ^ m
  · rw [decide_eq_true hb, Bool.true_and]
    exact List.all_eq_true.mpr (h b hb)
  · rw [decide_eq_false hb, Bool.false_and]
theorem allN_zero {m : Nat} {ms : List Nat} {cs : List (List Nat)} (h : ∀ b, b < 2 ^ m → ∃ c ∈ cs, c.any (litB ms b) = false) : allN ms (whole m) cs = 0 := by
  apply Nat.eq_of_testBit_eq
  intro b
  rw [allN_bit, Nat.zero_testBit]
  by_cases hb : b < 2 ^ m
  · obtain ⟨c, hc, e⟩ := h b hb
    rw [decide_eq_true hb, Bool.true_and]
    exact List.all_eq_false.mpr ⟨c, hc, by rw [e]; decide⟩
  · rw [decide_eq_false hb, Bool.false_and]
theorem masksTo_low (N : Net) : ∀ i : Nat, i ≤ N.ands.length → Low N.many (N.masksTo i)
  | 0, _ => by
    intro x hx
    have hx : x ∈ N.base := hx
    rcases List.mem_cons.mp hx with e | e
    · rw [e]; exact Nat.pow_pos (by decide)
    · obtain ⟨j, _, rfl⟩ := List.mem_map.mp e
      exact Nat.lt_of_le_of_lt (pat_le _ _) (whole_lt _)
  | i + 1, h => by
    have hi : i < N.ands.length := h
    have ih := masksTo_low N i (by omega)
    rw [masksTo_succ N (List.getElem?_eq_getElem hi)]
    intro x hx
    rcases List.mem_append.mp hx with e | e
    · exact ih x e
    · rw [List.mem_singleton.mp e]
      exact Nat.lt_of_le_of_lt Nat.and_le_left (mask_lt ih _)
/-- a literal of a node ahead has the same bit further on -/
theorem lit_to (N : Net) {i b l : Nat} (hi : i ≤ N.ands.length) (hl : l < 2 * (N.first + i)) : litB (N.masksTo i) b l = litB N.masks b l := by
  unfold litB
  rw [List.getD_eq_getElem?_getD, List.getD_eq_getElem?_getD]
  unfold Net.masks
  rw [masksTo_get N i N.ands.length hi (Nat.le_refl _) (show l / 2 < N.first + i by omega)]
theorem bit_and (N : Net) (R : N.Right) {i b : Nat} {p : Nat × Nat} (h : N.ands[i]? = some p) (hb : b < 2 ^ N.many) : (N.masks.getD (N.first + i) 0).testBit b = (litB N.masks b p.1 && litB N.masks b p.2) := by
  have hi : i < N.ands.length := (List.getElem?_eq_some_iff.mp h).1
  obtain ⟨r1, r2⟩ := R.ands i p h
  have e : N.masks[N.first + i]? = some (maskN (N.masksTo i) (whole N.many) p.1 &&& maskN (N.masksTo i) (whole N.many) p.2) := by
    unfold Net.masks
    rw [masksTo_get N (i + 1) N.ands.length hi (Nat.le_refl _) (by omega), masksTo_succ N h, List.getElem?_append_right (by rw [masksTo_len N i (by omega)]; omega), masksTo_len N i (by omega), Nat.sub_self]
    rfl
  rw [getD_eq e, Nat.testBit_and, mask_bit b _ hb, mask_bit b _ hb, lit_to N (by omega) r1, lit_to N (by omega) r2]
theorem lit_inv (ms : List Nat) (b l : Nat) : litB ms b (l ^^^ 1) = !litB ms b l := by
  unfold litB
  have h1 : (l ^^^ 1) / 2 = l / 2 := by
    have := Nat.xor_div_two (a := l) (b := 1)
    simpa using this
  have h2 : (l ^^^ 1) % 2 = 1 - l % 2 := by
    have q := Nat.testBit_xor l 1 0
    rw [Nat.testBit_zero, Nat.testBit_zero, Nat.testBit_zero] at q
    rcases Nat.mod_two_eq_zero_or_one l with h | h <;> rcases Nat.mod_two_eq_zero_or_one (l ^^^ 1) with g | g <;> rw [h, g] at q <;> simp at q <;> omega
  rw [h1, h2]
  rcases Nat.mod_two_eq_zero_or_one l with h | h <;> rw [h] <;> cases (ms.getD (l / 2) 0).testBit b <;> rfl
theorem lit_even (ms : List Nat) (b n : Nat) : litB ms b (2 * n) = (ms.getD n 0).testBit b := by
  unfold litB
  rw [show 2 * n / 2 = n by omega, show 2 * n % 2 = 0 by omega]
  simp
theorem lit_odd (ms : List Nat) (b n : Nat) : litB ms b (2 * n + 1) = !(ms.getD n 0).testBit b := by
  unfold litB
  rw [show (2 * n + 1) / 2 = n by omega, show (2 * n + 1) % 2 = 1 by omega]
  simp
theorem mem_clauses {N : Net} {c : List Nat} (h : c ∈ N.clauses) : c = [1] ∨ ∃ i p, N.ands[i]? = some p ∧ c ∈ andC (N.first + i) p := by
  rcases List.mem_cons.mp h with h | h
  · exact .inl h
  · obtain ⟨x, hx, hc⟩ := List.mem_flatten.mp h
    obtain ⟨k, hk, rfl⟩ := List.mem_map.mp hx
    have hk' := List.mem_range.mp hk
    have e : N.ands[k]? = some (N.ands.getD k (0, 0)) := by rw [List.getD_eq_getElem?_getD, List.getElem?_eq_getElem hk']; rfl
    exact .inr ⟨k, _, e, hc⟩
theorem clauses_mem {N : Net} {c : List Nat} {i : Nat} {p : Nat × Nat} (h : N.ands[i]? = some p) (hc : c ∈ andC (N.first + i) p) : c ∈ N.clauses := by
  refine List.mem_cons.mpr (.inr (List.mem_flatten.mpr ⟨_, List.mem_map.mpr ⟨i, List.mem_range.mpr (List.getElem?_eq_some_iff.mp h).1, rfl⟩, ?_⟩))
  rw [List.getD_eq_getElem?_getD, h]
  exact hc
theorem and_clauses_bits {ms : List Nat} {b n : Nat} {p : Nat × Nat} : ((andC n p).all fun c => c.any (litB ms b)) = ((ms.getD n 0).testBit b == (litB ms b p.1 && litB ms b p.2)) := by
  show (([2 * n + 1, p.1].any (litB ms b)) && (([2 * n + 1, p.2].any (litB ms b)) && (([2 * n, p.1 ^^^ 1, p.2 ^^^ 1].any (litB ms b)) && true))) = _
  simp only [List.any_cons, List.any_nil, lit_even, lit_odd, lit_inv, Bool.or_false, Bool.and_true]
  cases (ms.getD n 0).testBit b <;> cases litB ms b p.1 <;> cases litB ms b p.2 <;> rfl
theorem clauses_hold (N : Net) (R : N.Right) : allN N.masks (whole N.many) N.clauses = whole N.many := by
  refine allN_whole fun b hb c hc => ?_
  rcases mem_clauses hc with rfl | ⟨i, p, h, hc⟩
  · have e : N.masks[0]? = some 0 := by
      unfold Net.masks
      rw [masksTo_get N 0 N.ands.length (Nat.zero_le _) (Nat.le_refl _) (by rw [Net.first_eq]; omega)]
      rfl
    rw [List.any_cons, List.any_nil, Bool.or_false, show (1 : Nat) = 2 * 0 + 1 from rfl, lit_odd, getD_eq e]
    simp
  · have q : ((andC (N.first + i) p).all fun c => c.any (litB N.masks b)) = true := by
      rw [and_clauses_bits, bit_and N R h hb]
      exact beq_self_eq_true _
    exact List.all_eq_true.mp q c hc
def spoil (ms : List Nat) (n w : Nat) : List Nat := ms.take n ++ [ms.getD n 0 ^^^ w] ++ ms.drop (n + 1)
theorem spoil_get {ms : List Nat} {n w k : Nat} (hn : n < ms.length) : (spoil ms n w).getD k 0 = if k = n then ms.getD n 0 ^^^ w else ms.getD k 0 := by
  unfold spoil
  have lt : (ms.take n).length = n := by rw [List.length_take]; omega
  rw [List.getD_eq_getElem?_getD, List.getD_eq_getElem?_getD]
  by_cases h : k = n
  · rw [if_pos h, List.append_assoc, List.getElem?_append_right (by omega), lt, h, Nat.sub_self, List.singleton_append, List.getElem?_cons_zero]
    rfl
  · rw [if_neg h, List.getD_eq_getElem?_getD]
    congr 1
    by_cases h2 : k < n
    · rw [List.append_assoc, List.getElem?_append_left (by omega), List.getElem?_take_of_lt h2]
    · rw [List.getElem?_append_right (by rw [List.length_append, lt]; simp; omega), List.length_append, lt, List.getElem?_drop]
      congr 1
      simp
      omega
theorem spoil_bit {ms : List Nat} {n m b l : Nat} (hn : n < ms.length) (hb : b < 2 ^ m) : litB (spoil ms n (whole m)) b l = (litB ms b l ^^ decide (l / 2 = n)) := by
  unfold litB
  rw [spoil_get hn]
  by_cases h : l / 2 = n
  · rw [if_pos h, Nat.testBit_xor, whole_bit, decide_eq_true hb, decide_eq_true h, h]
    cases (ms.getD n 0).testBit b <;> cases decide (l % 2 = 1) <;> rfl
  · rw [if_neg h, decide_eq_false h, Bool.xor_false]
theorem spoilt_zero (N : Net) : allN (spoil N.masks 0 (whole N.many)) (whole N.many) N.clauses = 0 := by
  have hl : 0 < N.masks.length := by
    unfold Net.masks
    rw [masksTo_len N _ (Nat.le_refl _), Net.first_eq]
    omega
  refine allN_zero fun b hb => ⟨[1], List.mem_cons_self, ?_⟩
  have e : N.masks[0]? = some 0 := by
    unfold Net.masks
    rw [masksTo_get N 0 N.ands.length (Nat.zero_le _) (Nat.le_refl _) (by rw [Net.first_eq]; omega)]
    rfl
  rw [List.any_cons, List.any_nil, Bool.or_false, spoil_bit hl hb, show (1 : Nat) = 2 * 0 + 1 from rfl, lit_odd, getD_eq e]
  simp
theorem spoilt_and (N : Net) (R : N.Right) {i : Nat} (hi : i < N.ands.length) : allN (spoil N.masks (N.first + i) (whole N.many)) (whole N.many) N.clauses = 0 := by
  have hl : N.first + i < N.masks.length := by
    unfold Net.masks
    rw [masksTo_len N _ (Nat.le_refl _)]
    omega
  have h : N.ands[i]? = some N.ands[i] := List.getElem?_eq_getElem hi
  obtain ⟨r1, r2⟩ := R.ands i _ h
  refine allN_zero fun b hb => ?_
  have q : ((andC (N.first + i) N.ands[i]).all fun c => c.any (litB (spoil N.masks (N.first + i) (whole N.many)) b)) = false := by
    rw [and_clauses_bits, spoil_bit hl hb, spoil_bit hl hb, decide_eq_false (show ¬ (N.ands[i]).1 / 2 = N.first + i by omega), decide_eq_false (show ¬ (N.ands[i]).2 / 2 = N.first + i by omega), Bool.xor_false, Bool.xor_false, ← lit_even, spoil_bit hl hb, lit_even, decide_eq_true (show 2 * (N.first + i) / 2 = N.first + i by omega), bit_and N R h hb]
    cases (litB N.masks b N.ands[i].1 && litB N.masks b N.ands[i].2) <;> rfl
  obtain ⟨c, hc, e⟩ := List.all_eq_false.mp q
  refine ⟨c, clauses_mem h hc, ?_⟩
  cases z : c.any (litB (spoil N.masks (N.first + i) (whole N.many)) b) with
  | false => rfl
  | true => exact absurd z e
end Bf

set_option Elab.async false
set_option linter.all false
set_option maxRecDepth 100000
set_option maxHeartbeats 4000000
namespace Bf
open PySem PySem.Spec PyProof.Rows L2
/-! ### comprehensions over rows that lie there; each row gives a datum -/
theorem lc_rows {J : It} {xs : List V} {G : Hp → Prop} (w : Walk J xs.length G (YAt xs)) {α β : Type} {rows : List α} {f : α → PyData} {g : α → β} {h : β → PyData} {tg : TG} {te : TE} {vs : List Nat} {σ : L2.St} {H1 : Hp} {D : Addr} {Qd : Hp → Prop}
    (hG : ∀ H', Same H1 H' → G H') (hD : H1 D = none) (lay : LayAll H1 xs (rows.map f)) (hl : rows.length ≤ 1000)
    (hs : ∀ (i : Nat) (x : V) (r : α) (H' : Hp) (R : V → Hp → Prop) (Z : Hp → Prop), rows[i]? = some r → Same H1 H' → Lay H' x (f r) → (∀ y H4, Same H' H4 → Lay H4 y (h (g r)) → R y H4) →
      tg x (wipe σ vs) H' fun σ2 H2 => wipe σ2 vs = wipe σ vs ∧ tYes σ2 H2 fun b H3 => if b = true then te σ2 H3 R else Z H3)
    (hd : ∀ us H', Same H1 H' → H' D = some (.lst us) → LayAll H' us ((rows.map g).map h) → Qd H') :
    ∃ W : Nat → Nat → Hp → Prop, (∃ m, W 0 m (upd H1 D (.lst []))) ∧ ∀ i m H, W i m H →
      (J.stop i H ∧ Qd H) ∨ (J.go i H ∧ ∃ Nx : Hp → Prop, (∀ H', Nx H' → ∃ m', m' < m ∧ W (i + 1) m' H') ∧ ∀ x H', J.yld i H x H' → tg x (wipe σ vs) H' fun σ2 H2 => wipe σ2 vs = wipe σ vs ∧ tYes σ2 H2 fun b H3 =>
        if b = true then te σ2 H3 fun y H4 => ∃ acc, H4 D = some (.lst acc) ∧ acc.length < sizeLine ∧ Nx (upd H4 D (.lst (acc ++ [y]))) else Nx H3) := by
  have ll := lay.len
  rw [List.length_map] at ll
  refine lc_it w (fun i H' => Same H1 H' ∧ ∃ us, H' D = some (.lst us) ∧ LayAll H' us (((rows.take i).map g).map h)) ⟨same_two (.refl _) hD, [], upd_same, .nil⟩ (fun i H' _ p => hG _ p.1) (fun i x H' H2 hi p y => ?_) (fun H' p => ?_)
  · obtain ⟨sm, us, eD, lu⟩ := p
    obtain ⟨rfl, hx⟩ := y
    obtain ⟨d, hd', ld⟩ := (lay.keep' (.same sm)).get i hx
    obtain ⟨r, hr, rfl⟩ := mapAtD hd'
    refine hs i x r H2 _ _ hr sm ld (fun y H4 s4 ly => ?_)
    have lul := lu.len
    rw [List.length_map, List.length_map, List.length_take] at lul
    refine ⟨us, s4 _ _ eD, len1000 (by omega), same_two (sm.trans s4) hD, us ++ [y], upd_same, ?_⟩
    rw [take_snoc hr, List.map_append, List.map_append]
    exact ((lu.keep' (.same s4)).snoc ly).keep' (.lst (s4 _ _ eD))
  · obtain ⟨sm, us, eD, lu⟩ := p
    rw [ll, List.take_length] at lu
    exact hd us H' sm eD lu
theorem lay_ints {H : Hp} {us : List V} {ns : List Nat} (h : LayAll H us (ns.map fun n : Nat => PyData.int (n : Int))) : us = ns.map vI := h.ints_inv
/-- range(n) gives data -/
theorem lc_rangeL {n : Nat} {β : Type} {g : Nat → β} {h : β → PyData} {tg : TG} {te : TE} {vs : List Nat} {σ : L2.St} {H1 : Hp} {D : Addr} {Qd : Hp → Prop} (hD : H1 D = none) (hl : n ≤ 1000)
    (hs : ∀ (i : Nat) (H' : Hp) (R : V → Hp → Prop) (Z : Hp → Prop), i < n → Same H1 H' → (∀ y H4, Same H' H4 → Lay H4 y (h (g i)) → R y H4) →
      tg (.int (0 + (i : Int))) (wipe σ vs) H' fun σ2 H2 => wipe σ2 vs = wipe σ vs ∧ tYes σ2 H2 fun b H3 => if b = true then te σ2 H3 R else Z H3)
    (hd : ∀ us H', Same H1 H' → H' D = some (.lst us) → LayAll H' us (((List.range n).map g).map h) → Qd H') :
    ∃ W : Nat → Nat → Hp → Prop, (∃ m, W 0 m (upd H1 D (.lst []))) ∧ ∀ i m H, W i m H →
      ((Itr 0 n).stop i H ∧ Qd H) ∨ ((Itr 0 n).go i H ∧ ∃ Nx : Hp → Prop, (∀ H', Nx H' → ∃ m', m' < m ∧ W (i + 1) m' H') ∧ ∀ x H', (Itr 0 n).yld i H x H' → tg x (wipe σ vs) H' fun σ2 H2 => wipe σ2 vs = wipe σ vs ∧ tYes σ2 H2 fun b H3 =>
        if b = true then te σ2 H3 fun y H4 => ∃ acc, H4 D = some (.lst acc) ∧ acc.length < sizeLine ∧ Nx (upd H4 D (.lst (acc ++ [y]))) else Nx H3) := by
  refine lc_it walk_range (fun i H' => Same H1 H' ∧ ∃ us, H' D = some (.lst us) ∧ LayAll H' us (((List.range i).map g).map h)) ⟨same_two (.refl _) hD, [], upd_same, .nil⟩ (fun i H' _ p => trivial) (fun i x H' H2 hi p y => ?_) (fun H' p => ?_)
  · obtain ⟨sm, us, eD, lu⟩ := p
    obtain ⟨rfl, rfl⟩ := y
    refine hs i H2 _ _ hi sm (fun y H4 s4 ly => ?_)
    have lul := lu.len
    rw [List.length_map, List.length_map, List.length_range] at lul
    refine ⟨us, s4 _ _ eD, len1000 (by omega), same_two (sm.trans s4) hD, us ++ [y], upd_same, ?_⟩
    rw [List.range_succ, List.map_append, List.map_append]
    exact ((lu.keep' (.same s4)).snoc ly).keep' (.lst (s4 _ _ eD))
  · obtain ⟨sm, us, eD, lu⟩ := p
    exact hd us H' sm eD lu
theorem flat_rep (n : Nat) : (List.replicate n [V.int 0]).flatten = (List.replicate n 0).map vI := by
  induction n with
  | zero => rfl
  | succ n ih =>
    rw [List.replicate_succ, List.flatten_cons, ih, List.replicate_succ]
    rfl
theorem set_vI (l : List Nat) (i x : Nat) : (l.map vI).set i (vI x) = (l.set i x).map vI := by rw [List.map_set]
theorem ixN_nat {n i : Nat} (h : i < n) : ixN n (i : Int) = some i := by
  have : atI (List.range n) (i : Int) = some i := atI_nat (by rw [List.getElem?_range h])
  unfold atI at this
  cases e : ixN n (i : Int) with
  | none => rw [List.length_range, e] at this; cases this
  | some j =>
    rw [List.length_range, e] at this
    have q : (List.range n)[j]? = some i := this
    have hj : j < n := by
      have := (List.getElem?_eq_some_iff.mp q).1
      simpa using this
    rw [List.getElem?_range hj] at q
    rw [Option.some.inj q]
end Bf

set_option Elab.async false
set_option linter.all false
set_option maxRecDepth 100000
set_option maxHeartbeats 4000000
namespace Bf
open PySem PySem.Spec PyProof.Rows L2
/-! ### [x for x in xs if p x]; sorted(set(xs)) -/
theorem lc_filt {J : It} {xs : List Nat} {G : Hp → Prop} (w : Walk J (xs.map vI).length G (YAt (xs.map vI))) {p : Nat → Bool} {tg : TG} {tt : TT} {te : TE} {vs : List Nat} {σ : L2.St} {H1 : Hp} {D : Addr} {Qd : Hp → Prop}
    (hG : ∀ H', Same H1 H' → G H') (hD : H1 D = none) (hl : xs.length ≤ 1000)
    (hs : ∀ (x : Nat) (H' : Hp) (R : V → Hp → Prop) (Z : Hp → Prop), x ∈ xs → Same H1 H' → (p x = true → R (vI x) H') → (p x = false → Z H') →
      tg (vI x) (wipe σ vs) H' fun σ2 H2 => wipe σ2 vs = wipe σ vs ∧ tt σ2 H2 fun b H3 => if b = true then te σ2 H3 R else Z H3)
    (hd : ∀ H', Same H1 H' → H' D = some (.lst ((xs.filter p).map vI)) → Qd H') :
    ∃ W : Nat → Nat → Hp → Prop, (∃ m, W 0 m (upd H1 D (.lst []))) ∧ ∀ i m H, W i m H →
      (J.stop i H ∧ Qd H) ∨ (J.go i H ∧ ∃ Nx : Hp → Prop, (∀ H', Nx H' → ∃ m', m' < m ∧ W (i + 1) m' H') ∧ ∀ x H', J.yld i H x H' → tg x (wipe σ vs) H' fun σ2 H2 => wipe σ2 vs = wipe σ vs ∧ tt σ2 H2 fun b H3 =>
        if b = true then te σ2 H3 fun y H4 => ∃ acc, H4 D = some (.lst acc) ∧ acc.length < sizeLine ∧ Nx (upd H4 D (.lst (acc ++ [y]))) else Nx H3) := by
  refine lc_it w (fun i H' => Same H1 H' ∧ H' D = some (.lst (((xs.take i).filter p).map vI))) ⟨same_two (.refl _) hD, by simp [upd_same]⟩ (fun i H' _ q => hG _ q.1) (fun i x H' H2 hi q y => ?_) (fun H' q => ?_)
  · obtain ⟨sm, eD⟩ := q
    obtain ⟨rfl, hx⟩ := y
    obtain ⟨k, hk, rfl⟩ := natAt hx
    have hlen : ((xs.take i).filter p).length ≤ 1000 := Nat.le_trans (List.length_filter_le _ _) (by rw [List.length_take]; omega)
    refine hs k H2 _ _ (List.mem_of_getElem? hk) sm (fun hp => ⟨_, eD, by rw [List.length_map]; exact small1000 hlen, same_two sm hD, ?_⟩) (fun hp => ⟨sm, ?_⟩)
    · rw [upd_same, take_snoc hk, List.filter_append, List.map_append]
      simp [List.filter, hp]
    · rw [take_snoc hk, List.filter_append]
      simpa [List.filter, hp] using eD
  · obtain ⟨sm, eD⟩ := q
    rw [List.length_map, List.take_length] at eD
    exact hd H' sm eD
theorem ints_nat {ns : List Int} {xs : List Nat} (h : ∀ k ∈ ns, ∃ x : Nat, k = (x : Int) ∧ x ∈ xs) : ∃ zs : List Nat, ns.map V.int = zs.map vI ∧ ns = zs.map fun n : Nat => (n : Int) := by
  induction ns with
  | nil => exact ⟨[], rfl, rfl⟩
  | cons a r ih =>
    obtain ⟨zs, e1, e2⟩ := ih fun k hk => h k (by simp [hk])
    obtain ⟨x, rfl, _⟩ := h a (by simp)
    exact ⟨x :: zs, by rw [List.map_cons, e1]; rfl, by rw [e2]; rfl⟩
def castL (xs : List Nat) : List Int := xs.map fun n : Nat => (n : Int)
theorem castL_V (xs : List Nat) : (castL xs).map V.int = xs.map vI := by
  unfold castL
  rw [List.map_map]
  rfl
theorem castL_len (xs : List Nat) : (castL xs).length = xs.length := by simp [castL]
theorem setSorted {xs : List Nat} {ns : List Int} {Sb : Int → Bool} {m : Nat} (hS : ∀ x, Sb x = true ↔ x ∈ castL xs) (pw : ns.Pairwise (· < ·)) (hk : ∀ k : Int, k ∈ ns ↔ Sb k = true) (hn : ns.length = m) (hm : m ≤ (castL xs).length) :
    ∃ zs : List Nat, ns.map V.int = zs.map vI ∧ zs.Pairwise (· < ·) ∧ (∀ x, x ∈ zs ↔ x ∈ xs) ∧ zs.length ≤ xs.length := by
  rw [castL_len] at hm
  have hx : ∀ z : Int, z ∈ ns ↔ ∃ x : Nat, z = (x : Int) ∧ x ∈ xs := fun z => by
    rw [hk z, hS z, castL, List.mem_map]
    exact ⟨fun ⟨x, a, b⟩ => ⟨x, b.symm, a⟩, fun ⟨x, a, b⟩ => ⟨x, b, a.symm⟩⟩
  obtain ⟨zs, e1, e2⟩ := ints_nat fun z hz => (hx z).mp hz
  refine ⟨zs, e1, ?_, fun x => ?_, ?_⟩
  · rw [e2] at pw
    exact (List.pairwise_map.mp pw).imp fun h => by omega
  · have := hx (x : Int)
    rw [e2] at this
    refine ⟨fun h => ?_, fun h => ?_⟩
    · obtain ⟨y, hy, hm⟩ := this.mp (List.mem_map_of_mem h)
      rwa [show x = y by omega]
    · obtain ⟨y, hy, e⟩ := List.mem_map.mp (this.mpr ⟨x, rfl, h⟩)
      have e : (y : Int) = (x : Int) := e
      rwa [show x = y by omega]
  · have : ns.length = zs.length := by rw [e2, List.length_map]
    omega
/-- [g x for x in rows if p x], rows that lie there; the test may make objects -/
theorem lc_frows {J : It} {xs : List V} {G : Hp → Prop} (w : Walk J xs.length G (YAt xs)) {α β : Type} {rows : List α} {f : α → PyData} {g : α → β} {h : β → PyData} {p : α → Bool} {tg : TG} {tt : TT} {te : TE} {vs : List Nat} {σ : L2.St} {H1 : Hp} {D : Addr} {Qd : Hp → Prop}
    (hG : ∀ H', Same H1 H' → G H') (hD : H1 D = none) (lay : LayAll H1 xs (rows.map f)) (hl : rows.length ≤ 1000)
    (hs : ∀ (x : V) (r : α) (H' : Hp) (R : V → Hp → Prop) (Z : Hp → Prop), r ∈ rows → Same H1 H' → Lay H' x (f r) → (p r = true → ∀ y H4, Same H' H4 → Lay H4 y (h (g r)) → R y H4) → (p r = false → ∀ H4, Same H' H4 → Z H4) →
      tg x (wipe σ vs) H' fun σ2 H2 => wipe σ2 vs = wipe σ vs ∧ tt σ2 H2 fun b H3 => if b = true then te σ2 H3 R else Z H3)
    (hd : ∀ us H', Same H1 H' → H' D = some (.lst us) → LayAll H' us (((rows.filter p).map g).map h) → Qd H') :
    ∃ W : Nat → Nat → Hp → Prop, (∃ m, W 0 m (upd H1 D (.lst []))) ∧ ∀ i m H, W i m H →
      (J.stop i H ∧ Qd H) ∨ (J.go i H ∧ ∃ Nx : Hp → Prop, (∀ H', Nx H' → ∃ m', m' < m ∧ W (i + 1) m' H') ∧ ∀ x H', J.yld i H x H' → tg x (wipe σ vs) H' fun σ2 H2 => wipe σ2 vs = wipe σ vs ∧ tt σ2 H2 fun b H3 =>
        if b = true then te σ2 H3 fun y H4 => ∃ acc, H4 D = some (.lst acc) ∧ acc.length < sizeLine ∧ Nx (upd H4 D (.lst (acc ++ [y]))) else Nx H3) := by
  have ll := lay.len
  rw [List.length_map] at ll
  refine lc_it w (fun i H' => Same H1 H' ∧ ∃ us, H' D = some (.lst us) ∧ LayAll H' us ((((rows.take i).filter p).map g).map h)) ⟨same_two (.refl _) hD, [], upd_same, by simp; exact .nil⟩ (fun i H' _ q => hG _ q.1) (fun i x H' H2 hi q y => ?_) (fun H' q => ?_)
  · obtain ⟨sm, us, eD, lu⟩ := q
    obtain ⟨rfl, hx⟩ := y
    obtain ⟨d, hd', ld⟩ := (lay.keep' (.same sm)).get i hx
    obtain ⟨r, hr, rfl⟩ := mapAtD hd'
    have lul := lu.len
    rw [List.length_map, List.length_map] at lul
    have hlen : ((rows.take i).filter p).length ≤ 1000 := Nat.le_trans (List.length_filter_le _ _) (by rw [List.length_take]; omega)
    refine hs x r H2 _ _ (List.mem_of_getElem? hr) sm ld (fun hp y H4 s4 ly => ?_) (fun hp H4 s4 => ⟨sm.trans s4, us, s4 _ _ eD, ?_⟩)
    · refine ⟨us, s4 _ _ eD, len1000 (by omega), same_two (sm.trans s4) hD, us ++ [y], upd_same, ?_⟩
      rw [take_snoc hr, List.filter_append, List.map_append, List.map_append, show [r].filter p = [r] by simp [List.filter, hp]]
      exact ((lu.keep' (.same s4)).snoc ly).keep' (.lst (s4 _ _ eD))
    · rw [take_snoc hr, List.filter_append, show [r].filter p = [] by simp [List.filter, hp], List.append_nil]
      exact lu.keep' (.same s4)
  · obtain ⟨sm, us, eD, lu⟩ := q
    rw [ll, List.take_length] at lu
    exact hd us H' sm eD lu
def blD (b : Bool) : PyData := .bool b
theorem lay_bls {H : Hp} : ∀ {bs : List Bool} {us : List V}, LayAll H us (bs.map blD) → us = bs.map V.bl
  | [], _, h => by cases h; rfl
  | b :: r, _, h => by
    cases h with
    | cons a t =>
      rw [lay_bls t]
      cases a
      rfl
end Bf

set_option Elab.async false
set_option linter.all false
set_option maxRecDepth 100000
set_option maxHeartbeats 4000000
namespace Bf
open PySem PySem.Spec PyProof.Rows L2
/-! ### d.update(e), both with int and text keys -/
def rUpd : V → List V → Hp → VK → Prop := fun x vs H Q => ∃ (d b : Addr) (xs zs : List (Key × V)), x = .ref d ∧ vs = [.ref b] ∧ d ≠ b ∧ H d = some (.dK xs) ∧ H b = some (.dK zs) ∧ xs.length + zs.length ≤ sizeLine ∧ Q .non (upd H d (.dK (mergeK xs zs)))
theorem mt_update {X : Cx} : MtM X "dict.update" rUpd := by
  intro pins s σ H x vs v us Q I rx rv h
  obtain ⟨d, b, xs, zs, rfl, rfl, hne, hH, hB, hz, q⟩ := h
  cases rx
  obtain ⟨u, rfl, ru⟩ := rv.one
  cases ru
  obtain ⟨z, hd, ws, rel, dd⟩ := dk_of I.hok hH
  obtain ⟨z2, hd2, ws2, rel2, dd2⟩ := dk_of I.hok hB
  refine call_meetsIn PySem.F.slot_dict_update dd.typeIs PySem.F.entry_dict_update (PySem.F.args_dict_update_2 _ _) (meets_dict_update (mixKind X.prog X.w) d b hne hd2) ⟨ws, ws2, dd, dd2, by rw [← Paired.length rel, ← Paired.length rel2]; exact hz, fun h' dd' _ hs => ?_⟩
  have hl := length_mergeK zs xs
  have he : ∃ q, h'.get? d = some q := let ⟨q, _, _, hq, _⟩ := dd'; ⟨q, hq⟩
  exact ⟨.non, _, d_write I (by rw [hH]; exact True.intro) hs he (dk_new (by omega) hd (rel2.merge rel) dd'), rfl, q⟩
/-! ### dicts as sets of numbers -/
def setZ (M : List Int) : List (Key × V) := M.map fun x => (Sum.inl x, .bl true)
def addZ (M : List Int) (x : Int) : List Int := if x ∈ M then M else M ++ [x]
theorem mem_addZ {M : List Int} {x y : Int} : y ∈ addZ M x ↔ y ∈ M ∨ y = x := by
  unfold addZ
  by_cases h : x ∈ M
  · rw [if_pos h]
    exact ⟨.inl, fun q => q.elim id fun e => e ▸ h⟩
  · rw [if_neg h]
    simp
theorem addZ_len {M : List Int} {x : Int} : (addZ M x).length ≤ M.length + 1 := by
  unfold addZ
  split
  · omega
  · rw [List.length_append]; exact Nat.le_refl _
theorem addZ_nodup {M : List Int} {x : Int} (h : M.Nodup) : (addZ M x).Nodup := by
  unfold addZ
  by_cases q : x ∈ M
  · rw [if_pos q]; exact h
  · rw [if_neg q]
    exact List.nodup_append.mpr ⟨h, by simp, fun a ha b hb e => q (by rw [← List.mem_singleton.mp hb, ← e]; exact ha)⟩
theorem setZ_len (M : List Int) : (setZ M).length = M.length := by simp [setZ]
theorem setZ_put (M : List Int) (x : Int) : putK (setZ M) (Sum.inl x) (.bl true) = setZ (addZ M x) := by
  unfold putK addZ setZ
  by_cases h : x ∈ M
  · rw [if_pos h, if_pos]
    · conv => rhs; rw [← List.map_id (M.map _)]
      refine List.map_congr_left fun kv hkv => ?_
      obtain ⟨y, _, rfl⟩ := List.mem_map.mp hkv
      by_cases e : (Sum.inl y : Key) = Sum.inl x
      · rw [if_pos e]; rfl
      · rw [if_neg e]; rfl
    · rw [List.any_eq_true]
      exact ⟨(Sum.inl x, .bl true), List.mem_map_of_mem (f := fun x => ((Sum.inl x : Key), V.bl true)) h, decide_eq_true rfl⟩
  · rw [if_neg h, if_neg, List.map_append]
    · rfl
    · rw [List.any_eq_true]
      rintro ⟨kv, hkv, q⟩
      obtain ⟨y, hy, rfl⟩ := List.mem_map.mp hkv
      exact h (Sum.inl.inj (of_decide_eq_true q) ▸ hy)
theorem setZ_val : ∀ (M : List Int) (x : Int), (valV (setZ M) (Sum.inl x)).isSome = decide (x ∈ M)
  | [], x => by unfold setZ; rw [List.map_nil, valV_nil]; simp
  | y :: M, x => by
    have ih := setZ_val M x
    unfold setZ at ih ⊢
    rw [List.map_cons]
    by_cases e : (Sum.inl y : Key) = Sum.inl x
    · rw [valV_pos e]
      have : y = x := Sum.inl.inj e
      simp [this]
    · rw [valV_neg e, ih]
      have : ¬ x = y := fun q => e (congrArg Sum.inl q.symm)
      simp [this]
theorem setZ_merge (M : List Int) : ∀ N : List Int, mergeK (setZ M) (setZ N) = setZ (N.foldl addZ M)
  | [] => rfl
  | x :: N => by
    have := setZ_merge (addZ M x) N
    show mergeK (putK (setZ M) (Sum.inl x) (.bl true)) (setZ N) = _
    rw [setZ_put, this]
    rfl
theorem mem_addsZ : ∀ (N : List Int) {M : List Int} {x : Int}, x ∈ N.foldl addZ M ↔ x ∈ M ∨ x ∈ N
  | [], M, x => by simp
  | y :: N, M, x => by
    show x ∈ N.foldl addZ (addZ M y) ↔ _
    rw [mem_addsZ N, mem_addZ, List.mem_cons]
    constructor
    · rintro ((h | h) | h)
      · exact .inl h
      · exact .inr (.inl h)
      · exact .inr (.inr h)
    · rintro (h | h | h)
      · exact .inl (.inl h)
      · exact .inl (.inr h)
      · exact .inr h
theorem addsZ_len : ∀ (N M : List Int), (N.foldl addZ M).length ≤ M.length + N.length
  | [], M => by simp
  | y :: N, M => by
    have h1 := addsZ_len N (addZ M y)
    have h2 := addZ_len (M := M) (x := y)
    show (N.foldl addZ (addZ M y)).length ≤ _
    rw [List.length_cons]
    omega
theorem setZ_get {H : Hp} {a : Addr} {M : List Int} (h : H a = some (.dK (setZ M))) (x : Int) : DGet H a (.int x) (valV (setZ M) (Sum.inl x)) := DGet.k (k := Sum.inl x) h
theorem setZ_dput {H : Hp} {a : Addr} {M : List Int} (h : H a = some (.dK (setZ M))) (x : Int) (hl : M.length ≤ 2000) : DPut H a (.int x) (.bl true) (upd H a (.dK (setZ (addZ M x)))) := by
  have := DPut.k (k := Sum.inl x) (v := .bl true) h (by rw [setZ_len]; exact Nat.lt_of_le_of_lt hl (by show 2000 < sizeLine; decide))
  rwa [setZ_put] at this
/-- {key: True for x in rows} -/
theorem dc_setZ {J : It} {xs : List V} {G : Hp → Prop} (w : Walk J xs.length G (YAt xs)) {α : Type} {rows : List α} {f : α → PyData} {k : α → Int} {g : TG} {tt : TT} {tk tv : TE} {vs : List Nat} {σ : L2.St} {H1 : Hp} {D : Addr} {Qd : Hp → Prop}
    (hG : ∀ H', Same H1 H' → G H') (hD : H1 D = none) (lay : LayAll H1 xs (rows.map f)) (hl : rows.length ≤ 1000)
    (hs : ∀ (x : V) (r : α) (H' : Hp) (R : V → V → Hp → Prop) (Z : Hp → Prop), r ∈ rows → Same H1 H' → Lay H' x (f r) → (∀ H4, Same H' H4 → R (.int (k r)) (.bl true) H4) →
      g x (wipe σ vs) H' fun σ2 H2 => wipe σ2 vs = wipe σ vs ∧ tt σ2 H2 fun b H3 => if b = true then tk σ2 H3 fun y H4 => tv σ2 H4 fun z H5 => R y z H5 else Z H3)
    (hd : ∀ (M : List Int) H', Same H1 H' → H' D = some (.dK (setZ M)) → (∀ x, x ∈ M ↔ x ∈ rows.map k) → M.length ≤ rows.length → Qd H') :
    ∃ W : Nat → Nat → Hp → Prop, (∃ m, W 0 m (upd H1 D (.dK []))) ∧ ∀ i m H, W i m H →
      (J.stop i H ∧ Qd H) ∨ (J.go i H ∧ ∃ Nx : Hp → Prop, (∀ H', Nx H' → ∃ m', m' < m ∧ W (i + 1) m' H') ∧ ∀ x H', J.yld i H x H' → g x (wipe σ vs) H' fun σ2 H2 => wipe σ2 vs = wipe σ vs ∧ tt σ2 H2 fun b H3 =>
        if b = true then tk σ2 H3 fun y H4 => tv σ2 H4 fun z H5 => ∃ kvs k, y = kV k ∧ H5 D = some (.dK kvs) ∧ kvs.length < sizeLine ∧ Nx (upd H5 D (.dK (putK kvs k z))) else Nx H3) := by
  have ll := lay.len
  rw [List.length_map] at ll
  let Pv : Nat → Hp → Prop := fun i H' => Same H1 H' ∧ ∃ M : List Int, H' D = some (.dK (setZ M)) ∧ (∀ x, x ∈ M ↔ x ∈ (rows.take i).map k) ∧ M.length ≤ i
  refine ⟨fun i m H => m = xs.length - i ∧ i ≤ xs.length ∧ Pv i H, ⟨xs.length, by simp, Nat.zero_le _, same_two (.refl _) hD, [], upd_same, by simp, Nat.le_refl _⟩, ?_⟩
  rintro i m H ⟨rfl, hi, sm, M, eD, hM, hML⟩
  have q := hG H sm
  by_cases hlt : i < xs.length
  · refine .inr ⟨w.goes i H hlt q, Pv (i + 1), fun H' p' => ⟨xs.length - (i + 1), by omega, rfl, hlt, p'⟩, fun x H' y => ?_⟩
    obtain ⟨rfl, hx⟩ := w.yields i H x H' hlt q y
    obtain ⟨d, hd', ld⟩ := (lay.keep' (.same sm)).get i hx
    obtain ⟨r, hr, rfl⟩ := mapAtD hd'
    refine hs x r H' _ _ (List.mem_of_getElem? hr) sm ld (fun H4 s4 => ?_)
    refine ⟨setZ M, Sum.inl (k r), rfl, s4 _ _ eD, by rw [setZ_len]; exact len1000 (by omega), ?_⟩
    rw [setZ_put]
    refine ⟨same_two (sm.trans s4) hD, addZ M (k r), upd_same, fun x => ?_, by have := addZ_len (M := M) (x := k r); omega⟩
    rw [mem_addZ, hM, take_snoc hr, List.map_append, List.mem_append]
    simp
  · have e : i = xs.length := by omega
    subst e
    refine .inl ⟨w.stops H q, hd M H sm eD (fun x => ?_) (by omega)⟩
    rw [hM, ll, List.take_length]
/-- [.. for x in d], d a locked set of numbers, each giving a bool -/
theorem lc_keysB {o : Obj} {d : Addr} {M : List Int} {p : Int → Bool} {tg : TG} {te : TE} {vs : List Nat} {σ : L2.St} {H1 : Hp} {D : Addr} {Qd : Hp → Prop}
    (hd : H1 d = some (.frz o (.dK (setZ M)))) (hD : H1 D = none) (hl : M.length ≤ 1000)
    (hs : ∀ (x : Int) (H' : Hp) (R : V → Hp → Prop) (Z : Hp → Prop), x ∈ M → Same H1 H' → (∀ H4, Same H' H4 → R (.bl (p x)) H4) →
      tg (.int x) (wipe σ vs) H' fun σ2 H2 => wipe σ2 vs = wipe σ vs ∧ tYes σ2 H2 fun b H3 => if b = true then te σ2 H3 R else Z H3)
    (hq : ∀ H', Same H1 H' → H' D = some (.lst ((M.map p).map V.bl)) → Qd H') :
    ∃ W : Nat → Nat → Hp → Prop, (∃ m, W 0 m (upd H1 D (.lst []))) ∧ ∀ i m H, W i m H →
      ((Itk d o (setZ M)).stop i H ∧ Qd H) ∨ ((Itk d o (setZ M)).go i H ∧ ∃ Nx : Hp → Prop, (∀ H', Nx H' → ∃ m', m' < m ∧ W (i + 1) m' H') ∧ ∀ x H', (Itk d o (setZ M)).yld i H x H' → tg x (wipe σ vs) H' fun σ2 H2 => wipe σ2 vs = wipe σ vs ∧ tYes σ2 H2 fun b H3 =>
        if b = true then te σ2 H3 fun y H4 => ∃ acc, H4 D = some (.lst acc) ∧ acc.length < sizeLine ∧ Nx (upd H4 D (.lst (acc ++ [y]))) else Nx H3) := by
  refine lc_it (walk_keys (d := d) (o := o) (kvs := setZ M)) (fun i H' => Same H1 H' ∧ H' D = some (.lst (((M.take i).map p).map V.bl))) ⟨same_two (.refl _) hD, upd_same⟩ (fun i H' _ q => q.1 _ _ hd) (fun i x H' H2 hi q y => ?_) (fun H' q => ?_)
  · obtain ⟨sm, eD⟩ := q
    obtain ⟨rfl, kk, v, hk, rfl⟩ := y
    rw [setZ_len] at hi
    have e : M[i]? = some M[i] := List.getElem?_eq_getElem hi
    have e2 : (setZ M)[i]? = some (Sum.inl M[i], .bl true) := by unfold setZ; rw [List.getElem?_map, e]; rfl
    rw [e2] at hk
    cases hk
    refine hs M[i] H2 _ _ (List.getElem_mem _) sm (fun H4 s4 => ⟨_, s4 _ _ eD, ?_, same_two (sm.trans s4) hD, ?_⟩)
    · rw [List.length_map, List.length_map, List.length_take]
      exact len1000 (by omega)
    · rw [upd_same, take_snoc e, List.map_append, List.map_append]
      rfl
  · obtain ⟨sm, eD⟩ := q
    rw [setZ_len, List.take_length] at eD
    exact hq H' sm eD
end Bf

set_option Elab.async false
set_option linter.all false
set_option maxRecDepth 100000
set_option maxHeartbeats 4000000
namespace Bf
open PySem PySem.Spec PyProof.Rows L2
/-! ### len(set(numbers)) -/
def rLenSetO (w : World) : List V → Hp → VK → Prop := fun vs H Q => ∃ (a : Addr) (S : Int → Bool) (n : Nat), vs = [.ref a] ∧ H a = some (SetO w a S n) ∧ ∀ ks : List Int, ks.Nodup → (∀ k, k ∈ ks ↔ S k = true) → ks.length = n → Q (.int (n : Int)) H
theorem cr_lenSetO {X : Cx} (hc : X.calm = true) : CallR X (.builtin "len") (rLenSetO X.w) := by
  intro pins s σ H vs us Q I r h
  obtain ⟨a, S, n, rfl, ha, q⟩ := h
  rw [Vals.ref1 r]
  obtain ⟨o, es, ep, t, ho, hx, hd, g, nd, hm, hb, hf, hn, _⟩ := setO_get I ha
  have hsz : (es.size : Int) < 2 ^ 63 := by
    have : scanBound < 2 ^ 62 := by unfold scanBound; decide
    omega
  refine call_len_set ho hx hd hf hsz ⟨.int (n : Int), H, I.tok _, ⟨_, by rw [hn]⟩, q (es.toList.map keyOf) nd (fun k => (hm k).symm) (by rw [List.length_map, Array.length_toList, hn])⟩
theorem nodup_len : ∀ (xs ks : List Int), ks.Nodup → (∀ k, k ∈ ks ↔ k ∈ xs) → ks.length ≤ xs.length ∧ (ks.length = xs.length → xs.Nodup)
  | [], ks, _, hm => by
    have : ks = [] := List.eq_nil_iff_forall_not_mem.mpr fun k hk => by have := (hm k).mp hk; cases this
    subst this
    exact ⟨Nat.le_refl _, fun _ => .nil⟩
  | a :: r, ks, nd, hm => by
    by_cases ha : a ∈ r
    · obtain ⟨h1, h2⟩ := nodup_len r ks nd fun k => by rw [hm k, List.mem_cons]; exact ⟨fun h => h.elim (fun e => e ▸ ha) id, .inr⟩
      refine ⟨by rw [List.length_cons]; omega, fun e => ?_⟩
      rw [List.length_cons] at e
      omega
    · have hak : a ∈ ks := (hm a).mpr (by simp)
      obtain ⟨h1, h2⟩ := nodup_len r (ks.erase a) (nd.erase a) fun k => by
        rw [nd.mem_erase_iff, hm k, List.mem_cons]
        constructor
        · rintro ⟨h0, h | h⟩
          · exact absurd h h0
          · exact h
        · intro h
          exact ⟨fun e => ha (e ▸ h), .inr h⟩
      have hl := List.length_erase_of_mem hak
      have h0 : 1 ≤ ks.length := List.length_pos_of_mem hak
      refine ⟨by rw [List.length_cons]; omega, fun e => List.nodup_cons.mpr ⟨ha, h2 ?_⟩⟩
      rw [List.length_cons] at e
      omega
theorem nodup_iff_len {xs ks : List Int} (nd : ks.Nodup) (hm : ∀ k, k ∈ ks ↔ k ∈ xs) : ks.length = xs.length ↔ xs.Nodup := by
  refine ⟨(nodup_len xs ks nd hm).2, fun h => ?_⟩
  have h1 := (nodup_len xs ks nd hm).1
  have h2 := (nodup_len ks xs h fun k => (hm k).symm).1
  omega
end Bf

set_option Elab.async false
set_option linter.all false
set_option maxRecDepth 100000
set_option maxHeartbeats 4000000
namespace Bf
open PySem PySem.Spec PyProof.Rows L2
/-! ### tuple * int, any number of times -/
theorem tuple_mul1 (l : Addr) (items : Array Value) (n : Nat) (dd : Option Addr) (sl : Array (Option Value)) (u : Tok) (hne : items.isEmpty = false) :
    Meets (Builtin.«tuple.__mul__» ⟨[.ref l, .int 1 u], []⟩) (fun _ R s => s.heap.get? l = some { cls := .type "tuple", dict := dd, data := .seq items n, slots := sl } ∧ R (.ok (.ret (Value.ref l))) s) :=
  .of_wp fun prog w A R s h => by
    obtain ⟨hp, g, d, tk, os⟩ := s
    obtain ⟨hl, h⟩ := h
    have f1 := AutoSeq1.idx_int
    have c1 : (items.isEmpty || (1 : Int) == 1) = true := by rw [hne]; rfl
    wp_walk using wpAny_loadPart' hl
    repeat (first
      | (refine wpAny_ite_false (by decide) ?_; wp_walk using wpAny_loadPart' hl)
      | (refine wpAny_ite_true (by simp) ?_; wp_walk using wpAny_loadPart' hl))
    exact ⟨_, rfl, h⟩
theorem tuple_mul0 (l : Addr) (items : Array Value) (n : Nat) (dd : Option Addr) (sl : Array (Option Value)) (u : Tok) (hne : items.isEmpty = false) :
    Meets (Builtin.«tuple.__mul__» ⟨[.ref l, .int 0 u], []⟩) (fun _ R s => s.heap.get? l = some { cls := .type "tuple", dict := dd, data := .seq items n, slots := sl } ∧
      R (.ok (.ret (Value.ref s.heap.objs.size))) { s with heap := s.heap.push { cls := Value.type "tuple", data := Data.seq #[] }, toks := s.toks }) :=
  .of_wp fun prog w A R s h => by
    obtain ⟨hp, g, d, tk, os⟩ := s
    obtain ⟨hl, h⟩ := h
    have f1 := AutoSeq1.idx_int
    have c1 : (items.isEmpty || (0 : Int) == 1) = false := by rw [hne]; rfl
    wp_walk using wpAny_loadPart' hl
    repeat (first
      | (refine wpAny_ite_false (decide_eq_false (by rw [c1]; exact Bool.false_ne_true)) ?_; wp_walk using wpAny_loadPart' hl)
      | (refine wpAny_ite_false (by decide) ?_; wp_walk using wpAny_loadPart' hl)
      | (refine wpAny_ite_true (by simp) ?_; wp_walk using wpAny_loadPart' hl))
    exact ⟨_, rfl, h⟩
def rRepTA (K : PySem.W.Frag) : R2 := fun x y H Q => ∃ (l : Addr) (k : Nat) (xs : List V), x = .ref l ∧ y = .int (k : Int) ∧ H l = some (.tup xs) ∧ xs ≠ [] ∧ k ≤ 1000 ∧ xs.length ≤ 1000 ∧ ∀ (t : Addr) (H' : Hp), Same H H' → H' t = some (.tup (List.replicate k xs).flatten) → Q (.ref t) H'
section
variable {X : Cx}
theorem op_repTA : OpR X (binaryOp .Mult) (rRepTA X.K) := by
  intro pins s σ H x y v u Q I rx ry h
  obtain ⟨l, k, xs, rfl, rfl, hT, hne, hk, hz, q⟩ := h
  by_cases h2 : 2 ≤ k
  · exact op_repT pins s σ H _ _ v u Q I rx ry ⟨l, (k : Int), xs, rfl, rfl, SqT.of hT, hne, by omega, by omega, hz, fun p hp => by
      have e : ((k : Int)).toNat = k := by omega
      rw [e]
      exact q p _ (fun b o z => by rw [upd_ne (ne_of_none z hp)]; exact z) upd_same⟩
  cases rx
  obtain ⟨t, rfl⟩ := ry
  obtain ⟨its, r, ⟨⟨cls, dd, data, sl⟩, ho, hc, n, hd⟩, hs⟩ := I.tuple (SqT.of hT)
  simp only at hc hd
  subst hc hd
  have hle : its.length = xs.length := r.length.symm
  have hn : its ≠ [] := fun e => hne (by
    rw [e] at hle
    exact List.eq_nil_of_length_eq_zero hle.symm)
  have hi : its.toArray.isEmpty = false := by
    cases its with
    | nil => exact absurd rfl hn
    | cons a b => rfl
  have hk2 : k = 0 ∨ k = 1 := by omega
  rcases hk2 with rfl | rfl
  · refine wpAny_binaryOp_repeat_ref (T := "tuple") (U := "int") (by decide) ⟨_, ho, rfl⟩ (fun s' => typeIs_int s' 0 t) noFill_tuple_mul F.fills_int_mul F.slot_int_rmul repeat_tuple F.slot_int_index.lookup
      (call_meets F.slot_int_rmul (typeIs_int s 0 t) F.entry_int_rmul (F.args_int_rmul_2 _ _) (int_rmul_tuple 0 t l its.toArray n dd sl)
        ⟨ho, rfl, ⟨_, ho, rfl⟩, call_meets F.slot_tuple_mul ⟨_, ho, rfl⟩ F.entry_tuple_mul (F.args_tuple_mul_2 _ _) (tuple_mul0 l its.toArray n dd sl t hi) ⟨ho, ?_⟩⟩)
    have hf := I.hok.fresh (Nat.le_refl _)
    refine ⟨.ref s.heap.objs.size, _, I.laid (t' := s.toks) (o := .tup []) (fun b ob q => Heap.get?_push_of_some _ q) (Nat.le_refl _) ⟨Nat.zero_le _, [], .nil, IsTup.new _ _⟩, rfl, q _ _ (fun b o z => by rw [upd_ne (ne_of_none z hf)]; exact z) upd_same⟩
  · refine wpAny_binaryOp_repeat_ref (T := "tuple") (U := "int") (by decide) ⟨_, ho, rfl⟩ (fun s' => typeIs_int s' 1 t) noFill_tuple_mul F.fills_int_mul F.slot_int_rmul repeat_tuple F.slot_int_index.lookup
      (call_meets F.slot_int_rmul (typeIs_int s 1 t) F.entry_int_rmul (F.args_int_rmul_2 _ _) (int_rmul_tuple 1 t l its.toArray n dd sl)
        ⟨ho, rfl, ⟨_, ho, rfl⟩, call_meets F.slot_tuple_mul ⟨_, ho, rfl⟩ F.entry_tuple_mul (F.args_tuple_mul_2 _ _) (tuple_mul1 l its.toArray n dd sl t hi) ⟨ho, ?_⟩⟩)
    refine ⟨.ref l, H, I, rfl, q l H (.refl _) ?_⟩
    rw [show List.replicate 1 xs = [xs] from rfl, List.flatten_singleton]
    exact hT
end
end Bf

set_option Elab.async false
set_option linter.all false
set_option maxRecDepth 100000
set_option maxHeartbeats 4000000
namespace Bf
open PySem PySem.Spec PyProof.Rows L2
/-! ### zip of three -/
def ItZ3 (S1 S2 S3 : Src) (K : PySem.W.Frag) (a b d : Addr) : It :=
  ⟨fun i H => ∃ (xs ys us : List V) (x y u : V), S1.sq K H a xs ∧ S2.sq K H b ys ∧ S3.sq K H d us ∧ xs[i]? = some x ∧ ys[i]? = some y ∧ us[i]? = some u,
    fun i H v H' => ∃ T x y u, v = .ref T ∧ H T = none ∧ H' = upd H T (.tup [x, y, u]) ∧ (∀ xs, S1.sq K H a xs → xs[i]? = some x) ∧ (∀ ys, S2.sq K H b ys → ys[i]? = some y) ∧ ∀ us, S3.sq K H d us → us[i]? = some u,
    fun i H => ∃ xs ys us : List V, S1.sq K H a xs ∧ S2.sq K H b ys ∧ S3.sq K H d us ∧ i ≤ xs.length ∧ i ≤ ys.length ∧ i ≤ us.length ∧ (i = xs.length ∨ i = ys.length ∨ i = us.length)⟩
theorem turn_zipG3 (S1 S2 S3 : Src) {P : Program} {w : World} {K : PySem.W.Frag} {elts : List Expr} {kk : Nat} {tpos : Pos} {a b d z TI TO i1 i2 i3 : Addr} (D : ZipSep3 z TI TO i1 i2 i3 [i1, a] [i2, b] [i3, d]) (ha1 : a ≠ i1) (hb2 : b ≠ i2) (hd3 : d ≠ i3) :
    Turn P w K (.Tuple elts kk tpos) (ItZ3 S1 S2 S3 K a b d) [z, TI, TO, i1, i2, i3] z (fun i h => IsZip h z TI TO .none ∧ IsTupOf3 h TI (.ref i1) (.ref i2) (.ref i3) ∧ (∃ x y u, IsTupOf3 h TO x y u) ∧ S1.itr h i1 a i ∧ S2.itr h i2 b i ∧ S3.itr h i3 d i) where
  mem := by simp
  obj := fun i h st c hc => by
    obtain ⟨hz, hTI, ⟨x, y, u, hTO⟩, h1, h2, h3⟩ := st
    have e' : c = z ∨ c = TI ∨ c = TO ∨ c = i1 ∨ c = i2 ∨ c = i3 := by simpa using hc
    rcases e' with q | q | q | q | q | q
    · rw [q]; exact ⟨_, hz, fun v q => nomatch q⟩
    · rw [q]; exact ⟨_, hTI, fun v q => nomatch q⟩
    · rw [q]; exact ⟨_, hTO, fun v q => nomatch q⟩
    · rw [q]; exact S1.obj h1
    · rw [q]; exact S2.obj h2
    · rw [q]; exact S3.obj h3
  keep := fun i h h' st k => by
    obtain ⟨hz, hTI, ⟨x, y, u, hTO⟩, h1, h2, h3⟩ := st
    exact ⟨k z (by simp) _ hz, k TI (by simp) _ hTI, ⟨x, y, u, k TO (by simp) _ hTO⟩, S1.at_ h1 fun o q => k i1 (by simp) o q, S2.at_ h2 fun o q => k i2 (by simp) o q, S3.at_ h3 fun o q => k i3 (by simp) o q⟩
  item := by
    intro X hP hw hK hc i pins s σ H E I hf st hg
    subst hP hw hK
    obtain ⟨hz, hTI, ⟨x0, y0, u0, hTO⟩, h1, h2, h3⟩ := st
    obtain ⟨xs, ys, us, x, y, w0, hqx, hqy, hqu, hx, hy, hw0⟩ := hg
    obtain ⟨its, rv, p⟩ := S1.inv I hqx
    obtain ⟨its2, rv2, p2⟩ := S2.inv I hqy
    obtain ⟨its3, rv3, p3⟩ := S3.inv I hqu
    obtain ⟨u, hu, ru⟩ := rv.get hx
    obtain ⟨u2, hu2, ru2⟩ := rv2.get hy
    obtain ⟨u3, hu3, ru3⟩ := rv3.get hw0
    have hzl : z < s.heap.objs.size := Heap.lt_size hz
    have hlt : i < its.toArray.size := by
      have q := (List.getElem?_eq_some_iff.mp hu).1
      simpa using q
    have hlt2 : i < its2.toArray.size := by
      have q := (List.getElem?_eq_some_iff.mp hu2).1
      simpa using q
    have hlt3 : i < its3.toArray.size := by
      have q := (List.getElem?_eq_some_iff.mp hu3).1
      simpa using q
    have hh : X.A.in1.handled = none := I.ok.hd hc
    refine wpAny_pyNext_zipD3_item D (S1.draws hh i1 a ha1 its.toArray) (S2.draws hh i2 b hb2 its2.toArray) (S3.draws hh i3 d hd3 its3.toArray) hz hTI hTO ⟨h1, p⟩ ⟨h2, p2⟩ ⟨h3, p3⟩ hlt hlt2 hlt3 fun v v2 v3 h' tk hv hv2 hv3 z' TO' st1 st2 st3 hT hsz hk => ?_
    have ev : u = v := by
      have q : its[i]? = some v := by simpa using hv
      rw [hu] at q; cases q; rfl
    have ev2 : u2 = v2 := by
      have q : its2[i]? = some v2 := by simpa using hv2
      rw [hu2] at q; cases q; rfl
    have ev3 : u3 = v3 := by
      have q : its3[i]? = some v3 := by simpa using hv3
      rw [hu3] at q; cases q; rfl
    subst ev ev2 ev3
    refine ⟨_, rfl, wpAny_letOwnedTupleGo_zip (s := { s with heap := h', toks := tk }) z' fun h'' z'' sb => ?_⟩
    have hT2 : h''.get? s.heap.objs.size = some { cls := .type "tuple", data := .seq #[u, u2, u3] } := (sb.2 _ (Nat.ne_of_gt hzl)).trans hT
    have new : ObjOk X.prog X.w (upd H s.heap.objs.size (.tup [x, y, w0])) h'' s.heap.objs.size (.tup [x, y, w0]) :=
      ⟨by show 3 ≤ sizeLine; decide, [u, u2, u3], .cons ru (.cons ru2 (.cons ru3 .nil)), ⟨_, hT2, rfl, _, rfl⟩⟩
    have I1 : Inv X pins σ (upd H s.heap.objs.size (.tup [x, y, w0])) { s with heap := h'', toks := tk } :=
      I.turnedNew (ch := [z, TI, TO, i1, i2, i3]) (fun c o hb q => (sb.2 c (fun q' => hb (by simp [q']))).trans (hk c o (fun q' => hb (by simp [q'])) (fun q' => hb (by simp [q'])) (fun q' => hb (by simp [q'])) (fun q' => hb (by simp [q'])) (fun q' => hb (by simp [q'])) q)) hf (Nat.le_refl _) new
    have zi1 : i1 ≠ z := fun q => D.zf1 (by simp [q])
    have zi2 : i2 ≠ z := fun q => D.zf2 (by simp [q])
    have zi3 : i3 ≠ z := fun q => D.zf3 (by simp [q])
    refine ⟨.ref s.heap.objs.size, _, I1, rfl, ⟨_, x, y, w0, rfl, I.hok.fresh (Nat.le_refl _), rfl, fun l hl => by rw [S1.inj I hl hqx]; exact hx, fun l hl => by rw [S2.inj I hl hqy]; exact hy, fun l hl => by rw [S3.inj I hl hqu]; exact hw0⟩, ⟨z'', ?_, ⟨u, u2, u3, ?_⟩, ?_, ?_, ?_⟩, fun c hcm => ?_⟩
    · exact (sb.2 _ D.TIz).trans (hk _ _ D.TIz D.TITO D.TIi1 D.TIi2 D.TIi3 hTI)
    · exact (sb.2 _ D.TOz).trans TO'
    · exact S1.at_ st1.1 fun o q => (sb.2 _ zi1).trans q
    · exact S2.at_ st2.1 fun o q => (sb.2 _ zi2).trans q
    · exact S3.at_ st3.1 fun o q => (sb.2 _ zi3).trans q
    · have hlt : c < s.heap.objs.size := by
        have e' : c = z ∨ c = TI ∨ c = TO ∨ c = i1 ∨ c = i2 ∨ c = i3 := by simpa using hcm
        rcases e' with q | q | q | q | q | q
        · rw [q]; exact hzl
        · rw [q]; exact Heap.lt_size hTI
        · rw [q]; exact Heap.lt_size hTO
        · rw [q]; obtain ⟨_, e1, _⟩ := S1.obj h1; exact Heap.lt_size e1
        · rw [q]; obtain ⟨_, e2, _⟩ := S2.obj h2; exact Heap.lt_size e2
        · rw [q]; obtain ⟨_, e3, _⟩ := S3.obj h3; exact Heap.lt_size e3
      rw [upd_ne (Nat.ne_of_lt hlt)]
      exact (hf c hcm).1
  done := by
    intro X hP hw hK hc i pins s σ H E I hf st hg
    subst hP hw hK
    obtain ⟨hz, hTI, ⟨x0, y0, u0, hTO⟩, h1, h2, h3⟩ := st
    obtain ⟨xs, ys, us, hqx, hqy, hqu, le1, le2, le3, hend⟩ := hg
    obtain ⟨its, rv, p⟩ := S1.inv I hqx
    obtain ⟨its2, rv2, p2⟩ := S2.inv I hqy
    obtain ⟨its3, rv3, p3⟩ := S3.inv I hqu
    have l1 := rv.length
    have l2 := rv2.length
    have l3 := rv3.length
    have hh : X.A.in1.handled = none := I.ok.hd hc
    exact wpAny_pyNext_zipD3_end D (S1.draws hh i1 a ha1 its.toArray) (S2.draws hh i2 b hb2 its2.toArray) (S3.draws hh i3 d hd3 its3.toArray) hz hTI hTO ⟨h1, p⟩ ⟨h2, p2⟩ ⟨h3, p3⟩ (by rw [List.size_toArray]; omega) (by rw [List.size_toArray]; omega) (by rw [List.size_toArray]; omega)
      (by rw [List.size_toArray, List.size_toArray, List.size_toArray]; omega) fun h' tk hk => ⟨rfl, I.turnedL (t' := tk) (ch := [z, TI, TO, i1, i2, i3]) (fun c o hb q =>
      hk c o (fun q' => hb (by simp [q'])) (fun q' => hb (by simp [q'])) (fun q' => hb (by simp [q'])) (fun q' => hb (by simp [q'])) (fun q' => hb (by simp [q'])) q) hf⟩
  self := fun A i s Q E st h => wpAny_pyIter_zip st.1 h
theorem zipG3_run (S1 S2 S3 : Src) {X : Cx} {pins : List (Addr × Obj)} {σ : L2.St} {H1 : Hp} {s1 : Shared} {us : List Value} {vs : List V} {elts : List Expr} {kk : Nat} {tpos : Pos} {R : It → Hp → Prop} (I1 : Inv X pins σ H1 s1) (r1 : Vals vs us)
    (q1 : ∃ (a b d : Addr) (xs ys ws : List V), vs = [.ref a, .ref b, .ref d] ∧ S1.sq X.K H1 a xs ∧ S2.sq X.K H1 b ys ∧ S3.sq X.K H1 d ws ∧ R (ItZ3 S1 S2 S3 X.K a b d) H1) :
    wpAny (model X.prog X.w) X.A (call (.type "zip") us) (fun v s1 => wpAny (model X.prog X.w) X.A (pyIter v) (PIE X pins σ (.Tuple elts kk tpos) R) X.xe s1) X.xe s1 := by
  obtain ⟨a, b, d, xs, ys, ws, ex, hqx, hqy, hqu, q⟩ := q1
  subst ex
  cases r1 with
  | cons r rr =>
    cases rr with
    | cons r' rr =>
      cases rr with
      | cons r'' rr =>
        cases rr
        cases r
        cases r'
        cases r''
        obtain ⟨its, rv, p1⟩ := S1.inv I1 hqx
        obtain ⟨its2, rv2, p2⟩ := S2.inv I1 hqy
        obtain ⟨its3, rv3, p3⟩ := S3.inv I1 hqu
        have la := S1.lt p1
        have lb := S2.lt p2
        have ld := S3.lt p3
        refine zip_begins3 (S1.beg a its.toArray) (S2.beg b its2.toArray) (S3.beg d its3.toArray) p1 p2 p3 fun h' hz hTI hTO h1 h2 h3 hsz hk => wpAny_pyIter_zip hz ?_
        have I2 : Inv X pins σ H1 { s1 with heap := h' } := I1.kept (t' := s1.toks) hk
        refine ⟨s1.heap.objs.size + 5, [s1.heap.objs.size + 5, s1.heap.objs.size + 3, s1.heap.objs.size + 4, s1.heap.objs.size, s1.heap.objs.size + 1, s1.heap.objs.size + 2], _, _, H1, rfl, I2,
          turn_zipG3 S1 S2 S3 (zip_sep3 (fp1 := [a]) (fp2 := [b]) (fp3 := [d]) (by intro c hc; rw [List.mem_singleton.mp hc]; exact la) (by intro c hc; rw [List.mem_singleton.mp hc]; exact lb) (by intro c hc; rw [List.mem_singleton.mp hc]; exact ld)) (Nat.ne_of_lt la) (Nat.ne_of_lt (Nat.lt_succ_of_lt lb)) (Nat.ne_of_lt (Nat.lt_succ_of_lt (Nat.lt_succ_of_lt ld))),
          ⟨hz, hTI, ⟨_, _, _, hTO⟩, S1.start h1, S2.start h2, S3.start h3⟩, fun c hcm => ?_, q⟩
        have e' : c = s1.heap.objs.size + 5 ∨ c = s1.heap.objs.size + 3 ∨ c = s1.heap.objs.size + 4 ∨ c = s1.heap.objs.size ∨ c = s1.heap.objs.size + 1 ∨ c = s1.heap.objs.size + 2 := by simpa using hcm
        have hle : s1.heap.objs.size ≤ c := by
          rcases e' with z | z | z | z | z | z
          · rw [z]; exact Nat.le_add_right _ _
          · rw [z]; exact Nat.le_add_right _ _
          · rw [z]; exact Nat.le_add_right _ _
          · rw [z]; exact Nat.le_refl _
          · rw [z]; exact Nat.le_add_right _ _
          · rw [z]; exact Nat.le_add_right _ _
        exact I1.fpOk hle (I1.hok.fresh hle)
/-- for over them -/
theorem for_zip3 (S1 S2 S3 : Src) {K : PySem.W.Frag} {a b d : Addr} {xs ys us : List V} {g : TG} {tb : TS} {D : Ends} {σ : L2.St} {H : Hp} {n : Nat} (hn : n = min (min xs.length ys.length) us.length) (Pv : Nat → L2.St → Hp → Prop) (h0 : Pv 0 σ H) (hq : ∀ i σ H, Pv i σ H → S1.sq K H a xs ∧ S2.sq K H b ys ∧ S3.sq K H d us)
    (hs : ∀ (i : Nat) (x y u : V) (T : Addr) (σ : L2.St) (H : Hp), xs[i]? = some x → ys[i]? = some y → us[i]? = some u → Pv i σ H → H T = none → g (.ref T) σ (upd H T (.tup [x, y, u])) fun σ2 H2 => tb { D with nx := Pv (i + 1), ct := Pv (i + 1), bk := D.nx } σ2 H2) (hd : ∀ σ H, Pv n σ H → D.nx σ H) :
    ∃ W : Nat → Nat → L2.St → Hp → Prop, (∃ m, W 0 m σ H) ∧ ∀ i m σ H, W i m σ H →
      ((ItZ3 S1 S2 S3 K a b d).stop i H ∧ D.nx σ H) ∨ ((ItZ3 S1 S2 S3 K a b d).go i H ∧ ∃ N : L2.St → Hp → Prop, (∀ σ' H', N σ' H' → ∃ m', m' < m ∧ W (i + 1) m' σ' H') ∧ ∀ v H', (ItZ3 S1 S2 S3 K a b d).yld i H v H' → g v σ H' fun σ2 H2 => tb { D with nx := N, ct := N, bk := D.nx } σ2 H2) := by
  refine ⟨fun i m σ H => m = n - i ∧ i ≤ n ∧ Pv i σ H, ⟨n, rfl, Nat.zero_le _, h0⟩, ?_⟩
  rintro i m σ H ⟨rfl, hi, p⟩
  obtain ⟨qx, qy, qu⟩ := hq i σ H p
  by_cases hlt : i < n
  · have hx : xs[i]? = some xs[i] := List.getElem?_eq_getElem (by omega)
    have hy : ys[i]? = some ys[i] := List.getElem?_eq_getElem (by omega)
    have hu : us[i]? = some us[i] := List.getElem?_eq_getElem (by omega)
    refine .inr ⟨⟨xs, ys, us, _, _, _, qx, qy, qu, hx, hy, hu⟩, Pv (i + 1), fun σ' H' p' => ⟨n - (i + 1), by omega, rfl, hlt, p'⟩, fun v H' y => ?_⟩
    obtain ⟨T, x', y', u', rfl, hT, rfl, f1, f2, f3⟩ := y
    exact hs i x' y' u' T σ H (f1 xs qx) (f2 ys qy) (f3 us qu) p hT
  · have e : i = n := by omega
    subst e
    exact .inl ⟨⟨xs, ys, us, qx, qy, qu, by omega, by omega, by omega, by omega⟩, hd σ H p⟩
def iZp3 (K : PySem.W.Frag) (ta : TA) : TI := fun σ H R => ta σ H fun vs H1 => ∃ (S1 S2 S3 : Src) (a b d : Addr) (xs ys us : List V), vs = [.ref a, .ref b, .ref d] ∧ S1.sq K H1 a xs ∧ S2.sq K H1 b ys ∧ S3.sq K H1 d us ∧ R (ItZ3 S1 S2 S3 K a b d) H1
theorem pi_zip3 {X : Cx} {e e2 e3 : Expr} {ta : TA} {p pos tpos : Pos} {elts : List Expr} {kk : Nat} (hg : Gl X "zip") (hm : X.mg "zip" = none) (ha : PA X [e, e2, e3] ta)
    (hs : starEach [e, e2, e3] X.env = (false, eval e X.env) :: starEach [e2, e3] X.env := by rfl) (hpl : (backTo pos (starEach [e2, e3] X.env)).any (·.1) = false := by rfl) :
    PI X (.Tuple elts kk tpos) (.Call (.Name "zip" p) [e, e2, e3] [] pos) (iZp3 X.K ta) := by
  refine ⟨fun pins s σ H R I h => ?_⟩
  have h' : ta σ H fun vs H1 => ∃ S1 S2 S3 : Src, ∃ (a b d : Addr) (xs ys us : List V), vs = [.ref a, .ref b, .ref d] ∧ S1.sq X.K H1 a xs ∧ S2.sq X.K H1 b ys ∧ S3.sq X.K H1 d us ∧ R (ItZ3 S1 S2 S3 X.K a b d) H1 := h
  refine Call_ (ld_blt I hg hm PyProof.Rows.boot_zip (PyProof.Rows.callWith_type1 (thn (ha.run pos pins s σ H _ I h') fun us s1 ⟨vs, H1, I1, r1, q1⟩ => ?_) hs hpl))
  obtain ⟨S1, S2, S3, a, b, d, xs, ys, ws, ex, hqx, hqy, hqu, q⟩ := q1
  exact zipG3_run S1 S2 S3 I1 r1 ⟨a, b, d, xs, ys, ws, ex, hqx, hqy, hqu, q⟩
end Bf

set_option Elab.async false
set_option linter.all false
set_option maxRecDepth 100000
set_option maxHeartbeats 4000000
namespace Bf
open PySem PySem.Spec PyProof.Rows L2
theorem noTake {X : Cx} : Takes X (fun _ _ _ _ => False) := fun u s' ⟨_, _, _, _, _, _, _, _, _, _, _, _, _, _, _, _, w⟩ => w.elim
theorem hu65 {k : Nat} {A : Around} (hr : Room k A) : A.units + 65 < cLine := by have := hr.un; omega
end Bf

set_option Elab.async false
set_option linter.all false
set_option maxRecDepth 100000
set_option maxHeartbeats 4000000
namespace Bf
open PySem PySem.Spec PyProof.Rows L2
/-! ### sorted of a list of data that are alike, any number of them -/
theorem each_of {H : Hp} {β : Type} {enc : β → PyData} : ∀ {vs : List V} {its : List Value} {bs : List β}, Vals vs its → LayAll H vs (bs.map enc) → PySem.W.EachIs (fun (u : Value) (b : β) => ∃ x : V, RelV x u ∧ Lay H x (enc b)) its bs
  | [], its, [], r, _ => by cases r; exact .nil
  | v :: vs, its, b :: bs, r, .cons a l => by
    cases r with
    | cons ra rl => exact .cons ⟨v, ra, a⟩ (each_of rl l)
theorem each_back {H : Hp} {β : Type} {enc : β → PyData} : ∀ {its : List Value} {bs : List β}, PySem.W.EachIs (fun (u : Value) (b : β) => ∃ x : V, RelV x u ∧ Lay H x (enc b)) its bs → ∃ vs : List V, Vals vs its ∧ LayAll H vs (bs.map enc)
  | _, _, .nil => ⟨[], .nil, .nil⟩
  | _, _, .cons ⟨x, r, l⟩ t => by
    obtain ⟨vs, r2, l2⟩ := each_back t
    exact ⟨x :: vs, .cons r r2, .cons l l2⟩
def rSortedD (K : PySem.W.Frag) : List V → Hp → VK → Prop := fun xs H Q => ∃ (β : Type) (a : Addr) (vs : List V) (bs : List β) (enc : β → PyData), xs = [V.ref a] ∧ SqL K H a vs ∧ LayAll H vs (bs.map enc) ∧ PySem.W.AllAlike (bs.map enc) ∧ PySem.W.Sortable (bs.map enc) ∧ (∀ b ∈ bs, (enc b).depth ≤ 32) ∧
  ∀ us p, LayAll H us ((bs.mergeSort (PySem.W.dataLe false enc)).map enc) → H p = none → Q (.ref p) (upd H p (.lst us))
section
variable {X : Cx}
theorem cr_sortedD (hu : X.A.units + 64 < cLine) : CallR X (.builtin "sorted") (rSortedD X.K) := by
  intro pins s σ H vs us Q I r h
  obtain ⟨β, a, xs, bs, enc, rfl, hs, hl, hal, hk, hd, q⟩ := h
  obtain ⟨its, rv, hpl, hz⟩ := I.list hs
  obtain ⟨u, rfl, ru⟩ := vals1 r
  obtain rfl : u = Value.ref a := ru
  have e := each_of rv hl
  have hlen : xs.length = bs.length := by simpa using hl.len
  refine PySem.W.sorted_data (R := fun (u : Value) (b : β) => ∃ x : V, RelV x u ∧ Lay H x (enc b)) hpl.isList e (e.mono fun u b ⟨x, rx, lx⟩ => Dp.reads I _ _ _ lx.dp' rx) hal hk (by omega) (fun b hb => by have := hd b hb; omega) fun out hol ho => ?_
  obtain ⟨ys, ry, ly⟩ := each_back ho
  obtain ⟨n, hn⟩ := sortedAll_at s.heap its (List.toArray out)
  have hyl : ys.length ≤ sizeLine := by
    have e1 : ys.length = out.length := ry.length
    omega
  refine ⟨.ref (s.heap.objs.size + 1), upd H (s.heap.objs.size + 1) (.lst ys), I.laid (t' := s.toks) (fun b o e => sortedAll_old e) (Nat.le_succ _) ⟨hyl, out, n, ry, hn⟩, rfl, q _ _ ly (I.hok.fresh (Nat.le_succ _))⟩
end
/-- what was sorted is the same, in an order -/
theorem sortD_perm {β : Type} (enc : β → PyData) (bs : List β) : (bs.mergeSort (PySem.W.dataLe false enc)).Perm bs := List.mergeSort_perm _ _
end Bf

set_option Elab.async false
set_option linter.all false
set_option maxRecDepth 100000
set_option maxHeartbeats 4000000
namespace Bf
open PySem PySem.Spec PyProof.Rows L2
section
variable {X : Cx}
/-- sorted(d), d a dict with int keys, of any length -/
theorem cr_sortedKeysI (hcalm : X.calm = true) : CallR X (.builtin "sorted") (fun xs H Q => ∃ (a : Addr) (kvs : List (Key × V)) (ks : List Int), xs = [.ref a] ∧ Rd H a (.dK kvs) ∧ kvs.map (·.1) = ks.map Sum.inl ∧
    ∀ (ys : List Int) (p : Addr), ys.Perm ks → ys.Pairwise (· ≤ ·) → H p = none → Q (.ref p) (upd H p (.lst (ys.map V.int)))) := by
  intro pins s σ H xs us Q I r q
  obtain ⟨a, kvs, ks, ex, hd, hks, q⟩ := q
  subst ex
  obtain ⟨u, eu, rx⟩ := vals1 r
  subst eu
  cases rx
  obtain ⟨z, lo, vs, rel, dd⟩ := dk_rd I.hok hd
  obtain ⟨ep, hat⟩ := dd.dictAt
  have hkeys : vs.map (·.1) = ks.map Sum.inl := rel.keys.symm.trans hks
  have hl : vs.length = ks.length := by
    have e := congrArg List.length hkeys
    rw [List.length_map, List.length_map] at e
    exact e
  have h16 : vs.length ≤ sizeLine := by
    rw [← Paired.length rel]
    exact z
  refine Calls.call_function_entry PyProof.Rows.kind_sorted PyProof.Rows.plain_sorted PyProof.Rows.entry_sorted (PyProof.Rows.args_sorted1 _) ?_
  unfold Builtin.«sorted»
  refine wpAny_bind (m := checkCount "sorted" 1 1 _) (wpAny_pure ?_)
  refine wpAny_bind (PySem.W.kdu_collect (A := X.A.in1) (PySem.W.kdl_dict (knd := mixKind X.prog X.w) (kvs := vs) (ep := ep) lo) (I.ok.hd hcalm) hat h16 fun h' tk acc hk hacc => ?_)
  have hal : acc.toList.length = ks.length := by rw [Array.length_toList, hacc.1, hl]
  have hS : IntsAre acc.toList ks := ints_each hal fun j v e => by
    obtain ⟨k, x, e1, e2⟩ := hacc.2 j v (by rw [← Array.getElem?_toList]; exact e)
    have e3 : (vs.map (·.1))[j]? = some k := by rw [List.getElem?_map, e1]; rfl
    rw [hkeys, List.getElem?_map] at e3
    cases e4 : ks[j]? with
    | none => rw [e4] at e3; cases e3
    | some y =>
      rw [e4] at e3
      have e5 : Sum.inl y = k := Option.some.inj e3
      subst e5
      rcases keyIs_shape (show keyIs (Sum.inl y) v = true from e2) with ⟨i, t, ek, ev⟩ | ⟨z, t, ek, ev⟩
      · cases ek
        exact ⟨y, t, rfl, ev⟩
      · cases ek
  have I1 : Inv X pins σ H { s with heap := h', toks := tk } := I.kept hk
  have hal2 : acc.toList.length ≤ sizeLine := by rw [hal, ← hl]; exact h16
  refine wpAny_bind (wpAny_newList ?_ (by rw [hal, ← hl]; exact h16))
  have hoL : (h'.push (seqObj "list" acc.toList.toArray 0)).get? h'.objs.size = some (seqObj "list" acc.toList.toArray 0) := Heap.get?_push_size _ rfl
  show wpAny _ _ _ _ _ { s with heap := h'.push (seqObj "list" acc.toList.toArray 0), toks := tk }
  refine wpAny_bind (wpAny_holding (wpAny_call_entry PyProof.Rows.slot_list_sort ⟨_, hoL, rfl⟩ PyProof.Rows.entry_list_sort
    (SrtO.list_sort_ord (s := { s with heap := h'.push (seqObj "list" acc.toList.toArray 0), toks := tk }) SrtO.swo_int hoL hal2 (fun h2 => SrtO.ints_sortable hS h2) fun out h1 h2 => ⟨_, rfl, ?_⟩) (PyProof.Rows.args_list_sort _)))
  obtain ⟨g1, g2, g3⟩ := SrtO.ints_out hS h1 h2
  obtain ⟨e', he'⟩ := PyProof.Rows.sortedHeap_at (vs := acc.toList) (out := out.toArray) hoL
  have hlen : ((out.map SrtO.iv).map V.int).length ≤ sizeLine := by
    rw [List.length_map, g2.length_eq, ← hl]
    exact h16
  refine wpAny_pure ⟨_, rfl, .ref h'.objs.size, upd H h'.objs.size (.lst ((out.map SrtO.iv).map V.int)), I1.laid (t' := tk) (fun b u e => ?_) (Nat.le_refl _)
    (show ObjOk X.prog X.w _ _ _ (.lst ((out.map SrtO.iv).map V.int)) from ⟨hlen, out, e', vals_of_ints g1, he'⟩), rfl, q _ _ g2 g3 (I1.hok.fresh (Nat.le_refl _))⟩
  have hb : b < h'.objs.size := Heap.lt_size e
  rw [PyProof.Rows.sortedHeap_old (Nat.ne_of_lt hb) (by rw [size_push']; exact Nat.lt_succ_of_lt hb)]
  exact Heap.get?_push_of_some _ e
end
/-- two ascending lists of the same numbers are one -/
theorem sorted_same {xs ys : List Int} (hx : xs.Pairwise (· ≤ ·)) (hy : ys.Pairwise (· ≤ ·)) (h : xs.Perm ys) : xs = ys :=
  h.eq_of_pairwise (fun a b _ _ h1 h2 => Int.le_antisymm h1 h2) hx hy
end Bf

set_option Elab.async false
set_option linter.all false
set_option maxRecDepth 100000
set_option maxHeartbeats 4000000
namespace Bf
open PySem PySem.Spec PyProof.Rows L2
def topS (i : Nat) : Stmt := PySem.Challenge.pw_beatfabric_k59_bars_judged.main.body.getD i (.Pass ⟨0, 0, 0, 0⟩)
abbrev s_is_thing : Stmt := topS 1
abbrev s_first_and : Stmt := topS 3
abbrev s_reg_of : Stmt := topS 5
abbrev s_ends_from : Stmt := topS 6
abbrev s_held_of : Stmt := topS 7
abbrev s_trace_of : Stmt := topS 8
abbrev s_sources_of : Stmt := topS 10
abbrev s_follows : Stmt := topS 12
abbrev s_judge_bar : Stmt := topS 13
abbrev s_law_begin : Stmt := topS 15
abbrev s_law_draw : Stmt := topS 16
abbrev s_law_pick : Stmt := topS 17
abbrev s_law_pop : Stmt := topS 18
abbrev s_law_shuffled : Stmt := topS 19
abbrev s_law_pool : Stmt := topS 20
abbrev s_law_drawn_literal : Stmt := topS 21
abbrev s_law_open_net : Stmt := topS 22
abbrev s_law_open_pair : Stmt := topS 23
abbrev s_law_open_nexts : Stmt := topS 24
abbrev s_law_trace : Stmt := topS 25
abbrev s_law_ringed : Stmt := topS 26
abbrev s_law_feeds : Stmt := topS 27
abbrev s_law_takes_bar : Stmt := topS 28
abbrev s_law_next_ands : Stmt := topS 29
abbrev s_law_walk : Stmt := topS 30
abbrev s_law_way : Stmt := topS 31
abbrev s_law_ring : Stmt := topS 32
abbrev s_law_spoilt : Stmt := topS 33
abbrev s_law_is_judged : Stmt := topS 34
abbrev s_law : Stmt := topS 35
theorem sc_is_thing : FnScope ["number", "many"] ["number", "many"] (defScope s_is_thing) := ⟨rfl, rfl, rfl, by decide +kernel, rfl, by decide +kernel, by decide +kernel⟩
theorem sc_first_and : FnScope ["net"] ["net"] (defScope s_first_and) := ⟨rfl, rfl, rfl, by decide +kernel, rfl, by decide +kernel, by decide +kernel⟩
theorem sc_reg_of : FnScope ["net", "literal", "at"] ["net", "literal"] (defScope s_reg_of) := ⟨rfl, rfl, rfl, by decide +kernel, rfl, by decide +kernel, by decide +kernel⟩
theorem sc_ends_from : FnScope ["net", "start", "known", "way", "at", "ends", "passed"] ["net", "start", "known"] (defScope s_ends_from) := ⟨rfl, rfl, rfl, by decide +kernel, rfl, by decide +kernel, by decide +kernel⟩
theorem sc_held_of : FnScope ["net", "known", "at", "reg"] ["net"] (defScope s_held_of) := ⟨rfl, rfl, rfl, by decide +kernel, rfl, by decide +kernel, by decide +kernel⟩
theorem sc_trace_of : FnScope ["net", "literal", "row", "at", "_", "start", "follow"] ["net", "literal"] (defScope s_trace_of) := ⟨rfl, rfl, rfl, by decide +kernel, rfl, by decide +kernel, by decide +kernel⟩
theorem sc_sources_of : FnScope ["net", "rows", "pair", "traces", "literal", "row"] ["net"] (defScope s_sources_of) := ⟨rfl, rfl, rfl, by decide +kernel, rfl, by decide +kernel, by decide +kernel⟩
theorem sc_follows : FnScope ["sources", "first", "node", "other", "count"] ["sources", "first", "node", "other", "count"] (defScope s_follows) := ⟨rfl, rfl, rfl, by decide +kernel, rfl, by decide +kernel, by decide +kernel⟩
theorem sc_judge_bar : FnScope ["net", "clock", "bar", "word", "ands", "counts", "first", "node", "sources", "before", "count", "begins", "many"] ["net", "clock", "bar"] (defScope s_judge_bar) := ⟨rfl, rfl, rfl, by decide +kernel, rfl, by decide +kernel, by decide +kernel⟩
theorem sc_law_begin : FnScope ["_law_script", "_law_cell"] ["_law_script"] (defScope s_law_begin) := ⟨rfl, rfl, rfl, by decide +kernel, rfl, by decide +kernel, by decide +kernel⟩
theorem sc_law_draw : FnScope ["_law_d", "_law_many", "_law_found", "_law_size", "_law_cell"] ["_law_d", "_law_many"] (defScope s_law_draw) := ⟨rfl, rfl, rfl, by decide +kernel, rfl, by decide +kernel, by decide +kernel⟩
theorem sc_law_pick : FnScope ["_law_d", "_law_row"] ["_law_d", "_law_row"] (defScope s_law_pick) := ⟨rfl, rfl, rfl, by decide +kernel, rfl, by decide +kernel, by decide +kernel⟩
theorem sc_law_pop : FnScope ["_law_d", "_law_row"] ["_law_d", "_law_row"] (defScope s_law_pop) := ⟨rfl, rfl, rfl, by decide +kernel, rfl, by decide +kernel, by decide +kernel⟩
theorem sc_law_shuffled : FnScope ["_law_d", "_law_row", "_law_left", "_law_found", "_law_k"] ["_law_d", "_law_row"] (defScope s_law_shuffled) := ⟨rfl, rfl, rfl, by decide +kernel, rfl, by decide +kernel, by decide +kernel⟩
theorem sc_law_pool : FnScope ["_law_text"] [] (defScope s_law_pool) := ⟨rfl, rfl, rfl, by decide +kernel, rfl, by decide +kernel, by decide +kernel⟩
theorem sc_law_drawn_literal : FnScope ["_law_d", "_law_size", "_law_node"] ["_law_d", "_law_size"] (defScope s_law_drawn_literal) := ⟨rfl, rfl, rfl, by decide +kernel, rfl, by decide +kernel, by decide +kernel⟩
theorem sc_law_open_net : FnScope ["_law_d", "_law_inputs", "_law_regs", "_law_ands", "_law_outputs", "_law_claims", "_law_names", "_law_begin_here", "_law_first", "_law_mode", "_law_pairs", "_law_size", "_law_given", "_law_nexts", "_law_rows", "_law_shown", "_law_asked", "_law_k"] ["_law_d", "_law_inputs", "_law_regs", "_law_ands", "_law_outputs", "_law_claims"] (defScope s_law_open_net) := ⟨rfl, rfl, rfl, by decide +kernel, rfl, by decide +kernel, by decide +kernel⟩
theorem sc_law_open_pair : FnScope ["_law_d", "_law_begin_here", "_law_size", "_law_mode", "_law_base", "_law_nodes", "_law_k"] ["_law_d", "_law_begin_here", "_law_size", "_law_mode"] (defScope s_law_open_pair) := ⟨rfl, rfl, rfl, by decide +kernel, rfl, by decide +kernel, by decide +kernel⟩
theorem sc_law_open_nexts : FnScope ["_law_d", "_law_begin_here", "_law_first", "_law_size", "_law_order", "_law_others", "_law_k", "_law_nexts", "_law_done", "_law_turn", "_law_node"] ["_law_d", "_law_begin_here", "_law_first", "_law_size"] (defScope s_law_open_nexts) := ⟨rfl, rfl, rfl, by decide +kernel, rfl, by decide +kernel, by decide +kernel⟩
theorem sc_law_trace : FnScope ["_law_net", "_law_literal", "_law_first", "_law_row", "_law_k", "_law_at"] ["_law_net", "_law_literal"] (defScope s_law_trace) := ⟨rfl, rfl, rfl, by decide +kernel, rfl, by decide +kernel, by decide +kernel⟩
theorem sc_law_ringed : FnScope ["_law_d", "_law_net", "_law_first", "_law_ring_here", "_law_rows", "_law_k", "_law_row"] ["_law_d", "_law_net"] (defScope s_law_ringed) := ⟨rfl, rfl, rfl, by decide +kernel, rfl, by decide +kernel, by decide +kernel⟩
theorem sc_law_feeds : FnScope ["_law_net", "_law_found", "_law_pair", "_law_told", "_law_literal", "_law_row"] ["_law_net"] (defScope s_law_feeds) := ⟨rfl, rfl, rfl, by decide +kernel, rfl, by decide +kernel, by decide +kernel⟩
theorem sc_law_takes_bar : FnScope ["_law_net", "_law_feeds_here", "_law_clock", "_law_bar", "_law_begin_here", "_law_first", "_law_word", "_law_ands", "_law_counts", "_law_k", "_law_begun", "_law_ends", "_law_count", "_law_node"] ["_law_net", "_law_feeds_here", "_law_clock", "_law_bar"] (defScope s_law_takes_bar) := ⟨rfl, rfl, rfl, by decide +kernel, rfl, by decide +kernel, by decide +kernel⟩
theorem sc_law_next_ands : FnScope ["_law_feeds_here", "_law_first", "_law_at", "_law_found", "_law_k", "_law_count", "_law_node"] ["_law_feeds_here", "_law_first", "_law_at"] (defScope s_law_next_ands) := ⟨rfl, rfl, rfl, by decide +kernel, rfl, by decide +kernel, by decide +kernel⟩
theorem sc_law_walk : FnScope ["_law_d", "_law_feeds_here", "_law_first", "_law_count", "_law_at", "_law_most", "_law_ands", "_law_counts", "_law_step", "_law_row"] ["_law_d", "_law_feeds_here", "_law_first", "_law_count", "_law_at", "_law_most"] (defScope s_law_walk) := ⟨rfl, rfl, rfl, by decide +kernel, rfl, by decide +kernel, by decide +kernel⟩
theorem sc_law_way : FnScope ["_law_d", "_law_net", "_law_feeds_here", "_law_begin_here", "_law_first", "_law_row", "_law_k", "_law_count", "_law_at", "_law_ands", "_law_counts", "_law_node"] ["_law_d", "_law_net", "_law_feeds_here"] (defScope s_law_way) := ⟨rfl, rfl, rfl, by decide +kernel, rfl, by decide +kernel, by decide +kernel⟩
theorem sc_law_ring : FnScope ["_law_d", "_law_net", "_law_feeds_here", "_law_first", "_law_ands", "_law_counts", "_law_last", "_law_at", "_law_turns"] ["_law_d", "_law_net", "_law_feeds_here"] (defScope s_law_ring) := ⟨rfl, rfl, rfl, by decide +kernel, rfl, by decide +kernel, by decide +kernel⟩
theorem sc_law_spoilt : FnScope ["_law_d", "_law_bar", "_law_size", "_law_word", "_law_ands", "_law_counts", "_law_at", "_law_turn"] ["_law_d", "_law_bar", "_law_size"] (defScope s_law_spoilt) := ⟨rfl, rfl, rfl, by decide +kernel, rfl, by decide +kernel, by decide +kernel⟩
theorem sc_law_is_judged : FnScope ["_law_net", "_law_feeds_here", "_law_clock", "_law_bar", "_law_told"] ["_law_net", "_law_feeds_here", "_law_clock", "_law_bar"] (defScope s_law_is_judged) := ⟨rfl, rfl, rfl, by decide +kernel, rfl, by decide +kernel, by decide +kernel⟩
theorem sc_law : FnScope ["_law_script", "_law_d", "_law_inputs", "_law_regs", "_law_ands", "_law_net", "_law_feeds_here", "_law_bars", "_law_asked", "_law_bar", "_law_whole", "_law_most", "_law_clock", "_law_spoilt_here", "_law_other", "_law_k"] ["_law_script"] (defScope s_law) := ⟨rfl, rfl, rfl, by decide +kernel, rfl, by decide +kernel, by decide +kernel⟩
structure Txt (mg : Str → Option Value) : Prop where
  n_int : mg "int" = none
  n_len : mg "len" = none
  n_abs : mg "abs" = none
  n_isinstance : mg "isinstance" = none
  n_range : mg "range" = none
  n_tuple : mg "tuple" = none
  n_all : mg "all" = none
  n_list : mg "list" = none
  n_max : mg "max" = none
  n_min : mg "min" = none
  n_sorted : mg "sorted" = none
  n_set : mg "set" = none
  n_reversed : mg "reversed" = none
  n_bool : mg "bool" = none
  n_zip : mg "zip" = none
  n_enumerate : mg "enumerate" = none
  n_any : mg "any" = none
  n_sum : mg "sum" = none
/-! ### the draws -/
/-- what stood elsewhere stands -/
def Keep (S : List Addr) (H H' : Hp) : Prop := ∀ b o, b ∉ S → H b = some o → H' b = some o
theorem Keep.refl (S : List Addr) (H : Hp) : Keep S H H := fun _ _ _ h => h
theorem Keep.trans {S : List Addr} {H H1 H2 : Hp} (a : Keep S H H1) (b : Keep S H1 H2) : Keep S H H2 := fun c o n h => b c o n (a c o n h)
theorem Keep.of_same {S : List Addr} {H H1 : Hp} (a : Same H H1) : Keep S H H1 := fun c o _ h => a c o h
theorem Keep.wide {S S' : List Addr} {H H1 : Hp} (a : Keep S H H1) (h : ∀ b, b ∈ S → b ∈ S') : Keep S' H H1 := fun c o n e => a c o (fun q => n (h c q)) e
theorem Keep.upd {S : List Addr} {H : Hp} {a : Addr} {o : HO} (h : a ∈ S) : Keep S H (upd H a o) := fun b u n e => by
  rw [upd_ne (fun q => n (by rw [q]; exact h))]
  exact e
theorem Keep.new {S : List Addr} {H : Hp} {a : Addr} {o : HO} (h : H a = none) : Keep S H (L2.upd H a o) := fun b u n e => by
  rw [upd_ne (ne_of_none e h)]
  exact e
/-- the state of the draws -/
def DS (H : Hp) (a c : Addr) : Prop := ∃ (at_ left st : Int) (cells : List Int), H a = some (.lst [.ref c, .int at_, .int left, .int st, .int 3]) ∧ 0 ≤ at_ ∧ H c = some (.lst (cells.map V.int))
theorem DS.ne {H : Hp} {a c : Addr} {x : V} {xs : List V} {cells : List Int} (h : H a = some (.lst (.ref c :: xs))) (hc : H c = some (.lst (cells.map V.int))) : c ≠ a := by
  intro e
  rw [e, h] at hc
  have q := HO.lst.inj (Option.some.inj hc)
  cases cells with
  | nil => cases q
  | cons x r => cases (List.cons.inj q).1
theorem DS.keep {S : List Addr} {H H' : Hp} {a c : Addr} (h : DS H a c) (k : Keep S H H') (ha : a ∉ S) (hc : c ∉ S) : DS H' a c := by
  obtain ⟨at_, left, st, cells, h1, h2, h3⟩ := h
  exact ⟨at_, left, st, cells, k _ _ ha h1, h2, k _ _ hc h3⟩
theorem DS.same {H H' : Hp} {a c : Addr} (h : DS H a c) (k : Same H H') : DS H' a c := h.keep (S := []) (Keep.of_same k) (by simp) (by simp)
theorem DS.new {H : Hp} {a c l : Addr} (h : DS H a c) (hl : H l = none) : l ≠ a ∧ l ≠ c := by
  obtain ⟨at_, left, st, cells, h1, h2, h3⟩ := h
  exact ⟨(ne_of_none h1 hl).symm, (ne_of_none h3 hl).symm⟩
theorem pow6000 : (0 : Int) < 1 * 2 ^ (6000 : Int).toNat := by
  rw [Int.one_mul]
  exact Int.pow_pos (by decide)
def spDraw : Sp := fun vs H Q _ => ∃ (a c : Addr) (m : Int), vs = [.ref a, .int m] ∧ DS H a c ∧ 1 ≤ m ∧ m < 1073741824 ∧ ∀ (r : Int) (H' : Hp), 0 ≤ r → r < m → DS H' a c → Keep [a] H H' → Q (.int r) H'
section
variable {P : Program} {w : World} {K : PySem.W.Frag} {mg : Str → Option Value} {base : Heap}
theorem ok_draw {f : Addr} {fd : FuncData} (F : Fun K "_law_draw" "_law_draw" s_law_draw f fd) (T : Txt mg) : FnOk P w K mg base CX0 1 f fd ["_law_d", "_law_many"] spDraw := by
  refine F.ok sc_law_draw (fun vs H Q E h => ?_) (fun cdv A outer s H vs Q E hr h => ?_)
  · obtain ⟨a, c, m, rfl, _⟩ := h
    rfl
  obtain ⟨a, c, m, rfl, ⟨at_, left, st, cells, ha, h0, hc⟩, m1, m2, q⟩ := h
  have hca : c ≠ a := DS.ne (x := .non) ha hc
  refine ⟨_, (pss_cons (ps_if (pt_cmpR op_gt (pe_ix ix_list (pv 0) pe_int (fun _ _ => rfl)) pe_int (nomark _)) (pss_cons (ps_set (i := 2) sc_law_draw.nd rfl (Or.inl rfl) (pe_ix ix_list (pv 0) pe_int (fun _ _ => rfl)))
      (pss_cons (ps_asg (pe_op op_fdiv (pv 2) (pv 1)) (pg_sub (pv 0) pe_int set_list))
      (pss_one (ps_ret (pe_op op_mod (pe_callTy call_int1 (by rfl) T.n_int (by decide +kernel) (pa_cons (pv 2) pa_nil)) (pv 1)))))) pss_nil)
      (pss_cons (ps_set (i := 3) sc_law_draw.nd rfl (Or.inl rfl) pe_int)
      (C8.pss_cut (ps_if (pt_cmpR op_lt (pe_ix ix_list (pv 0) pe_int (fun _ _ => rfl)) (pe_callB call_len_seq (by rfl) T.n_len (by decide +kernel) (pa_cons (pe_ix ix_list (pv 0) pe_int (fun _ _ => rfl)) pa_nil)) (nomark _)) (pss_cons (ps_set (i := 4) sc_law_draw.nd rfl (Or.inl rfl) (pe_ix ix_list (pe_ix ix_list (pv 0) pe_int (fun _ _ => rfl)) (pe_ix ix_list (pv 0) pe_int (fun _ _ => rfl)) (fun _ _ => rfl)))
      (pss_one (ps_set (i := 3) sc_law_draw.nd rfl (Or.inl rfl) (pe_op op_add (pe_op op_mul pe_int (pe_callB call_abs (by rfl) T.n_abs (by decide +kernel) (pa_cons (pv 4) pa_nil))) (pe_callTy call_int1 (by rfl) T.n_int (by decide +kernel) (pa_cons (pe_cmpR op_lt (pv 4) pe_int (nomark _)) pa_nil)))))) pss_nil)
      (C8.pss_cut (ps_augS (pv 0) pe_int get_list pe_int ip_add set_list)
      (pss_cons (ps_if (pt_cmpR op_ge (pv 3) (pe_op op_mul pe_int (pe_op op_pow pe_int pe_int)) (nomark _)) (pss_cons (ps_set (i := 2) sc_law_draw.nd rfl (Or.inl rfl) (pe_op op_mod (pe_callTy call_int1 (by rfl) T.n_int (by decide +kernel) (pa_cons (pe_op op_fdiv (pv 3) pe_int) pa_nil)) (pe_op op_shl pe_int pe_int)))
      (pss_cons (ps_asg (pe_op op_fdiv (pv 2) (pv 1)) (pg_sub (pv 0) pe_int set_list))
      (pss_one (ps_ret (pe_op op_mod (pe_callTy call_int1 (by rfl) T.n_int (by decide +kernel) (pa_cons (pv 2) pa_nil)) (pv 1)))))) pss_nil)
      (pss_cons (ps_asg (pe_op op_mod (pe_callTy call_int1 (by rfl) T.n_int (by decide +kernel) (pa_cons (pe_op op_add (pe_op op_add (pe_op op_add (pe_op op_mul (pe_ix ix_list (pv 0) pe_int (fun _ _ => rfl)) pe_int) (pe_op op_mul (pe_op op_mod (pe_callTy call_int1 (by rfl) T.n_int (by decide +kernel) (pa_cons (pv 3) pa_nil)) pe_int) pe_int)) (pe_op op_mul (pe_ix ix_list (pv 0) pe_int (fun _ _ => rfl)) pe_int)) pe_int) pa_nil)) pe_int) (pg_sub (pv 0) pe_int set_list))
      (pss_one (ps_ret (pe_op op_mod (pe_callTy call_int1 (by rfl) T.n_int (by decide +kernel) (pa_cons (pe_op op_fdiv (pe_ix ix_list (pv 0) pe_int (fun _ _ => rfl)) pe_int) pa_nil)) (pv 1)))))))))), ?_⟩
  refine ⟨_, rfl, a, _, _, _, rfl, rfl, SqL.of ha, atI_nat (j := 2) rfl, _, _, rfl, rfl, _, rfl, ?_⟩
  refine ite2 (fun e => ?_) (fun e => ?_)
  · refine ⟨_, rfl, a, _, _, _, rfl, rfl, SqL.of ha, atI_nat (j := 2) rfl, ?_⟩
    refine ⟨_, rfl, _, rfl, left, m, rfl, rfl, ⟨by omega, by omega⟩, _, rfl, a, _, 2, 2, rfl, rfl, ha, rfl, ?_⟩
    refine ⟨_, rfl, .inl ⟨_, rfl, _, rfl, _, _, rfl, rfl, (by omega), ?_⟩⟩
    exact q _ _ (Int.emod_nonneg _ (by omega)) (Int.emod_lt_of_pos _ (by omega)) ⟨at_, left / m, st, cells, upd_same, h0, by rw [upd_ne hca]; exact hc⟩ (Keep.upd (by simp))
  · refine ⟨fun σ' H' => ∃ (z : Int) (v4 : Option V), σ' = [some (.ref a), some (.int m), none, some (.int z), v4] ∧ H' = H, ?_, ?_⟩
    · refine ⟨_, rfl, a, _, _, _, rfl, rfl, SqL.of ha, atI_nat (j := 1) rfl, _, rfl, a, _, _, _, rfl, rfl, SqL.of ha, atI_nat (j := 0) rfl, c, _, rfl, .inl (SqL.of hc), _, _, rfl, rfl, _, rfl, ?_⟩
      refine ite2 (fun e1 => ?_) (fun e1 => ?_)
      · have e2 : at_ < ((cells.map V.int).length : Nat) := of_decide_eq_true e1
        rw [List.length_map] at e2
        have hk : at_.toNat < cells.length := by omega
        have ek : ((at_.toNat : Nat) : Int) = at_ := by omega
        have q1 : atI (cells.map V.int) ((at_.toNat : Nat) : Int) = some (.int cells[at_.toNat]) := atI_nat (by rw [List.getElem?_map, List.getElem?_eq_getElem hk] <;> rfl)
        rw [ek] at q1
        refine ⟨_, rfl, a, _, _, _, rfl, rfl, SqL.of ha, atI_nat (j := 0) rfl, _, rfl, a, _, _, _, rfl, rfl, SqL.of ha, atI_nat (j := 1) rfl, c, _, _, _, rfl, rfl, SqL.of hc, q1, ?_⟩
        refine ⟨_, rfl, _, rfl, _, _, rfl, rfl, .inl ⟨by decide, by decide⟩, _, rfl, _, _, rfl, rfl, .inr ⟨_, rfl, _, _, rfl, rfl, ?_⟩⟩
        exact ⟨_, _, rfl, rfl⟩
      · exact ⟨_, _, rfl, rfl⟩
    · rintro σ' H' ⟨z, v4, rfl, rfl⟩
      refine ⟨fun σ' H1 => σ' = [some (.ref a), some (.int m), none, some (.int z), v4] ∧ H1 a = some (.lst [.ref c, .int (at_ + 1), .int left, .int st, .int 3]) ∧ H1 c = some (.lst (cells.map V.int)) ∧ Keep [a] H' H1, ?_, ?_⟩
      · exact ⟨_, rfl, a, _, 1, .int at_, rfl, rfl, ha, atI_nat (j := 1) rfl, at_, 1, rfl, rfl, a, _, 1, 1, rfl, rfl, ha, rfl, rfl, upd_same, by rw [upd_ne hca]; exact hc, Keep.upd (by simp)⟩
      rintro σ' H1 ⟨rfl, h1, h2, k1⟩
      refine ⟨_, rfl, _, _, rfl, rfl, ⟨by decide, by decide, by decide⟩, _, _, rfl, rfl, .inl ⟨by decide, by decide⟩, _, _, rfl, rfl, _, rfl, ?_⟩
      refine ite2 (fun e3 => ?_) (fun e3 => ?_)
      · refine ⟨_, rfl, z, 2, rfl, rfl, ⟨by decide, by decide⟩, .inl ⟨_, rfl, 1, 6000, rfl, rfl, ⟨by decide, by decide, by decide⟩, _, _, rfl, rfl, pow6000, ?_⟩⟩
        refine ⟨_, rfl, _, rfl, _, m, rfl, rfl, ⟨by omega, by omega⟩, _, rfl, a, _, 2, 2, rfl, rfl, h1, rfl, ?_⟩
        refine ⟨_, rfl, .inl ⟨_, rfl, _, rfl, _, _, rfl, rfl, (by omega), ?_⟩⟩
        refine q _ _ (Int.emod_nonneg _ (by omega)) (Int.emod_lt_of_pos _ (by omega)) ⟨at_ + 1, _, st, cells, upd_same, by omega, by rw [upd_ne hca]; exact h2⟩ (k1.trans (Keep.upd (by simp)))
      · refine ⟨_, rfl, a, _, _, _, rfl, rfl, SqL.of h1, atI_nat (j := 3) rfl, _, _, rfl, rfl, .inr ⟨by decide, by decide⟩, ?_⟩
        refine ⟨_, rfl, .inl ⟨_, rfl, _, _, rfl, rfl, (by show (0 : Int) < 2147483629; decide), _, _, rfl, rfl, .inr ⟨by decide, by decide⟩, _, _, rfl, rfl, ?_⟩⟩
        refine ⟨_, rfl, a, _, _, _, rfl, rfl, SqL.of h1, atI_nat (j := 1) rfl, _, _, rfl, rfl, .inr ⟨by decide, by decide⟩, _, _, rfl, rfl, _, _, rfl, rfl, .inl ⟨_, rfl, _, _, rfl, rfl, (by show (0 : Int) < 2147483647; decide), ?_⟩⟩
        refine ⟨_, rfl, a, _, 3, 3, rfl, rfl, h1, rfl, ?_⟩
        refine ⟨_, rfl, a, _, _, _, rfl, rfl, SqL.of upd_same, atI_nat (j := 3) rfl, _, _, rfl, rfl, ⟨by decide, by decide⟩, .inl ⟨_, rfl, _, rfl, _, _, rfl, rfl, (by omega), ?_⟩⟩
        exact q _ _ (Int.emod_nonneg _ (by omega)) (Int.emod_lt_of_pos _ (by omega)) ⟨at_ + 1, left, _, cells, upd_same, by omega, by rw [upd_ne hca]; exact h2⟩ (k1.trans (Keep.upd (by simp)))
end

/-! ### the beginning of the draws; a draw out of a list; is it an int -/
theorem same_new {H : Hp} {p : Addr} (h : H p = none) (o : HO) : Same H (upd H p o) := fun b u q => by rw [upd_ne (ne_of_none q h)]; exact q
theorem intAt {xs : List Int} {i : Nat} {x : V} (h : (xs.map V.int)[i]? = some x) : ∃ k, xs[i]? = some k ∧ x = V.int k := by
  rw [List.getElem?_map] at h
  cases e : xs[i]? with
  | none => rw [e] at h; cases h
  | some k => rw [e] at h; exact ⟨k, rfl, (Option.some.inj h).symm⟩
def spBegin (K : PySem.W.Frag) : Sp := fun vs H Q _ => ∃ (a : Addr) (ns : List Int), vs = [.ref a] ∧ SqL K H a (ns.map V.int) ∧ ns.length ≤ 63 ∧ ∀ (d c : Addr) (H' : Hp), H d = none → H c = none → DS H' d c → Same H H' → Q (.ref d) H'
section
variable {P : Program} {w : World} {K : PySem.W.Frag} {mg : Str → Option Value} {base : Heap}
theorem ok_begin {f : Addr} {fd : FuncData} (F : Fun K "_law_begin" "_law_begin" s_law_begin f fd) (T : Txt mg) : FnOk P w K mg base CX0 1 f fd ["_law_script"] (spBegin K) := by
  refine F.ok sc_law_begin (fun vs H Q E h => ?_) (fun cdv A outer s H vs Q E hr h => ?_)
  · obtain ⟨a, ns, rfl, _⟩ := h
    rfl
  obtain ⟨a, ns, rfl, hS, h63, q⟩ := h
  refine ⟨_, (pss_one (ps_ret (pe_lst (pa_cons (pe_lc (own := [("_law_cell", 1)]) (g := (gName 1)) (tt := tYes) rfl sc_law_begin.nd (pi_list (pv 0)) (blkOk_by (N := ["_law_script", "_law_cell"]) (sc := defScope s_law_begin) (by decide +kernel)) (fun _ _ _ _ _ => (pg_name (i := 1) sc_law_begin.nd rfl (Or.inl rfl))) (fun _ _ _ _ _ => pts_nil) (fun _ _ _ _ _ => (pe_callTy call_int1 (by rfl) T.n_int (by decide +kernel) (pa_cons (pv 1) pa_nil)))) (pa_cons pe_int (pa_cons pe_int (pa_cons pe_int (pa_cons pe_int pa_nil)))))))), ?_⟩
  refine ⟨_, rfl, a, rfl, ⟨_, hS⟩, fun D hD => lc_list (K := K) (a := a) (xs := ns.map V.int) (fun i H' => Same H H' ∧ H' D = some (.lst ((ns.take i).map V.int)))
    ⟨same_new hD _, upd_same⟩ (fun i H' _ p => p.1.seq hS) (fun i x H' hx p => ?_) (fun H' p => ?_)⟩
  · obtain ⟨k, hk, rfl⟩ := intAt hx
    refine ⟨rfl, _, rfl, .inl ⟨_, rfl, _, p.2, ?_, ?_, ?_⟩⟩
    · rw [List.length_map, List.length_take]
      exact small1000 (by omega)
    · intro b o e
      rw [upd_ne (ne_of_none e hD)]
      exact p.1 b o e
    · rw [upd_same, List.take_add_one, hk, List.map_append]
      rfl
  · rw [List.length_map, List.take_length] at p
    refine ⟨(by show 5 ≤ sizeLine; decide), fun l hl => ?_⟩
    have nDl : D ≠ l := ne_of_none p.2 hl
    refine q l D _ (p.1.free hl) hD ⟨0, 0, 7, ns, upd_same, Int.le_refl 0, by rw [upd_ne nDl]; exact p.2⟩ (p.1.trans (same_new hl _))
end

/-- a draw of an item of a list, which is taken out -/
def spPop : Sp := fun vs H Q _ => ∃ (d c l : Addr) (xs : List V), vs = [.ref d, .ref l] ∧ DS H d c ∧ H l = some (.lst xs) ∧ l ≠ d ∧ l ≠ c ∧ 1 ≤ xs.length ∧ xs.length ≤ 1000 ∧
  ∀ (k : Nat) (y : V) (H' : Hp), xs[k]? = some y → DS H' d c → H' l = some (.lst (xs.eraseIdx k)) → Keep [d, l] H H' → Q y H'
section
variable {P : Program} {w : World} {K : PySem.W.Frag} {mg : Str → Option Value} {base : Heap}
theorem ok_pop {f : Addr} {fd : FuncData} (F : Fun K "_law_pop" "_law_pop" s_law_pop f fd) (T : Txt mg) (D_law_draw : Dn P w K mg base "_law_draw" ["_law_d", "_law_many"] 1 spDraw) :
    FnOk P w K mg base CX0 2 f fd ["_law_d", "_law_row"] spPop := by
  refine F.ok sc_law_pop (fun vs H Q E h => ?_) (fun cdv A outer s H vs Q E hr h => ?_)
  · obtain ⟨d, c, l, xs, rfl, _⟩ := h
    rfl
  obtain ⟨d, c, l, xs, rfl, hd, hl, nld, nlc, h1, h2, q⟩ := h
  refine ⟨_, (pss_one (ps_ret (pe_bm PySem.F.plainAttrs_list PySem.F.slot_list_pop PySem.F.type_list_pop mt_popAt (pv 1) (pa_cons (pe_dn D_law_draw (hr.mono (by omega)) (by rfl) (pa_cons (pv 0) (pa_cons (pe_callB call_len_seq (by rfl) T.n_len (by decide +kernel) (pa_cons (pv 1) pa_nil)) pa_nil))) pa_nil)))), ?_⟩
  refine ⟨_, rfl, .inl ⟨rfl, _, SqL.of hl⟩, _, rfl, _, rfl, l, _, rfl, .inl (SqL.of hl), d, c, _, rfl, hd, (by omega), (by omega), fun r H' r0 r1 hd' k1 => ?_⟩
  have hl' : H' l = some (.lst xs) := k1 _ _ (by simp [nld]) hl
  have hk : r.toNat < xs.length := by omega
  refine ⟨l, xs, r, r.toNat, xs[r.toNat], rfl, rfl, hl', by omega, by omega, seqIndex_of r0 (by omega), List.getElem?_eq_getElem hk, ?_⟩
  refine q _ _ _ (List.getElem?_eq_getElem hk) (hd'.keep (S := [l]) (Keep.upd (by simp)) (by simp [nld.symm]) (by simp [nlc.symm])) upd_same ((k1.wide (by simp)).trans (Keep.upd (by simp)))
end

end Bf

set_option Elab.async false
set_option linter.all false
set_option maxRecDepth 100000
set_option maxHeartbeats 4000000
namespace Bf
open PySem PySem.Spec PyProof.Rows L2
/-! ### nets, as they lie -/
def intD (n : Nat) : PyData := .int (n : Int)
def regD (r : Str × Nat × Nat) : PyData := .tuple [.str r.1, intD r.2.1, intD r.2.2]
def pairD (p : Nat × Nat) : PyData := .tuple [intD p.1, intD p.2]
def namD (p : Str × Nat) : PyData := .tuple [.str p.1, intD p.2]
def netD (N : Net) : PyData := .tuple [.str "net", .tuple (N.ins.map PyData.str), .tuple (N.regs.map regD), .tuple (N.ands.map pairD), .tuple (N.outs.map namD), .tuple (N.cls.map namD)]
structure NetAt (H : Hp) (p pi pr pa po pc : Addr) (vr va vo vc : List V) (N : Net) : Prop where
  top : H p = some (.tup [.str "net", .ref pi, .ref pr, .ref pa, .ref po, .ref pc])
  hi : H pi = some (.tup (N.ins.map V.str))
  hr : H pr = some (.tup vr)
  lr : LayAll H vr (N.regs.map regD)
  ha : H pa = some (.tup va)
  la : LayAll H va (N.ands.map pairD)
  ho : H po = some (.tup vo)
  lo : LayAll H vo (N.outs.map namD)
  hc : H pc = some (.tup vc)
  lc : LayAll H vc (N.cls.map namD)
theorem NetAt.keep {H H' : Hp} {p pi pr pa po pc : Addr} {vr va vo vc : List V} {N : Net} (h : NetAt H p pi pr pa po pc vr va vo vc N) (k : KeepT H H') : NetAt H' p pi pr pa po pc vr va vo vc N :=
  ⟨k _ _ h.top, k _ _ h.hi, k _ _ h.hr, h.lr.keep' k, k _ _ h.ha, h.la.keep' k, k _ _ h.ho, h.lo.keep' k, k _ _ h.hc, h.lc.keep' k⟩
theorem NetAt.lay {H : Hp} {p pi pr pa po pc : Addr} {vr va vo vc : List V} {N : Net} (h : NetAt H p pi pr pa po pc vr va vo vc N) : Lay H (.ref p) (netD N) :=
  .tup h.top (.cons (.str _) (.cons (.tup h.hi (.strs _)) (.cons (.tup h.hr h.lr) (.cons (.tup h.ha h.la) (.cons (.tup h.ho h.lo) (.cons (.tup h.hc h.lc) .nil))))))
theorem Lay.net {H : Hp} {v : V} {N : Net} (h : Lay H v (netD N)) : ∃ (p pi pr pa po pc : Addr) (vr va vo vc : List V), v = .ref p ∧ NetAt H p pi pr pa po pc vr va vo vc N := by
  obtain ⟨p, vs, rfl, e, l⟩ := h.tup_inv
  obtain ⟨v0, u0, rfl, l0, l⟩ := l.cons_inv
  obtain ⟨v1, u1, rfl, l1, l⟩ := l.cons_inv
  obtain ⟨v2, u2, rfl, l2, l⟩ := l.cons_inv
  obtain ⟨v3, u3, rfl, l3, l⟩ := l.cons_inv
  obtain ⟨v4, u4, rfl, l4, l⟩ := l.cons_inv
  obtain ⟨v5, u5, rfl, l5, l⟩ := l.cons_inv
  obtain rfl := l.nil_inv
  obtain rfl := l0.str_inv
  obtain ⟨p1, w1, rfl, e1, m1⟩ := l1.tup_inv
  obtain ⟨p2, w2, rfl, e2, m2⟩ := l2.tup_inv
  obtain ⟨p3, w3, rfl, e3, m3⟩ := l3.tup_inv
  obtain ⟨p4, w4, rfl, e4, m4⟩ := l4.tup_inv
  obtain ⟨p5, w5, rfl, e5, m5⟩ := l5.tup_inv
  obtain rfl := m1.strs_inv
  exact ⟨p, p1, p2, p3, p4, p5, w2, w3, w4, w5, rfl, ⟨e, e1, e2, m2, e3, m3, e4, m4, e5, m5⟩⟩
theorem NetAt.lens {H : Hp} {p pi pr pa po pc : Addr} {vr va vo vc : List V} {N : Net} (h : NetAt H p pi pr pa po pc vr va vo vc N) : vr.length = N.regs.length ∧ va.length = N.ands.length ∧ vo.length = N.outs.length ∧ vc.length = N.cls.length :=
  ⟨by simpa using h.lr.len, by simpa using h.la.len, by simpa using h.lo.len, by simpa using h.lc.len⟩
theorem Lay.pair {H : Hp} {v : V} {p : Nat × Nat} (h : Lay H v (pairD p)) : ∃ q, v = .ref q ∧ H q = some (.tup [vI p.1, vI p.2]) := by
  obtain ⟨q, vs, rfl, e, l⟩ := h.tup_inv
  obtain ⟨v0, u0, rfl, l0, l⟩ := l.cons_inv
  obtain ⟨v1, u1, rfl, l1, l⟩ := l.cons_inv
  obtain rfl := l.nil_inv
  obtain rfl := l0.int_inv
  obtain rfl := l1.int_inv
  exact ⟨q, rfl, e⟩
theorem Lay.reg {H : Hp} {v : V} {r : Str × Nat × Nat} (h : Lay H v (regD r)) : ∃ q, v = .ref q ∧ H q = some (.tup [.str r.1, vI r.2.1, vI r.2.2]) := by
  obtain ⟨q, vs, rfl, e, l⟩ := h.tup_inv
  obtain ⟨v0, u0, rfl, l0, l⟩ := l.cons_inv
  obtain ⟨v1, u1, rfl, l1, l⟩ := l.cons_inv
  obtain ⟨v2, u2, rfl, l2, l⟩ := l.cons_inv
  obtain rfl := l.nil_inv
  obtain rfl := l0.str_inv
  obtain rfl := l1.int_inv
  obtain rfl := l2.int_inv
  exact ⟨q, rfl, e⟩
theorem Lay.nam {H : Hp} {v : V} {r : Str × Nat} (h : Lay H v (namD r)) : ∃ q, v = .ref q ∧ H q = some (.tup [.str r.1, vI r.2]) := by
  obtain ⟨q, vs, rfl, e, l⟩ := h.tup_inv
  obtain ⟨v0, u0, rfl, l0, l⟩ := l.cons_inv
  obtain ⟨v1, u1, rfl, l1, l⟩ := l.cons_inv
  obtain rfl := l.nil_inv
  obtain rfl := l0.str_inv
  obtain rfl := l1.int_inv
  exact ⟨q, rfl, e⟩
theorem Lay.mkPair {H : Hp} {q : Addr} {a b : Nat} (e : H q = some (.tup [vI a, vI b])) : Lay H (.ref q) (pairD (a, b)) := .tup e (.cons (.int _) (.cons (.int _) .nil))
theorem Lay.mkReg {H : Hp} {q : Addr} {z : Str} {a b : Nat} (e : H q = some (.tup [.str z, vI a, vI b])) : Lay H (.ref q) (regD (z, a, b)) := .tup e (.cons (.str _) (.cons (.int _) (.cons (.int _) .nil)))
theorem Lay.mkNam {H : Hp} {q : Addr} {z : Str} {a : Nat} (e : H q = some (.tup [.str z, vI a])) : Lay H (.ref q) (namD (z, a)) := .tup e (.cons (.str _) (.cons (.int _) .nil))
theorem NetAt.and_ {H : Hp} {p pi pr pa po pc : Addr} {vr va vo vc : List V} {N : Net} (h : NetAt H p pi pr pa po pc vr va vo vc N) {i : Nat} {x : V} (e : va[i]? = some x) : ∃ q p, x = .ref q ∧ N.ands[i]? = some p ∧ H q = some (.tup [vI p.1, vI p.2]) := by
  obtain ⟨d, hd, l⟩ := h.la.get i e
  obtain ⟨p, hp, rfl⟩ := mapAtD hd
  obtain ⟨q, rfl, hq⟩ := l.pair
  exact ⟨q, p, rfl, hp, hq⟩
end Bf

set_option Elab.async false
set_option linter.all false
set_option maxRecDepth 100000
set_option maxHeartbeats 4000000
namespace Bf
open PySem PySem.Spec PyProof.Rows L2
/-! ### what stands -/
theorem DS.at_ {H : Hp} {d c : Addr} (h : DS H d c) : ∃ l, H d = some (.lst l) := let ⟨_, _, _, _, e, _⟩ := h; ⟨_, e⟩
theorem Keep.tups {S : List Addr} {H H' : Hp} (k : Keep S H H') (n : ∀ b ∈ S, ∃ l, H b = some (.lst l)) : KeepT H H' := fun b xs h => k _ _ (fun m => by
  obtain ⟨l, q⟩ := n b m
  rw [q] at h
  cases h) h
theorem Keep.tup1 {H H' : Hp} {d c : Addr} (k : Keep [d] H H') (h : DS H d c) : KeepT H H' := k.tups fun b hb => by rw [List.mem_singleton.mp hb]; exact h.at_
theorem Keep.tup2 {H H' : Hp} {d c l : Addr} {xs : List V} (k : Keep [d, l] H H') (h : DS H d c) (hl : H l = some (.lst xs)) : KeepT H H' := k.tups fun b hb => by
  rcases List.mem_cons.mp hb with e | hb
  · rw [e]; exact h.at_
  · rw [List.mem_singleton.mp hb]; exact ⟨_, hl⟩
/-- the names that are left -/
def Nms (H : Hp) (l : Addr) (n : Nat) : Prop := ∃ names : List V, H l = some (.lst names) ∧ (∀ v ∈ names, ∃ z : Str, v = .str z) ∧ names.length = n
theorem Nms.keep {S : List Addr} {H H' : Hp} {l : Addr} {n : Nat} (h : Nms H l n) (k : Keep S H H') (hl : l ∉ S) : Nms H' l n := let ⟨x, a, b, e⟩ := h; ⟨x, k _ _ hl a, b, e⟩
theorem Nms.same {H H' : Hp} {l : Addr} {n : Nat} (h : Nms H l n) (k : Same H H') : Nms H' l n := let ⟨x, a, b, e⟩ := h; ⟨x, k _ _ a, b, e⟩
theorem Nms.cast {H : Hp} {l : Addr} {n m : Nat} (h : Nms H l n) (e : n = m) : Nms H l m := e ▸ h
theorem Keep.thin {S S' : List Addr} {H H' : Hp} (k : Keep S' H H') (h : ∀ b ∈ S', b ∈ S ∨ H b = none) : Keep S H H' := fun b o n e => k b o (fun m => by
  rcases h b m with q | q
  · exact n q
  · rw [q] at e; cases e) e
theorem Keep.cat {S S' : List Addr} {H H1 H2 : Hp} (a : Keep S H H1) (b : Keep S' H1 H2) : Keep (S ++ S') H H2 := fun c o n h => b c o (fun m => n (List.mem_append_right _ m)) (a c o (fun m => n (List.mem_append_left _ m)) h)
theorem Keep.free {S : List Addr} {H H' : Hp} {l : Addr} (k : Keep S H H') (h : H' l = none) (n : l ∉ S) : H l = none := by
  cases e : H l with
  | none => rfl
  | some o => rw [k l o n e] at h; cases h
theorem Keep.sm {H H' : Hp} (k : Same H H') : Keep [] H H' := .of_same k
theorem Keep.at1 {H : Hp} {a : Addr} {o : HO} : Keep [a] H (L2.upd H a o) := .upd (by simp)
/-- the list at D: data of acc -/
def Acc {α : Type} (D : Addr) (f : α → PyData) (acc : List α) (H : Hp) : Prop := ∃ vs : List V, H D = some (.lst vs) ∧ LayAll H vs (acc.map f)
theorem Acc.nil {α : Type} {D : Addr} {f : α → PyData} {H : Hp} : Acc D f [] (upd H D (.lst [])) := ⟨[], upd_same, .nil⟩
theorem Acc.keep {α : Type} {D : Addr} {f : α → PyData} {acc : List α} {S : List Addr} {H H' : Hp} (h : Acc D f acc H) (k : Keep S H H') (t : KeepT H H') (n : D ∉ S) : Acc D f acc H' := let ⟨vs, a, b⟩ := h; ⟨vs, k _ _ n a, b.keep' t⟩
theorem Acc.same {α : Type} {D : Addr} {f : α → PyData} {acc : List α} {H H' : Hp} (h : Acc D f acc H) (k : Same H H') : Acc D f acc H' := let ⟨vs, a, b⟩ := h; ⟨vs, k _ _ a, b.keep' (.same k)⟩
theorem Acc.push {α : Type} {D : Addr} {f : α → PyData} {acc : List α} {H : Hp} {y : V} {x : α} (h : Acc D f acc H) (l : Lay H y (f x)) (n : acc.length ≤ 1000) :
    ∃ vs, H D = some (.lst vs) ∧ vs.length < sizeLine ∧ Acc D f (acc ++ [x]) (upd H D (.lst (vs ++ [y]))) ∧ KeepT H (upd H D (.lst (vs ++ [y]))) := by
  obtain ⟨vs, a, b⟩ := h
  have e := b.len
  rw [List.length_map] at e
  have kt : KeepT H (upd H D (.lst (vs ++ [y]))) := .lst a
  refine ⟨vs, a, by rw [e]; exact small1000 n, ⟨_, upd_same, ?_⟩, kt⟩
  rw [List.map_append]
  exact (b.snoc l).keep' kt
theorem Acc.at_ {α : Type} {D : Addr} {f : α → PyData} {acc : List α} {H : Hp} (h : Acc D f acc H) : ∃ l, H D = some (.lst l) := let ⟨vs, a, _⟩ := h; ⟨vs, a⟩

def spPool : Sp := fun vs H Q _ => vs = [] ∧ ∀ (p : Addr) (xs : List Str), H p = none → xs.length = 61 → Q (.ref p) (upd H p (.lst (xs.map V.str)))
section
variable {P : Program} {w : World} {K : PySem.W.Frag} {mg : Str → Option Value} {base : Heap} {f : Addr} {fd : FuncData}
theorem ok_pool (F : Fun K "_law_pool" "_law_pool" s_law_pool f fd) : FnOk P w K mg base CX0 1 f fd [] spPool := by
  refine F.ok sc_law_pool (fun vs H Q E h => ?_) (fun cdv A outer s H vs Q E hr h => ?_)
  · rw [h.1]
    rfl
  obtain ⟨rfl, q⟩ := h
  refine ⟨_, (pss_cons (ps_set (i := 0) sc_law_pool.nd rfl (Or.inl rfl) pe_str)
      (pss_cons (ps_set (i := 0) sc_law_pool.nd rfl (Or.inl rfl) (pe_op op_add_str (pv 0) pe_str))
      (pss_one (ps_ret (pe_split (pe_op op_add_str (pv 0) pe_str) pe_str))))), ?_⟩
  refine ⟨_, rfl, _, _, rfl, rfl, (by decide +kernel), _, rfl, _, _, rfl, rfl, (by decide +kernel), ?_⟩
  exact ⟨⟨_, rfl⟩, _, _, rfl, rfl, (by decide +kernel), (by decide +kernel), fun p hp => q p _ hp (by decide +kernel)⟩
end

/-! ### a drawn literal -/
def spLit : Sp := fun vs H Q _ => ∃ (d c : Addr) (i : Int) (n : Nat), vs = [.ref d, .int i] ∧ i = (n : Int) ∧ DS H d c ∧ 1 ≤ n ∧ n ≤ 1000 ∧ ∀ (l : Nat) (H' : Hp), l < 2 * n → DS H' d c → Keep [d] H H' → Q (vI l) H'
section
variable {P : Program} {w : World} {K : PySem.W.Frag} {mg : Str → Option Value} {base : Heap} {f : Addr} {fd : FuncData}
theorem ok_lit (F : Fun K "_law_drawn_literal" "_law_drawn_literal" s_law_drawn_literal f fd) (T : Txt mg) (D_law_draw : Dn P w K mg base "_law_draw" ["_law_d", "_law_many"] 1 spDraw) : FnOk P w K mg base CX0 2 f fd ["_law_d", "_law_size"] spLit := by
  refine F.ok sc_law_drawn_literal (fun vs H Q E h => ?_) (fun cdv A outer s H vs Q E hr h => ?_)
  · obtain ⟨d, c, i, n, rfl, _⟩ := h
    rfl
  obtain ⟨d, c, i, n, rfl, rfl, hd, h1, h2, q⟩ := h
  refine ⟨_, (pss_cons (ps_set (i := 2) sc_law_drawn_literal.nd rfl (Or.inl rfl) (pe_callB (cr_maxN rfl) (by rfl) T.n_max (by decide +kernel) (pa_cons (pe_dn D_law_draw (hr.mono (by omega)) (by rfl) (pa_cons (pv 0) (pa_cons (pv 1) pa_nil))) (pa_cons (pe_dn D_law_draw (hr.mono (by omega)) (by rfl) (pa_cons (pv 0) (pa_cons (pv 1) pa_nil))) pa_nil))))
      (pss_one (ps_ret (pe_op op_add (pe_op op_mul pe_int (pv 2)) (pe_dn D_law_draw (hr.mono (by omega)) (by rfl) (pa_cons (pv 0) (pa_cons pe_int pa_nil))))))), ?_⟩
  refine ⟨_, rfl, _, rfl, d, c, _, rfl, hd, by omega, by omega, fun r H1 r0 r1 hd1 k1 => ?_⟩
  obtain ⟨x, rfl⟩ := Int.eq_ofNat_of_zero_le r0
  refine ⟨_, rfl, _, rfl, d, c, _, rfl, hd1, by omega, by omega, fun r H2 r0 r1 hd2 k2 => ?_⟩
  obtain ⟨y, rfl⟩ := Int.eq_ofNat_of_zero_le r0
  refine ⟨x, y, rfl, _, rfl, _, _, rfl, rfl, .inl ⟨by decide, by decide⟩, ?_⟩
  refine ⟨_, rfl, d, c, _, rfl, hd2, by decide, by decide, fun r H3 r0 r1 hd3 k3 => ?_⟩
  obtain ⟨z, rfl⟩ := Int.eq_ofNat_of_zero_le r0
  refine ⟨_, _, rfl, rfl, ?_⟩
  have e : (2 : Int) * ((max x y : Nat) : Int) + (z : Int) = ((2 * max x y + z : Nat) : Int) := by omega
  show Q (V.int ((2 : Int) * ((max x y : Nat) : Int) + (z : Int))) H3
  rw [e]
  exact q _ _ (by omega) hd3 ((k1.trans k2).trans k3)
end

end Bf

set_option Elab.async false
set_option linter.all false
set_option maxRecDepth 100000
set_option maxHeartbeats 4000000
namespace Bf
open PySem PySem.Spec PyProof.Rows L2
/-! ### an item of a list or a tuple by draws -/
def spPick (K : PySem.W.Frag) : Sp := fun vs H Q _ => ∃ (d c l : Addr) (xs : List V), vs = [.ref d, .ref l] ∧ DS H d c ∧ l ≠ d ∧ SqL K H l xs ∧ 1 ≤ xs.length ∧ xs.length ≤ 1000 ∧
  ∀ (k : Nat) (y : V) (H' : Hp), xs[k]? = some y → DS H' d c → Keep [d] H H' → Q y H'
def spPickA (K : PySem.W.Frag) : Sp := fun vs H Q _ => ∃ (d c l : Addr) (xs : List V), vs = [.ref d, .ref l] ∧ DS H d c ∧ l ≠ d ∧ (SqL K H l xs ∨ SqT K H l xs) ∧ 1 ≤ xs.length ∧ xs.length ≤ 1000 ∧
  ∀ (k : Nat) (y : V) (H' : Hp), xs[k]? = some y → DS H' d c → Keep [d] H H' → Q y H'
theorem Keep.seqL {S : List Addr} {K : PySem.W.Frag} {H H' : Hp} {a : Addr} {xs : List V} (k : Keep S H H') (n : a ∉ S) (h : SqL K H a xs) : SqL K H' a xs := by
  rcases h with (h | ⟨u, h⟩) | h
  · exact .inl (.inl (k _ _ n h))
  · exact .inl (.inr ⟨u, k _ _ n h⟩)
  · exact .inr h
theorem Keep.seqT {S : List Addr} {K : PySem.W.Frag} {H H' : Hp} {a : Addr} {xs : List V} (k : Keep S H H') (n : a ∉ S) (h : SqT K H a xs) : SqT K H' a xs := by
  rcases h with (h | ⟨u, h⟩) | h
  · exact .inl (.inl (k _ _ n h))
  · exact .inl (.inr ⟨u, k _ _ n h⟩)
  · exact .inr h
section
variable {P : Program} {w : World} {K : PySem.W.Frag} {mg : Str → Option Value} {base : Heap} {f : Addr} {fd : FuncData}
theorem ok_pickA (F : Fun K "_law_pick" "_law_pick" s_law_pick f fd) (T : Txt mg) (D_law_draw : Dn P w K mg base "_law_draw" ["_law_d", "_law_many"] 1 spDraw) : FnOk P w K mg base CX0 2 f fd ["_law_d", "_law_row"] (spPickA K) := by
  refine F.ok sc_law_pick (fun vs H Q E h => ?_) (fun cdv A outer s H vs Q E hr h => ?_)
  · obtain ⟨d, c, l, xs, rfl, _⟩ := h
    rfl
  obtain ⟨d, c, l, xs, rfl, hd, nld, hl, h1, h2, q⟩ := h
  refine ⟨_, (pss_one (ps_ret (pe_ix ix_seq (pv 1) (pe_dn D_law_draw (hr.mono (by omega)) (by rfl) (pa_cons (pv 0) (pa_cons (pe_callB call_len_seq (by rfl) T.n_len (by decide +kernel) (pa_cons (pv 1) pa_nil)) pa_nil))) (fun _ _ => rfl)))), ?_⟩
  refine ⟨_, rfl, _, rfl, _, rfl, l, _, rfl, hl, d, c, _, rfl, hd, by omega, by omega, fun r H' r0 r1 hd' k1 => ?_⟩
  obtain ⟨x, rfl⟩ := Int.eq_ofNat_of_zero_le r0
  have hx : x < xs.length := by omega
  rcases hl with hl | hl
  · exact .inl ⟨l, xs, _, _, rfl, rfl, k1.seqL (by simp [nld]) hl, atI_nat (List.getElem?_eq_getElem hx), q _ _ _ (List.getElem?_eq_getElem hx) hd' k1⟩
  · exact .inr (.inl ⟨l, xs, _, _, rfl, rfl, k1.seqT (by simp [nld]) hl, atI_nat (List.getElem?_eq_getElem hx), q _ _ _ (List.getElem?_eq_getElem hx) hd' k1⟩)
end
/-- the same, of a list -/
theorem Dn.pick {P : Program} {w : World} {K : PySem.W.Frag} {mg : Str → Option Value} {base : Heap} {x : Str} {ps : List Str} {k : Nat} (D : Dn P w K mg base x ps k (spPickA K)) : Dn P w K mg base x ps k (spPick K) := by
  obtain ⟨f, fd, ok, r⟩ := D.ex
  refine ⟨f, fd, ok.imp fun vs H Q E h => ?_, r⟩
  obtain ⟨d, c, l, xs, e, hd, n, hl, h⟩ := h
  exact ⟨d, c, l, xs, e, hd, n, .inl hl, h⟩

theorem erase_perm : ∀ (zs : List V) (k : Nat) (y : V), zs[k]? = some y → (y :: zs.eraseIdx k).Perm zs
  | [], _, _, h => by simp at h
  | z :: zs, 0, y, h => by
    cases h
    exact .refl _
  | z :: zs, k + 1, y, h => (List.Perm.swap z y _).trans (.cons z (erase_perm zs k y (by simpa using h)))
def spShuf (K : PySem.W.Frag) : Sp := fun vs H Q _ => ∃ (d c l : Addr) (xs : List V), vs = [.ref d, .ref l] ∧ DS H d c ∧ l ≠ d ∧ (SqL K H l xs ∨ SqT K H l xs) ∧ xs.length ≤ 1000 ∧
  ∀ (p : Addr) (ys : List V) (H' : Hp), ys.Perm xs → H p = none → H' p = some (.lst ys) → DS H' d c → Keep [d] H H' → Q (.ref p) H'
section
variable {P : Program} {w : World} {K : PySem.W.Frag} {mg : Str → Option Value} {base : Heap} {f : Addr} {fd : FuncData}
theorem ok_shuf (F : Fun K "_law_shuffled" "_law_shuffled" s_law_shuffled f fd) (T : Txt mg) (D_law_draw : Dn P w K mg base "_law_draw" ["_law_d", "_law_many"] 1 spDraw) : FnOk P w K mg base CX0 2 f fd ["_law_d", "_law_row"] (spShuf K) := by
  refine F.ok sc_law_shuffled (fun vs H Q E h => ?_) (fun cdv A outer s H vs Q E hr h => ?_)
  · obtain ⟨d, c, l, xs, rfl, _⟩ := h
    rfl
  obtain ⟨d, c, l, xs, rfl, hd, nld, hl, h2, q⟩ := h
  refine ⟨_, (pss_cons (ps_set (i := 2) sc_law_shuffled.nd rfl (Or.inl rfl) (pe_callTy call_list_of (by rfl) T.n_list (by decide +kernel) (pa_cons (pv 1) pa_nil)))
      (pss_cons (ps_set (i := 3) sc_law_shuffled.nd rfl (Or.inl rfl) (pe_lst pa_nil))
      (pss_cons (ps_for PassesOwn.never rfl (pi_range1 rfl T.n_range (pa_cons (pe_callB call_len_seq (by rfl) T.n_len (by decide +kernel) (pa_cons (pv 2) pa_nil)) pa_nil)) (pg_name (i := 4) sc_law_shuffled.nd rfl (Or.inl rfl)) (pss_one (ps_expr (pe_bm PySem.F.plainAttrs_list PySem.F.slot_list_append PySem.F.type_list_append mt_append (pv 3) (pa_cons (pe_bm PySem.F.plainAttrs_list PySem.F.slot_list_pop PySem.F.type_list_pop mt_popAt (pv 2) (pa_cons (pe_dn D_law_draw (hr.mono (by omega)) (by rfl) (pa_cons (pv 0) (pa_cons (pe_callB call_len_seq (by rfl) T.n_len (by decide +kernel) (pa_cons (pv 2) pa_nil)) pa_nil))) pa_nil)) pa_nil)))))
      (pss_one (ps_ret (pv 3)))))), ?_⟩
  refine ⟨_, rfl, l, xs, rfl, hl, fun L hL => ?_⟩
  obtain ⟨nLd, nLc⟩ := hd.new hL
  have hd1 := hd.same (same_new hL (.lst xs))
  refine ⟨Nat.zero_le _, fun F hF => ?_⟩
  obtain ⟨nFd, nFc⟩ := hd1.new hF
  have nFL : F ≠ L := (ne_of_none upd_same hF).symm
  have s2 := (same_new hL (.lst xs)).trans (same_new hF (.lst []))
  refine ⟨_, rfl, L, xs, rfl, .inl (SqL.of (same_new hF _ _ _ upd_same)), ?_⟩
  have f0 : H F = none := (same_new hL _).free hF
  refine ⟨(xs.length : Int), rfl, (i62 (by omega)).1, (i62 (by omega)).2, for_it walk_range (fun i σ' H' => ∃ (v4 : Option V) (zs ys : List V), σ' = [some (.ref d), some (.ref l), some (.ref L), some (.ref F), v4] ∧ DS H' d c ∧ H' L = some (.lst zs) ∧ H' F = some (.lst ys) ∧ (ys ++ zs).Perm xs ∧ ys.length = i ∧ Keep [d] H H')
    ⟨_, xs, [], rfl, hd1.same (same_new hF _), same_new hF _ _ _ upd_same, upd_same, .refl _, rfl, Keep.of_same s2⟩ (fun _ _ _ _ _ => trivial) (fun i x σ' H' H3 hi p y => ?_) (fun σ' H' p => ?_)⟩
  · obtain ⟨v4, zs, ys, rfl, hd3, hL3, hF3, hp, hyl, k3⟩ := p
    obtain ⟨rfl, rfl⟩ := y
    have hi : i < xs.length := by simpa using hi
    have ln := hp.length_eq
    rw [List.length_append] at ln
    refine ⟨_, rfl, .inl ⟨rfl, _, SqL.of hF3⟩, ?_⟩
    refine ⟨_, rfl, .inl ⟨rfl, _, SqL.of hL3⟩, _, rfl, _, rfl, L, zs, rfl, .inl (SqL.of hL3), d, c, _, rfl, hd3, by omega, by omega, fun r H4 r0 r1 hd4 k4 => ?_⟩
    obtain ⟨x, rfl⟩ := Int.eq_ofNat_of_zero_le r0
    have hx : x < zs.length := by omega
    have hL4 := k4 _ _ (by simp [nLd]) hL3
    have hF4 := k4 _ _ (by simp [nFd]) hF3
    refine ⟨L, zs, _, x, zs[x], rfl, rfl, hL4, by omega, by omega, seqIndex_of r0 (by omega), List.getElem?_eq_getElem hx, ?_⟩
    have hF5 : (upd H4 L (.lst (zs.eraseIdx x))) F = some (.lst ys) := by rw [upd_ne nFL]; exact hF4
    refine ⟨F, ys, _, rfl, rfl, hF5, len1000 (by omega), _, zs.eraseIdx x, ys ++ [zs[x]], rfl, ?_, ?_, upd_same, ?_, by rw [List.length_append, hyl]; rfl, ?_⟩
    · exact (hd4.keep (S := [L]) Keep.at1 (by simp [nLd.symm]) (by simp [nLc.symm])).keep (S := [F]) Keep.at1 (by simp [nFd.symm]) (by simp [nFc.symm])
    · rw [upd_ne nFL.symm, upd_same]
    · rw [List.append_assoc]
      exact (List.Perm.append_left ys (erase_perm zs x _ (List.getElem?_eq_getElem hx))).trans hp
    · exact (((k3.cat k4).cat (Keep.at1 (a := L))).cat (Keep.at1 (a := F))).thin (by simp [hL, f0])
  · obtain ⟨v4, zs, ys, rfl, hd3, hL3, hF3, hp, hyl, k3⟩ := p
    have ln := hp.length_eq
    rw [List.length_append] at ln
    have hz : zs = [] := List.eq_nil_of_length_eq_zero (by omega)
    rw [hz, List.append_nil] at hp
    exact ⟨_, rfl, q F ys _ hp f0 hF3 hd3 k3⟩
end

end Bf

set_option Elab.async false
set_option linter.all false
set_option maxRecDepth 100000
set_option maxHeartbeats 4000000
namespace Bf
open PySem
/-! ### registers, followed back -/
def Net.regAt (N : Net) (l : Nat) : Option Nat := if 1 + N.ins.length ≤ l / 2 ∧ l / 2 < N.first then some (l / 2 - 1 - N.ins.length) else none
def Net.flw (N : Net) (a : Nat) : Nat := (N.regs.getD a ("", 0, 0)).2.2
def Net.st0 (N : Net) (a : Nat) : Nat := (N.regs.getD a ("", 0, 0)).2.1
def Net.nxt (N : Net) (a : Nat) : Option Nat := N.regAt (N.flw a)
theorem regAt_lt {N : Net} {l a : Nat} (h : N.regAt l = some a) : a < N.regs.length := by
  unfold Net.regAt at h
  split at h
  · rename_i q
    have := Option.some.inj h
    unfold Net.first at q
    omega
  · cases h
theorem regAt_half {N : Net} {l m : Nat} (h : l / 2 = m / 2) : N.regAt l = N.regAt m := by
  unfold Net.regAt
  rw [h]
theorem xor_half (x y : Nat) : (x ^^^ (y % 2)) / 2 = x / 2 := by
  rw [Nat.xor_div_two, show y % 2 / 2 = 0 by omega, Nat.xor_zero]
theorem regAt_xor {N : Net} {a s : Nat} : N.regAt (N.flw a ^^^ (s % 2)) = N.nxt a := regAt_half (xor_half _ _)
inductive Ends (N : Net) : Nat → Prop
  | out {a : Nat} : N.nxt a = none → Ends N a
  | step {a b : Nat} : N.nxt a = some b → Ends N b → Ends N a
theorem ends_some {N : Net} {a b : Nat} (h : N.nxt a = some b) : Ends N a ↔ Ends N b := by
  refine ⟨fun e => ?_, .step h⟩
  cases e with
  | out q => rw [h] at q; cases q
  | step q r => rw [h] at q; cases q; exact r
/-- a set that leads nowhere else never ends -/
theorem ends_closed {N : Net} {S : Nat → Prop} (h : ∀ a, S a → ∃ b, N.nxt a = some b ∧ S b) {a : Nat} (e : Ends N a) : ¬ S a := by
  induction e with
  | out q =>
    intro s
    obtain ⟨b, hb, _⟩ := h _ s
    rw [q] at hb
    cases hb
  | step q _ ih =>
    intro s
    obtain ⟨b, hb, sb⟩ := h _ s
    rw [q] at hb
    cases hb
    exact ih sb
structure OpenBy (N : Net) (ρ : Nat → Nat) : Prop where
  lt : ∀ a, a < N.regs.length → ρ a < N.regs.length
  down : ∀ a b, a < N.regs.length → N.nxt a = some b → ρ b < ρ a
theorem OpenBy.ends {N : Net} {ρ : Nat → Nat} (h : OpenBy N ρ) : ∀ (n a : Nat), ρ a ≤ n → a < N.regs.length → Ends N a
  | n, a, hn, ha => by
    cases e : N.nxt a with
    | none => exact .out e
    | some b =>
      have hd := h.down a b ha e
      cases n with
      | zero => omega
      | succ n => exact .step e (OpenBy.ends h n b (by omega) (regAt_lt e))
/-! ### traces -/
def stepT (N : Net) (s : List Nat × Nat) : List Nat × Nat := match N.regAt s.2 with
  | none => s
  | some a => (s.1 ++ [N.st0 a ^^^ (s.2 % 2)], N.flw a ^^^ (s.2 % 2))
def runT (N : Net) (l : Nat) : Nat → List Nat × Nat
  | 0 => ([], l)
  | i + 1 => stepT N (runT N l i)
def trace (N : Net) (l : Nat) : List Nat × Nat := runT N l N.regs.length
theorem runT_some {N : Net} {l i a : Nat} (h : N.regAt (runT N l i).2 = some a) : runT N l (i + 1) = ((runT N l i).1 ++ [N.st0 a ^^^ ((runT N l i).2 % 2)], N.flw a ^^^ ((runT N l i).2 % 2)) := by
  show stepT N (runT N l i) = _
  unfold stepT
  rw [h]
theorem runT_none {N : Net} {l i : Nat} (h : N.regAt (runT N l i).2 = none) : ∀ d, runT N l (i + d) = runT N l i
  | 0 => rfl
  | d + 1 => by
    show stepT N (runT N l (i + d)) = _
    rw [runT_none h d]
    unfold stepT
    rw [h]
theorem runT_rank {N : Net} {ρ : Nat → Nat} (O : OpenBy N ρ) {l : Nat} : ∀ (i a : Nat), N.regAt (runT N l i).2 = some a → ρ a + i < N.regs.length ∧ (runT N l i).1.length = i
  | 0, a, h => ⟨O.lt a (regAt_lt h), rfl⟩
  | i + 1, a, h => by
    cases e : N.regAt (runT N l i).2 with
    | none =>
      have := runT_none e 1
      rw [this, e] at h
      cases h
    | some b =>
      obtain ⟨h1, h2⟩ := runT_rank O i b e
      have e1 := runT_some e
      rw [e1] at h ⊢
      have hd := O.down b a (regAt_lt e) (regAt_xor.symm.trans h)
      refine ⟨by omega, ?_⟩
      rw [List.length_append, h2]
      rfl
theorem runT_len {N : Net} {l : Nat} : ∀ i, (runT N l i).1.length ≤ i
  | 0 => Nat.le_refl _
  | i + 1 => by
    have ih := runT_len (N := N) (l := l) i
    cases e : N.regAt (runT N l i).2 with
    | none =>
      rw [runT_none e 1]
      omega
    | some b =>
      rw [runT_some e, List.length_append]
      show _ + 1 ≤ i + 1
      omega
theorem runT_end {N : Net} {ρ : Nat → Nat} (O : OpenBy N ρ) (l : Nat) : N.regAt (trace N l).2 = none := by
  cases e : N.regAt (trace N l).2 with
  | none => rfl
  | some a =>
    have := (runT_rank O _ a e).1
    omega
theorem runT_is {N : Net} {l i : Nat} (hi : i ≤ N.regs.length) (h : N.regAt (runT N l i).2 = none) : runT N l i = trace N l := by
  have := runT_none h (N.regs.length - i)
  rw [show i + (N.regs.length - i) = N.regs.length by omega] at this
  exact this.symm
theorem trace_plain {N : Net} {l : Nat} (h : (trace N l).1.length = 0) : (trace N l).2 = l := by
  cases e : N.regAt l with
  | none =>
    have := runT_is (N := N) (l := l) (i := 0) (Nat.zero_le _) e
    rw [← this]
    rfl
  | some a =>
    have hr : 0 < N.regs.length := Nat.lt_of_le_of_lt (Nat.zero_le _) (regAt_lt e)
    have grow : ∀ d, 1 ≤ (runT N l (1 + d)).1.length := fun d => by
      induction d with
      | zero =>
        rw [show 1 + 0 = 0 + 1 from rfl, runT_some (i := 0) e]
        simp
      | succ d ih =>
        show 1 ≤ (stepT N (runT N l (1 + d))).1.length
        unfold stepT
        split
        · exact ih
        · rw [List.length_append]; omega
    have := grow (N.regs.length - 1)
    rw [show 1 + (N.regs.length - 1) = N.regs.length by omega] at this
    unfold trace at h
    omega
def src (N : Net) (l : Nat) : Int × Int := (((trace N l).1.length : Int), (((trace N l).2 / 2 : Nat) : Int))
def srcs (N : Net) : List (List (Int × Int)) := N.ands.map fun p => [src N p.1, src N p.2]
/-- what is known of ends -/
def KnownOk (N : Net) (m : List (Nat × Bool)) : Prop := ∀ (a : Nat) (b : Bool), (a, b) ∈ m → (b = true ↔ Ends N a)
/-- a way back, not met before -/
structure WayBack (N : Net) (m : List (Nat × Bool)) (start : Nat) (w : List Nat) (at_ : Option Nat) : Prop where
  nd : w.Nodup
  new : ∀ x ∈ w, x ∉ m.map Prod.fst
  lt : ∀ x ∈ w, x < N.regs.length
  st : ∀ (i x y : Nat), w[i]? = some x → w[i + 1]? = some y → N.nxt x = some y
  head : w = [] → at_ = some start
  fst : ∀ x, w[0]? = some x → x = start
  last : ∀ x, w[w.length - 1]? = some x → N.nxt x = at_
theorem WayBack.start {N : Net} {m : List (Nat × Bool)} {a : Nat} : WayBack N m a [] (some a) :=
  ⟨List.nodup_nil, fun x h => (by cases h), fun x h => (by cases h), fun i x y h => (by simp at h), fun _ => rfl, fun x h => (by simp at h), fun x h => (by simp at h)⟩
theorem WayBack.step {N : Net} {m : List (Nat × Bool)} {start x : Nat} {w : List Nat} (h : WayBack N m start w (some x)) (hx : x < N.regs.length) (h1 : x ∉ m.map Prod.fst) (h2 : x ∉ w) : WayBack N m start (w ++ [x]) (N.nxt x) where
  nd := List.nodup_append.mpr ⟨h.nd, by simp, fun a ha b hb e => h2 (by rw [← List.mem_singleton.mp hb, ← e]; exact ha)⟩
  new := fun y hy => by
    rcases List.mem_append.mp hy with q | q
    · exact h.new y q
    · rw [List.mem_singleton.mp q]; exact h1
  lt := fun y hy => by
    rcases List.mem_append.mp hy with q | q
    · exact h.lt y q
    · rw [List.mem_singleton.mp q]; exact hx
  st := fun i a b ha hb => by
    by_cases hi : i + 1 < w.length
    · rw [List.getElem?_append_left hi] at hb
      rw [List.getElem?_append_left (by omega)] at ha
      exact h.st i a b ha hb
    · have hbl := (List.getElem?_eq_some_iff.mp hb).1
      rw [List.length_append, List.length_singleton] at hbl
      have e : i + 1 = w.length := by omega
      rw [List.getElem?_append_right (by omega), e, Nat.sub_self] at hb
      cases hb
      rw [List.getElem?_append_left (by omega)] at ha
      exact h.last a (by rw [show w.length - 1 = i by omega]; exact ha)
  head := fun e => by simp at e
  fst := fun y hy => by
    cases w with
    | nil =>
      have := h.head rfl
      cases this
      simpa using hy.symm
    | cons z r => exact h.fst y (by simpa using hy)
  last := fun y hy => by
    rw [List.length_append, List.length_singleton, List.getElem?_append_right (by omega)] at hy
    simp at hy
    rw [← hy]
theorem WayBack.len {N : Net} {m : List (Nat × Bool)} {start : Nat} {w : List Nat} {at_ : Option Nat} (h : WayBack N m start w at_) : w.length ≤ N.regs.length := by
  have hh : ∀ (xs ys : List Nat), xs.Nodup → (∀ x ∈ xs, x ∈ ys) → xs.length ≤ ys.length := fun xs => by
    induction xs with
    | nil => intro ys _ _; exact Nat.zero_le _
    | cons x r ih =>
      intro ys h hs
      obtain ⟨h1, h2⟩ := List.nodup_cons.mp h
      have hx := hs x (by simp)
      have hl := List.length_erase_of_mem hx
      have hp := List.length_pos_of_mem hx
      have := ih (ys.erase x) h2 fun y hy => (List.mem_erase_of_ne fun e => h1 (by rw [← e]; exact hy)).mpr (hs y (by simp [hy]))
      rw [List.length_cons]
      omega
  have := hh w (List.range N.regs.length) h.nd fun x hx => List.mem_range.mpr (h.lt x hx)
  simpa using this
/-- on a way all end or none -/
theorem WayBack.same {N : Net} {m : List (Nat × Bool)} {start : Nat} {w : List Nat} {at_ : Option Nat} (h : WayBack N m start w at_) {E : Prop} (hE : ∀ x, N.nxt x = at_ → (Ends N x ↔ E)) : ∀ (d i x : Nat), i + d + 1 = w.length → w[i]? = some x → (Ends N x ↔ E)
  | 0, i, x, e, hx => hE x (h.last x (by rw [show w.length - 1 = i by omega]; exact hx))
  | d + 1, i, x, e, hx => by
    have e1 : w[i + 1]? = some w[i + 1] := List.getElem?_eq_getElem (by omega)
    rw [ends_some (h.st i x _ hx e1)]
    exact WayBack.same h hE d (i + 1) _ (by omega) e1
theorem WayBack.all {N : Net} {m : List (Nat × Bool)} {start : Nat} {w : List Nat} {at_ : Option Nat} (h : WayBack N m start w at_) {E : Prop} (hE : ∀ x, N.nxt x = at_ → (Ends N x ↔ E)) : ∀ x ∈ w, (Ends N x ↔ E) := fun x hx => by
  obtain ⟨i, hi⟩ := List.mem_iff_getElem?.mp hx
  have := (List.getElem?_eq_some_iff.mp hi).1
  exact h.same hE (w.length - 1 - i) i x (by omega) hi
/-- met again: none ends -/
theorem WayBack.ring {N : Net} {m : List (Nat × Bool)} {start y : Nat} {w : List Nat} (h : WayBack N m start w (some y)) (hy : y ∈ w) : ¬ Ends N y := fun e =>
  ends_closed (S := fun x => x ∈ w) (fun a ha => by
    obtain ⟨i, hi⟩ := List.mem_iff_getElem?.mp ha
    by_cases hl : i + 1 < w.length
    · exact ⟨w[i + 1], h.st i a _ hi (List.getElem?_eq_getElem hl), List.getElem_mem _⟩
    · have := (List.getElem?_eq_some_iff.mp hi).1
      exact ⟨y, h.last a (by rw [show w.length - 1 = i by omega]; exact hi), hy⟩) e hy
end Bf

set_option Elab.async false
set_option linter.all false
set_option maxRecDepth 100000
set_option maxHeartbeats 4000000
namespace Bf
open PySem PySem.Spec PyProof.Rows L2
/-! ### x in a tuple of data; pairs of ints in a row -/
def rInDT (K : PySem.W.Frag) : R2 := fun x y H Q => ∃ d ds, Dp K H x d ∧ Dp K H y (.tuple ds) ∧ SeqAt.shaped d = true ∧ SeqAt.shaped (.tuple ds) = true ∧ Q (.bl (ds.any fun z => PyData.eqv z d)) H
def rNotInDT (K : PySem.W.Frag) : R2 := fun x y H Q => ∃ d ds, Dp K H x d ∧ Dp K H y (.tuple ds) ∧ SeqAt.shaped d = true ∧ SeqAt.shaped (.tuple ds) = true ∧ Q (.bl (!ds.any fun z => PyData.eqv z d)) H
section
variable {X : Cx}
theorem op_inDT (hu : X.A.units + 65 < cLine) : OpR X (compareOp .In) (rInDT X.K) := by
  intro pins s σ H x y v u Q I rx ry h
  obtain ⟨d, ds, hd, he, sd, se, q⟩ := h
  obtain ⟨as, r1⟩ := Dp.reads I d x v hd rx
  obtain ⟨bs, r2⟩ := Dp.reads I (.tuple ds) y u he ry
  exact SeqAt.in_tuple_reads r2 r1 (SeqAt.canLay_of_shaped se) (SeqAt.canLay_of_shaped sd) (room_in_shaped sd hu) ⟨.bl _, H, I, rfl, q⟩
theorem op_notInDT (hu : X.A.units + 65 < cLine) : OpR X (compareOp .NotIn) (rNotInDT X.K) := by
  intro pins s σ H x y v u Q I rx ry h
  obtain ⟨d, ds, hd, he, sd, se, q⟩ := h
  obtain ⟨as, r1⟩ := Dp.reads I d x v hd rx
  obtain ⟨bs, r2⟩ := Dp.reads I (.tuple ds) y u he ry
  exact SeqAt.notIn_tuple_reads r2 r1 (SeqAt.canLay_of_shaped se) (SeqAt.canLay_of_shaped sd) (room_in_shaped sd hu) ⟨.bl _, H, I, rfl, q⟩
end
def p2D (p : Int × Int) : PyData := .tuple [.int p.1, .int p.2]
theorem eqv_p2 (p q : Int × Int) : PyData.eqv (p2D p) (p2D q) = decide (p = q) := by
  obtain ⟨a, b⟩ := p
  obtain ⟨c, d⟩ := q
  show PyData.eqv (.tuple [.int a, .int b]) (.tuple [.int c, .int d]) = _
  simp [PyData.eqv, PyData.eqvAll, Bool.and_comm]
  by_cases h1 : a = c <;> by_cases h2 : b = d <;> simp [h1, h2]
theorem any_p2 (xs : List (Int × Int)) (q : Int × Int) : ((xs.map p2D).any fun z => PyData.eqv z (p2D q)) = decide (q ∈ xs) := by
  rw [List.any_map]
  induction xs with
  | nil => rfl
  | cons p r ih =>
    rw [List.any_cons, ih]
    show (PyData.eqv (p2D p) (p2D q) || decide (q ∈ r)) = _
    rw [eqv_p2]
    by_cases h : p = q <;> by_cases h2 : q ∈ r <;> simp [h, h2]
    exact fun e => h e.symm
theorem sh_p2 (p : Int × Int) : Sh 1 (p2D p) := Sh.tup fun d hd => by
  rcases List.mem_cons.mp hd with rfl | hd
  · exact Sh.int _ _
  · rw [List.mem_singleton.mp hd]
    exact Sh.int _ _
theorem sh_p2s (xs : List (Int × Int)) : Sh 2 (.tuple (xs.map p2D)) := Sh.tup fun d hd => by
  obtain ⟨p, _, rfl⟩ := List.mem_map.mp hd
  exact sh_p2 p
theorem sh_p2l (xs : List (Int × Int)) : Sh 2 (.list (xs.map p2D)) := Sh.lst fun d hd => by
  obtain ⟨p, _, rfl⟩ := List.mem_map.mp hd
  exact sh_p2 p
theorem rdInP {K : PySem.W.Frag} {H : Hp} {x y : V} {q : Int × Int} {xs : List (Int × Int)} {Q : VK} (hx : Lay H x (p2D q)) (hy : Lay H y (.tuple (xs.map p2D))) (k : Q (.bl (decide (q ∈ xs))) H) : rInDT K x y H Q := by
  refine ⟨_, _, hx.dp, hy.dp, (sh_p2 q).shaped (by decide), (sh_p2s xs).shaped (by decide), ?_⟩
  rw [any_p2]
  exact k
theorem rdNotInL {K : PySem.W.Frag} {H : Hp} {x : V} {a : Addr} {vs : List V} {q : Int × Int} {xs : List (Int × Int)} {Q : VK} (hx : Lay H x (p2D q)) (ha : H a = some (.lst vs)) (hy : LayAll H vs (xs.map p2D)) (k : Q (.bl (!decide (q ∈ xs))) H) : rNotInD K x (.ref a) H Q := by
  refine ⟨_, .map p2D xs, hx.dp, .lst (SqL.of ha) (LayAll.dp _ _ hy), (sh_p2 q).shaped (by decide), (sh_p2l xs).shaped (by decide), ?_⟩
  rw [any_p2]
  exact k
theorem rdInL {K : PySem.W.Frag} {H : Hp} {x : V} {a : Addr} {vs : List V} {q : Int × Int} {xs : List (Int × Int)} {Q : VK} (hx : Lay H x (p2D q)) (ha : H a = some (.lst vs)) (hy : LayAll H vs (xs.map p2D)) (k : Q (.bl (decide (q ∈ xs))) H) : rInD K x (.ref a) H Q := by
  refine ⟨_, .map p2D xs, hx.dp, .lst (SqL.of ha) (LayAll.dp _ _ hy), (sh_p2 q).shaped (by decide), (sh_p2l xs).shaped (by decide), ?_⟩
  rw [any_p2]
  exact k
end Bf

set_option Elab.async false
set_option linter.all false
set_option maxRecDepth 100000
set_option maxHeartbeats 4000000
namespace Bf
open PySem PySem.Spec PyProof.Rows L2
/-! ### zip of a list and a shorter one -/
theorem walk_zipMin (S1 S2 : Src) {K : PySem.W.Frag} {a b : Addr} {xs ys : List V} (h : ys.length ≤ xs.length) : Walk (ItZ S1 S2 K a b) ys.length (fun H => S1.sq K H a xs ∧ S2.sq K H b ys) (YPair (fun i => xs[i]?) (fun i => ys[i]?)) := by
  refine ⟨fun i _ hi q => ⟨xs, ys, xs[i], ys[i], q.1, q.2, by simp [show i < xs.length by omega], by simp [hi]⟩, fun _ q => ⟨xs, ys, q.1, q.2, h, Nat.le_refl _, .inr rfl⟩, fun i H v H' _ q y => ?_⟩
  obtain ⟨T, x, y, h1, h2, h3, h4, h5⟩ := y
  exact ⟨T, x, y, h1, h2, h3, h4 xs q.1, h5 ys q.2⟩
/-! ### slices -/
theorem cutV_from (xs : List V) (k : Nat) : cutV xs (some (k : Int)) none = xs.drop k := by
  unfold cutV
  rw [HT.sIx_nat, HT.sIx_none]
  by_cases h : k ≤ xs.length
  · rw [Nat.min_eq_left h]
    exact List.take_of_length_le (by rw [List.length_drop]; exact Nat.le_refl _)
  · rw [Nat.min_eq_right (by omega), Nat.sub_self, List.take_zero, List.drop_eq_nil_of_le (by omega)]
theorem cutV_to (xs : List V) (k : Nat) : cutV xs none (some (k : Int)) = xs.take k := by
  unfold cutV
  rw [HT.sIx_nat, HT.sIx_none, List.drop_zero, Nat.sub_zero]
  by_cases h : k ≤ xs.length
  · rw [Nat.min_eq_left h]
  · rw [Nat.min_eq_right (by omega), List.take_of_length_le (Nat.le_refl _), List.take_of_length_le (by omega)]
/-- a tuple's slice, as a list of values -/
theorem rdSl {K : PySem.W.Frag} {H : Hp} {b : Addr} {xs : List V} {lo hi : Option Int} {Q : VK} (hb : SqT K H b xs) (k : ∀ (t : Addr) (H' : Hp), Same H H' → SqT K H' t (cutV xs lo hi) → Q (.ref t) H') : rSlA K (.ref b) lo hi H Q := by
  refine ⟨b, xs, rfl, hb, fun hw => ?_, fun hw p hp => k p _ (fun b u q => by rw [upd_ne (ne_of_none q hp)]; exact q) (SqT.of upd_same)⟩
  refine k b H (Same.refl _) ?_
  unfold cutV
  rw [hw.1, hw.2, List.drop_zero, Nat.sub_zero, List.take_length]
  exact hb
/-! ### whole numbers as data -/
def zD (i : Int) : PyData := .int i
theorem lay_zs {H : Hp} : ∀ {ns : List Int} {us : List V}, LayAll H us (ns.map zD) → us = ns.map V.int
  | [], _, h => by cases h; rfl
  | n :: r, _, h => by
    cases h with
    | cons a t =>
      rw [lay_zs t]
      cases a
      rfl
theorem zs_lay {H : Hp} : ∀ ns : List Int, LayAll H (ns.map V.int) (ns.map zD)
  | [] => .nil
  | n :: r => .cons (.int _) (zs_lay r)
theorem dp_zs {K : PySem.W.Frag} {H : Hp} (ns : List Int) : DpAll K H (ns.map V.int) (ns.map zD) := (zs_lay ns).dp
theorem eqv_zs : ∀ ns ms : List Int, PyData.eqvAll (ns.map zD) (ms.map zD) = decide (ns = ms)
  | [], [] => by simp [PyData.eqvAll]
  | [], _ :: _ => by simp [PyData.eqvAll]
  | _ :: _, [] => by simp [PyData.eqvAll]
  | n :: ns, m :: ms => by
    rw [List.map_cons, List.map_cons, PyData.eqvAll, eqv_zs ns ms]
    by_cases h : n = m
    · subst h
      simp [PyData.eqv, zD]
    · simp [PyData.eqv, zD, h]
theorem sh_zs (ns : List Int) : Sh 1 (.list (ns.map zD)) := Sh.lst fun d hd => by
  obtain ⟨n, _, rfl⟩ := List.mem_map.mp hd
  exact Sh.int _ _
theorem sh_zt (ns : List Int) : Sh 1 (.tuple (ns.map zD)) := Sh.tup fun d hd => by
  obtain ⟨n, _, rfl⟩ := List.mem_map.mp hd
  exact Sh.int _ _
/-- two lists of numbers, != -/
theorem rdNeZ {K : PySem.W.Frag} {H : Hp} {a b : Addr} {ns ms : List Int} {Q : VK} (ha : SqL K H a (ns.map V.int)) (hb : SqL K H b (ms.map V.int)) (q : Q (.bl (!decide (ns = ms))) H) : rNeD K (.ref a) (.ref b) H Q := by
  refine ⟨.list (ns.map zD), .list (ms.map zD), .lst ha (dp_zs ns), .lst hb (dp_zs ms), (sh_zs ns).shaped (by decide), (sh_zs ms).shaped (by decide), ?_⟩
  rw [PyData.eqv, eqv_zs]
  exact q
theorem inV_z (x : Int) : ∀ xs : List Int, inV (.int x) (xs.map V.int) = decide (x ∈ xs)
  | [] => rfl
  | y :: xs => by
    have ih := inV_z x xs
    show (eqV (.int y) (.int x) || inV (.int x) (xs.map V.int)) = _
    rw [ih]
    have e : eqV (.int y) (.int x) = decide (y = x) := by
      show (y == x) = decide (y = x)
      by_cases h : y = x
      · subst h; simp
      · rw [decide_eq_false h]
        exact beq_eq_false_iff_ne.mpr h
    rw [e]
    by_cases q : y = x
    · subst q; simp
    · have : ¬ x = y := fun h => q h.symm
      simp [q, this]
theorem flat_zs : ∀ xs : List Int, (xs.map V.int).all flatV = true
  | [] => rfl
  | a :: r => by
    rw [List.map_cons, List.all_cons, flat_zs r]
    rfl
theorem rdInZ {K : PySem.W.Frag} {H : Hp} {a : Addr} {xs : List Int} {x : Int} {Q : VK} (h : SqL K H a (xs.map V.int)) (q : Q (.bl (decide (x ∈ xs))) H) : rIn K false (.int x) (.ref a) H Q := by
  refine ⟨a, _, rfl, .inl h, rfl, flat_zs xs, ?_⟩
  rw [if_neg (by decide), inV_z]
  exact q
theorem rdNotInZ {K : PySem.W.Frag} {H : Hp} {a : Addr} {xs : List Int} {x : Int} {Q : VK} (h : SqL K H a (xs.map V.int)) (q : Q (.bl (!decide (x ∈ xs))) H) : rIn K true (.int x) (.ref a) H Q := by
  refine ⟨a, _, rfl, .inl h, rfl, flat_zs xs, ?_⟩
  rw [if_pos rfl, inV_z]
  exact q
/-- ascending lists of the same numbers -/
theorem ascZ_same {xs ys : List Int} (hx : xs.Pairwise (· < ·)) (hy : ys.Pairwise (· < ·)) (h : ∀ v, v ∈ xs ↔ v ∈ ys) : xs = ys := by
  have nx : xs.Nodup := hx.imp fun h => Int.ne_of_lt h
  have ny : ys.Nodup := hy.imp fun h => Int.ne_of_lt h
  exact ((List.perm_ext_iff_of_nodup nx ny).mpr h).eq_of_pairwise (fun a b _ _ h1 h2 => absurd h1 (Int.lt_asymm h2)) hx hy
theorem sorted_eq {xs ns : List Int} (pw : ns.Pairwise (· < ·)) (h : ∀ v, v ∈ ns ↔ v ∈ xs) : xs = ns ↔ xs.Pairwise (· < ·) := by
  constructor
  · intro e
    rw [e]
    exact pw
  · intro hx
    exact ascZ_same hx pw fun v => (h v).symm
/-! ### ascending? -/
def ascB (xs : List Int) : List Bool := (xs.zip xs.tail).map fun p => decide (p.1 < p.2)
theorem ascB_iff : ∀ xs : List Int, (ascB xs).all id = true ↔ xs.Pairwise (· < ·)
  | [] => by simp [ascB]
  | [a] => by simp [ascB]
  | a :: b :: r => by
    have ih := ascB_iff (b :: r)
    have e : ascB (a :: b :: r) = decide (a < b) :: ascB (b :: r) := rfl
    rw [e, List.all_cons, Bool.and_eq_true, ih]
    constructor
    · rintro ⟨h1, h2⟩
      refine List.pairwise_cons.mpr ⟨fun c hc => ?_, h2⟩
      have h1 : a < b := of_decide_eq_true h1
      rcases List.mem_cons.mp hc with rfl | hc
      · exact h1
      · have := (List.pairwise_cons.mp h2).1 c hc
        omega
    · intro h
      obtain ⟨h1, h2⟩ := List.pairwise_cons.mp h
      exact ⟨decide_eq_true (h1 b (by simp)), h2⟩
theorem ascB_at {xs : List Int} {i : Nat} {a b : Int} (h1 : xs[i]? = some a) (h2 : xs.tail[i]? = some b) : (ascB xs)[i]? = some (decide (a < b)) := by
  unfold ascB
  rw [List.getElem?_map]
  have : (xs.zip xs.tail)[i]? = some (a, b) := List.getElem?_zip_eq_some.mpr ⟨h1, h2⟩
  rw [this]
  rfl
theorem ascB_len (xs : List Int) : (ascB xs).length = xs.tail.length := by
  unfold ascB
  rw [List.length_map, List.length_zip, List.length_tail]
  omega
/-- a bool as it is told -/
theorem qB {Q : VK} {H : Hp} {b c : Bool} (h : b = c) (q : Q (.bl c) H) : Q (V.bl b) H := by
  rw [h]
  exact q
theorem decB {P : Prop} [Decidable P] {b : Bool} (h : b = true ↔ P) : b = decide P := by
  rw [Bool.eq_iff_iff, decide_eq_true_iff]
  exact h
theorem all_map_dec {α : Type} {p : α → Prop} [DecidablePred p] (xs : List α) : ((xs.map fun x => decide (p x)).all id = true) ↔ ∀ x ∈ xs, p x := by
  rw [List.all_map, List.all_eq_true]
  constructor
  · intro h x hx
    exact of_decide_eq_true (h x hx)
  · intro h x hx
    exact decide_eq_true (h x hx)
/-- [p x for x in rows]: bools -/
theorem lc_rowsB {J : It} {xs : List V} {G : Hp → Prop} (w : Walk J xs.length G (YAt xs)) {α : Type} {rows : List α} {f : α → PyData} {p : α → Bool} {tg : TG} {te : TE} {vs : List Nat} {σ : L2.St} {H1 : Hp} {D : Addr} {Qd : Hp → Prop}
    (hG : ∀ H', Same H1 H' → G H') (hD : H1 D = none) (lay : LayAll H1 xs (rows.map f)) (hl : rows.length ≤ 1000)
    (hs : ∀ (x : V) (r : α) (H' : Hp) (R : V → Hp → Prop) (Z : Hp → Prop), r ∈ rows → Same H1 H' → Lay H' x (f r) → (∀ H4, Same H' H4 → R (.bl (p r)) H4) →
      tg x (wipe σ vs) H' fun σ2 H2 => wipe σ2 vs = wipe σ vs ∧ tYes σ2 H2 fun b H3 => if b = true then te σ2 H3 R else Z H3)
    (hd : ∀ H', Same H1 H' → H' D = some (.lst ((rows.map p).map V.bl)) → Qd H') :
    ∃ W : Nat → Nat → Hp → Prop, (∃ m, W 0 m (upd H1 D (.lst []))) ∧ ∀ i m H, W i m H →
      (J.stop i H ∧ Qd H) ∨ (J.go i H ∧ ∃ Nx : Hp → Prop, (∀ H', Nx H' → ∃ m', m' < m ∧ W (i + 1) m' H') ∧ ∀ x H', J.yld i H x H' → tg x (wipe σ vs) H' fun σ2 H2 => wipe σ2 vs = wipe σ vs ∧ tYes σ2 H2 fun b H3 =>
        if b = true then te σ2 H3 fun y H4 => ∃ acc, H4 D = some (.lst acc) ∧ acc.length < sizeLine ∧ Nx (upd H4 D (.lst (acc ++ [y]))) else Nx H3) :=
  lc_rows w hG hD lay hl (g := p) (h := blD) (fun i x r H' R Z hr sm lx k => hs x r H' R Z (List.mem_of_getElem? hr) sm lx fun H4 s4 => k _ _ s4 (.bl _)) fun us H' sm eD lus => hd H' sm (by rw [← lay_bls lus]; exact eD)
theorem useB {R : V → Hp → Prop} {H : Hp} {b c : Bool} (k : R (.bl b) H) (e : b = c) : R (.bl c) H := e ▸ k
theorem rdCatT {K : PySem.W.Frag} {H : Hp} {a b : Addr} {xs ys : List V} {Q : VK} (ha : SqT K H a xs) (hb : SqT K H b ys) (hl : xs.length + ys.length ≤ 1000) (k : ∀ (t : Addr) (H' : Hp), Same H H' → SqT K H' t (xs ++ ys) → Q (.ref t) H') : rCatA K (.ref a) (.ref b) H Q := by
  refine ⟨a, b, xs, ys, rfl, rfl, ha, hb, le1000 hl, fun e => ?_, fun _ e => ?_, fun _ _ p hp => k p _ (fun b u q => by rw [upd_ne (ne_of_none q hp)]; exact q) (SqT.of upd_same)⟩
  · subst e
    exact k b H (.refl _) hb
  · subst e
    exact k a H (.refl _) (by rw [List.append_nil]; exact ha)
theorem vInt_eq (i j : Int) : decide (V.int i = V.int j) = decide (i = j) := by
  by_cases h : i = j
  · subst h; simp
  · rw [decide_eq_false h, decide_eq_false fun e => h (V.int.inj e)]
theorem sortedN {M : List Nat} {ys : List Int} (h : ys.Perm (castL M)) (hp : ys.Pairwise (· ≤ ·)) (nd : M.Nodup) : ∃ zs : List Nat, ys.map V.int = zs.map vI ∧ zs.Pairwise (· < ·) ∧ (∀ v, v ∈ zs ↔ v ∈ M) ∧ zs.length = M.length := by
  have e : ∀ y ∈ ys, y = ((y.toNat : Nat) : Int) := fun y hy => by
    obtain ⟨x, _, rfl⟩ := List.mem_map.mp (h.mem_iff.mp hy)
    simp
  have pz : (ys.map Int.toNat).Perm M := by
    have := h.map Int.toNat
    unfold castL at this
    rw [List.map_map] at this
    have q : M.map (Int.toNat ∘ fun x : Nat => (x : Int)) = M := by
      conv => rhs; rw [← List.map_id M]
      exact List.map_congr_left fun x _ => by simp
    rwa [q] at this
  refine ⟨ys.map Int.toNat, ?_, ?_, fun v => pz.mem_iff, pz.length_eq⟩
  · rw [List.map_map]
    exact List.map_congr_left fun y hy => congrArg V.int (e y hy)
  · have n : (ys.map Int.toNat).Pairwise (· ≠ ·) := pz.nodup_iff.mpr nd
    have l : (ys.map Int.toNat).Pairwise (· ≤ ·) := List.pairwise_map.mpr (hp.imp fun h => Int.toNat_le_toNat h)
    exact (l.and n).imp fun h => Nat.lt_of_le_of_ne h.1 h.2
theorem setZ_keys (M : List Int) : (setZ M).map (·.1) = M.map Sum.inl := by unfold setZ; rw [List.map_map]; rfl
theorem mem_castL {M : List Nat} {x : Nat} : ((x : Int) ∈ castL M) ↔ x ∈ M := by
  unfold castL
  rw [List.mem_map]
  constructor
  · rintro ⟨y, hy, e⟩
    have : y = x := by omega
    rwa [← this]
  · intro h
    exact ⟨x, h, rfl⟩
theorem addZ_cast {M : List Nat} {x : Nat} (h : x ∉ M) : addZ (castL M) (x : Int) = castL (M ++ [x]) := by
  unfold addZ
  rw [if_neg fun q => h (mem_castL.mp q)]
  unfold castL
  rw [List.map_append]
  rfl
end Bf

set_option Elab.async false
set_option linter.all false
set_option maxRecDepth 100000
set_option maxHeartbeats 4000000
namespace Bf
open PySem PySem.Spec PyProof.Rows L2
/-! ### data in lists: stored, cut -/
theorem layAt {H : Hp} {v : V} {d : PyData} (l : Lay H v d) : ∀ (ds : List PyData) (vs : List V) (i : Nat), LayAll H vs ds → LayAll H (vs.set i v) (ds.set i d)
  | [], vs, i, h => by
    obtain rfl := h.nil_inv
    exact h
  | e :: ds, vs, i, h => by
    obtain ⟨u, us, rfl, l0, l1⟩ := h.cons_inv
    cases i with
    | zero => exact .cons l l1
    | succ i => exact .cons l0 (layAt l ds us i l1)
theorem layTake {H : Hp} : ∀ (ds : List PyData) (vs : List V) (n : Nat), LayAll H vs ds → LayAll H (vs.take n) (ds.take n)
  | _, _, 0, _ => by rw [List.take_zero, List.take_zero]; exact .nil
  | [], vs, n + 1, h => by
    obtain rfl := h.nil_inv
    rw [List.take_nil, List.take_nil]
    exact .nil
  | e :: ds, vs, n + 1, h => by
    obtain ⟨u, us, rfl, l0, l1⟩ := h.cons_inv
    rw [List.take_succ_cons, List.take_succ_cons]
    exact .cons l0 (layTake ds us n l1)
theorem layDrop {H : Hp} : ∀ (ds : List PyData) (vs : List V) (n : Nat), LayAll H vs ds → LayAll H (vs.drop n) (ds.drop n)
  | _, _, 0, h => h
  | [], vs, n + 1, h => by
    obtain rfl := h.nil_inv
    rw [List.drop_nil, List.drop_nil]
    exact .nil
  | e :: ds, vs, n + 1, h => by
    obtain ⟨u, us, rfl, l0, l1⟩ := h.cons_inv
    rw [List.drop_succ_cons, List.drop_succ_cons]
    exact layDrop ds us n l1
theorem rdCatN {K : PySem.W.Frag} {H : Hp} {a b : Addr} {xs ys : List V} {Q : VK} (ha : SqT K H a xs) (hb : SqT K H b ys) (hl : xs.length + ys.length ≤ 1000) (nx : xs ≠ []) (ny : ys ≠ []) (k : ∀ p : Addr, H p = none → Q (.ref p) (upd H p (.tup (xs ++ ys)))) : rCatA K (.ref a) (.ref b) H Q :=
  ⟨a, b, xs, ys, rfl, rfl, ha, hb, le1000 hl, fun e => absurd e nx, fun _ e => absurd e ny, fun _ _ p hp => k p hp⟩
theorem map_erase {α β : Type} (f : α → β) : ∀ (l : List α) (i : Nat), (l.map f).eraseIdx i = (l.eraseIdx i).map f
  | [], _ => rfl
  | _ :: _, 0 => rfl
  | a :: l, i + 1 => by
    show f a :: (l.map f).eraseIdx i = f a :: (l.eraseIdx i).map f
    rw [map_erase f l i]
/-- sorted of data of one kind -/
theorem rdSortD {K : PySem.W.Frag} {H : Hp} {a : Addr} {vs : List V} {β : Type} {bs : List β} {enc : β → PyData} {Q : VK} (h : SqL K H a vs) (l : LayAll H vs (bs.map enc)) (al : ∀ b b', PySem.W.alike (enc b) (enc b') = true) (so : ∀ b, ∃ x r, enc b = .tuple (x :: r)) (de : ∀ b, (enc b).depth ≤ 32)
    (k : ∀ (cs : List β) (us : List V) (p : Addr), cs.Perm bs → LayAll (upd H p (.lst us)) us (cs.map enc) → H p = none → Q (.ref p) (upd H p (.lst us))) : rSortedD K [.ref a] H Q :=
  ⟨β, a, vs, bs, enc, rfl, h, l, PySem.W.AllAlike.of al, PySem.W.Sortable.tuples so, fun b _ => de b, fun us p lu hp => k _ us p (sortD_perm enc bs) (lu.keep' (.same (same_two (.refl _) hp))) hp⟩
theorem alike_zs : ∀ xs ys : List Int, PySem.W.alikeAll (xs.map zD) (ys.map zD) = true
  | [], _ => by simp [PySem.W.alikeAll]
  | _ :: _, [] => by simp [PySem.W.alikeAll]
  | x :: xs, y :: ys => by
    rw [List.map_cons, List.map_cons, PySem.W.alikeAll, alike_zs xs ys]
    simp [PySem.W.alike, zD]
end Bf

set_option Elab.async false
set_option linter.all false
set_option maxRecDepth 100000
set_option maxHeartbeats 4000000
namespace Bf
open PySem PySem.Spec PyProof.Rows L2
/-! ### registers followed back: the program -/
def optV : Option Nat → V
  | none => .non
  | some a => vI a
def spFirst : Sp := fun vs H Q _ => ∃ (v : V) (N : Net), vs = [v] ∧ Lay H v (netD N) ∧ Q (vI N.first) H
def spRegOf : Sp := fun vs H Q _ => ∃ (v : V) (N : Net) (l : Nat), vs = [v, vI l] ∧ Lay H v (netD N) ∧ Q (optV (N.regAt l)) H
section
variable {P : Program} {w : World} {K : PySem.W.Frag} {mg : Str → Option Value} {base : Heap} {f : Addr} {fd : FuncData}
theorem ok_first (F : Fun K "first_and" "first_and" s_first_and f fd) (T : Txt mg) : FnOk P w K mg base CX0 1 f fd ["net"] spFirst := by
  refine F.ok sc_first_and (fun vs H Q E h => ?_) (fun cdv A outer s H vs Q E hr h => ?_)
  · obtain ⟨v, N, rfl, _⟩ := h
    rfl
  obtain ⟨v, N, rfl, hv, q⟩ := h
  refine ⟨_, (pss_one (ps_ret (pe_op op_add (pe_op op_add pe_int (pe_callB call_len_seq (by rfl) T.n_len (by decide +kernel) (pa_cons (pe_ix ix_tup (pv 0) pe_int (fun _ _ => rfl)) pa_nil))) (pe_callB call_len_seq (by rfl) T.n_len (by decide +kernel) (pa_cons (pe_ix ix_tup (pv 0) pe_int (fun _ _ => rfl)) pa_nil))))), ?_⟩
  obtain ⟨p, pi, pr, pa, po, pc, vr, va, vo, vc, rfl, hN⟩ := hv.net
  have hl := hN.lens
  refine ⟨_, rfl, p, _, _, _, rfl, rfl, SqT.of hN.top, atI_nat (j := 1) rfl, pi, _, rfl, .inr (SqT.of hN.hi), _, _, rfl, rfl, ?_⟩
  refine ⟨_, rfl, p, _, _, _, rfl, rfl, SqT.of hN.top, atI_nat (j := 2) rfl, pr, _, rfl, .inr (SqT.of hN.hr), _, _, rfl, rfl, ?_⟩
  have e : vI N.first = V.int ((1 : Int) + ((N.ins.map V.str).length : Nat) + (vr.length : Nat)) := by
    rw [List.length_map, hl.1]
    show V.int _ = _
    congr 1
  rw [e] at q
  exact q
theorem ok_regOf (F : Fun K "reg_of" "reg_of" s_reg_of f fd) (T : Txt mg) : FnOk P w K mg base CX0 1 f fd ["net", "literal"] spRegOf := by
  refine F.ok sc_reg_of (fun vs H Q E h => ?_) (fun cdv A outer s H vs Q E hr h => ?_)
  · obtain ⟨v, N, l, rfl, _⟩ := h
    rfl
  obtain ⟨v, N, l, rfl, hv, q⟩ := h
  refine ⟨_, (pss_cons (ps_set (i := 2) sc_reg_of.nd rfl (Or.inl rfl) (pe_op op_sub (pe_op op_sub (pe_op op_fdiv (pv 1) pe_int) pe_int) (pe_callB call_len_seq (by rfl) T.n_len (by decide +kernel) (pa_cons (pe_ix ix_tup (pv 0) pe_int (fun _ _ => rfl)) pa_nil))))
      (pss_one (ps_ret (pe_ifExp (pt_chain op_le op_lt pe_int (pv 2) (pe_callB call_len_seq (by rfl) T.n_len (by decide +kernel) (pa_cons (pe_ix ix_tup (pv 0) pe_int (fun _ _ => rfl)) pa_nil))) (pv 2) pe_non)))), ?_⟩
  obtain ⟨p, pi, pr, pa, po, pc, vr, va, vo, vc, rfl, hN⟩ := hv.net
  have hl := hN.lens
  refine ⟨_, rfl, _, _, rfl, rfl, ⟨by decide, by decide⟩, _, _, rfl, rfl, _, rfl, p, _, _, _, rfl, rfl, SqT.of hN.top, atI_nat (j := 1) rfl, pi, _, rfl, .inr (SqT.of hN.hi), _, _, rfl, rfl, ?_⟩
  have e0 : ∀ a : Nat, a + 1 + N.ins.length = l / 2 → V.int ((l : Int) / 2 - 1 - ((N.ins.map V.str).length : Nat)) = vI a := fun a ha => congrArg V.int (by rw [List.length_map]; omega)
  refine ⟨_, rfl, _, _, rfl, rfl, _, rfl, ite2 (fun z => ?_) (fun z => ?_)⟩
  rotate_left
  · have z : ¬ (0 : Int) ≤ (l : Int) / 2 - 1 - ((N.ins.map V.str).length : Nat) := fun h => z (decide_eq_true h)
    rw [List.length_map] at z
    refine ⟨_, rfl, iteF ?_⟩
    have e : N.regAt l = none := by
      unfold Net.regAt
      rw [if_neg (by omega)]
    rw [e] at q
    exact q
  have z : (0 : Int) ≤ (l : Int) / 2 - 1 - ((N.ins.map V.str).length : Nat) := of_decide_eq_true z
  refine ⟨_, rfl, p, _, _, _, rfl, rfl, SqT.of hN.top, atI_nat (j := 2) rfl, pr, _, rfl, .inr (SqT.of hN.hr), _, _, rfl, rfl, _, rfl, ite2 (fun z2 => ?_) (fun z2 => ?_)⟩
  · have z2 : (l : Int) / 2 - 1 - ((N.ins.map V.str).length : Nat) < (vr.length : Int) := of_decide_eq_true z2
    rw [List.length_map] at z z2
    rw [hl.1] at z2
    have e : N.regAt l = some (l / 2 - 1 - N.ins.length) := by
      unfold Net.regAt Net.first
      rw [if_pos (by omega)]
    rw [e] at q
    refine ⟨_, rfl, ?_⟩
    show Q (V.int ((l : Int) / 2 - 1 - ((N.ins.map V.str).length : Nat))) H
    rw [e0 (l / 2 - 1 - N.ins.length) (by omega)]
    exact q
  · have z2 : ¬ (l : Int) / 2 - 1 - ((N.ins.map V.str).length : Nat) < (vr.length : Int) := fun h => z2 (decide_eq_true h)
    rw [List.length_map] at z z2
    rw [hl.1] at z2
    have e : N.regAt l = none := by
      unfold Net.regAt Net.first
      rw [if_neg (by omega)]
    rw [e] at q
    exact q
end
/-! ### traces -/
def spTrace : Sp := fun vs H Q _ => ∃ (v : V) (N : Net) (l : Nat) (ρ : Nat → Nat), vs = [v, vI l] ∧ Lay H v (netD N) ∧ OpenBy N ρ ∧ N.regs.length ≤ 60 ∧
  ∀ (r rw : Addr) (H' : Hp), Same H H' → H' r = some (.tup [.ref rw, vI (trace N l).2]) → H' rw = some (.tup ((trace N l).1.map vI)) → Q (.ref r) H'
section
variable {P : Program} {w : World} {K : PySem.W.Frag} {mg : Str → Option Value} {base : Heap} {f : Addr} {fd : FuncData}
theorem ok_traceOf (F : Fun K "trace_of" "trace_of" s_trace_of f fd) (T : Txt mg) (D_reg_of : Dn P w K mg base "reg_of" ["net", "literal"] 1 spRegOf) : FnOk P w K mg base CX0 2 f fd ["net", "literal"] spTrace := by
  refine F.ok sc_trace_of (fun vs H Q E h => ?_) (fun cdv A outer s H vs Q E hr h => ?_)
  · obtain ⟨v, N, l, ρ, rfl, _⟩ := h
    rfl
  obtain ⟨v, N, l, ρ, rfl, hv, O, h60, q⟩ := h
  refine ⟨_, (pss_cons (ps_set (i := 2) sc_trace_of.nd rfl (Or.inl rfl) (pe_lst pa_nil))
      (pss_cons (ps_set (i := 3) sc_trace_of.nd rfl (Or.inl rfl) (pe_dn D_reg_of (hr.mono (by omega)) (by rfl) (pa_cons (pv 0) (pa_cons (pv 1) pa_nil))))
      (pss_cons (ps_while PassesOwn.never (pt_cmpR op_notN (pv 3) pe_non (nomark _)) (pss_cons (ps_asg (pe_ix ix_tup (pe_ix ix_tup (pv 0) pe_int (fun _ _ => rfl)) (pv 3) (fun _ _ => rfl)) (pg_tup rfl (pgs_cons (pg_name (i := 4) sc_trace_of.nd rfl (Or.inl rfl)) (pgs_cons (pg_name (i := 5) sc_trace_of.nd rfl (Or.inl rfl)) (pgs_cons (pg_name (i := 6) sc_trace_of.nd rfl (Or.inl rfl)) pgs_nil)))))
      (pss_cons (ps_expr (pe_bm PySem.F.plainAttrs_list PySem.F.slot_list_append PySem.F.type_list_append mt_append (pv 2) (pa_cons (pe_op op_xorB (pv 5) (pe_op op_odd (pv 1) pe_int)) pa_nil)))
      (pss_cons (ps_set (i := 1) sc_trace_of.nd rfl (Or.inl rfl) (pe_op op_xorB (pv 6) (pe_op op_odd (pv 1) pe_int)))
      (pss_one (ps_set (i := 3) sc_trace_of.nd rfl (Or.inl rfl) (pe_dn D_reg_of (hr.mono (by omega)) (by rfl) (pa_cons (pv 0) (pa_cons (pv 1) pa_nil)))))))))
      (pss_one (ps_ret (pe_tup (pa_cons (pe_callTy call_tuple_of (by rfl) T.n_tuple (by decide +kernel) (pa_cons (pv 2) pa_nil)) (pa_cons (pv 1) pa_nil)))))))), ?_⟩
  obtain ⟨p, pi, pr, pa, po, pc, vr, va, vo, vc, rfl, hN⟩ := hv.net
  have hl := hN.lens
  refine ⟨Nat.zero_le _, fun R hR => ?_⟩
  have sR := same_new hR (.lst [])
  refine ⟨_, rfl, _, rfl, .ref p, N, l, rfl, (hN.keep (.same sR)).lay, ?_⟩
  refine ⟨fun m σ' H' => ∃ (i : Nat) (v4 v5 v6 : Option V), σ' = [some (.ref p), some (vI (runT N l i).2), some (.ref R), some (optV (N.regAt (runT N l i).2)), v4, v5, v6] ∧ Same H H' ∧ H' R = some (.lst ((runT N l i).1.map vI)) ∧ i ≤ N.regs.length ∧ m = N.regs.length - i,
    ⟨_, 0, _, _, _, rfl, sR, upd_same, Nat.zero_le _, rfl⟩, fun m σ' H' pp => ?_⟩
  obtain ⟨i, v4, v5, v6, rfl, sm, eR, hi, rfl⟩ := pp
  have hlen := runT_len (N := N) (l := l) i
  refine ⟨_, rfl, rfl, _, rfl, ?_⟩
  cases e : N.regAt (runT N l i).2 with
  | none =>
    refine ifN rfl ?_
    have ei := runT_is hi e
    rw [ei] at eR ⊢
    refine ⟨_, rfl, R, _, rfl, .inl ⟨SqL.of eR, fun t ht => ⟨_, rfl, by show 2 ≤ sizeLine; decide, fun r hr => ?_⟩⟩⟩
    have st := sm.trans (same_new ht (.tup ((trace N l).1.map vI)))
    exact q r t _ (st.trans (same_new hr _)) upd_same (same_new hr _ _ _ upd_same)
  | some a =>
    refine ifY rfl ⟨_, fun _ _ h => h, ?_⟩
    obtain ⟨hrk, hln⟩ := runT_rank O i a e
    have ha := regAt_lt e
    have ga : N.regs[a]? = some N.regs[a] := List.getElem?_eq_getElem ha
    have hN' := hN.keep (.same sm)
    obtain ⟨y, hy, ly⟩ := hN'.lr.at_ (d := regD N.regs[a]) a (by rw [List.getElem?_map, ga]; rfl)
    obtain ⟨q0, rfl, eq0⟩ := ly.reg
    have es : N.st0 a = N.regs[a].2.1 := by unfold Net.st0; rw [List.getD_eq_getElem?_getD, ga]; rfl
    have ef : N.flw a = N.regs[a].2.2 := by unfold Net.flw; rw [List.getD_eq_getElem?_getD, ga]; rfl
    rw [← es, ← ef] at eq0
    refine ⟨_, rfl, p, _, _, _, rfl, rfl, SqT.of hN'.top, atI_nat (j := 2) rfl, _, rfl, pr, vr, _, _, rfl, rfl, SqT.of hN'.hr, atI_nat hy, q0, _, rfl, SqT.of eq0, rfl, _, _, rfl, _, _, rfl, _, _, rfl, rfl, ?_⟩
    refine ⟨_, rfl, .inl ⟨rfl, _, SqL.of eR⟩, _, rfl, _, rfl, _, rfl, rfl, _, _, rfl, rfl, R, _, _, rfl, rfl, eR, len1000 (by rw [List.length_map]; omega), ?_⟩
    have sm1 := same_two (o := .lst ((runT N l i).1.map vI ++ [vI (N.st0 a ^^^ ((runT N l i).2 % 2))])) sm hR
    refine ⟨_, rfl, _, rfl, _, rfl, rfl, _, _, rfl, rfl, ?_⟩
    refine ⟨_, rfl, _, rfl, .ref p, N, N.flw a ^^^ ((runT N l i).2 % 2), rfl, (hN.keep (.same sm1)).lay, ?_⟩
    have ers := runT_some e
    refine ⟨N.regs.length - (i + 1), by omega, i + 1, some (V.str N.regs[a].1), some (vI (N.st0 a)), some (vI (N.flw a)), ?_, sm1, ?_, by omega, rfl⟩
    · rw [ers]
      rfl
    · rw [ers, upd_same, List.map_append]
      rfl
end

/-! ### which registers end -/
def kvB (m : List (Nat × Bool)) : List (Key × V) := m.map fun p => (Sum.inl (p.1 : Int), .bl p.2)
theorem kvB_get {m : List (Nat × Bool)} {x : Nat} : (x ∉ m.map Prod.fst ∧ valV (kvB m) (Sum.inl (x : Int)) = none) ∨ ∃ b, (x, b) ∈ m ∧ valV (kvB m) (Sum.inl (x : Int)) = some (.bl b) := by
  induction m with
  | nil => exact .inl ⟨by simp, rfl⟩
  | cons p r ih =>
    by_cases h : p.1 = x
    · refine .inr ⟨p.2, ?_, valV_pos (by show (Sum.inl (p.1 : Int) : Key) = _; rw [h])⟩
      rw [← h]
      simp
    · have hn : (Sum.inl (p.1 : Int) : Key) ≠ Sum.inl (x : Int) := fun e => h (by have := Sum.inl.inj e; omega)
      have e1 : valV (kvB (p :: r)) (Sum.inl (x : Int)) = valV (kvB r) (Sum.inl (x : Int)) := by
        simp [kvB, valV, List.find?_cons, hn]
      rw [e1]
      rcases ih with ⟨a, b⟩ | ⟨b, a, c⟩
      · refine .inl ⟨fun q => ?_, b⟩
        rcases List.mem_cons.mp q with q | q
        · exact h q.symm
        · exact a q
      · exact .inr ⟨b, by simp [a], c⟩
theorem kvB_put {m : List (Nat × Bool)} {x : Nat} {b : Bool} (h : x ∉ m.map Prod.fst) : putK (kvB m) (Sum.inl (x : Int)) (.bl b) = kvB (m ++ [(x, b)]) := by
  have na : ((kvB m).any fun kv => decide (kv.1 = (Sum.inl (x : Int) : Key))) = false := by
    rw [List.any_eq_false]
    intro kv hkv
    obtain ⟨p, hp, rfl⟩ := List.mem_map.mp hkv
    simp
    intro e
    exact h (by rw [← show p.1 = x by omega]; exact List.mem_map_of_mem hp)
  unfold putK
  rw [na]
  unfold kvB
  rw [List.map_append]
  rfl
theorem keepT_dK {H H' : Hp} {a : Addr} {kvs : List (Key × V)} (k : Keep [a] H H') (h : H a = some (.dK kvs)) : KeepT H H' := fun b xs e => k _ _ (by simp; exact fun q => by rw [q, h] at e; cases e) e
structure KnownAt (N : Net) (m : List (Nat × Bool)) : Prop where
  ok : KnownOk N m
  nd : (m.map Prod.fst).Nodup
  lt : ∀ x ∈ m.map Prod.fst, x < N.regs.length
theorem KnownAt.nil {N : Net} : KnownAt N [] := ⟨fun a b h => (by cases h), List.nodup_nil, fun x h => (by cases h)⟩
theorem KnownAt.more {N : Net} {m : List (Nat × Bool)} {x : Nat} {b : Bool} (h : KnownAt N m) (hx : x ∉ m.map Prod.fst) (hl : x < N.regs.length) (hb : b = true ↔ Ends N x) : KnownAt N (m ++ [(x, b)]) := by
  refine ⟨fun a c q => ?_, ?_, fun y hy => ?_⟩
  · rcases List.mem_append.mp q with q | q
    · exact h.ok a c q
    · cases List.mem_singleton.mp q
      exact hb
  · rw [List.map_append]
    exact List.nodup_append.mpr ⟨h.nd, by simp, fun a ha c hc e => hx (by rw [← show c = x from List.mem_singleton.mp hc, ← e]; exact ha)⟩
  · rw [List.map_append] at hy
    rcases List.mem_append.mp hy with q | q
    · exact h.lt y q
    · rw [show y = x from List.mem_singleton.mp q]
      exact hl
theorem nodup_lt_len {xs : List Nat} {n : Nat} (h : xs.Nodup) (hl : ∀ x ∈ xs, x < n) : xs.length ≤ n := by
  have hh : ∀ (xs ys : List Nat), xs.Nodup → (∀ x ∈ xs, x ∈ ys) → xs.length ≤ ys.length := fun xs => by
    induction xs with
    | nil => intro ys _ _; exact Nat.zero_le _
    | cons x r ih =>
      intro ys h hs
      obtain ⟨h1, h2⟩ := List.nodup_cons.mp h
      have hx := hs x (by simp)
      have hl := List.length_erase_of_mem hx
      have hp := List.length_pos_of_mem hx
      have := ih (ys.erase x) h2 fun y hy => (List.mem_erase_of_ne fun e => h1 (by rw [← e]; exact hy)).mpr (hs y (by simp [hy]))
      rw [List.length_cons]
      omega
  have := hh xs (List.range n) h fun x hx => List.mem_range.mpr (hl x hx)
  simpa using this
def spEnds : Sp := fun vs H Q _ => ∃ (v : V) (N : Net) (a : Nat) (k : Addr) (m : List (Nat × Bool)), vs = [v, vI a, .ref k] ∧ Lay H v (netD N) ∧ N.regs.length ≤ 60 ∧ a < N.regs.length ∧ H k = some (.dK (kvB m)) ∧ KnownAt N m ∧
  ∀ (b : Bool) (m' : List (Nat × Bool)) (H' : Hp), (b = true ↔ Ends N a) → H' k = some (.dK (kvB m')) → KnownAt N m' → Keep [k] H H' → Q (.bl b) H'
section
variable {P : Program} {w : World} {K : PySem.W.Frag} {mg : Str → Option Value} {base : Heap} {f : Addr} {fd : FuncData}
theorem ok_endsFrom (F : Fun K "ends_from" "ends_from" s_ends_from f fd) (T : Txt mg) (D_reg_of : Dn P w K mg base "reg_of" ["net", "literal"] 1 spRegOf) : FnOk P w K mg base CX0 2 f fd ["net", "start", "known"] spEnds := by
  refine F.ok sc_ends_from (fun vs H Q E h => ?_) (fun cdv A outer s H vs Q E hr h => ?_)
  · obtain ⟨v, N, a, k, m, rfl, _⟩ := h
    rfl
  obtain ⟨v, N, a, k, m, rfl, hv, h60, ha, ek, KA, q⟩ := h
  refine ⟨_, (pss_cons (ps_set (i := 3) sc_ends_from.nd rfl (Or.inl rfl) pe_dnewK)
      (pss_cons (ps_set (i := 4) sc_ends_from.nd rfl (Or.inl rfl) (pv 1))
      (C8.pss_cut (ps_while PassesOwn.never (PW.pt (pw_and (pt_cmpR op_notN (pv 4) pe_non (nomark _)) (pw_and (pt_cmp (pc_dnotin (hu_of hr) (pv 4) (pv 2))) (pw_and1 (pt_cmp (pc_dnotin (hu_of hr) (pv 4) (pv 3))))))) (pss_cons (ps_dput (hu_of hr) (pv 3) (pv 4) pe_bl rfl)
      (pss_one (ps_set (i := 4) sc_ends_from.nd rfl (Or.inl rfl) (pe_dn D_reg_of (hr.mono (by omega)) (by rfl) (pa_cons (pv 0) (pa_cons (pe_ix ix_tup (pe_ix ix_tup (pe_ix ix_tup (pv 0) pe_int (fun _ _ => rfl)) (pv 4) (fun _ _ => rfl)) pe_int (fun _ _ => rfl)) pa_nil)))))))
      (C8.pss_cut (ps_set (i := 5) sc_ends_from.nd rfl (Or.inl rfl) (pe_or (pe_cmpR op_isN (pv 4) pe_non (nomark _)) (pe_one (pe_dget2 (hu_of hr) (pv 2) (pv 4) pe_bl ⟨by rfl, by rfl, by rfl, by rfl⟩))))
      (pss_cons (ps_lock (ps_for PassesOwn.never rfl (pi_keys (pv 3)) (pg_name (i := 6) sc_ends_from.nd rfl (Or.inl rfl)) (pss_one (ps_dput (hu_of hr) (pv 2) (pv 6) (pv 5) rfl))))
      (pss_one (ps_ret (pv 5)))))))), ?_⟩
  obtain ⟨p, pi, pr, pa, po, pc, vr, va, vo, vc, rfl, hN⟩ := hv.net
  have hl := hN.lens
  have hml := nodup_lt_len KA.nd KA.lt
  rw [List.length_map] at hml
  refine fun R hR => ?_
  have sR := same_new hR (.dK [])
  have nRk : R ≠ k := (ne_of_none ek hR).symm
  refine ⟨_, rfl, ?_⟩
  refine ⟨fun σ' H' => ∃ (w : List Nat) (o : Option Nat), σ' = [some (.ref p), some (vI a), some (.ref k), some (.ref R), some (optV o), none, none] ∧ Same H H' ∧ H' R = some (.dK (setZ (castL w))) ∧ WayBack N m a w o ∧ (o = none ∨ ∃ y, o = some y ∧ (y ∈ m.map Prod.fst ∨ y ∈ w)), ?_, ?_⟩
  · refine ⟨fun n σ' H' => ∃ (w : List Nat) (o : Option Nat), σ' = [some (.ref p), some (vI a), some (.ref k), some (.ref R), some (optV o), none, none] ∧ Same H H' ∧ H' R = some (.dK (setZ (castL w))) ∧ WayBack N m a w o ∧ (∀ y, o = some y → y < N.regs.length) ∧ n = N.regs.length - w.length,
      ⟨_, [], some a, rfl, sR, upd_same, .start, fun y e => by cases e; exact ha, rfl⟩, fun n σ' H' pp => ?_⟩
    obtain ⟨w, o, rfl, sm, eR, W, ho, rfl⟩ := pp
    have wl := W.len
    refine ⟨_, rfl, rfl, _, rfl, ?_⟩
    cases o with
    | none => exact ifN rfl (iteF ⟨w, none, rfl, sm, eR, W, .inl rfl⟩)
    | some y =>
      refine ifY rfl ?_
      have gk := DGet.k (k := Sum.inl (y : Int)) (sm _ _ ek)
      refine ⟨_, rfl, _, rfl, k, _, rfl, gk, _, rfl, ?_⟩
      rcases kvB_get (m := m) (x := y) with ⟨hy, e1⟩ | ⟨b, hb, e1⟩
      rotate_left
      · rw [e1]
        exact iteF (iteF ⟨w, some y, rfl, sm, eR, W, .inr ⟨y, rfl, .inl (List.mem_map_of_mem hb)⟩⟩)
      rw [e1]
      refine iteT ?_
      refine ⟨_, rfl, _, rfl, R, _, rfl, setZ_get eR y, _, rfl, ?_⟩
      rw [setZ_val]
      by_cases hyw : y ∈ w
      · rw [decide_eq_true (mem_castL.mpr hyw)]
        exact iteF ⟨w, some y, rfl, sm, eR, W, .inr ⟨y, rfl, .inr hyw⟩⟩
      rw [decide_eq_false fun h => hyw (mem_castL.mp h)]
      refine iteT ⟨_, fun _ _ h => h, ?_⟩
      have hyl := ho y rfl
      have W2 := W.step hyl hy hyw
      have wl2 := W2.len
      rw [List.length_append, List.length_singleton] at wl2
      have hput := setZ_dput eR (y : Int) (by rw [castL_len]; omega)
      rw [addZ_cast hyw] at hput
      refine ⟨_, rfl, _, rfl, R, _, rfl, hput, ?_⟩
      have sm2 := same_two (o := .dK (setZ (castL (w ++ [y])))) sm hR
      have eR2 := upd_same (H := H') (a := R) (o := .dK (setZ (castL (w ++ [y]))))
      generalize upd H' R (.dK (setZ (castL (w ++ [y])))) = H2 at sm2 eR2 ⊢
      have hN' := hN.keep (.same sm2)
      have gy : N.regs[y]? = some N.regs[y] := List.getElem?_eq_getElem hyl
      obtain ⟨z, hz, lz⟩ := hN'.lr.at_ (d := regD N.regs[y]) y (by rw [List.getElem?_map, gy]; rfl)
      obtain ⟨q0, rfl, eq0⟩ := lz.reg
      have ef : N.flw y = N.regs[y].2.2 := by unfold Net.flw; rw [List.getD_eq_getElem?_getD, gy]; rfl
      rw [← ef] at eq0
      refine ⟨_, rfl, _, rfl, p, _, _, _, rfl, rfl, SqT.of hN'.top, atI_nat (j := 2) rfl, _, rfl, pr, vr, _, _, rfl, rfl, SqT.of hN'.hr, atI_nat hz, q0, _, _, _, rfl, rfl, SqT.of eq0, atI_nat (j := 2) rfl, .ref p, N, N.flw y, rfl, hN'.lay, ?_⟩
      exact ⟨N.regs.length - (w ++ [y]).length, by rw [List.length_append, List.length_singleton]; omega, w ++ [y], N.nxt y, rfl, sm2, eR2, W2, fun b e => regAt_lt e, rfl⟩
  · rintro σ' H1 ⟨w, o, rfl, sm, eR, W, hx⟩
    have ek1 := sm _ _ ek
    refine ⟨fun σ' H' => ∃ b : Bool, σ' = [some (.ref p), some (vI a), some (.ref k), some (.ref R), some (optV o), some (.bl b), none] ∧ H' = H1 ∧ (∀ x ∈ w, (Ends N x ↔ b = true)) ∧ (b = true ↔ Ends N a), ?_, ?_⟩
    · have first : ∀ b : Bool, (∀ x ∈ w, (Ends N x ↔ b = true)) → (w = [] → (Ends N a ↔ b = true)) → (b = true ↔ Ends N a) := fun b h1 h2 => by
        rcases w with _ | ⟨z, r⟩
        · exact (h2 rfl).symm
        · have := W.fst z rfl
          exact (this ▸ (h1 z (by simp)).symm)
      refine ⟨_, rfl, rfl, _, rfl, ?_⟩
      cases o with
      | none =>
        refine ifY rfl ?_
        have hE : ∀ x ∈ w, (Ends N x ↔ true = true) := W.all fun x hx => ⟨fun _ => rfl, fun _ => .out hx⟩
        exact ⟨true, rfl, rfl, hE, first true hE fun e => by have := W.head e; cases this⟩
      | some y =>
        refine ifN rfl ?_
        have gk := DGet.k (k := Sum.inl (y : Int)) ek1
        refine ⟨_, rfl, k, rfl, .inl ⟨_, .inl ek1⟩, _, rfl, _, gk, ?_⟩
        rcases kvB_get (m := m) (x := y) with ⟨hy, e1⟩ | ⟨b, hb, e1⟩
        · rw [e1]
          have hyw : y ∈ w := by
            rcases hx with h | ⟨y', h, h2⟩
            · cases h
            · cases h
              exact h2.resolve_left hy
          have hE : ∀ x ∈ w, (Ends N x ↔ false = true) := W.all fun x hx => by
            rw [ends_some hx]
            exact ⟨fun e => absurd e (W.ring hyw), fun h => (by cases h)⟩
          exact ⟨false, rfl, rfl, hE, first false hE fun e => (by rw [e] at hyw; cases hyw)⟩
        · rw [e1]
          have hE : ∀ x ∈ w, (Ends N x ↔ b = true) := W.all fun x hx => by
            rw [ends_some hx]
            exact (KA.ok y b hb).symm
          exact ⟨b, rfl, rfl, hE, first b hE fun e => by
            have := Option.some.inj (W.head e)
            rw [← this]
            exact (KA.ok y b hb).symm⟩
    · rintro σ' H' ⟨b, rfl, rfl, hE, hA⟩
      refine ⟨R, _, eR, trivial, fun od => ?_⟩
      have nkR : k ≠ R := nRk.symm
      refine ⟨_, rfl, R, od, rfl, .inl ⟨_, upd_same, for_it walk_keys (fun i σ' H2 => ∃ (v6 : Option V), σ' = [some (.ref p), some (vI a), some (.ref k), some (.ref R), some (optV o), some (.bl b), v6] ∧ Keep [k] (upd H' R (.frz od (.dK (setZ (castL w))))) H2 ∧ ∃ m', H2 k = some (.dK (kvB m')) ∧ KnownAt N m' ∧ m'.map Prod.fst = m.map Prod.fst ++ w.take i)
        ⟨_, rfl, .refl _ _, m, by rw [upd_ne nkR]; exact ek1, KA, by simp⟩ (fun i σ' H2 _ pp => ?_) (fun i x σ' H2 H3 hi pp y => ?_) (fun σ' H2 pp => ?_)⟩⟩
      · obtain ⟨_, _, kk, _⟩ := pp
        exact kk _ _ (by simp [nRk]) upd_same
      · obtain ⟨v6, rfl, kk, m', ek2, KA2, hm2⟩ := pp
        obtain ⟨rfl, key, vv, hkv, rfl⟩ := y
        rw [setZ_len, castL_len] at hi
        have gw : w[i]? = some w[i] := List.getElem?_eq_getElem hi
        have e2 : (setZ (castL w))[i]? = some (Sum.inl ((w[i] : Nat) : Int), .bl true) := by
          unfold setZ castL
          rw [List.getElem?_map, List.getElem?_map, gw]
          rfl
        rw [e2] at hkv
        cases hkv
        have hwm : w[i] ∈ w := List.getElem_mem _
        have hnew : w[i] ∉ m'.map Prod.fst := by
          rw [hm2]
          intro q
          rcases List.mem_append.mp q with q | q
          · exact W.new _ hwm q
          · obtain ⟨j, hj, ej⟩ := List.mem_take_iff_getElem.mp q
            have := (List.getElem_inj W.nd).mp ej
            omega
        have hm' := nodup_lt_len KA2.nd KA2.lt
        rw [List.length_map] at hm'
        have hput : DPut H3 k (.int ((w[i] : Nat) : Int)) (.bl b) (upd H3 k (.dK (kvB (m' ++ [(w[i], b)])))) := by
          rw [← kvB_put hnew]
          exact DPut.k (k := Sum.inl ((w[i] : Nat) : Int)) (v := .bl b) ek2 (by unfold kvB; rw [List.length_map]; exact small1000 (by omega))
        refine ⟨_, rfl, _, rfl, _, rfl, k, _, rfl, hput, _, rfl, kk.trans (.upd (by simp)), _, upd_same, KA2.more hnew (W.lt _ hwm) (hE _ hwm).symm, ?_⟩
        rw [List.map_append, hm2, List.take_succ, gw]
        simp
      · obtain ⟨v6, rfl, kk, m', ek2, KA2, hm2⟩ := pp
        refine ⟨kk _ _ (by simp [nRk]) upd_same, ?_⟩
        refine ⟨_, rfl, ?_⟩
        refine q b m' _ hA (by rw [upd_ne nkR]; exact ek2) KA2 fun c u nc hc => ?_
        have hcR : c ≠ R := fun e => by rw [e, hR] at hc; cases hc
        rw [upd_ne hcR]
        exact kk _ _ nc (by rw [upd_ne hcR]; exact sm _ _ hc)
end

/-! ### which are held -/
def spHeld : Sp := fun vs H Q _ => ∃ (v : V) (N : Net), vs = [v] ∧ Lay H v (netD N) ∧ N.regs.length ≤ 60 ∧
  ∀ (r : Addr) (us : List V) (H' : Hp), Same H H' → H' r = some (.tup us) → (us = [] ↔ ∀ a, a < N.regs.length → Ends N a) → Q (.ref r) H'
section
variable {P : Program} {w : World} {K : PySem.W.Frag} {mg : Str → Option Value} {base : Heap} {f : Addr} {fd : FuncData}
theorem ok_heldOf (F : Fun K "held_of" "held_of" s_held_of f fd) (T : Txt mg) (D_ends_from : Dn P w K mg base "ends_from" ["net", "start", "known"] 2 spEnds) : FnOk P w K mg base CX0 3 f fd ["net"] spHeld := by
  refine F.ok sc_held_of (fun vs H Q E h => ?_) (fun cdv A outer s H vs Q E hr h => ?_)
  · obtain ⟨v, N, rfl, _⟩ := h
    rfl
  obtain ⟨v, N, rfl, hv, h60, q⟩ := h
  refine ⟨_, (pss_cons (ps_set (i := 1) sc_held_of.nd rfl (Or.inr rfl) pe_dnewK)
      (pss_one (ps_ret (pe_callTy call_tuple_of (by rfl) T.n_tuple (by decide +kernel) (pa_cons (pe_lc (own := [("at", 2), ("reg", 3)]) (g := (gTup K 2 (gCons (gName 2) (gCons (gName 3) gNil)))) rfl sc_held_of.nd (pi_enumX (by rfl) T.n_enumerate (pa_cons (pe_ix ix_tup (pv 0) pe_int (fun _ _ => rfl)) pa_nil)) (blkOk_by (N := ["net", "known", "at", "reg"]) (sc := defScope s_held_of) (by decide +kernel)) (fun _ _ _ _ _ => (pg_tup rfl (pgs_cons (pg_name (i := 2) sc_held_of.nd rfl (Or.inl rfl)) (pgs_cons (pg_name (i := 3) sc_held_of.nd rfl (Or.inl rfl)) pgs_nil)))) (fun _ _ _ _ _ => (pts_one (pt_not (pt_val (pe_dn D_ends_from (hr.mono (by omega)) (by rfl) (pa_cons (pv 0) (pa_cons (pv 2) (pa_cons (pv 1) pa_nil)))))))) (fun _ _ _ _ _ => (pe_ix (ix_tup : IxR _ (rIxT K)) (pv 3) pe_int (fun _ _ => rfl)))) pa_nil))))), ?_⟩
  obtain ⟨p, pi, pr, pa, po, pc, vr, va, vo, vc, rfl, hN⟩ := hv.net
  have hl := hN.lens
  refine fun kn hkn => ?_
  have sk := same_new hkn (.dK [])
  have ek := upd_same (H := H) (a := kn) (o := .dK [])
  have hN1 := hN.keep (.same sk)
  have nkr : pr ≠ kn := ne_of_none hN.hr hkn
  generalize upd H kn (.dK []) = H1 at sk ek hN1 ⊢
  refine ⟨_, rfl, p, _, _, _, rfl, rfl, SqT.of hN1.top, atI_nat (j := 2) rfl, srcT, pr, vr, rfl, SqT.of hN1.hr, fun Dm hDm => ?_⟩
  have nDk : Dm ≠ kn := (ne_of_none ek hDm).symm
  have hDm0 := sk.free hDm
  have kT : ∀ H', Keep [kn] H1 H' → KeepT H1 H' := fun H' k => keepT_dK k ek
  refine lc_it (walk_enumG srcT (xs := vr)) (fun i H' => Keep [kn] H1 H' ∧ ∃ (m : List (Nat × Bool)) (us : List V), H' kn = some (.dK (kvB m)) ∧ KnownAt N m ∧ H' Dm = some (.lst us) ∧ us.length ≤ i ∧ (us = [] ↔ ∀ a, a < i → Ends N a))
    ⟨.of_same (same_new hDm _), [], [], same_new hDm _ _ _ ek, .nil, upd_same, Nat.le_refl _, ⟨fun _ a h => absurd h (Nat.not_lt_zero _), fun _ => rfl⟩⟩ (fun i H' _ pp => pp.1.seqT (by simp [nkr]) (SqT.of hN1.hr)) (fun i x H4 H5 hi pp y => ?_) (fun H4 pp => ?_)
  · obtain ⟨kk, m, us, ek4, KA, eD, hul, hus⟩ := pp
    obtain ⟨T1, x0, y0, rfl, hT, rfl, e1, e2⟩ := y
    cases e1
    have e2 : vr[i]? = some y0 := e2
    have sT := same_new hT (.tup [V.int (i : Int), y0])
    have hN4 := hN1.keep ((kT _ kk).trans (.same sT))
    obtain ⟨dd, hd1, hd2⟩ := hN4.lr.get i e2
    obtain ⟨rg, hrg, rfl⟩ := mapAtD hd1
    have hi2 : i < N.regs.length := (List.getElem?_eq_some_iff.mp hrg).1
    obtain ⟨q0, rfl, eq0⟩ := hd2.reg
    refine ⟨T1, _, rfl, SqT.of upd_same, rfl, _, _, rfl, _, _, rfl, rfl, rfl, _, rfl, _, rfl, _, rfl, .ref p, N, i, kn, m, rfl, hN4.lay, h60, hi2, sT _ _ ek4, KA, fun b m' H6 hb ek6 KA6 k6 => ⟨b, rfl, ?_⟩⟩
    have kk6 : Keep [kn] H1 H6 := (kk.trans (.of_same sT)).trans k6
    have eD6 : H6 Dm = some (.lst us) := k6 _ _ (by simp [nDk]) (sT _ _ eD)
    cases b with
    | true =>
      refine iteF ⟨kk6, m', us, ek6, KA6, eD6, by omega, ?_⟩
      rw [hus]
      constructor
      · intro h a ha
        by_cases e : a = i
        · rw [e]; exact hb.mp rfl
        · exact h a (by omega)
      · exact fun h a ha => h a (by omega)
    | false =>
      have eq6 := keepT_dK k6 (sT _ _ ek4) _ _ eq0
      refine iteT ⟨_, rfl, q0, _, _, _, rfl, rfl, SqT.of eq6, atI_nat (j := 0) rfl, us, eD6, len1000 (by omega), ?_⟩
      refine ⟨(kk6.cat (Keep.at1 (a := Dm))).thin (by simp [hDm]), m', _, by rw [upd_ne nDk.symm]; exact ek6, KA6, upd_same, by rw [List.length_append]; exact Nat.succ_le_succ hul, ?_⟩
      constructor
      · intro h
        simp at h
      · intro h
        have := hb.mpr (h i (Nat.lt_succ_self _))
        cases this
  · obtain ⟨kk, m, us, ek4, KA, eD, hul, hus⟩ := pp
    rw [hl.1] at hus
    refine ⟨Dm, _, rfl, .inl ⟨SqL.of eD, fun t ht => ?_⟩⟩
    refine q t us _ (fun c u hc => ?_) upd_same hus
    have hck : c ≠ kn := ne_of_none hc hkn
    have h4 := kk _ _ (by simp [hck]) (sk _ _ hc)
    exact same_new ht _ _ _ h4
end

/-! ### the sources of the ands -/
def trD (t : List Nat × Nat) : PyData := .tuple [.tuple (t.1.map fun n : Nat => PyData.int (n : Int)), .int (t.2 : Int)]
def srcOf (t : List Nat × Nat) : Int × Int := ((t.1.length : Int), ((t.2 / 2 : Nat) : Int))
def srcD (row : List (Int × Int)) : PyData := .tuple (row.map p2D)
theorem Lay.tr {H : Hp} {v : V} {t : List Nat × Nat} (h : Lay H v (trD t)) : ∃ q rw, v = .ref q ∧ H q = some (.tup [.ref rw, vI t.2]) ∧ H rw = some (.tup (t.1.map vI)) := by
  obtain ⟨q, vs, rfl, e, la⟩ := h.tup_inv
  obtain ⟨v0, u0, rfl, l0, lb⟩ := la.cons_inv
  obtain ⟨v1, u1, rfl, l1, lc⟩ := lb.cons_inv
  obtain rfl := lc.nil_inv
  obtain rfl := l1.int_inv
  obtain ⟨rw, ws, rfl, e0, lw⟩ := l0.tup_inv
  obtain rfl := lw.ints_inv
  exact ⟨q, rw, rfl, e, e0⟩
def spSources : Sp := fun vs H Q _ => ∃ (v : V) (N : Net) (ρ : Nat → Nat), vs = [v] ∧ Lay H v (netD N) ∧ OpenBy N ρ ∧ N.regs.length ≤ 60 ∧ N.ands.length ≤ 60 ∧
  ∀ (r : Addr) (us : List V) (H' : Hp), Same H H' → H' r = some (.lst us) → LayAll H' us ((srcs N).map srcD) → Q (.ref r) H'
section
variable {P : Program} {w : World} {K : PySem.W.Frag} {mg : Str → Option Value} {base : Heap} {f : Addr} {fd : FuncData}
theorem ok_sources (F : Fun K "sources_of" "sources_of" s_sources_of f fd) (T : Txt mg) (D_trace_of : Dn P w K mg base "trace_of" ["net", "literal"] 2 spTrace) : FnOk P w K mg base CX0 3 f fd ["net"] spSources := by
  refine F.ok sc_sources_of (fun vs H Q E h => ?_) (fun cdv A outer s H vs Q E hr h => ?_)
  · obtain ⟨v, N, ρ, rfl, _⟩ := h
    rfl
  obtain ⟨v, N, ρ, rfl, hv, O, h60, a60, q⟩ := h
  refine ⟨_, (pss_cons (ps_set (i := 1) sc_sources_of.nd rfl (Or.inl rfl) (pe_lst pa_nil))
      (pss_cons (ps_for PassesOwn.never rfl (pi_tup (pe_ix ix_tup (pv 0) pe_int (fun _ _ => rfl))) (pg_name (i := 2) sc_sources_of.nd rfl (Or.inl rfl)) (pss_cons (ps_setLc (i := 3) (own := [("literal", 4)]) (g := (gName 4)) (tt := tYes) rfl sc_sources_of.nd rfl rfl (sw_true rfl rfl rfl (by decide +kernel)) (pi_tup (pv 2)) (blkOk_by (N := ["net", "rows", "pair", "traces", "literal", "row"]) (sc := defScope s_sources_of) (by decide +kernel)) (fun _ _ _ _ _ => (pg_name (i := 4) sc_sources_of.nd rfl (Or.inl rfl))) (fun _ _ _ _ _ => pts_nil) (fun _ _ _ _ _ => (pe_dn D_trace_of (hr.mono (by omega)) (by rfl) (pa_cons (pv 0) (pa_cons (pv 4) pa_nil)))))
      (pss_one (ps_expr (pe_bm PySem.F.plainAttrs_list PySem.F.slot_list_append PySem.F.type_list_append mt_append (pv 1) (pa_cons (pe_callTy call_tuple_of (by rfl) T.n_tuple (by decide +kernel) (pa_cons (pe_lc (own := [("row", 5), ("literal", 4)]) (g := (gTup K 2 (gCons (gName 5) (gCons (gName 4) gNil)))) (tt := tYes) rfl sc_sources_of.nd (pi_list (pv 3)) (blkOk_by (N := ["net", "rows", "pair", "traces", "literal", "row"]) (sc := defScope s_sources_of) (by decide +kernel)) (fun _ _ _ _ _ => (pg_tup rfl (pgs_cons (pg_name (i := 5) sc_sources_of.nd rfl (Or.inl rfl)) (pgs_cons (pg_name (i := 4) sc_sources_of.nd rfl (Or.inl rfl)) pgs_nil)))) (fun _ _ _ _ _ => pts_nil) (fun _ _ _ _ _ => (pe_tup (pa_cons (pe_callB (call_lenK : CallR _ (.builtin "len") (rLenK K)) (by rfl) T.n_len (by decide +kernel) (pa_cons (pv 5) pa_nil)) (pa_cons (pe_op op_fdiv (pv 4) pe_int) pa_nil))))) pa_nil)) pa_nil))))))
      (pss_one (ps_ret (pv 1))))), ?_⟩
  obtain ⟨p, pi, pr, pa, po, pc, vr, va, vo, vc, rfl, hN⟩ := hv.net
  have hl := hN.lens
  refine ⟨Nat.zero_le _, fun R hR => ?_⟩
  have sR := same_new hR (.lst [])
  have hN1 := hN.keep (.same sR)
  refine ⟨_, rfl, p, _, _, _, rfl, rfl, SqT.of hN1.top, atI_nat (j := 3) rfl, pa, rfl, ⟨_, SqT.of hN1.ha⟩, for_it (walk_tup (xs := va)) (fun i σ' H' => ∃ (v2 v3 : Option V), σ' = [some (.ref p), some (.ref R), v2, v3, none, none] ∧ Same H H' ∧ Acc R srcD ((srcs N).take i) H')
    ⟨_, _, rfl, sR, .nil⟩ (fun i σ' H' _ pp => ?_) (fun i x σ' H2 H3 hi pp y => ?_) (fun σ' H2 pp => ?_)⟩
  · obtain ⟨_, _, _, sm, _⟩ := pp
    exact SqT.of (sm _ _ hN.ha)
  · obtain ⟨v2, v3, rfl, sm, hA⟩ := pp
    obtain ⟨rfl, hx⟩ := y
    have hN3 := hN.keep (.same sm)
    obtain ⟨qq, pp, rfl, hpp, eqq⟩ := hN3.and_ hx
    have hsr : (srcs N)[i]? = some [src N pp.1, src N pp.2] := by unfold srcs; rw [List.getElem?_map, hpp]; rfl
    refine ⟨_, rfl, qq, rfl, ⟨_, SqT.of eqq⟩, fun D1 hD1 => ?_⟩
    refine lc_rows (walk_tup (xs := [vI pp.1, vI pp.2])) (rows := [pp.1, pp.2]) (f := intD) (g := trace N) (h := trD) (fun H' s => SqT.of (s _ _ eqq)) hD1 (LayAll.ints [pp.1, pp.2]) (by show 2 ≤ 1000; decide) (fun j y n H' R' Z hn s ly kk => ?_) (fun us1 H4 s4 eD1 lus1 => ?_)
    · obtain rfl := ly.int_inv
      refine ⟨rfl, _, rfl, _, rfl, .ref p, N, n, ρ, rfl, (hN3.keep (.same s)).lay, O, h60, fun r rw H5 s5 er erw => kk _ _ s5 (.tup er (.cons (.tup erw (LayAll.ints _)) (.cons (.int _) .nil)))⟩
    have sm4 := sm.trans s4
    have hA4 := hA.same s4
    obtain ⟨vsA, eA, lA⟩ := id hA4
    refine ⟨_, rfl, .inl ⟨rfl, _, SqL.of eA⟩, _, rfl, D1, rfl, ⟨_, SqL.of eD1⟩, fun D2 hD2 => ?_⟩
    refine lc_rows (walk_list (xs := us1)) (rows := [trace N pp.1, trace N pp.2]) (f := trD) (g := srcOf) (h := p2D) (fun H' s => SqL.of (s _ _ eD1)) hD2 lus1 (by show 2 ≤ 1000; decide) (fun j y t H' R' Z hn s ly kk => ?_) (fun us2 H5 s5 eD2 lus2 => ?_)
    · obtain ⟨q0, rw, rfl, eq0, erw⟩ := ly.tr
      refine ⟨q0, _, rfl, SqT.of eq0, rfl, _, _, rfl, _, _, rfl, rfl, rfl, _, rfl, rw, _, rfl, .inr (SqT.of erw), _, rfl, _, _, rfl, rfl, ⟨by decide, by decide⟩, by show 2 ≤ sizeLine; decide, fun u hu => kk _ _ (same_new hu _) (.tup upd_same ?_)⟩
      rw [List.length_map]
      exact .cons (.int _) (.cons (.int _) .nil)
    refine ⟨D2, _, rfl, .inl ⟨SqL.of eD2, fun t ht => ?_⟩⟩
    have st := s5.trans (same_new ht (.tup us2))
    have sm5 := sm4.trans st
    have hA5 := hA4.same st
    have lt : Lay (upd H5 t (.tup us2)) (.ref t) (srcD [src N pp.1, src N pp.2]) := .tup upd_same (lus2.keep' (.same (same_new ht _)))
    have hlen : ((srcs N).take i).length ≤ 1000 := by rw [List.length_take]; unfold srcs; rw [List.length_map]; omega
    obtain ⟨vs, eB, la, hBp, kp⟩ := hA5.push lt hlen
    refine ⟨R, _, _, rfl, rfl, eB, la, _, _, rfl, same_two sm5 hR, ?_⟩
    rw [take_snoc hsr]
    exact hBp
  · obtain ⟨v2, v3, rfl, sm, us, eA, lA⟩ := pp
    refine ⟨_, rfl, q R us _ sm eA ?_⟩
    rw [List.take_of_length_le (by unfold srcs; rw [List.length_map]; omega)] at lA
    exact lA
end

end Bf

set_option Elab.async false
set_option linter.all false
set_option maxRecDepth 100000
set_option maxHeartbeats 4000000
namespace Bf
open PySem PySem.Spec PyProof.Rows L2
/-! ### traces: the law -/
section
variable {P : Program} {w : World} {K : PySem.W.Frag} {mg : Str → Option Value} {base : Heap} {f : Addr} {fd : FuncData}
theorem ok_ltrace (F : Fun K "_law_trace" "_law_trace" s_law_trace f fd) (T : Txt mg) : FnOk P w K mg base CX0 1 f fd ["_law_net", "_law_literal"] spTrace := by
  refine F.ok sc_law_trace (fun vs H Q E h => ?_) (fun cdv A outer s H vs Q E hr h => ?_)
  · obtain ⟨v, N, l, ρ, rfl, _⟩ := h
    rfl
  obtain ⟨v, N, l, ρ, rfl, hv, O, h60, q⟩ := h
  refine ⟨_, (pss_cons (ps_set (i := 2) sc_law_trace.nd rfl (Or.inl rfl) (pe_op op_add pe_int (pe_callB call_len_seq (by rfl) T.n_len (by decide +kernel) (pa_cons (pe_ix ix_tup (pv 0) pe_int (fun _ _ => rfl)) pa_nil))))
      (pss_cons (ps_set (i := 3) sc_law_trace.nd rfl (Or.inl rfl) (pe_lst pa_nil))
      (pss_cons (ps_for PassesOwn.never rfl (pi_range1 rfl T.n_range (pa_cons (pe_op op_add (pe_callB call_len_seq (by rfl) T.n_len (by decide +kernel) (pa_cons (pe_ix ix_tup (pv 0) pe_int (fun _ _ => rfl)) pa_nil)) pe_int) pa_nil)) (pg_name (i := 4) sc_law_trace.nd rfl (Or.inl rfl)) (pss_cons (ps_set (i := 5) sc_law_trace.nd rfl (Or.inl rfl) (pe_op op_sub (pe_op op_halfN (pv 1) pe_int) (pv 2)))
      (pss_cons (ps_if (pt_not (pt_chain op_le op_lt pe_int (pv 5) (pe_callB call_len_seq (by rfl) T.n_len (by decide +kernel) (pa_cons (pe_ix ix_tup (pv 0) pe_int (fun _ _ => rfl)) pa_nil)))) (pss_one (ps_ret (pe_tup (pa_cons (pe_callTy call_tuple_of (by rfl) T.n_tuple (by decide +kernel) (pa_cons (pv 3) pa_nil)) (pa_cons (pv 1) pa_nil))))) pss_nil)
      (pss_cons (ps_expr (pe_bm PySem.F.plainAttrs_list PySem.F.slot_list_append PySem.F.type_list_append mt_append (pv 3) (pa_cons (pe_op op_xorB (pe_ix ix_tup (pe_ix ix_tup (pe_ix ix_tup (pv 0) pe_int (fun _ _ => rfl)) (pv 5) (fun _ _ => rfl)) pe_int (fun _ _ => rfl)) (pe_op op_odd (pv 1) pe_int)) pa_nil)))
      (pss_one (ps_set (i := 1) sc_law_trace.nd rfl (Or.inl rfl) (pe_op op_xorB (pe_ix ix_tup (pe_ix ix_tup (pe_ix ix_tup (pv 0) pe_int (fun _ _ => rfl)) (pv 5) (fun _ _ => rfl)) pe_int (fun _ _ => rfl)) (pe_op op_odd (pv 1) pe_int))))))))
      (pss_one (ps_ret pe_non))))), ?_⟩
  obtain ⟨p, pi, pr, pa, po, pc, vr, va, vo, vc, rfl, hN⟩ := hv.net
  have hl := hN.lens
  refine ⟨_, rfl, p, _, _, _, rfl, rfl, SqT.of hN.top, atI_nat (j := 1) rfl, pi, _, rfl, .inr (SqT.of hN.hi), _, _, rfl, rfl, ?_⟩
  refine ⟨Nat.zero_le _, fun R hR => ?_⟩
  have sR := same_new hR (.lst [])
  have hN1 := hN.keep (.same sR)
  refine ⟨_, rfl, p, _, _, _, rfl, rfl, SqT.of hN1.top, atI_nat (j := 2) rfl, pr, _, rfl, .inr (SqT.of hN1.hr), _, _, rfl, rfl, ((vr.length : Int) + 1), rfl, by omega, by omega, for_it walk_range (fun i σ' H' => ∃ (v4 v5 : Option V), σ' = [some (.ref p), some (vI (runT N l i).2), some (V.int (1 + ((N.ins.map V.str).length : Nat))), some (.ref R), v4, v5] ∧ Same H H' ∧ H' R = some (.lst ((runT N l i).1.map vI)) ∧ ∀ j, j < i → N.regAt (runT N l j).2 ≠ none)
    ⟨_, _, rfl, sR, upd_same, fun j hj => absurd hj (Nat.not_lt_zero _)⟩ (fun _ _ _ _ _ => trivial) (fun i x σ' H2 H3 hi pp y => ?_) (fun σ' H2 pp => ?_)⟩
  · obtain ⟨v4, v5, rfl, sm, eR, hb⟩ := pp
    obtain ⟨rfl, rfl⟩ := y
    have hlen := runT_len (N := N) (l := l) i
    have hN3 := hN.keep (.same sm)
    obtain ⟨m, hm⟩ : ∃ m, m = (runT N l i).2 := ⟨_, rfl⟩
    rw [← hm]
    have il : (N.ins.map V.str).length = N.ins.length := List.length_map ..
    have ret : N.regAt m = none → ∀ t : Addr, H3 t = none → ∀ r : Addr, (upd H3 t (.tup ((runT N l i).1.map vI))) r = none → Q (.ref r) (upd (upd H3 t (.tup ((runT N l i).1.map vI))) r (.tup [.ref t, vI m])) := fun e t ht r hr => by
      rw [hm] at e ⊢
      have hi2 : i ≤ N.regs.length := by omega
      have ei := runT_is hi2 e
      rw [ei] at hr ⊢
      have st := sm.trans (same_new ht (.tup ((trace N l).1.map vI)))
      exact q r t _ (st.trans (same_new hr _)) upd_same (same_new hr _ _ _ upd_same)
    refine ⟨_, rfl, m, rfl, rfl, _, rfl, _, _, rfl, rfl, ?_⟩
    refine ⟨_, rfl, _, _, rfl, rfl, _, rfl, ite2 (fun z => ?_) (fun z => ?_)⟩
    rotate_left
    · have z : ¬ (0 : Int) ≤ ((m / 2 : Nat) : Int) - (1 + ((N.ins.map V.str).length : Nat)) := fun h => z (decide_eq_true h)
      rw [il] at z
      have e : N.regAt m = none := by
        unfold Net.regAt
        rw [if_neg (by omega)]
      refine ⟨_, rfl, iteT ?_⟩
      refine ⟨_, rfl, R, _, rfl, .inl ⟨SqL.of eR, fun t ht => ⟨_, rfl, by show 2 ≤ sizeLine; decide, fun r hr => ret e t ht r hr⟩⟩⟩
    have z : (0 : Int) ≤ ((m / 2 : Nat) : Int) - (1 + ((N.ins.map V.str).length : Nat)) := of_decide_eq_true z
    rw [il] at z
    refine ⟨_, rfl, p, _, _, _, rfl, rfl, SqT.of hN3.top, atI_nat (j := 2) rfl, pr, _, rfl, .inr (SqT.of hN3.hr), _, _, rfl, rfl, _, rfl, ?_⟩
    by_cases h3 : ((m / 2 : Nat) : Int) - (1 + ((N.ins.map V.str).length : Nat)) < (vr.length : Int)
    rotate_left
    · rw [decide_eq_false h3]
      rw [il, hl.1] at h3
      have e : N.regAt m = none := by
        unfold Net.regAt Net.first
        rw [if_neg (by omega)]
      refine iteT ?_
      refine ⟨_, rfl, R, _, rfl, .inl ⟨SqL.of eR, fun t ht => ⟨_, rfl, by show 2 ≤ sizeLine; decide, fun r hr => ret e t ht r hr⟩⟩⟩
    rw [decide_eq_true h3]
    rw [il, hl.1] at h3
    refine iteF ?_
    obtain ⟨a, hae⟩ : ∃ a, a = m / 2 - 1 - N.ins.length := ⟨_, rfl⟩
    have e : N.regAt m = some a := by
      unfold Net.regAt Net.first
      rw [if_pos (by omega), hae]
    have ha := regAt_lt e
    have ga : N.regs[a]? = some N.regs[a] := List.getElem?_eq_getElem ha
    obtain ⟨y, hy, ly⟩ := hN3.lr.at_ (d := regD N.regs[a]) a (by rw [List.getElem?_map, ga]; rfl)
    obtain ⟨q0, rfl, eq0⟩ := ly.reg
    have es : N.st0 a = N.regs[a].2.1 := by unfold Net.st0; rw [List.getD_eq_getElem?_getD, ga]; rfl
    have ef : N.flw a = N.regs[a].2.2 := by unfold Net.flw; rw [List.getD_eq_getElem?_getD, ga]; rfl
    rw [← es, ← ef] at eq0
    have hat : atI vr (((m / 2 : Nat) : Int) - (1 + ((N.ins.map V.str).length : Nat))) = some (.ref q0) := by
      rw [il, show ((m / 2 : Nat) : Int) - (1 + (N.ins.length : Nat)) = (a : Int) by omega]
      exact atI_nat hy
    refine ⟨_, rfl, .inl ⟨rfl, _, SqL.of eR⟩, _, rfl, p, _, _, _, rfl, rfl, SqT.of hN3.top, atI_nat (j := 2) rfl, _, rfl, pr, vr, _, _, rfl, rfl, SqT.of hN3.hr, hat, q0, _, _, _, rfl, rfl, SqT.of eq0, atI_nat (j := 1) rfl, _, rfl, m, rfl, rfl, _, _, rfl, rfl, R, _, _, rfl, rfl, eR, len1000 (by rw [List.length_map]; omega), ?_⟩
    have sm1 := same_two (o := .lst ((runT N l i).1.map vI ++ [vI (N.st0 a ^^^ (m % 2))])) sm hR
    have hN4 := hN.keep (.same sm1)
    have eq1 : (upd H3 R (.lst ((runT N l i).1.map vI ++ [vI (N.st0 a ^^^ (m % 2))]))) q0 = some (.tup [.str N.regs[a].1, vI (N.st0 a), vI (N.flw a)]) := KeepT.lst eR _ _ eq0
    refine ⟨_, rfl, p, _, _, _, rfl, rfl, SqT.of hN4.top, atI_nat (j := 2) rfl, _, rfl, pr, vr, _, _, rfl, rfl, SqT.of hN4.hr, hat, q0, _, _, _, rfl, rfl, SqT.of eq1, atI_nat (j := 2) rfl, _, rfl, m, rfl, rfl, _, _, rfl, rfl, ?_⟩
    rw [hm] at e
    have ers := runT_some e
    refine ⟨some (V.int (0 + (i : Int))), some (V.int (((m / 2 : Nat) : Int) - (1 + ((N.ins.map V.str).length : Nat)))), ?_, sm1, ?_, fun j hj => ?_⟩
    · rw [ers, hm]
      rfl
    · rw [ers, upd_same, List.map_append, hm]
      rfl
    · by_cases ej : j = i
      · rw [ej, e]
        exact fun h => by cases h
      · exact hb j (by omega)
  · obtain ⟨v4, v5, rfl, sm, eR, hb⟩ := pp
    exact absurd (runT_end O l) (hb N.regs.length (by omega))
end

/-! ### the feeds of the ands: rows of rows -/
structure FeedsAt (H : Hp) (r : Addr) (rows : List (List (Int × Int))) (qs : List Addr) : Prop where
  top : H r = some (.lst (qs.map V.ref))
  len : qs.length = rows.length
  row : ∀ (j : Nat) (row : List (Int × Int)), rows[j]? = some row → ∃ q vs, qs[j]? = some q ∧ H q = some (.lst vs) ∧ LayAll H vs (row.map p2D)
theorem FeedsAt.same {H H' : Hp} {r : Addr} {rows : List (List (Int × Int))} {qs : List Addr} (h : FeedsAt H r rows qs) (s : Same H H') : FeedsAt H' r rows qs :=
  ⟨s _ _ h.top, h.len, fun j row e => let ⟨q, vs, a, b, c⟩ := h.row j row e; ⟨q, vs, a, s _ _ b, c.keep' (.same s)⟩⟩
def spFeeds : Sp := fun vs H Q _ => ∃ (v : V) (N : Net) (ρ : Nat → Nat), vs = [v] ∧ Lay H v (netD N) ∧ OpenBy N ρ ∧ N.regs.length ≤ 60 ∧ N.ands.length ≤ 60 ∧
  ∀ (r : Addr) (qs : List Addr) (H' : Hp), Same H H' → FeedsAt H' r (srcs N) qs → Q (.ref r) H'
section
variable {P : Program} {w : World} {K : PySem.W.Frag} {mg : Str → Option Value} {base : Heap} {f : Addr} {fd : FuncData}
theorem ok_feeds (F : Fun K "_law_feeds" "_law_feeds" s_law_feeds f fd) (T : Txt mg) (D_law_trace : Dn P w K mg base "_law_trace" ["_law_net", "_law_literal"] 1 spTrace) : FnOk P w K mg base CX0 2 f fd ["_law_net"] spFeeds := by
  refine F.ok sc_law_feeds (fun vs H Q E h => ?_) (fun cdv A outer s H vs Q E hr h => ?_)
  · obtain ⟨v, N, ρ, rfl, _⟩ := h
    rfl
  obtain ⟨v, N, ρ, rfl, hv, O, h60, a60, q⟩ := h
  refine ⟨_, (pss_cons (ps_set (i := 1) sc_law_feeds.nd rfl (Or.inl rfl) (pe_lst pa_nil))
      (pss_cons (ps_for PassesOwn.never rfl (pi_tup (pe_ix ix_tup (pv 0) pe_int (fun _ _ => rfl))) (pg_name (i := 2) sc_law_feeds.nd rfl (Or.inl rfl)) (pss_cons (ps_setLc (i := 3) (own := [("_law_literal", 4)]) (g := (gName 4)) (tt := tYes) rfl sc_law_feeds.nd rfl rfl (sw_true rfl rfl rfl (by decide +kernel)) (pi_tup (pv 2)) (blkOk_by (N := ["_law_net", "_law_found", "_law_pair", "_law_told", "_law_literal", "_law_row"]) (sc := defScope s_law_feeds) (by decide +kernel)) (fun _ _ _ _ _ => (pg_name (i := 4) sc_law_feeds.nd rfl (Or.inl rfl))) (fun _ _ _ _ _ => pts_nil) (fun _ _ _ _ _ => (pe_dn D_law_trace (hr.mono (by omega)) (by rfl) (pa_cons (pv 0) (pa_cons (pv 4) pa_nil)))))
      (pss_one (ps_expr (pe_bm PySem.F.plainAttrs_list PySem.F.slot_list_append PySem.F.type_list_append mt_append (pv 1) (pa_cons (pe_lc (own := [("_law_row", 5)]) (g := (gName 5)) (tt := tYes) rfl sc_law_feeds.nd (pi_list (pv 3)) (blkOk_by (N := ["_law_net", "_law_found", "_law_pair", "_law_told", "_law_literal", "_law_row"]) (sc := defScope s_law_feeds) (by decide +kernel)) (fun _ _ _ _ _ => (pg_name (i := 5) sc_law_feeds.nd rfl (Or.inl rfl))) (fun _ _ _ _ _ => pts_nil) (fun _ _ _ _ _ => (pe_tup (pa_cons (pe_callB (call_lenK : CallR _ (.builtin "len") (rLenK K)) (by rfl) T.n_len (by decide +kernel) (pa_cons (pe_ix (ix_tup : IxR _ (rIxT K)) (pv 5) pe_int (fun _ _ => rfl)) pa_nil)) (pa_cons (pe_op op_halfN (pe_ix (ix_tup : IxR _ (rIxT K)) (pv 5) pe_int (fun _ _ => rfl)) pe_int) pa_nil))))) pa_nil))))))
      (pss_one (ps_ret (pv 1))))), ?_⟩
  obtain ⟨p, pi, pr, pa, po, pc, vr, va, vo, vc, rfl, hN⟩ := hv.net
  have hl := hN.lens
  refine ⟨Nat.zero_le _, fun R hR => ?_⟩
  have sR := same_new hR (.lst [])
  have hN1 := hN.keep (.same sR)
  refine ⟨_, rfl, p, _, _, _, rfl, rfl, SqT.of hN1.top, atI_nat (j := 3) rfl, pa, rfl, ⟨_, SqT.of hN1.ha⟩, for_it (walk_tup (xs := va)) (fun i σ' H' => ∃ (v2 v3 : Option V) (qs : List Addr), σ' = [some (.ref p), some (.ref R), v2, v3, none, none] ∧ Same H H' ∧ FeedsAt H' R ((srcs N).take i) qs ∧ R ∉ qs)
    ⟨_, _, [], rfl, sR, ⟨upd_same, rfl, fun j row e => by simp at e⟩, by simp⟩ (fun i σ' H' _ pp => ?_) (fun i x σ' H2 H3 hi pp y => ?_) (fun σ' H2 pp => ?_)⟩
  · obtain ⟨_, _, _, _, sm, _⟩ := pp
    exact SqT.of (sm _ _ hN.ha)
  · obtain ⟨v2, v3, qs, rfl, sm, hF, nR⟩ := pp
    obtain ⟨rfl, hx⟩ := y
    have hN3 := hN.keep (.same sm)
    obtain ⟨qq, pp, rfl, hpp, eqq⟩ := hN3.and_ hx
    have hsr : (srcs N)[i]? = some [src N pp.1, src N pp.2] := by unfold srcs; rw [List.getElem?_map, hpp]; rfl
    have hil := (List.getElem?_eq_some_iff.mp hpp).1
    refine ⟨_, rfl, qq, rfl, ⟨_, SqT.of eqq⟩, fun D1 hD1 => ?_⟩
    refine lc_rows (walk_tup (xs := [vI pp.1, vI pp.2])) (rows := [pp.1, pp.2]) (f := intD) (g := trace N) (h := trD) (fun H' s => SqT.of (s _ _ eqq)) hD1 (LayAll.ints [pp.1, pp.2]) (by show 2 ≤ 1000; decide) (fun j y n H' R' Z hn s ly kk => ?_) (fun us1 H4 s4 eD1 lus1 => ?_)
    · obtain rfl := ly.int_inv
      refine ⟨rfl, _, rfl, _, rfl, .ref p, N, n, ρ, rfl, (hN3.keep (.same s)).lay, O, h60, fun r rw H5 s5 er erw => kk _ _ s5 (.tup er (.cons (.tup erw (LayAll.ints _)) (.cons (.int _) .nil)))⟩
    have sm4 := sm.trans s4
    have hF4 := hF.same s4
    refine ⟨_, rfl, .inl ⟨rfl, _, SqL.of hF4.top⟩, _, rfl, D1, rfl, ⟨_, SqL.of eD1⟩, fun D2 hD2 => ?_⟩
    have nD2 : D2 ≠ R := (ne_of_none hF4.top hD2).symm
    refine lc_rows (walk_list (xs := us1)) (rows := [trace N pp.1, trace N pp.2]) (f := trD) (g := srcOf) (h := p2D) (fun H' s => SqL.of (s _ _ eD1)) hD2 lus1 (by show 2 ≤ 1000; decide) (fun j y t H' R' Z hn s ly kk => ?_) (fun us2 H5 s5 eD2 lus2 => ?_)
    · obtain ⟨q0, rw, rfl, eq0, erw⟩ := ly.tr
      refine ⟨rfl, _, rfl, q0, _, _, _, rfl, rfl, SqT.of eq0, atI_nat (j := 0) rfl, rw, _, rfl, .inr (SqT.of erw), _, rfl, q0, _, _, _, rfl, rfl, SqT.of eq0, atI_nat (j := 1) rfl, t.2, rfl, rfl, by show 2 ≤ sizeLine; decide, fun u hu => kk _ _ (same_new hu _) (.tup upd_same ?_)⟩
      rw [List.length_map]
      exact .cons (.int _) (.cons (.int _) .nil)
    have hF5 := hF4.same s5
    have hql : qs.length ≤ 1000 := by rw [hF5.len, List.length_take]; omega
    refine ⟨R, _, _, rfl, rfl, hF5.top, len1000 (by rw [List.length_map]; exact hql), ?_⟩
    have kT : KeepT H5 (upd H5 R (.lst (qs.map V.ref ++ [.ref D2]))) := .lst hF5.top
    refine ⟨_, _, qs ++ [D2], rfl, same_two (sm4.trans s5) hR, ⟨by rw [upd_same, List.map_append]; rfl, ?_, fun j row e => ?_⟩, fun h => ?_⟩
    · rw [take_snoc hsr, List.length_append, List.length_append, hF5.len]
      rfl
    · rw [take_snoc hsr] at e
      have hlt : ((srcs N).take i).length = i := by rw [List.length_take]; unfold srcs; rw [List.length_map]; omega
      have hqi : qs.length = i := by rw [hF5.len, hlt]
      have hj := (List.getElem?_eq_some_iff.mp e).1
      rw [List.length_append, hlt, List.length_singleton] at hj
      by_cases ej : j = i
      · rw [ej, List.getElem?_append_right (by omega), hlt, Nat.sub_self] at e
        cases e
        exact ⟨D2, us2, by rw [ej, List.getElem?_append_right (by omega), hqi, Nat.sub_self]; rfl, by rw [upd_ne nD2]; exact eD2, lus2.keep' kT⟩
      · rw [List.getElem?_append_left (by omega)] at e
        obtain ⟨q1, vs1, a, b, c⟩ := hF5.row j row e
        have nq : q1 ≠ R := fun z => nR (by rw [← z]; exact List.mem_of_getElem? a)
        exact ⟨q1, vs1, by rw [List.getElem?_append_left (by omega)]; exact a, by rw [upd_ne nq]; exact b, c.keep' kT⟩
    · rcases List.mem_append.mp h with h | h
      · exact nR h
      · exact nD2 (List.mem_singleton.mp h).symm
  · obtain ⟨v2, v3, qs, rfl, sm, hF, nR⟩ := pp
    refine ⟨_, rfl, q R qs _ sm ?_⟩
    rw [List.take_of_length_le (by unfold srcs; rw [List.length_map]; omega)] at hF
    exact hF
end

end Bf

set_option Elab.async false
set_option linter.all false
set_option maxRecDepth 100000
set_option maxHeartbeats 4000000
namespace Bf
open PySem
/-! ### bars of clocks -/
def rowOf (N : Net) (y : Int) : List (Int × Int) := (srcs N).getD (y.toNat - N.first) []
abbrev sumZ (xs : List Int) : Int := xs.sum
structure BarT (N : Net) (clock : Int) (word : Str) (ands counts : List Int) : Prop where
  ne : ands ≠ []
  len : ands.length = counts.length
  rng : ∀ x ∈ ands, (N.first : Int) ≤ x ∧ x < (N.first : Int) + (N.ands.length : Int)
  link : ∀ (k : Nat) (x y c : Int), ands[k]? = some x → ands[k + 1]? = some y → counts[k + 1]? = some c → (c, x) ∈ rowOf N y
  fin : (word = "ring" ∧ (∀ c x y, counts[0]? = some c → ands[ands.length - 1]? = some x → ands[0]? = some y → (c, x) ∈ rowOf N y) ∧ (clock - 1) * sumZ counts < (ands.length : Int)) ∨
    (word = "way" ∧ (∀ c y, counts[0]? = some c → ands[0]? = some y → ∃ x, (c, x) ∈ rowOf N y ∧ x < 1 + (N.ins.length : Int)) ∧ (clock - 1) * (1 + sumZ counts) < (ands.length : Int))
def BarOk (N : Net) (clock : Int) : Option (Str × List Int × List Int) → Prop
  | none => clock = 0
  | some b => 0 < clock ∧ BarT N clock b.1 b.2.1 b.2.2
theorem rowOf_at {N : Net} {y : Int} (h : (N.first : Int) ≤ y ∧ y < (N.first : Int) + (N.ands.length : Int)) : (srcs N)[y.toNat - N.first]? = some (rowOf N y) := by
  have hl : y.toNat - N.first < (srcs N).length := by unfold srcs; rw [List.length_map]; omega
  unfold rowOf
  rw [List.getD_eq_getElem?_getD, List.getElem?_eq_getElem hl]
  rfl
/-- a source is no register -/
theorem rowOf_plain {N : Net} {ρ : Nat → Nat} (O : OpenBy N ρ) {y c x : Int} (h : (c, x) ∈ rowOf N y) : x < (N.first : Int) ↔ x < 1 + (N.ins.length : Int) := by
  unfold rowOf at h
  rw [List.getD_eq_getElem?_getD] at h
  cases e : (srcs N)[y.toNat - N.first]? with
  | none => rw [e] at h; cases h
  | some row =>
    rw [e] at h
    have h : (c, x) ∈ row := h
    unfold srcs at e
    rw [List.getElem?_map] at e
    obtain ⟨p, hp, rfl⟩ := Option.map_eq_some_iff.mp e
    have key : ∀ l : Nat, (c, x) = src N l → (x < (N.first : Int) ↔ x < 1 + (N.ins.length : Int)) := fun l el => by
      unfold src at el
      have ex := congrArg Prod.snd el
      have hn := runT_end O l
      unfold Net.regAt at hn
      split at hn
      · cases hn
      · rename_i hq
        have ex : x = (((trace N l).2 / 2 : Nat) : Int) := ex
        unfold Net.first at hq ⊢
        omega
    rcases List.mem_cons.mp h with h | h
    · exact key _ h
    · exact key _ (List.mem_singleton.mp h)
end Bf

set_option Elab.async false
set_option linter.all false
set_option maxRecDepth 100000
set_option maxHeartbeats 4000000
namespace Bf
open PySem PySem.Spec PyProof.Rows L2
/-! ### slices and sums of tuples, as they lie -/
theorem rdSlX {K : PySem.W.Frag} {H : Hp} {b : Addr} {xs : List V} {lo hi : Option Int} {Q : VK} (hb : H b = some (.tup xs)) (k : ∀ (t : Addr) (H' : Hp), Same H H' → H' t = some (.tup (cutV xs lo hi)) → Q (.ref t) H') : rSlA K (.ref b) lo hi H Q := by
  refine ⟨b, xs, rfl, SqT.of hb, fun hw => ?_, fun hw p hp => k p _ (fun b u q => by rw [upd_ne (ne_of_none q hp)]; exact q) upd_same⟩
  refine k b H (Same.refl _) ?_
  unfold cutV
  rw [hw.1, hw.2, List.drop_zero, Nat.sub_zero, List.take_length]
  exact hb
theorem rdCatX {K : PySem.W.Frag} {H : Hp} {a b : Addr} {xs ys : List V} {Q : VK} (ha : H a = some (.tup xs)) (hb : H b = some (.tup ys)) (hl : xs.length + ys.length ≤ 1000) (k : ∀ (t : Addr) (H' : Hp), Same H H' → H' t = some (.tup (xs ++ ys)) → Q (.ref t) H') : rCatA K (.ref a) (.ref b) H Q := by
  refine ⟨a, b, xs, ys, rfl, rfl, SqT.of ha, SqT.of hb, le1000 hl, fun e => ?_, fun _ e => ?_, fun _ _ p hp => k p _ (fun b u q => by rw [upd_ne (ne_of_none q hp)]; exact q) upd_same⟩
  · subst e
    exact k b H (.refl _) hb
  · subst e
    exact k a H (.refl _) (by rw [List.append_nil]; exact ha)
theorem cutV_succ (xs : List V) (k : Nat) : cutV xs (some ((k : Int) + 1)) none = xs.drop (k + 1) := cutV_from xs (k + 1)
end Bf

set_option Elab.async false
set_option linter.all false
set_option maxRecDepth 100000
set_option maxHeartbeats 4000000
namespace Bf
open PySem PySem.Spec PyProof.Rows L2
/-! ### bars: the program's judge -/
def barD (b : Str × List Int × List Int) : PyData := .tuple [.str b.1, .tuple (b.2.1.map zD), .tuple (b.2.2.map zD)]
def BarAt (H : Hp) (x : V) : Option (Str × List Int × List Int) → Prop
  | none => x = .non
  | some b => Lay H x (barD b)
theorem Lay.bar {H : Hp} {v : V} {b : Str × List Int × List Int} (h : Lay H v (barD b)) : ∃ q qa qc, v = .ref q ∧ H q = some (.tup [.str b.1, .ref qa, .ref qc]) ∧ H qa = some (.tup (b.2.1.map V.int)) ∧ H qc = some (.tup (b.2.2.map V.int)) := by
  obtain ⟨q, vs, rfl, e, la⟩ := h.tup_inv
  obtain ⟨v0, u0, rfl, l0, lb⟩ := la.cons_inv
  obtain ⟨v1, u1, rfl, l1, lc⟩ := lb.cons_inv
  obtain ⟨v2, u2, rfl, l2, ld⟩ := lc.cons_inv
  obtain rfl := ld.nil_inv
  obtain rfl := l0.str_inv
  obtain ⟨qa, wa, rfl, ea, lwa⟩ := l1.tup_inv
  obtain ⟨qc, wc, rfl, ec, lwc⟩ := l2.tup_inv
  rw [lay_zs lwa] at ea
  rw [lay_zs lwc] at ec
  exact ⟨q, qa, qc, rfl, e, ea, ec⟩
def spThing : Sp := fun vs H Q _ => ∃ a n : Int, vs = [.int a, .int n] ∧ Q (.bl (decide (0 ≤ a ∧ a < n))) H
def spFollows : Sp := fun vs H Q _ => ∃ (r : Addr) (us : List V) (N : Net) (node other count : Int), vs = [.ref r, vI N.first, .int node, .int other, .int count] ∧ H r = some (.lst us) ∧ LayAll H us ((srcs N).map srcD) ∧ (N.first : Int) ≤ node ∧ node < (N.first : Int) + (N.ands.length : Int) ∧
  ∀ H' : Hp, Same H H' → Q (.bl (decide ((count, other) ∈ rowOf N node))) H'
section
variable {P : Program} {w : World} {K : PySem.W.Frag} {mg : Str → Option Value} {base : Heap} {f : Addr} {fd : FuncData}
theorem ok_thing (F : Fun K "is_thing" "is_thing" s_is_thing f fd) (T : Txt mg) : FnOk P w K mg base CX0 1 f fd ["number", "many"] spThing := by
  refine F.ok sc_is_thing (fun vs H Q E h => ?_) (fun cdv A outer s H vs Q E hr h => ?_)
  · obtain ⟨a, n, rfl, _⟩ := h
    rfl
  obtain ⟨a, n, rfl, q⟩ := h
  refine ⟨_, (pss_one (ps_ret (pe_chain op_le op_lt pe_int (pv 0) (pv 1)))), ?_⟩
  refine ⟨_, rfl, _, _, rfl, rfl, _, rfl, ite2 (fun z => ?_) (fun z => ?_)⟩
  · have z := of_decide_eq_true z
    refine ⟨_, rfl, _, _, rfl, rfl, ?_⟩
    show Q (.bl (decide (a < n))) H
    rw [show decide (a < n) = decide (0 ≤ a ∧ a < n) by rw [Bool.eq_iff_iff, decide_eq_true_eq, decide_eq_true_eq]; omega]
    exact q
  · have z := of_decide_eq_false (Bool.eq_false_iff.mpr z)
    rw [show (false : Bool) = decide (0 ≤ a ∧ a < n) from (decide_eq_false (by omega)).symm]
    exact q
theorem ok_follows (F : Fun K "follows" "follows" s_follows f fd) (T : Txt mg) : FnOk P w K mg base CX0 1 f fd ["sources", "first", "node", "other", "count"] spFollows := by
  refine F.ok sc_follows (fun vs H Q E h => ?_) (fun cdv A outer s H vs Q E hr h => ?_)
  · obtain ⟨r, us, N, node, other, count, rfl, _⟩ := h
    rfl
  obtain ⟨r, us, N, node, other, count, rfl, er, lu, h1, h2, q⟩ := h
  refine ⟨_, (pss_one (ps_ret (pe_cmpR (op_inDT (hu65 hr)) (pe_tup (pa_cons (pv 4) (pa_cons (pv 3) pa_nil))) (pe_ix ix_list (pv 0) (pe_op op_sub (pv 2) (pv 1)) (fun _ _ => rfl)) (by rfl)))), ?_⟩
  have hrow := rowOf_at (N := N) (y := node) ⟨h1, h2⟩
  refine ⟨_, rfl, _, rfl, by show 2 ≤ sizeLine; decide, fun t ht => ?_⟩
  have st := same_new ht (.tup [V.int count, V.int other])
  obtain ⟨x, hx, lx⟩ := (lu.keep' (.same st)).at_ (d := srcD (rowOf N node)) (node.toNat - N.first) (by rw [List.getElem?_map, hrow]; rfl)
  have hat : atI us (node - (N.first : Int)) = some x := by
    rw [show node - (N.first : Int) = ((node.toNat - N.first : Nat) : Int) by omega]
    exact atI_nat hx
  refine ⟨_, rfl, _, rfl, _, rfl, _, _, rfl, rfl, r, us, _, x, rfl, rfl, SqL.of (st _ _ er), hat, ?_⟩
  exact rdInP (q := (count, other)) (.tup upd_same (.cons (.int _) (.cons (.int _) .nil))) lx (q _ st)
end

theorem Lay.p2 {H : Hp} {v : V} {r : Int × Int} (h : Lay H v (p2D r)) : ∃ q, v = .ref q ∧ H q = some (.tup [V.int r.1, V.int r.2]) := by
  obtain ⟨q, vs, rfl, e, la⟩ := h.tup_inv
  obtain ⟨v0, u0, rfl, l0, lb⟩ := la.cons_inv
  obtain ⟨v1, u1, rfl, l1, lc⟩ := lb.cons_inv
  obtain rfl := lc.nil_inv
  obtain rfl := l0.int_inv
  obtain rfl := l1.int_inv
  exact ⟨q, rfl, e⟩
theorem any_map_dec {α : Type} {p : α → Prop} [DecidablePred p] (xs : List α) : ((xs.map fun x => decide (p x)).any id) = true ↔ ∃ x ∈ xs, p x := by
  rw [List.any_map, List.any_eq_true]
  constructor
  · rintro ⟨x, hx, h⟩
    exact ⟨x, hx, of_decide_eq_true h⟩
  · rintro ⟨x, hx, h⟩
    exact ⟨x, hx, decide_eq_true h⟩
theorem atI_end {xs : List V} {x : V} (h : xs[xs.length - 1]? = some x) : atI xs (-1) = some x := by
  have hl := (List.getElem?_eq_some_iff.mp h).1
  unfold atI ixN
  rw [if_neg (by omega), if_pos (by omega), show ((-1 : Int) + (xs.length : Int)).toNat = xs.length - 1 by omega]
  exact h
theorem eqS (a b : Str) : eqV (.str a) (.str b) = decide (a = b) := by
  by_cases h : a = b
  · subst h
    simp [eqV]
  · simp [eqV, h]
def spJudge : Sp := fun vs H Q _ => ∃ (v x : V) (N : Net) (clock : Int) (bar : Option (Str × List Int × List Int)), vs = [v, .int clock, x] ∧ Lay H v (netD N) ∧ N.regs.length ≤ 60 ∧ N.ands.length ≤ 60 ∧ clock ≤ 1000000 ∧ ((∃ ρ, OpenBy N ρ) ∨ ∃ a, a < N.regs.length ∧ ¬ Ends N a) ∧ BarAt H x bar ∧ (∀ b, bar = some b → b.2.1.length ≤ 200 ∧ b.2.2.length ≤ 200) ∧
  ∀ (b : Bool) (H' : Hp), Same H H' → (b = true ↔ (∀ a, a < N.regs.length → Ends N a) ∧ BarOk N clock bar) → Q (.bl b) H'
section
variable {P : Program} {w : World} {K : PySem.W.Frag} {mg : Str → Option Value} {base : Heap} {f : Addr} {fd : FuncData}
theorem ok_judgeBar (F : Fun K "judge_bar" "judge_bar" s_judge_bar f fd) (T : Txt mg) (D_held_of : Dn P w K mg base "held_of" ["net"] 3 spHeld) (D_first_and : Dn P w K mg base "first_and" ["net"] 1 spFirst)
    (D_is_thing : Dn P w K mg base "is_thing" ["number", "many"] 1 spThing) (D_sources_of : Dn P w K mg base "sources_of" ["net"] 3 spSources) (D_follows : Dn P w K mg base "follows" ["sources", "first", "node", "other", "count"] 1 spFollows) :
    FnOk P w K mg base CX0 4 f fd ["net", "clock", "bar"] spJudge := by
  refine F.ok sc_judge_bar (fun vs H Q E h => ?_) (fun cdv A outer s H vs Q E hr h => ?_)
  · obtain ⟨v, x, N, clock, bar, rfl, _⟩ := h
    rfl
  obtain ⟨v, x, N, clock, bar, rfl, lv, h60, a60, hck, hO, hbar, hlen, q⟩ := h
  refine ⟨_, (pss_cons (ps_if (PW.pt (pw_or (pt_truth (pe_dn D_held_of (hr.mono (by omega)) (by rfl) (pa_cons (pv 0) pa_nil)) (by intro _; rfl)) (pw_or1 (pt_cmpR op_lt (pv 1) pe_int (nomark _))))) (pss_one (ps_ret pe_bl)) pss_nil)
      (pss_cons (ps_if (PW.pt (pw_or (pt_cmpR op_eq (pv 1) pe_int (nomark _)) (pw_or1 (pt_cmpR op_isN (pv 2) pe_non (nomark _))))) (pss_one (ps_ret (pe_and (pe_cmpR op_eq (pv 1) pe_int (nomark _)) (pe_one (pe_cmpR op_isN (pv 2) pe_non (nomark _)))))) pss_nil)
      (pss_cons (ps_asg (pv 2) (pg_tup rfl (pgs_cons (pg_name (i := 3) sc_judge_bar.nd rfl (Or.inl rfl)) (pgs_cons (pg_name (i := 4) sc_judge_bar.nd rfl (Or.inl rfl)) (pgs_cons (pg_name (i := 5) sc_judge_bar.nd rfl (Or.inr rfl)) pgs_nil)))))
      (pss_cons (ps_set (i := 6) sc_judge_bar.nd rfl (Or.inr rfl) (pe_dn D_first_and (hr.mono (by omega)) (by rfl) (pa_cons (pv 0) pa_nil)))
      (pss_cons (ps_if (PW.pt (pw_or (pt_cmpR op_notIn_seq (pv 3) (pe_tup (pa_cons pe_str (pa_cons pe_str pa_nil))) (by rfl)) (pw_or (pt_not (pt_truth (pv 4) (by intro _; rfl))) (pw_or1 (pt_cmpR op_ne (pe_callB call_len_seq (by rfl) T.n_len (by decide +kernel) (pa_cons (pv 4) pa_nil)) (pe_callB call_len_seq (by rfl) T.n_len (by decide +kernel) (pa_cons (pv 5) pa_nil)) (nomark _)))))) (pss_one (ps_ret pe_bl)) pss_nil)
      (pss_cons (ps_if (pt_not (pt_val (pe_callB (cr_all rfl) (by rfl) T.n_all (by decide +kernel) (pa_cons (pe_lc (own := [("node", 7)]) (g := (gName 7)) (tt := tYes) rfl sc_judge_bar.nd (pi_tup (pv 4)) (blkOk_by (N := ["net", "clock", "bar", "word", "ands", "counts", "first", "node", "sources", "before", "count", "begins", "many"]) (sc := defScope s_judge_bar) (by decide +kernel)) (fun _ _ _ _ _ => (pg_name (i := 7) sc_judge_bar.nd rfl (Or.inl rfl))) (fun _ _ _ _ _ => pts_nil) (fun _ _ _ _ _ => (pe_dn D_is_thing (hr.mono (by omega)) (by rfl) (pa_cons (pe_op op_sub (pv 7) (pv 6)) (pa_cons (pe_callB (call_lenK : CallR _ (.builtin "len") (rLenK K)) (by rfl) T.n_len (by decide +kernel) (pa_cons (pe_ix (ix_tup : IxR _ (rIxT K)) (pv 0) pe_int (fun _ _ => rfl)) pa_nil)) pa_nil))))) pa_nil)))) (pss_one (ps_ret pe_bl)) pss_nil)
      (pss_cons (ps_set (i := 8) sc_judge_bar.nd rfl (Or.inl rfl) (pe_dn D_sources_of (hr.mono (by omega)) (by rfl) (pa_cons (pv 0) pa_nil)))
      (pss_cons (ps_for PassesOwn.never rfl (pi_zip3 (by rfl) T.n_zip (pa_cons (pv 4) (pa_cons (pe_slice sl_tupA (pv 4) (po_some pe_int) po_none) (pa_cons (pe_slice sl_tupA (pv 5) (po_some pe_int) po_none) pa_nil)))) (pg_tup rfl (pgs_cons (pg_name (i := 9) sc_judge_bar.nd rfl (Or.inl rfl)) (pgs_cons (pg_name (i := 7) sc_judge_bar.nd rfl (Or.inl rfl)) (pgs_cons (pg_name (i := 10) sc_judge_bar.nd rfl (Or.inl rfl)) pgs_nil)))) (pss_one (ps_if (pt_not (pt_val (pe_dn D_follows (hr.mono (by omega)) (by rfl) (pa_cons (pv 8) (pa_cons (pv 6) (pa_cons (pv 7) (pa_cons (pv 9) (pa_cons (pv 10) pa_nil)))))))) (pss_one (ps_ret pe_bl)) pss_nil)))
      (pss_cons (ps_if (pt_cmpR op_eq (pv 3) pe_str (nomark _)) (pss_one (ps_ret (pe_and (pe_dn D_follows (hr.mono (by omega)) (by rfl) (pa_cons (pv 8) (pa_cons (pv 6) (pa_cons (pe_ix ix_tup (pv 4) pe_int (fun _ _ => rfl)) (pa_cons (pe_ix ix_tup (pv 4) (pe_un un_neg pe_int) (fun _ _ => rfl)) (pa_cons (pe_ix ix_tup (pv 5) pe_int (fun _ _ => rfl)) pa_nil)))))) (pe_one (pe_cmpR op_gt (pe_callB call_len_seq (by rfl) T.n_len (by decide +kernel) (pa_cons (pv 4) pa_nil)) (pe_op op_mul (pe_op op_sub (pv 1) pe_int) (pe_callB (cr_sumT rfl) (by rfl) T.n_sum (by decide +kernel) (pa_cons (pv 5) pa_nil))) (nomark _)))))) pss_nil)
      (pss_cons (ps_set (i := 11) sc_judge_bar.nd rfl (Or.inl rfl) (pe_callB (cr_any rfl) (by rfl) T.n_any (by decide +kernel) (pa_cons (pe_lc (own := [("many", 12), ("node", 7)]) (g := (gTup K 2 (gCons (gName 12) (gCons (gName 7) gNil)))) (tt := tYes) rfl sc_judge_bar.nd (pi_tup (pe_ix ix_list (pv 8) (pe_op op_sub (pe_ix ix_tup (pv 4) pe_int (fun _ _ => rfl)) (pv 6)) (fun _ _ => rfl))) (blkOk_by (N := ["net", "clock", "bar", "word", "ands", "counts", "first", "node", "sources", "before", "count", "begins", "many"]) (sc := defScope s_judge_bar) (by decide +kernel)) (fun _ _ _ _ _ => (pg_tup rfl (pgs_cons (pg_name (i := 12) sc_judge_bar.nd rfl (Or.inl rfl)) (pgs_cons (pg_name (i := 7) sc_judge_bar.nd rfl (Or.inl rfl)) pgs_nil)))) (fun _ _ _ _ _ => pts_nil) (fun _ _ _ _ _ => (pe_and (pe_cmpR op_eq (pv 12) (pe_ix (ix_tup : IxR _ (rIxT K)) (pv 5) pe_int (fun _ _ => rfl)) (nomark _)) (pe_one (pe_cmpR op_lt (pv 7) (pv 6) (nomark _)))))) pa_nil)))
      (pss_one (ps_ret (pe_and (pv 11) (pe_one (pe_cmpR op_gt (pe_callB call_len_seq (by rfl) T.n_len (by decide +kernel) (pa_cons (pv 4) pa_nil)) (pe_op op_mul (pe_op op_sub (pv 1) pe_int) (pe_op op_add pe_int (pe_callB (cr_sumT rfl) (by rfl) T.n_sum (by decide +kernel) (pa_cons (pv 5) pa_nil)))) (nomark _)))))))))))))))), ?_⟩
  refine ⟨_, rfl, v, N, rfl, lv, h60, fun r us H1 s1 er hus => ⟨!us.isEmpty, .inr (.inl ⟨us, SqT.of er, rfl⟩), ?_⟩⟩
  rcases us with _ | ⟨u0, ur⟩
  rotate_left
  · exact iteT (iteT (q false _ s1 ⟨fun h => (by cases h), fun h => absurd (hus.mpr h.1) (by simp)⟩))
  have hall := hus.mp rfl
  obtain ⟨ρ, O⟩ : ∃ ρ, OpenBy N ρ := by
    rcases hO with h | ⟨a, ha, hn⟩
    · exact h
    · exact absurd (hall a ha) hn
  have bad : ∀ H' : Hp, Same H H' → ¬ BarOk N clock bar → Q (.bl false) H' := fun H' s n => q false H' s ⟨fun h => (by cases h), fun h => absurd h.2 n⟩
  have good : ∀ (b : Bool) (H' : Hp), Same H H' → (b = true ↔ BarOk N clock bar) → Q (.bl b) H' := fun b H' s h => q b H' s (h.trans ⟨fun h => ⟨hall, h⟩, fun h => h.2⟩)
  refine iteF ?_
  refine ⟨_, rfl, _, _, rfl, rfl, _, rfl, ite2 (fun z => ?_) (fun z => ?_)⟩
  · have z : clock < 0 := of_decide_eq_true z
    refine bad _ s1 fun h => ?_
    cases bar with
    | none => exact absurd (show clock = 0 from h) (by omega)
    | some b => have := h.1; omega
  have z : ¬ clock < 0 := fun h => z (decide_eq_true h)
  refine ⟨_, rfl, rfl, _, rfl, ite2 (fun z0 => ?_) (fun z0 => ?_)⟩
  · have z0 : clock = 0 := V.int.inj (of_decide_eq_true z0)
    refine iteT ?_
    refine ⟨_, rfl, rfl, _, rfl, ?_⟩
    refine ifY (decide_eq_true (congrArg V.int z0)) ?_
    refine ⟨_, rfl, rfl, ?_⟩
    refine good _ _ s1 ?_
    rw [decide_eq_true_iff]
    cases bar with
    | none => exact ⟨fun _ => z0, fun _ => hbar⟩
    | some b =>
      obtain ⟨qb, qa, qc, rfl, _⟩ := hbar.bar
      exact ⟨fun h => (by cases h), fun h => by have := h.1; omega⟩
  have z0 : ¬ clock = 0 := fun h => z0 (decide_eq_true (congrArg V.int h))
  cases bar with
  | none =>
    obtain rfl : x = .non := hbar
    refine ⟨_, rfl, rfl, _, rfl, ifY rfl ?_⟩
    refine ⟨_, rfl, rfl, _, rfl, ?_⟩
    exact ifN (decide_eq_false fun e => z0 (V.int.inj e)) (by
      first
        | exact bad H1 s1 z0
        | (show Q (.bl (decide (V.int clock = V.int 0))) H1
           rw [decide_eq_false fun e => z0 (V.int.inj e)]
           exact bad H1 s1 z0))
  | some b =>
    obtain ⟨w, ands, counts⟩ := b
    obtain ⟨qb, qa, qc, rfl, eb, ea, ec⟩ := hbar.bar
    obtain ⟨la2, lc2⟩ := hlen _ rfl
    have ea : H qa = some (.tup (ands.map V.int)) := ea
    have ec : H qc = some (.tup (counts.map V.int)) := ec
    have la2 : ands.length ≤ 200 := la2
    have lc2 : counts.length ≤ 200 := lc2
    refine ⟨_, rfl, rfl, _, rfl, ifN rfl ?_⟩
    have bad2 : ∀ H' : Hp, Same H H' → ¬ BarT N clock w ands counts → Q (.bl false) H' := fun H' s n => bad H' s fun h => n h.2
    have good2 : ∀ (b : Bool) (H' : Hp), Same H H' → (b = true ↔ BarT N clock w ands counts) → Q (.bl b) H' := fun b H' s h => good b H' s (h.trans ⟨fun h => ⟨by omega, h⟩, fun h => h.2⟩)
    refine ⟨_, rfl, qb, _, rfl, SqT.of (s1 _ _ eb), rfl, _, _, rfl, _, _, rfl, _, _, rfl, rfl, ?_⟩
    refine ⟨_, rfl, v, N, rfl, lv.keep' (.same s1), ?_⟩
    have ea1 := s1 _ _ ea
    have ec1 := s1 _ _ ec
    refine ⟨_, rfl, by show 2 ≤ sizeLine; decide, fun tw htw => ?_⟩
    have sw := same_new htw (.tup [.str "way", .str "ring"])
    refine ⟨tw, _, rfl, .inr (SqT.of upd_same), rfl, rfl, ?_⟩
    have s2 := s1.trans sw
    have ea2 := sw _ _ ea1
    have ec2 := sw _ _ ec1
    have hin : inV (.str w) [.str "way", .str "ring"] = decide (w = "way" ∨ w = "ring") := by
      unfold inV
      by_cases e1 : w = "way"
      · subst e1; rfl
      · by_cases e2 : w = "ring"
        · subst e2; rfl
        · rw [List.any_cons, List.any_cons, List.any_nil, eqS, eqS, decide_eq_false fun h => e1 h.symm, decide_eq_false fun h => e2 h.symm, decide_eq_false fun h => by rcases h with h | h; exact e1 h; exact e2 h]
          rfl
    rw [if_pos rfl, hin]
    generalize upd H1 tw (.tup [.str "way", .str "ring"]) = H2 at s2 ea2 ec2 ⊢
    refine ⟨_, rfl, ?_⟩
    by_cases hw : w = "way" ∨ w = "ring"
    rotate_left
    · rw [decide_eq_false hw]
      refine iteT (iteT (bad2 _ s2 fun h => hw ?_))
      rcases h.fin with ⟨e, _⟩ | ⟨e, _⟩
      · exact .inr e
      · exact .inl e
    rw [decide_eq_true hw]
    refine iteF ?_
    refine ⟨_, rfl, _, .inr (.inl ⟨_, SqT.of ea2, rfl⟩), ?_⟩
    rcases ands with _ | ⟨a0, ar⟩
    · exact iteT (iteT (bad2 _ s2 fun h => h.ne rfl))
    refine iteF ?_
    generalize hands : a0 :: ar = ands at ea2 bad2 good2 la2
    have ha0 : ands[0]? = some a0 := by rw [← hands]; rfl
    have hne : ands ≠ [] := by rw [← hands]; simp
    have hpos : 1 ≤ ands.length := List.length_pos_iff.mpr hne
    clear hands
    refine ⟨_, rfl, qa, _, rfl, .inr (SqT.of ea2), _, rfl, qc, _, rfl, .inr (SqT.of ec2), rfl, _, rfl, ?_⟩
    rw [List.length_map, List.length_map]
    by_cases hll : ands.length = counts.length
    rotate_left
    · exact ifY (by rw [decide_eq_false fun e => hll (by have := V.int.inj e; omega)]; rfl) (bad2 _ s2 fun h => hll h.len)
    refine ifN (by rw [decide_eq_true (congrArg (fun n : Nat => V.int (n : Int)) hll)]; rfl) ?_
    -- all of them are ands
    obtain ⟨p, pi, pr, pa, po, pc, vr, va, vo, vc, rfl, hN⟩ := (lv.keep' (.same s2)).net
    have hl := hN.lens
    refine ⟨_, rfl, qa, rfl, ⟨_, SqT.of ea2⟩, fun D hD => ?_⟩
    refine lc_rowsB (walk_tup (xs := ands.map V.int)) (rows := ands) (f := zD) (p := fun y => decide (0 ≤ y - (N.first : Int) ∧ y - (N.first : Int) < (N.ands.length : Int))) (fun H' s => SqT.of (s _ _ ea2)) hD (zs_lay _) (by omega) (fun y n H' R' Z hn s ly kk => ?_) (fun H3 s3 eB => ?_)
    · obtain rfl := ly.int_inv
      refine ⟨rfl, _, rfl, _, rfl, _, _, rfl, rfl, _, rfl, p, _, _, _, rfl, rfl, SqT.of (hN.keep (.same s)).top, atI_nat (j := 3) rfl, pa, _, rfl, .inr (SqT.of (hN.keep (.same s)).ha), n - (N.first : Int), (va.length : Int), rfl, ?_⟩
      rw [hl.2.1]
      exact kk _ (.refl _)
    refine ⟨D, _, rfl, SqL.of eB, _, rfl, ?_⟩
    have s3' := s2.trans s3
    by_cases hall2 : ((ands.map fun y => decide (0 ≤ y - (N.first : Int) ∧ y - (N.first : Int) < (N.ands.length : Int))).all id) = true
    rotate_left
    · rw [Bool.eq_false_iff.mpr hall2]
      exact iteT (bad2 _ s3' fun h => hall2 ((all_map_dec (p := fun y : Int => 0 ≤ y - (N.first : Int) ∧ y - (N.first : Int) < (N.ands.length : Int)) _).mpr fun x hx => by have := h.rng x hx; omega))
    rw [hall2]
    have rng : ∀ x ∈ ands, (N.first : Int) ≤ x ∧ x < (N.first : Int) + (N.ands.length : Int) := fun x hx => by
      have := (all_map_dec (p := fun y : Int => 0 ≤ y - (N.first : Int) ∧ y - (N.first : Int) < (N.ands.length : Int)) ands).mp hall2 x hx
      omega
    refine iteF ?_
    refine ⟨_, rfl, .ref p, N, ρ, rfl, hN.lay.keep' (.same s3), O, h60, a60, fun rs us H4 s4 ers lus => ?_⟩
    have s4' := s3'.trans s4
    have ea4 := s4 _ _ (s3 _ _ ea2)
    have ec4 := s4 _ _ (s3 _ _ ec2)
    refine ⟨_, rfl, _, rfl, 1, rfl, ?_⟩
    try delta tNoPart
    refine rdSlX ea4 fun t1 H5 s5 et1 => ?_
    rw [show cutV (ands.map V.int) (some 1) none = (ands.drop 1).map V.int by
      have := cutV_from (ands.map V.int) 1
      rw [show (some 1 : Option Int) = some ((1 : Nat) : Int) from rfl, this, ← List.map_drop]] at et1
    refine ⟨_, rfl, 1, rfl, ?_⟩
    try delta tNoPart
    refine rdSlX (s5 _ _ ec4) fun t2 H6 s6 et2 => ?_
    rw [show cutV (counts.map V.int) (some 1) none = (counts.drop 1).map V.int by
      have := cutV_from (counts.map V.int) 1
      rw [show (some 1 : Option Int) = some ((1 : Nat) : Int) from rfl, this, ← List.map_drop]] at et2
    have et1' := s6 _ _ et1
    have ea6 := s6 _ _ (s5 _ _ ea4)
    have ec6 := s6 _ _ (s5 _ _ ec4)
    have s46 := s5.trans s6
    have s6' := s4'.trans s46
    have ers6 := s46 _ _ ers
    have lus6 := lus.keep' (.same s46)
    refine ⟨srcT, srcT, srcT, qa, t1, t2, _, _, _, rfl, SqT.of ea6, SqT.of et1', SqT.of et2, for_zip3 srcT srcT srcT (xs := ands.map V.int) (ys := (ands.drop 1).map V.int) (us := (counts.drop 1).map V.int) (n := ands.length - 1) (by rw [List.length_map, List.length_map, List.length_map, List.length_drop, List.length_drop]; omega) (fun i σ' H' => ∃ (v7 v9 v10 : Option V), σ' = [some (.ref p), some (.int clock), some (.ref qb), some (.str w), some (.ref qa), some (.ref qc), some (vI N.first), v7, some (.ref rs), v9, v10, none, none] ∧ Same H6 H' ∧ ∀ (k : Nat) (x y c : Int), k < i → ands[k]? = some x → ands[k + 1]? = some y → counts[k + 1]? = some c → (c, x) ∈ rowOf N y)
      ⟨_, _, _, rfl, .refl _, fun k x y c hk => absurd hk (Nat.not_lt_zero _)⟩ (fun i σ' H' pp => ?_) (fun i x0 y0 u0 T1 σ' H' hx0 hy0 hu0 pp hT => ?_) (fun σ' H' pp => ?_)⟩
    · obtain ⟨_, _, _, _, sm, _⟩ := pp
      exact ⟨SqT.of (sm _ _ ea6), SqT.of (sm _ _ et1'), SqT.of (sm _ _ et2)⟩
    · obtain ⟨v7, v9, v10, rfl, sm, hk⟩ := pp
      rw [List.getElem?_map] at hx0 hy0 hu0
      obtain ⟨x, hx, rfl⟩ := Option.map_eq_some_iff.mp hx0
      obtain ⟨y, hy, rfl⟩ := Option.map_eq_some_iff.mp hy0
      obtain ⟨c, hc, rfl⟩ := Option.map_eq_some_iff.mp hu0
      rw [List.getElem?_drop, Nat.add_comm] at hy hc
      have sT := same_new hT (.tup [V.int x, V.int y, V.int c])
      have sm2 := sm.trans sT
      have ry := rng y (List.mem_of_getElem? hy)
      refine ⟨T1, _, rfl, SqT.of upd_same, rfl, _, _, rfl, _, _, rfl, _, _, rfl, rfl, ?_⟩
      refine ⟨_, rfl, _, rfl, _, rfl, _, rfl, _, rfl, rs, us, N, y, x, c, rfl, sm2 _ _ ers6, lus6.keep' (.same sm2), ry.1, ry.2, fun H7 s7 => ⟨_, rfl, ?_⟩⟩
      by_cases hin2 : (c, x) ∈ rowOf N y
      · rw [decide_eq_true hin2]
        refine iteF ⟨_, _, _, rfl, sm2.trans s7, fun k x' y' c' hk' hx' hy' hc' => ?_⟩
        by_cases ek : k = i
        · subst ek
          rw [hx] at hx'
          rw [hy] at hy'
          rw [hc] at hc'
          cases hx'
          cases hy'
          cases hc'
          exact hin2
        · exact hk k x' y' c' (by omega) hx' hy' hc'
      · rw [decide_eq_false hin2]
        exact iteT (bad2 _ ((s6'.trans sm2).trans s7) fun h => hin2 (h.link i x y c hx hy hc))
    obtain ⟨v7, v9, v10, rfl, sm, hk⟩ := pp
    have link : ∀ (k : Nat) (x y c : Int), ands[k]? = some x → ands[k + 1]? = some y → counts[k + 1]? = some c → (c, x) ∈ rowOf N y := fun k x y c hx hy hc => hk k x y c (by have := (List.getElem?_eq_some_iff.mp hy).1; omega) hx hy hc
    obtain ⟨c0, hc0⟩ : ∃ c0, counts[0]? = some c0 := ⟨_, List.getElem?_eq_getElem (by omega)⟩
    obtain ⟨xl, hxl⟩ : ∃ xl, ands[ands.length - 1]? = some xl := ⟨_, List.getElem?_eq_getElem (by omega)⟩
    have s7' := s6'.trans sm
    have ea7 := sm _ _ ea6
    have ec7 := sm _ _ ec6
    have ers7 := sm _ _ ers6
    have lus7 := lus6.keep' (.same sm)
    have ry := rng a0 (List.mem_of_getElem? ha0)
    have ma0 : (ands.map V.int)[0]? = some (V.int a0) := by rw [List.getElem?_map, ha0]; rfl
    have mc0 : (counts.map V.int)[0]? = some (V.int c0) := by rw [List.getElem?_map, hc0]; rfl
    have mxl : (ands.map V.int)[(ands.map V.int).length - 1]? = some (V.int xl) := by rw [List.length_map, List.getElem?_map, hxl]; rfl
    have at0 : atI (ands.map V.int) 0 = some (V.int a0) := atI_nat (j := 0) ma0
    have atc : atI (counts.map V.int) 0 = some (V.int c0) := atI_nat (j := 0) mc0
    refine ⟨_, rfl, rfl, _, rfl, ite2 (fun z5 => ?_) (fun z5 => ?_)⟩
    · have z5 : w = "ring" := V.str.inj (of_decide_eq_true z5)
      refine ⟨_, rfl, _, rfl, _, rfl, qa, _, _, _, rfl, rfl, SqT.of ea7, at0, _, rfl, _, rfl, qa, _, _, _, rfl, rfl, SqT.of ea7, atI_end mxl, _, rfl, qc, _, _, _, rfl, rfl, SqT.of ec7, atc, rs, us, N, a0, xl, c0, rfl, ers7, lus7, ry.1, ry.2, fun H8 s8 => ⟨_, rfl, ?_⟩⟩
      have ea8 := s8 _ _ ea7
      have ec8 := s8 _ _ ec7
      by_cases hin2 : (c0, xl) ∈ rowOf N a0
      rotate_left
      · rw [decide_eq_false hin2]
        refine iteF (bad2 _ (s7'.trans s8) fun h => ?_)
        rcases h.fin with ⟨_, h2, _⟩ | ⟨e, _⟩
        · exact hin2 (h2 c0 xl a0 hc0 hxl ha0)
        · rw [z5] at e
          exact absurd e (by decide)
      rw [decide_eq_true hin2]
      refine iteT ?_
      refine ⟨_, rfl, qa, _, rfl, .inr (SqT.of ea8), _, rfl, _, _, rfl, rfl, _, rfl, qc, counts, rfl, SqT.of ec8, _, _, rfl, rfl, ?_⟩
      have hcm : (-(2 ^ 64) < clock - 1 ∧ clock - 1 < 2 ^ 64) := by omega
      refine ⟨.inl hcm, _, _, rfl, rfl, good2 _ _ (s7'.trans s8) ?_⟩
      rw [decide_eq_true_iff]
      constructor
      · intro h
        refine ⟨hne, hll, rng, link, .inl ⟨z5, fun c x y h1 h2 h3 => ?_, ?_⟩⟩
        · rw [hc0] at h1
          rw [hxl] at h2
          rw [ha0] at h3
          cases h1
          cases h2
          cases h3
          exact hin2
        · rw [List.length_map] at h
          exact h
      · intro h
        rw [List.length_map]
        rcases h.fin with ⟨_, _, h3⟩ | ⟨e, _⟩
        · exact h3
        · rw [z5] at e
          exact absurd e (by decide)
    · have z5 : ¬ w = "ring" := fun e => z5 (decide_eq_true (congrArg V.str e))
      have hwy : w = "way" := hw.resolve_right z5
      obtain ⟨x9, hx9, lx9⟩ := lus7.at_ (d := srcD (rowOf N a0)) (a0.toNat - N.first) (by rw [List.getElem?_map, rowOf_at ry]; rfl)
      obtain ⟨q9, v9', rfl, e9, l9⟩ := lx9.tup_inv
      have hat9 : atI us (a0 - (N.first : Int)) = some (.ref q9) := by
        rw [show a0 - (N.first : Int) = ((a0.toNat - N.first : Nat) : Int) by omega]
        exact atI_nat hx9
      have hl9 : (rowOf N a0).length ≤ 2 := by
        have e := rowOf_at ry
        unfold srcs at e
        rw [List.getElem?_map] at e
        obtain ⟨pp, _, e2⟩ := Option.map_eq_some_iff.mp e
        rw [← e2]
        exact Nat.le_refl _
      refine ⟨_, rfl, _, rfl, qa, _, _, _, rfl, rfl, SqT.of ea7, at0, _, rfl, _, _, rfl, rfl, rs, us, _, _, rfl, rfl, SqL.of ers7, hat9, q9, rfl, ⟨_, SqT.of e9⟩, fun D9 hD9 => ?_⟩
      refine lc_rowsB (walk_tup (xs := v9')) (rows := rowOf N a0) (f := p2D) (p := fun r => decide (r.1 = c0 ∧ r.2 < (N.first : Int))) (fun H' s => SqT.of (s _ _ e9)) hD9 l9 (by omega) (fun y rr H' R' Z hn s ly kk => ?_) (fun H9 s9 eB9 => ?_)
      · obtain ⟨q8, rfl, e8⟩ := ly.p2
        refine ⟨q8, _, rfl, SqT.of e8, rfl, _, _, rfl, _, _, rfl, rfl, rfl, _, rfl, _, rfl, qc, _, _, _, rfl, rfl, SqT.of (s _ _ ec7), atc, rfl, _, rfl, ite2 (fun z8 => ?_) (fun z8 => ?_)⟩
        · have z8 : rr.1 = c0 := V.int.inj (of_decide_eq_true z8)
          refine ⟨_, rfl, _, rfl, _, _, rfl, rfl, useB (kk _ (.refl _)) ?_⟩
          rw [Bool.eq_iff_iff, decide_eq_true_iff, decide_eq_true_iff]
          exact ⟨fun h => h.2, fun h => ⟨z8, h⟩⟩
        · refine useB (kk _ (.refl _)) (decide_eq_false fun h => z8 (decide_eq_true (congrArg V.int h.1)))
      · have s9' := s7'.trans s9
        have ea9 := s9 _ _ ea7
        have ec9 := s9 _ _ ec7
        refine ⟨D9, _, rfl, SqL.of eB9, ?_⟩
        refine ⟨_, rfl, _, rfl, ?_⟩
        have han := any_map_dec (p := fun r : Int × Int => r.1 = c0 ∧ r.2 < (N.first : Int)) (rowOf N a0)
        have hbt : (∃ r ∈ rowOf N a0, r.1 = c0 ∧ r.2 < (N.first : Int)) ↔ ∃ x, (c0, x) ∈ rowOf N a0 ∧ x < 1 + (N.ins.length : Int) := by
          constructor
          · rintro ⟨⟨c, x⟩, h1, rfl, h3⟩
            exact ⟨x, h1, (rowOf_plain O h1).mp h3⟩
          · rintro ⟨x, h1, h2⟩
            exact ⟨(c0, x), h1, rfl, (rowOf_plain O h1).mpr h2⟩
        by_cases hb9 : ((rowOf N a0).map fun r => decide (r.1 = c0 ∧ r.2 < (N.first : Int))).any id = true
        rotate_left
        · rw [Bool.eq_false_iff.mpr hb9]
          refine iteF (bad2 _ s9' fun h => hb9 (han.mpr (hbt.mpr ?_)))
          rcases h.fin with ⟨e, _⟩ | ⟨_, h2, _⟩
          · exact absurd e z5
          · exact h2 c0 a0 hc0 ha0
        have hex := hbt.mp (han.mp hb9)
        rw [hb9]
        refine iteT ?_
        have hcm : (-(2 ^ 64) < clock - 1 ∧ clock - 1 < 2 ^ 64) := by omega
        refine ⟨_, rfl, qa, _, rfl, .inr (SqT.of ea9), _, rfl, _, _, rfl, rfl, _, rfl, qc, counts, rfl, SqT.of ec9, _, _, rfl, rfl, _, _, rfl, rfl, .inl hcm, _, _, rfl, rfl, good2 _ _ s9' ?_⟩
        rw [decide_eq_true_iff, List.length_map]
        constructor
        · intro h
          refine ⟨hne, hll, rng, link, .inr ⟨hwy, fun c y h1 h2 => ?_, h⟩⟩
          rw [hc0] at h1
          rw [ha0] at h2
          cases h1
          cases h2
          exact hex
        · intro h
          rcases h.fin with ⟨e, _⟩ | ⟨_, _, h3⟩
          · exact absurd e z5
          · exact h3
end

end Bf

set_option Elab.async false
set_option linter.all false
set_option maxRecDepth 100000
set_option maxHeartbeats 4000000
namespace Bf
open PySem PySem.Spec PyProof.Rows L2
/-! ### bars: the law's own judge -/
def spTakes : Sp := fun vs H Q _ => ∃ (v x : V) (r : Addr) (qs : List Addr) (N : Net) (clock : Int) (bar : Option (Str × List Int × List Int)), vs = [v, .ref r, .int clock, x] ∧ Lay H v (netD N) ∧ FeedsAt H r (srcs N) qs ∧ N.regs.length ≤ 60 ∧ N.ands.length ≤ 60 ∧ clock ≤ 1000000 ∧ BarAt H x bar ∧ (∀ b, bar = some b → b.2.1.length ≤ 200 ∧ b.2.2.length ≤ 200) ∧
  ∀ (b : Bool) (H' : Hp), Same H H' → (b = true ↔ BarOk N clock bar) → Q (.bl b) H'
section
variable {P : Program} {w : World} {K : PySem.W.Frag} {mg : Str → Option Value} {base : Heap} {f : Addr} {fd : FuncData}
theorem ok_takesBar (F : Fun K "_law_takes_bar" "_law_takes_bar" s_law_takes_bar f fd) (T : Txt mg) : FnOk P w K mg base CX0 1 f fd ["_law_net", "_law_feeds_here", "_law_clock", "_law_bar"] spTakes := by
  refine F.ok sc_law_takes_bar (fun vs H Q E h => ?_) (fun cdv A outer s H vs Q E hr h => ?_)
  · obtain ⟨v, x, r, qs, N, clock, bar, rfl, _⟩ := h
    rfl
  obtain ⟨v, x, r, qs, N, clock, bar, rfl, lv, hF, h60, a60, hck, hbar, hlen, good⟩ := h
  refine ⟨_, (pss_cons (ps_set (i := 4) sc_law_takes_bar.nd rfl (Or.inr rfl) (pe_op op_add pe_int (pe_callB call_len_seq (by rfl) T.n_len (by decide +kernel) (pa_cons (pe_ix ix_tup (pv 0) pe_int (fun _ _ => rfl)) pa_nil))))
      (pss_cons (ps_set (i := 5) sc_law_takes_bar.nd rfl (Or.inr rfl) (pe_op op_add (pv 4) (pe_callB call_len_seq (by rfl) T.n_len (by decide +kernel) (pa_cons (pe_ix ix_tup (pv 0) pe_int (fun _ _ => rfl)) pa_nil))))
      (pss_cons (ps_if (PW.pt (pw_or (pt_cmpR op_le (pv 2) pe_int (nomark _)) (pw_or1 (pt_cmpR op_isN (pv 3) pe_non (nomark _))))) (pss_one (ps_ret (pe_and (pe_cmpR op_eq (pv 2) pe_int (nomark _)) (pe_one (pe_cmpR op_isN (pv 3) pe_non (nomark _)))))) pss_nil)
      (pss_cons (ps_asg (pv 3) (pg_tup rfl (pgs_cons (pg_name (i := 6) sc_law_takes_bar.nd rfl (Or.inl rfl)) (pgs_cons (pg_name (i := 7) sc_law_takes_bar.nd rfl (Or.inl rfl)) (pgs_cons (pg_name (i := 8) sc_law_takes_bar.nd rfl (Or.inl rfl)) pgs_nil)))))
      (pss_cons (ps_if (PW.pt (pw_or (pt_cmpR op_eq (pe_callB call_len_seq (by rfl) T.n_len (by decide +kernel) (pa_cons (pv 7) pa_nil)) pe_int (nomark _)) (pw_or1 (pt_cmpR op_ne (pe_callB call_len_seq (by rfl) T.n_len (by decide +kernel) (pa_cons (pv 7) pa_nil)) (pe_callB call_len_seq (by rfl) T.n_len (by decide +kernel) (pa_cons (pv 8) pa_nil)) (nomark _))))) (pss_one (ps_ret pe_bl)) pss_nil)
      (pss_cons (ps_if (pt_not (pt_val (pe_callB (cr_all rfl) (by rfl) T.n_all (by decide +kernel) (pa_cons (pe_lc (own := [("_law_node", 13)]) (g := (gName 13)) (tt := tYes) rfl sc_law_takes_bar.nd (pi_tup (pv 7)) (blkOk_by (N := ["_law_net", "_law_feeds_here", "_law_clock", "_law_bar", "_law_begin_here", "_law_first", "_law_word", "_law_ands", "_law_counts", "_law_k", "_law_begun", "_law_ends", "_law_count", "_law_node"]) (sc := defScope s_law_takes_bar) (by decide +kernel)) (fun _ _ _ _ _ => (pg_name (i := 13) sc_law_takes_bar.nd rfl (Or.inl rfl))) (fun _ _ _ _ _ => pts_nil) (fun _ _ _ _ _ => (pe_chain op_le op_lt (pv 5) (pv 13) (pe_op op_add (pv 5) (pe_callB (call_lenK : CallR _ (.builtin "len") (rLenK K)) (by rfl) T.n_len (by decide +kernel) (pa_cons (pv 1) pa_nil)))))) pa_nil)))) (pss_one (ps_ret pe_bl)) pss_nil)
      (pss_cons (ps_for PassesOwn.never rfl (pi_range2 rfl T.n_range (pa_cons pe_int (pa_cons (pe_callB call_len_seq (by rfl) T.n_len (by decide +kernel) (pa_cons (pv 7) pa_nil)) pa_nil))) (pg_name (i := 9) sc_law_takes_bar.nd rfl (Or.inl rfl)) (pss_one (ps_if (pt_cmpR (op_notInD (hu65 hr)) (pe_tup (pa_cons (pe_ix ix_tup (pv 8) (pv 9) (fun _ _ => rfl)) (pa_cons (pe_ix ix_tup (pv 7) (pe_op op_sub (pv 9) pe_int) (fun _ _ => rfl)) pa_nil))) (pe_ix ix_list (pv 1) (pe_op op_sub (pe_ix ix_tup (pv 7) (pv 9) (fun _ _ => rfl)) (pv 5)) (fun _ _ => rfl)) (by rfl)) (pss_one (ps_ret pe_bl)) pss_nil)))
      (pss_cons (ps_set (i := 10) sc_law_takes_bar.nd rfl (Or.inl rfl) (pe_ix ix_list (pv 1) (pe_op op_sub (pe_ix ix_tup (pv 7) pe_int (fun _ _ => rfl)) (pv 5)) (fun _ _ => rfl)))
      (pss_cons (ps_if (pt_cmpR op_eq (pv 6) pe_str (nomark _)) (pss_one (ps_ret (pe_and (pe_cmpR (op_inD (hu65 hr)) (pe_tup (pa_cons (pe_ix ix_tup (pv 8) pe_int (fun _ _ => rfl)) (pa_cons (pe_ix ix_tup (pv 7) (pe_un un_neg pe_int) (fun _ _ => rfl)) pa_nil))) (pv 10) (by rfl)) (pe_one (pe_cmpR op_gt (pe_callB call_len_seq (by rfl) T.n_len (by decide +kernel) (pa_cons (pv 7) pa_nil)) (pe_op op_mul (pe_op op_sub (pv 2) pe_int) (pe_callB (cr_sumT rfl) (by rfl) T.n_sum (by decide +kernel) (pa_cons (pv 8) pa_nil))) (nomark _)))))) pss_nil)
      (pss_cons (ps_setLc (i := 11) (own := [("_law_count", 12), ("_law_node", 13)]) (g := (gTup K 2 (gCons (gName 12) (gCons (gName 13) gNil)))) rfl sc_law_takes_bar.nd rfl rfl (sw_true rfl rfl rfl (by decide +kernel)) (pi_list (pv 10)) (blkOk_by (N := ["_law_net", "_law_feeds_here", "_law_clock", "_law_bar", "_law_begin_here", "_law_first", "_law_word", "_law_ands", "_law_counts", "_law_k", "_law_begun", "_law_ends", "_law_count", "_law_node"]) (sc := defScope s_law_takes_bar) (by decide +kernel)) (fun _ _ _ _ _ => (pg_tup rfl (pgs_cons (pg_name (i := 12) sc_law_takes_bar.nd rfl (Or.inl rfl)) (pgs_cons (pg_name (i := 13) sc_law_takes_bar.nd rfl (Or.inl rfl)) pgs_nil)))) (fun _ _ _ _ _ => (pts_one (pt_cmpR op_lt (pv 13) (pv 4) (nomark _)))) (fun _ _ _ _ _ => (pv 12)))
      (pss_one (ps_ret (pe_and (pe_cmpR op_eq (pv 6) pe_str (nomark _)) (pe_and (pe_cmpR op_in_seq (pe_ix ix_tup (pv 8) pe_int (fun _ _ => rfl)) (pv 11) (by rfl)) (pe_one (pe_cmpR op_gt (pe_callB call_len_seq (by rfl) T.n_len (by decide +kernel) (pa_cons (pv 7) pa_nil)) (pe_op op_mul (pe_op op_sub (pv 2) pe_int) (pe_op op_add pe_int (pe_callB (cr_sumT rfl) (by rfl) T.n_sum (by decide +kernel) (pa_cons (pv 8) pa_nil)))) (nomark _))))))))))))))))), ?_⟩
  obtain ⟨p, pi, pr, pa, po, pc, vr, va, vo, vc, rfl, hN⟩ := lv.net
  have hl := hN.lens
  have hsl : (srcs N).length = N.ands.length := by unfold srcs; rw [List.length_map]
  have bad : ∀ H' : Hp, Same H H' → ¬ BarOk N clock bar → Q (.bl false) H' := fun H' s n => good false H' s ⟨fun h => (by cases h), fun h => absurd h n⟩
  refine ⟨_, rfl, p, _, _, _, rfl, rfl, SqT.of hN.top, atI_nat (j := 1) rfl, pi, _, rfl, .inr (SqT.of hN.hi), _, _, rfl, rfl, ?_⟩
  refine ⟨_, rfl, _, rfl, p, _, _, _, rfl, rfl, SqT.of hN.top, atI_nat (j := 2) rfl, pr, _, rfl, .inr (SqT.of hN.hr), _, _, rfl, rfl, ?_⟩
  have eb1 : (1 : Int) + ((N.ins.map V.str).length : Nat) = 1 + (N.ins.length : Int) := by rw [List.length_map]
  have ef1 : (1 : Int) + ((N.ins.map V.str).length : Nat) + (vr.length : Nat) = (N.first : Int) := by rw [List.length_map, hl.1]; unfold Net.first; omega
  refine ⟨_, rfl, _, _, rfl, rfl, _, rfl, ite2 (fun z => ?_) (fun z => ?_)⟩
  · have z : clock ≤ 0 := of_decide_eq_true z
    refine iteT ?_
    refine ⟨_, rfl, rfl, _, rfl, ite2 (fun z2 => ?_) (fun z2 => ?_)⟩
    · have z2 : clock = 0 := V.int.inj (of_decide_eq_true z2)
      refine ⟨_, rfl, rfl, good _ _ (.refl _) ?_⟩
      rw [decide_eq_true_iff]
      cases bar with
      | none => exact ⟨fun _ => z2, fun _ => hbar⟩
      | some b =>
        obtain ⟨qb, qa, qc, rfl, _⟩ := hbar.bar
        exact ⟨fun h => (by cases h), fun h => by have := h.1; omega⟩
    · have z2 : ¬ clock = 0 := fun h => z2 (decide_eq_true (congrArg V.int h))
      refine bad _ (.refl _) fun h => ?_
      cases bar with
      | none => exact z2 h
      | some b => have := h.1; omega
  have z : ¬ clock ≤ 0 := fun h => z (decide_eq_true h)
  cases bar with
  | none =>
    obtain rfl : x = .non := hbar
    refine ⟨_, rfl, rfl, _, rfl, ifY rfl ?_⟩
    refine ⟨_, rfl, rfl, _, rfl, ite2 (fun z2 => ?_) (fun z2 => ?_)⟩
    · have z2 : clock = 0 := V.int.inj (of_decide_eq_true z2)
      omega
    · exact bad _ (.refl _) fun h => z2 (decide_eq_true (congrArg V.int h))
  | some b =>
    obtain ⟨w, ands, counts⟩ := b
    obtain ⟨qb, qa, qc, rfl, eb, ea, ec⟩ := hbar.bar
    obtain ⟨la2, lc2⟩ := hlen _ rfl
    have ea : H qa = some (.tup (ands.map V.int)) := ea
    have ec : H qc = some (.tup (counts.map V.int)) := ec
    have la2 : ands.length ≤ 200 := la2
    have lc2 : counts.length ≤ 200 := lc2
    refine ⟨_, rfl, rfl, _, rfl, ifN rfl ?_⟩
    have bad2 : ∀ H' : Hp, Same H H' → ¬ BarT N clock w ands counts → Q (.bl false) H' := fun H' s n => bad H' s fun h => n h.2
    have good2 : ∀ (b : Bool) (H' : Hp), Same H H' → (b = true ↔ BarT N clock w ands counts) → Q (.bl b) H' := fun b H' s h => good b H' s (h.trans ⟨fun h => ⟨by omega, h⟩, fun h => h.2⟩)
    refine ⟨_, rfl, qb, _, rfl, SqT.of eb, rfl, _, _, rfl, _, _, rfl, _, _, rfl, rfl, ?_⟩
    refine ⟨_, rfl, qa, _, rfl, .inr (SqT.of ea), rfl, _, rfl, ite2 (fun z3 => ?_) (fun z3 => ?_)⟩
    · refine iteT (bad2 _ (.refl _) fun h => h.ne ?_)
      have := V.int.inj (of_decide_eq_true z3)
      rw [List.length_map] at this
      exact List.eq_nil_of_length_eq_zero (by omega)
    have hne : ands ≠ [] := fun e => z3 (decide_eq_true (by rw [e]; rfl))
    have hpos : 1 ≤ ands.length := List.length_pos_iff.mpr hne
    obtain ⟨a0, ha0⟩ : ∃ a0, ands[0]? = some a0 := ⟨_, List.getElem?_eq_getElem (by omega)⟩
    refine ⟨_, rfl, qa, _, rfl, .inr (SqT.of ea), _, rfl, qc, _, rfl, .inr (SqT.of ec), rfl, _, rfl, ?_⟩
    rw [show (ands.map V.int).length = ands.length from List.length_map .., show (counts.map V.int).length = counts.length from List.length_map ..]
    by_cases hll : ands.length = counts.length
    rotate_left
    · exact ifY (by rw [decide_eq_false fun e => hll (by have := V.int.inj e; omega)]; rfl) (bad2 _ (.refl _) fun h => hll h.len)
    refine ifN (by rw [decide_eq_true (congrArg (fun n : Nat => V.int (n : Int)) hll)]; rfl) ?_
    -- all of them are ands
    refine ⟨_, rfl, qa, rfl, ⟨_, SqT.of ea⟩, fun D hD => ?_⟩
    refine lc_rowsB (walk_tup (xs := ands.map V.int)) (rows := ands) (f := zD) (p := fun y => decide ((N.first : Int) ≤ y ∧ y < (N.first : Int) + (N.ands.length : Int))) (fun H' s => SqT.of (s _ _ ea)) hD (zs_lay _) (by omega) (fun y n H' R' Z hn s ly kk => ?_) (fun H3 s3 eB => ?_)
    · obtain rfl := ly.int_inv
      refine ⟨rfl, _, rfl, _, rfl, _, _, rfl, rfl, _, rfl, ite2 (fun z4 => ?_) (fun z4 => ?_)⟩
      · have z4 : (1 : Int) + ((N.ins.map V.str).length : Nat) + (vr.length : Nat) ≤ n := of_decide_eq_true z4
        rw [ef1] at z4
        refine ⟨_, rfl, _, rfl, r, _, rfl, .inl (SqL.of (s _ _ hF.top)), _, _, rfl, rfl, _, _, rfl, rfl, useB (kk _ (.refl _)) ?_⟩
        rw [show (qs.map V.ref).length = N.ands.length by rw [List.length_map, hF.len, hsl], ef1, Bool.eq_iff_iff, decide_eq_true_iff, decide_eq_true_iff]
        exact ⟨fun h => h.2, fun h => ⟨z4, h⟩⟩
      · have z4 : ¬ (1 : Int) + ((N.ins.map V.str).length : Nat) + (vr.length : Nat) ≤ n := fun h => z4 (decide_eq_true h)
        rw [ef1] at z4
        exact useB (kk _ (.refl _)) (decide_eq_false fun h => z4 h.1)
    refine ⟨D, _, rfl, SqL.of eB, _, rfl, ?_⟩
    by_cases hall2 : ((ands.map fun y => decide ((N.first : Int) ≤ y ∧ y < (N.first : Int) + (N.ands.length : Int))).all id) = true
    rotate_left
    · rw [Bool.eq_false_iff.mpr hall2]
      exact iteT (bad2 _ s3 fun h => hall2 ((all_map_dec (p := fun y : Int => (N.first : Int) ≤ y ∧ y < (N.first : Int) + (N.ands.length : Int)) _).mpr h.rng))
    rw [hall2]
    have rng : ∀ x ∈ ands, (N.first : Int) ≤ x ∧ x < (N.first : Int) + (N.ands.length : Int) := (all_map_dec (p := fun y : Int => (N.first : Int) ≤ y ∧ y < (N.first : Int) + (N.ands.length : Int)) ands).mp hall2
    refine iteF ?_
    have ea3 := s3 _ _ ea
    have ec3 := s3 _ _ ec
    have hF3 := hF.same s3
    have rowAt3 : ∀ y, (N.first : Int) ≤ y ∧ y < (N.first : Int) + (N.ands.length : Int) → ∃ q vs, atI (qs.map V.ref) (y - (N.first : Int)) = some (.ref q) ∧ H3 q = some (.lst vs) ∧ LayAll H3 vs ((rowOf N y).map p2D) := fun y hy => by
      obtain ⟨q, vs, a, b, c⟩ := hF3.row _ _ (rowOf_at hy)
      refine ⟨q, vs, ?_, b, c⟩
      rw [show y - (N.first : Int) = ((y.toNat - N.first : Nat) : Int) by omega]
      exact atI_nat (by rw [List.getElem?_map, a]; rfl)
    have rowLen : ∀ y, (N.first : Int) ≤ y ∧ y < (N.first : Int) + (N.ands.length : Int) → (rowOf N y).length ≤ 2 := fun y hy => by
      have e := rowOf_at hy
      unfold srcs at e
      rw [List.getElem?_map] at e
      obtain ⟨pp, _, e2⟩ := Option.map_eq_some_iff.mp e
      rw [← e2]
      exact Nat.le_refl _
    refine ⟨_, rfl, qa, _, rfl, .inr (SqT.of ea3), 1, _, rfl, ⟨by decide, by decide, by rw [List.length_map]; omega, by rw [List.length_map]; omega⟩, ?_⟩
    rw [show (((ands.map V.int).length : Nat) - (1 : Int)).toNat = ands.length - 1 by rw [List.length_map]; omega]
    refine for_it walk_range (fun i σ' H' => ∃ (v9 : Option V), σ' = [some (.ref p), some (.ref r), some (.int clock), some (.ref qb), some (V.int (1 + ((N.ins.map V.str).length : Nat))), some (V.int (1 + ((N.ins.map V.str).length : Nat) + (vr.length : Nat))), some (.str w), some (.ref qa), some (.ref qc), v9, none, none, none, none] ∧ Same H3 H' ∧ ∀ (k : Nat) (x y c : Int), k < i → ands[k]? = some x → ands[k + 1]? = some y → counts[k + 1]? = some c → (c, x) ∈ rowOf N y)
      ⟨_, rfl, .refl _, fun k x y c hk => absurd hk (Nat.not_lt_zero _)⟩ (fun _ _ _ _ _ => trivial) (fun i x0 σ' H4 H5 hi pp y0 => ?_) (fun σ' H4 pp => ?_)
    · obtain ⟨v9, rfl, sm, hk⟩ := pp
      obtain ⟨rfl, rfl⟩ := y0
      obtain ⟨x, hx⟩ : ∃ x, ands[i]? = some x := ⟨_, List.getElem?_eq_getElem (by omega)⟩
      obtain ⟨y, hy⟩ : ∃ y, ands[i + 1]? = some y := ⟨_, List.getElem?_eq_getElem (by omega)⟩
      obtain ⟨c, hc⟩ : ∃ c, counts[i + 1]? = some c := ⟨_, List.getElem?_eq_getElem (by omega)⟩
      have mx : atI (ands.map V.int) (1 + (i : Int) - 1) = some (V.int x) := by
        rw [show (1 : Int) + (i : Int) - 1 = ((i : Nat) : Int) by omega]
        exact atI_nat (by rw [List.getElem?_map, hx]; rfl)
      have my : atI (ands.map V.int) (1 + (i : Int)) = some (V.int y) := by
        rw [show (1 : Int) + (i : Int) = ((i + 1 : Nat) : Int) by omega]
        exact atI_nat (by rw [List.getElem?_map, hy]; rfl)
      have mc : atI (counts.map V.int) (1 + (i : Int)) = some (V.int c) := by
        rw [show (1 : Int) + (i : Int) = ((i + 1 : Nat) : Int) by omega]
        exact atI_nat (by rw [List.getElem?_map, hc]; rfl)
      have ry := rng y (List.mem_of_getElem? hy)
      obtain ⟨q9, us9, hat9, e9, l9⟩ := rowAt3 y ry
      have ea5 := sm _ _ ea3
      have ec5 := sm _ _ ec3
      refine ⟨_, rfl, _, rfl, qc, _, _, _, rfl, rfl, SqT.of ec5, mc, _, rfl, _, rfl, _, _, rfl, rfl, qa, _, _, _, rfl, rfl, SqT.of ea5, mx, by show 2 ≤ sizeLine; decide, fun t ht => ?_⟩
      have st := same_new ht (.tup [V.int c, V.int x])
      have sm2 := sm.trans st
      refine ⟨_, rfl, _, rfl, _, rfl, qa, _, _, _, rfl, rfl, SqT.of (st _ _ ea5), my, _, rfl, _, _, rfl, rfl, r, _, _, .ref q9, rfl, rfl, SqL.of (sm2 _ _ hF3.top), (show atI (qs.map V.ref) (y - ((1 : Int) + ((N.ins.map V.str).length : Nat) + (vr.length : Nat))) = some (.ref q9) by rw [ef1]; exact hat9), ?_⟩
      refine rdNotInL (q := (c, x)) (.tup upd_same (.cons (.int _) (.cons (.int _) .nil))) (sm2 _ _ e9) (l9.keep' (.same sm2)) ⟨_, rfl, ?_⟩
      by_cases hin2 : (c, x) ∈ rowOf N y
      · rw [decide_eq_true hin2]
        refine iteF ⟨_, rfl, sm2, fun k x' y' c' hk' hx' hy' hc' => ?_⟩
        by_cases ek : k = i
        · subst ek
          rw [hx] at hx'
          rw [hy] at hy'
          rw [hc] at hc'
          cases hx'
          cases hy'
          cases hc'
          exact hin2
        · exact hk k x' y' c' (by omega) hx' hy' hc'
      · rw [decide_eq_false hin2]
        exact iteT (bad2 _ (s3.trans sm2) fun h => hin2 (h.link i x y c hx hy hc))
    obtain ⟨v9, rfl, sm, hk⟩ := pp
    have link : ∀ (k : Nat) (x y c : Int), ands[k]? = some x → ands[k + 1]? = some y → counts[k + 1]? = some c → (c, x) ∈ rowOf N y := fun k x y c hx hy hc => hk k x y c (by have := (List.getElem?_eq_some_iff.mp hy).1; omega) hx hy hc
    obtain ⟨c0, hc0⟩ : ∃ c0, counts[0]? = some c0 := ⟨_, List.getElem?_eq_getElem (by omega)⟩
    obtain ⟨xl, hxl⟩ : ∃ xl, ands[ands.length - 1]? = some xl := ⟨_, List.getElem?_eq_getElem (by omega)⟩
    have s4 := s3.trans sm
    have ea4 := sm _ _ ea3
    have ec4 := sm _ _ ec3
    have ry := rng a0 (List.mem_of_getElem? ha0)
    have ma0 : (ands.map V.int)[0]? = some (V.int a0) := by rw [List.getElem?_map, ha0]; rfl
    have mc0 : (counts.map V.int)[0]? = some (V.int c0) := by rw [List.getElem?_map, hc0]; rfl
    have mxl : (ands.map V.int)[(ands.map V.int).length - 1]? = some (V.int xl) := by rw [List.length_map, List.getElem?_map, hxl]; rfl
    have at0 : atI (ands.map V.int) 0 = some (V.int a0) := atI_nat (j := 0) ma0
    have atc : atI (counts.map V.int) 0 = some (V.int c0) := atI_nat (j := 0) mc0
    obtain ⟨q9, us9, hat9, e9', l9'⟩ := rowAt3 a0 ry
    have e9 := sm _ _ e9'
    have l9 := l9'.keep' (.same sm)
    have hl9 := rowLen a0 ry
    have hcm : (-(2 ^ 64) < clock - 1 ∧ clock - 1 < 2 ^ 64) := by omega
    refine ⟨_, rfl, _, rfl, qa, _, _, _, rfl, rfl, SqT.of ea4, at0, _, rfl, _, _, rfl, rfl, r, _, _, .ref q9, rfl, rfl, SqL.of (sm _ _ hF3.top), (show atI (qs.map V.ref) (a0 - ((1 : Int) + ((N.ins.map V.str).length : Nat) + (vr.length : Nat))) = some (.ref q9) by rw [ef1]; exact hat9), ?_⟩
    refine ⟨_, rfl, rfl, _, rfl, ite2 (fun z5 => ?_) (fun z5 => ?_)⟩
    · have z5 : w = "ring" := V.str.inj (of_decide_eq_true z5)
      refine ⟨_, rfl, qc, _, _, _, rfl, rfl, SqT.of ec4, atc, _, rfl, _, rfl, qa, _, _, _, rfl, rfl, SqT.of ea4, atI_end mxl, by show 2 ≤ sizeLine; decide, fun t ht => ?_⟩
      have st := same_new ht (.tup [V.int c0, V.int xl])
      have s5 := s4.trans st
      have ea5 := st _ _ ea4
      have ec5 := st _ _ ec4
      refine ⟨_, rfl, rdInL (q := (c0, xl)) (.tup upd_same (.cons (.int _) (.cons (.int _) .nil))) (st _ _ e9) (l9.keep' (.same st)) ⟨_, rfl, ?_⟩⟩
      by_cases hin2 : (c0, xl) ∈ rowOf N a0
      rotate_left
      · rw [decide_eq_false hin2]
        refine iteF (bad2 _ s5 fun h => ?_)
        rcases h.fin with ⟨_, h2, _⟩ | ⟨e, _⟩
        · exact hin2 (h2 c0 xl a0 hc0 hxl ha0)
        · rw [z5] at e
          exact absurd e (by decide)
      rw [decide_eq_true hin2]
      refine iteT ?_
      refine ⟨_, rfl, qa, _, rfl, .inr (SqT.of ea5), _, rfl, _, _, rfl, rfl, _, rfl, qc, counts, rfl, SqT.of ec5, _, _, rfl, rfl, .inl hcm, _, _, rfl, rfl, good2 _ _ s5 ?_⟩
      rw [decide_eq_true_iff, List.length_map]
      constructor
      · intro h
        refine ⟨hne, hll, rng, link, .inl ⟨z5, fun c x y h1 h2 h3 => ?_, h⟩⟩
        rw [hc0] at h1
        rw [hxl] at h2
        rw [ha0] at h3
        cases h1
        cases h2
        cases h3
        exact hin2
      · intro h
        rcases h.fin with ⟨_, _, h3⟩ | ⟨e, _⟩
        · exact h3
        · rw [z5] at e
          exact absurd e (by decide)
    · have z5 : ¬ w = "ring" := fun e => z5 (decide_eq_true (congrArg V.str e))
      refine ⟨_, rfl, q9, rfl, ⟨_, SqL.of e9⟩, fun D9 hD9 => ?_⟩
      refine lc_frows (walk_list (xs := us9)) (rows := rowOf N a0) (f := p2D) (g := Prod.fst) (h := zD) (p := fun rr => decide (rr.2 < 1 + (N.ins.length : Int))) (fun H' s => SqL.of (s _ _ e9)) hD9 l9 (by omega) (fun y rr H' R' Z hn s ly ky kn => ?_) (fun us H9 s9 eD lus => ?_)
      · obtain ⟨q8, rfl, e8⟩ := ly.p2
        refine ⟨q8, _, rfl, SqT.of e8, rfl, _, _, rfl, _, _, rfl, rfl, rfl, _, rfl, _, rfl, _, _, rfl, rfl, _, rfl, ite2 (fun z8 => ?_) (fun z8 => ?_)⟩
        · have z8 : rr.2 < 1 + ((N.ins.map V.str).length : Nat) := of_decide_eq_true z8
          rw [List.length_map] at z8
          exact ⟨_, rfl, ky (decide_eq_true z8) _ _ (.refl _) (.int _)⟩
        · have z8 : ¬ rr.2 < 1 + ((N.ins.map V.str).length : Nat) := fun h => z8 (decide_eq_true h)
          rw [List.length_map] at z8
          exact kn (decide_eq_false z8) _ (.refl _)
      rw [lay_zs lus] at eD
      have s5 := s4.trans s9
      have ea5 := s9 _ _ ea4
      have ec5 := s9 _ _ ec4
      refine ⟨_, rfl, rfl, _, rfl, ite2 (fun z6 => ?_) (fun z6 => ?_)⟩
      rotate_left
      · refine bad2 _ s5 fun h => ?_
        rcases h.fin with ⟨e, _⟩ | ⟨e, _⟩
        · exact z5 e
        · exact z6 (decide_eq_true (congrArg V.str e))
      have z6 : w = "way" := V.str.inj (of_decide_eq_true z6)
      refine ⟨_, rfl, qc, _, _, _, rfl, rfl, SqT.of ec5, atc, _, rfl, rdInZ (SqL.of eD) ⟨_, rfl, ?_⟩⟩
      have hmem : c0 ∈ ((rowOf N a0).filter fun rr => decide (rr.2 < 1 + (N.ins.length : Int))).map Prod.fst ↔ ∃ x, (c0, x) ∈ rowOf N a0 ∧ x < 1 + (N.ins.length : Int) := by
        constructor
        · intro h
          obtain ⟨⟨c, x⟩, h1, rfl⟩ := List.mem_map.mp h
          obtain ⟨h2, h3⟩ := List.mem_filter.mp h1
          exact ⟨x, h2, of_decide_eq_true h3⟩
        · rintro ⟨x, h1, h2⟩
          exact List.mem_map.mpr ⟨(c0, x), List.mem_filter.mpr ⟨h1, decide_eq_true h2⟩, rfl⟩
      by_cases hin2 : c0 ∈ ((rowOf N a0).filter fun rr => decide (rr.2 < 1 + (N.ins.length : Int))).map Prod.fst
      rotate_left
      · rw [decide_eq_false hin2]
        refine iteF (bad2 _ s5 fun h => ?_)
        rcases h.fin with ⟨e, _⟩ | ⟨_, h2, _⟩
        · exact z5 e
        · exact hin2 (hmem.mpr (h2 c0 a0 hc0 ha0))
      rw [decide_eq_true hin2]
      have hex := hmem.mp hin2
      refine iteT ?_
      refine ⟨_, rfl, qa, _, rfl, .inr (SqT.of ea5), _, rfl, _, _, rfl, rfl, _, rfl, qc, counts, rfl, SqT.of ec5, _, _, rfl, rfl, _, _, rfl, rfl, .inl hcm, _, _, rfl, rfl, good2 _ _ s5 ?_⟩
      rw [decide_eq_true_iff, List.length_map]
      constructor
      · intro h
        refine ⟨hne, hll, rng, link, .inr ⟨z6, fun c y h1 h2 => ?_, h⟩⟩
        rw [hc0] at h1
        rw [ha0] at h2
        cases h1
        cases h2
        exact hex
      · intro h
        rcases h.fin with ⟨e, _⟩ | ⟨_, _, h3⟩
        · exact absurd e z5
        · exact h3
end

end Bf

set_option Elab.async false
set_option linter.all false
set_option maxRecDepth 100000
set_option maxHeartbeats 4000000
namespace Bf
open PySem PySem.Spec PyProof.Rows L2
/-! ### both judges -/
def spIsJudged : Sp := fun vs H Q _ => ∃ (v x : V) (r : Addr) (qs : List Addr) (N : Net) (ρ : Nat → Nat) (clock : Int) (bar : Option (Str × List Int × List Int)), vs = [v, .ref r, .int clock, x] ∧ Lay H v (netD N) ∧ OpenBy N ρ ∧ FeedsAt H r (srcs N) qs ∧ N.regs.length ≤ 60 ∧ N.ands.length ≤ 60 ∧ clock ≤ 1000000 ∧ BarAt H x bar ∧ (∀ b, bar = some b → b.2.1.length ≤ 200 ∧ b.2.2.length ≤ 200) ∧
  ∀ H' : Hp, Same H H' → Q (.bl true) H'
theorem BarAt.same {H H' : Hp} {x : V} : ∀ {bar : Option (Str × List Int × List Int)}, BarAt H x bar → Same H H' → BarAt H' x bar
  | none, h, _ => h
  | some _, h, s => Lay.keep' h (.same s)
section
variable {P : Program} {w : World} {K : PySem.W.Frag} {mg : Str → Option Value} {base : Heap} {f : Addr} {fd : FuncData}
theorem ok_isJudged (F : Fun K "_law_is_judged" "_law_is_judged" s_law_is_judged f fd) (T : Txt mg) (D_judge_bar : Dn P w K mg base "judge_bar" ["net", "clock", "bar"] 4 spJudge)
    (D_law_takes_bar : Dn P w K mg base "_law_takes_bar" ["_law_net", "_law_feeds_here", "_law_clock", "_law_bar"] 1 spTakes) : FnOk P w K mg base CX0 5 f fd ["_law_net", "_law_feeds_here", "_law_clock", "_law_bar"] spIsJudged := by
  refine F.ok sc_law_is_judged (fun vs H Q E h => ?_) (fun cdv A outer s H vs Q E hr h => ?_)
  · obtain ⟨v, x, r, qs, N, ρ, clock, bar, rfl, _⟩ := h
    rfl
  obtain ⟨v, x, r, qs, N, ρ, clock, bar, rfl, lv, O, hF, h60, a60, hck, hbar, hlen, q⟩ := h
  refine ⟨_, (pss_cons (ps_set (i := 4) sc_law_is_judged.nd rfl (Or.inl rfl) (pe_dn D_judge_bar (hr.mono (by omega)) (by rfl) (pa_cons (pv 0) (pa_cons (pv 2) (pa_cons (pv 3) pa_nil)))))
      (pss_one (ps_ret (pe_and (pe_callB (call_isi : CallR _ _ (rIsi K)) (by rfl) T.n_isinstance (by decide +kernel) (pa_cons (pv 4) (pa_cons (pe_bltn rfl T.n_bool (by decide +kernel) (v := .ty "bool") rfl) pa_nil))) (pe_one (pe_cmpR op_eq (pv 4) (pe_dn D_law_takes_bar (hr.mono (by omega)) (by rfl) (pa_cons (pv 0) (pa_cons (pv 1) (pa_cons (pv 2) (pa_cons (pv 3) pa_nil))))) (nomark _))))))), ?_⟩
  refine ⟨_, rfl, _, rfl, _, rfl, v, x, N, clock, bar, rfl, lv, h60, a60, hck, .inl ⟨ρ, O⟩, hbar, hlen, fun b1 H1 s1 hb1 => ?_⟩
  have hb1' : b1 = true ↔ BarOk N clock bar := hb1.trans ⟨fun h => h.2, fun h => ⟨fun a ha => O.ends _ a (Nat.le_refl _) ha, h⟩⟩
  refine ⟨_, rfl, _, _, .type "bool", .type "bool", true, rfl, .ty "bool", .base (.bl b1), kit_ty (by decide +kernel), true, rfl, iteT ?_⟩
  refine ⟨_, rfl, _, rfl, _, rfl, _, rfl, _, rfl, v, x, r, qs, N, clock, bar, rfl, lv.keep' (.same s1), hF.same s1, h60, a60, hck, hbar.same s1, hlen, fun b2 H2 s2 hb2 => ?_⟩
  have e : b1 = b2 := Bool.eq_iff_iff.mpr (hb1'.trans hb2.symm)
  subst e
  refine ⟨rfl, ?_⟩
  rw [decide_eq_true rfl]
  exact q _ (s1.trans s2)
end

/-! ### the ands that a node feeds -/
def NextOk (N : Net) (a : Nat) (rows : List (Int × Int)) : Prop := ∀ r ∈ rows, ∃ k : Nat, r.2 = (k : Int) ∧ k < N.ands.length ∧ (r.1, ((N.first + a : Nat) : Int)) ∈ rowOf N ((N.first + k : Nat) : Int)
def spNextA : Sp := fun vs H Q _ => ∃ (r : Addr) (qs : List Addr) (N : Net) (a : Nat), vs = [.ref r, vI N.first, vI a] ∧ FeedsAt H r (srcs N) qs ∧ N.ands.length ≤ 60 ∧
  ∀ (L : Addr) (vs : List V) (rows : List (Int × Int)) (H' : Hp), Same H H' → H L = none → H' L = some (.lst vs) → LayAll H' vs (rows.map p2D) → rows.length ≤ 120 → NextOk N a rows → Q (.ref L) H'
section
variable {P : Program} {w : World} {K : PySem.W.Frag} {mg : Str → Option Value} {base : Heap} {f : Addr} {fd : FuncData}
theorem ok_nextA (F : Fun K "_law_next_ands" "_law_next_ands" s_law_next_ands f fd) (T : Txt mg) : FnOk P w K mg base CX0 1 f fd ["_law_feeds_here", "_law_first", "_law_at"] spNextA := by
  refine F.ok sc_law_next_ands (fun vs H Q E h => ?_) (fun cdv A outer s H vs Q E hr h => ?_)
  · obtain ⟨r, qs, N, a, rfl, _⟩ := h
    rfl
  obtain ⟨r, qs, N, a, rfl, hF, a60, q⟩ := h
  refine ⟨_, (pss_cons (ps_set (i := 3) sc_law_next_ands.nd rfl (Or.inl rfl) (pe_lst pa_nil))
      (pss_cons (ps_for PassesOwn.never rfl (pi_range1 rfl T.n_range (pa_cons (pe_callB call_len_seq (by rfl) T.n_len (by decide +kernel) (pa_cons (pv 0) pa_nil)) pa_nil)) (pg_name (i := 4) sc_law_next_ands.nd rfl (Or.inl rfl)) (pss_one (ps_for PassesOwn.never rfl (pi_list (pe_ix ix_list (pv 0) (pv 4) (fun _ _ => rfl))) (pg_tup rfl (pgs_cons (pg_name (i := 5) sc_law_next_ands.nd rfl (Or.inl rfl)) (pgs_cons (pg_name (i := 6) sc_law_next_ands.nd rfl (Or.inl rfl)) pgs_nil))) (pss_one (ps_if (pt_cmpR op_eq (pv 6) (pe_op op_add (pv 1) (pv 2)) (nomark _)) (pss_one (ps_expr (pe_bm PySem.F.plainAttrs_list PySem.F.slot_list_append PySem.F.type_list_append mt_append (pv 3) (pa_cons (pe_tup (pa_cons (pv 5) (pa_cons (pv 4) pa_nil))) pa_nil)))) pss_nil)))))
      (pss_one (ps_ret (pv 3))))), ?_⟩
  have hsl : (srcs N).length = N.ands.length := by unfold srcs; rw [List.length_map]
  have hql : qs.length = N.ands.length := by rw [hF.len, hsl]
  have rowLen : ∀ (k : Nat) (row : List (Int × Int)), (srcs N)[k]? = some row → row.length ≤ 2 ∧ row = rowOf N ((N.first + k : Nat) : Int) := fun k row e => by
    have hk := (List.getElem?_eq_some_iff.mp e).1
    have e2 := rowOf_at (N := N) (y := ((N.first + k : Nat) : Int)) (by omega)
    rw [show (((N.first + k : Nat) : Int)).toNat - N.first = k by omega, e] at e2
    refine ⟨?_, Option.some.inj e2⟩
    unfold srcs at e
    rw [List.getElem?_map] at e
    obtain ⟨pp, _, e3⟩ := Option.map_eq_some_iff.mp e
    rw [← e3]
    exact Nat.le_refl _
  refine ⟨Nat.zero_le _, fun R hR => ?_⟩
  have sR := same_new hR (.lst [])
  have hF1 := hF.same sR
  refine ⟨_, rfl, r, _, rfl, .inl (SqL.of hF1.top), _, rfl, by rw [List.length_map]; omega, by rw [List.length_map]; omega, ?_⟩
  rw [List.length_map, hql]
  refine for_it walk_range (fun i σ' H' => ∃ (v4 v5 v6 : Option V) (rows : List (Int × Int)), σ' = [some (.ref r), some (vI N.first), some (vI a), some (.ref R), v4, v5, v6] ∧ Same H H' ∧ Acc R p2D rows H' ∧ rows.length ≤ 2 * i ∧ NextOk N a rows)
    ⟨_, _, _, [], rfl, sR, .nil, Nat.le_refl _, fun r h => by cases h⟩ (fun _ _ _ _ _ => trivial) (fun i x0 σ' H2 H3 hi pp y0 => ?_) (fun σ' H2 pp => ?_)
  · obtain ⟨v4, v5, v6, rows, rfl, sm, hA, hrl, hok⟩ := pp
    obtain ⟨rfl, rfl⟩ := y0
    have hi' : i < N.ands.length := by omega
    have e : (srcs N)[i]? = some (srcs N)[i] := List.getElem?_eq_getElem (by omega)
    obtain ⟨q9, us9, eq9, e9, l9⟩ := (hF.same sm).row i _ e
    obtain ⟨hr2, hrow⟩ := rowLen i _ e
    generalize (srcs N)[i] = row at e l9 hr2 hrow
    have hat : atI (qs.map V.ref) (0 + (i : Int)) = some (.ref q9) := by
      rw [Int.zero_add]
      exact atI_nat (by rw [List.getElem?_map, eq9]; rfl)
    have nq : q9 ≠ R := fun z => by
      obtain ⟨q1, vs1, a1, b1, c1⟩ := hF.row i row e
      rw [eq9] at a1
      cases a1
      rw [z, hR] at b1
      cases b1
    have lus : us9.length = row.length := by simpa using l9.len
    refine ⟨_, rfl, _, rfl, r, _, _, .ref q9, rfl, rfl, SqL.of (hF.same sm).top, hat, q9, rfl, ⟨_, SqL.of e9⟩, for_it (walk_list (xs := us9)) (fun j σ' H' => ∃ (v5 v6 : Option V) (rows : List (Int × Int)), σ' = [some (.ref r), some (vI N.first), some (vI a), some (.ref R), some (.int (0 + (i : Int))), v5, v6] ∧ Same H H' ∧ Acc R p2D rows H' ∧ rows.length ≤ 2 * i + j ∧ NextOk N a rows ∧ H' q9 = some (.lst us9) ∧ LayAll H' us9 (row.map p2D))
      ⟨_, _, rows, rfl, sm, hA, hrl, hok, e9, l9⟩ (fun j σ' H' _ pp => ?_) (fun j x σ' H4 H5 hj pp y => ?_) (fun σ' H4 pp => ?_)⟩
    · obtain ⟨_, _, _, _, _, _, _, _, e, _⟩ := pp
      exact SqL.of e
    · obtain ⟨v5, v6, rows, rfl, sm5, hA5, hrl5, hok5, e95, l95⟩ := pp
      obtain ⟨rfl, hx⟩ := y
      obtain ⟨dd, hd1, hd2⟩ := l95.get j hx
      rw [List.getElem?_map] at hd1
      obtain ⟨rr, hrr, rfl⟩ := Option.map_eq_some_iff.mp hd1
      obtain ⟨q8, rfl, e8⟩ := hd2.p2
      refine ⟨q8, _, rfl, SqT.of e8, rfl, _, _, rfl, _, _, rfl, rfl, ?_⟩
      refine ⟨_, rfl, _, rfl, _, rfl, _, _, rfl, rfl, rfl, _, rfl, ite2 (fun z => ?_) (fun z => ?_)⟩
      · have z : rr.2 = (N.first : Int) + (a : Int) := V.int.inj (of_decide_eq_true z)
        obtain ⟨vsA, eA, lA⟩ := id hA5
        refine ⟨_, rfl, .inl ⟨rfl, _, SqL.of eA⟩, _, rfl, _, rfl, by show 2 ≤ sizeLine; decide, fun t ht => ?_⟩
        have st := same_new ht (.tup [V.int rr.1, V.int (0 + (i : Int))])
        have lt : Lay (upd H5 t (.tup [V.int rr.1, V.int (0 + (i : Int))])) (.ref t) (p2D (rr.1, (i : Int))) := by
          refine .tup upd_same ?_
          rw [Int.zero_add]
          exact .cons (.int _) (.cons (.int _) .nil)
        have hjl : j < row.length := by omega
        obtain ⟨vs, eB, la, hBp, kp⟩ := (hA5.same st).push lt (by omega)
        refine ⟨R, _, _, rfl, rfl, eB, la, _, _, rows ++ [(rr.1, (i : Int))], rfl, same_two (sm5.trans st) hR, hBp, by rw [List.length_append]; exact Nat.succ_le_succ hrl5, fun r' hr' => ?_, by rw [upd_ne nq]; exact st _ _ e95, (l95.keep' (.same st)).keep' kp⟩
        rcases List.mem_append.mp hr' with h | h
        · exact hok5 r' h
        · rw [List.mem_singleton.mp h]
          refine ⟨i, rfl, hi', ?_⟩
          rw [← hrow]
          have : (rr.1, ((N.first + a : Nat) : Int)) = rr := Prod.ext rfl (by rw [z]; show ((N.first + a : Nat) : Int) = _; omega)
          rw [this]
          exact List.mem_of_getElem? hrr
      · exact ⟨_, _, rows, rfl, sm5, hA5, by omega, hok5, e95, l95⟩
    · obtain ⟨v5, v6, rows, rfl, sm5, hA5, hrl5, hok5, e95, l95⟩ := pp
      exact ⟨_, _, _, rows, rfl, sm5, hA5, by omega, hok5⟩
  · obtain ⟨v4, v5, v6, rows, rfl, sm, ⟨vs, eA, lA⟩, hrl, hok⟩ := pp
    exact ⟨_, rfl, q R vs rows _ sm hR eA lA (by omega) hok⟩
end

/-! ### open nets: a pair -/
def spPairO : Sp := fun vs H Q _ => ∃ (d c : Addr) (b s : Nat) (mode : Int), vs = [.ref d, vI b, vI s, .int mode] ∧ DS H d c ∧ 1 ≤ s ∧ s ≤ 200 ∧
  ∀ (q : Addr) (pp : Nat × Nat) (H' : Hp), Lay H' (.ref q) (pairD pp) → pp.1 < 2 * s → pp.2 < 2 * s → DS H' d c → Keep [d] H H' → Q (.ref q) H'
section
variable {P : Program} {w : World} {K : PySem.W.Frag} {mg : Str → Option Value} {base : Heap} {f : Addr} {fd : FuncData}
theorem ok_pairO (F : Fun K "_law_open_pair" "_law_open_pair" s_law_open_pair f fd) (T : Txt mg) (D_law_draw : Dn P w K mg base "_law_draw" ["_law_d", "_law_many"] 1 spDraw) : FnOk P w K mg base CX0 2 f fd ["_law_d", "_law_begin_here", "_law_size", "_law_mode"] spPairO := by
  refine F.ok sc_law_open_pair (fun vs H Q E h => ?_) (fun cdv A outer s H vs Q E hr h => ?_)
  · obtain ⟨d, c, b, s, mode, rfl, _⟩ := h
    rfl
  obtain ⟨d, c, b, sz, mode, rfl, hd, hs1, hs2, q⟩ := h
  refine ⟨_, (C8.pss_cut (ps_set (i := 4) sc_law_open_pair.nd rfl (Or.inr rfl) (pe_ifExp (PW.pt (pw_and (pt_cmpR op_in_seq (pv 3) (pe_tup (pa_cons pe_int (pa_cons pe_int pa_nil))) (by rfl)) (pw_and1 (pt_cmpR op_gt (pv 2) (pv 1) (nomark _))))) (pv 1) pe_int))
      (pss_cons (ps_setLc (i := 5) (own := [("_law_k", 6)]) (g := (gName 6)) (tt := tYes) rfl sc_law_open_pair.nd rfl rfl (sw_true rfl rfl rfl (by decide +kernel)) (pi_range1 rfl T.n_range (pa_cons pe_int pa_nil)) (blkOk_by (N := ["_law_d", "_law_begin_here", "_law_size", "_law_mode", "_law_base", "_law_nodes", "_law_k"]) (sc := defScope s_law_open_pair) (by decide +kernel)) (fun _ _ _ _ _ => (pg_name (i := 6) sc_law_open_pair.nd rfl (Or.inl rfl))) (fun _ _ _ _ _ => pts_nil) (fun _ _ _ _ _ => (pe_op op_add (pv 4) (pe_callB (cr_maxN rfl) (by rfl) T.n_max (by decide +kernel) (pa_cons (pe_dn D_law_draw (hr.mono (by omega)) (by rfl) (pa_cons (pv 0) (pa_cons (pe_op op_sub (pv 2) (pv 4)) pa_nil))) (pa_cons (pe_dn D_law_draw (hr.mono (by omega)) (by rfl) (pa_cons (pv 0) (pa_cons (pe_op op_sub (pv 2) (pv 4)) pa_nil))) pa_nil))))))
      (C8.pss_cut (ps_if (PW.pt (pw_and (pt_cmpR op_gt (pv 3) pe_int (nomark _)) (pw_and1 (pt_cmpR op_gt (pe_dn D_law_draw (hr.mono (by omega)) (by rfl) (pa_cons (pv 0) (pa_cons pe_int pa_nil))) pe_int (nomark _))))) (pss_one (ps_asg (pe_op op_sub (pv 2) pe_int) (pg_sub (pv 5) pe_int set_list))) pss_nil)
      (pss_one (ps_ret (pe_tup (pa_cons (pe_op op_add (pe_op op_mul pe_int (pe_ix ix_list (pv 5) pe_int (fun _ _ => rfl))) (pe_dn D_law_draw (hr.mono (by omega)) (by rfl) (pa_cons (pv 0) (pa_cons pe_int pa_nil)))) (pa_cons (pe_op op_add (pe_op op_mul pe_int (pe_ix ix_list (pv 5) pe_int (fun _ _ => rfl))) (pe_dn D_law_draw (hr.mono (by omega)) (by rfl) (pa_cons (pv 0) (pa_cons pe_int pa_nil)))) pa_nil)))))))), ?_⟩
  refine ⟨fun σ' H' => ∃ bs : Nat, bs < sz ∧ σ' = [some (.ref d), some (vI b), some (vI sz), some (.int mode), some (vI bs), none, none] ∧ Same H H', ?_, ?_⟩
  · refine ⟨_, rfl, by show 2 ≤ sizeLine; decide, fun tw htw => ?_⟩
    have sw := same_new htw (.tup [V.int 1, V.int 2])
    refine ⟨tw, [V.int 1, V.int 2], rfl, .inr (SqT.of upd_same), rfl, rfl, ?_⟩
    refine ⟨_, rfl, ite2 (fun z => ?_) (fun z => ?_)⟩
    rotate_left
    · exact iteF ⟨0, by omega, rfl, sw⟩
    refine ⟨_, rfl, _, rfl, _, _, rfl, rfl, _, rfl, ite2 (fun z2 => ?_) (fun z2 => ?_)⟩
    · have z2 : (b : Int) < (sz : Int) := of_decide_eq_true z2
      exact ⟨_, rfl, b, by omega, rfl, sw⟩
    · exact ⟨0, by omega, rfl, sw⟩
  rintro σ' H1 ⟨bs, hbs, rfl, s1⟩
  have hd1 := hd.same s1
  refine ⟨2, rfl, by decide, by decide, fun D hD => ?_⟩
  have hD0 := s1.free hD
  obtain ⟨nDd, nDc⟩ := hd1.new hD
  refine lc_it walk_range (fun i H' => DS H' d c ∧ Keep [d] H H' ∧ ∃ ns : List Nat, H' D = some (.lst (ns.map vI)) ∧ ns.length = i ∧ ∀ n ∈ ns, n < sz) ⟨hd1.same (same_new hD _), .of_same (s1.trans (same_new hD _)), [], upd_same, rfl, fun n h => by cases h⟩ (fun _ _ _ _ => trivial) (fun i x H2 H3 hi pp y => ?_) (fun H2 pp => ?_)
  · obtain ⟨hd2, k2, ns, eD, hnl, hns⟩ := pp
    obtain ⟨rfl, rfl⟩ := y
    refine ⟨rfl, _, rfl, _, rfl, _, rfl, _, rfl, _, _, rfl, rfl, d, c, _, rfl, hd2, by omega, by omega, fun r1 H4 r10 r11 hd4 k4 => ?_⟩
    obtain ⟨x1, rfl⟩ := Int.eq_ofNat_of_zero_le r10
    refine ⟨_, rfl, _, rfl, _, rfl, _, _, rfl, rfl, d, c, _, rfl, hd4, by omega, by omega, fun r2 H5 r20 r21 hd5 k5 => ?_⟩
    obtain ⟨x2, rfl⟩ := Int.eq_ofNat_of_zero_le r20
    refine ⟨x1, x2, rfl, _, _, rfl, rfl, ns.map vI, k5 _ _ (by simp [nDd]) (k4 _ _ (by simp [nDd]) eD), len1000 (by rw [List.length_map]; omega), ?_⟩
    have kk : Keep [d] H H5 := (k2.trans k4).trans k5
    refine ⟨hd5.keep (S := [D]) Keep.at1 (by simp [nDd.symm]) (by simp [nDc.symm]), (kk.cat (Keep.at1 (a := D))).thin (by simp [hD0]), ns ++ [bs + max x1 x2], ?_, by rw [List.length_append, hnl]; rfl, fun n hn => ?_⟩
    · rw [upd_same, List.map_append]
      show some (HO.lst (ns.map vI ++ [V.int ((bs : Int) + ((max x1 x2 : Nat) : Int))])) = _
      rw [show V.int ((bs : Int) + ((max x1 x2 : Nat) : Int)) = vI (bs + max x1 x2) from congrArg V.int (by omega)]
      rfl
    · rcases List.mem_append.mp hn with h | h
      · exact hns n h
      · rw [List.mem_singleton.mp h]
        omega
  obtain ⟨hd2, k2, ns, eD, hnl, hns⟩ := pp
  obtain ⟨n0, n1, rfl⟩ : ∃ n0 n1, ns = [n0, n1] := by
    rcases ns with _ | ⟨n0, _ | ⟨n1, _ | ⟨n2, r⟩⟩⟩
    · cases hnl
    · cases hnl
    · exact ⟨n0, n1, rfl⟩
    · cases hnl
  have h0 := hns n0 (by simp)
  have h1 := hns n1 (by simp)
  refine ⟨fun σ' H' => ∃ m0 : Nat, m0 < sz ∧ σ' = [some (.ref d), some (vI b), some (vI sz), some (.int mode), some (vI bs), some (.ref D), none] ∧ DS H' d c ∧ Keep [d] H H' ∧ H' D = some (.lst [vI m0, vI n1]), ?_, ?_⟩
  · refine ⟨_, rfl, _, _, rfl, rfl, _, rfl, ite2 (fun z => ?_) (fun z => ?_)⟩
    rotate_left
    · exact iteF ⟨n0, h0, rfl, hd2, k2, eD⟩
    refine ⟨_, rfl, d, c, 4, rfl, hd2, by decide, by decide, fun r1 H3 r10 r11 hd3 k3 => ⟨_, _, rfl, rfl, _, rfl, ite2 (fun z2 => ?_) (fun z2 => ?_)⟩⟩
    · have eD3 := k3 _ _ (by simp [nDd]) eD
      refine ⟨_, rfl, _, _, rfl, rfl, _, rfl, D, _, _, 0, rfl, rfl, eD3, rfl, sz - 1, by omega, rfl, hd3.keep (S := [D]) Keep.at1 (by simp [nDd.symm]) (by simp [nDc.symm]), ((k2.trans k3).cat (Keep.at1 (a := D))).thin (by simp [hD0]), ?_⟩
      rw [upd_same]
      show some (HO.lst [V.int ((sz : Int) - 1), vI n1]) = _
      rw [show V.int ((sz : Int) - 1) = vI (sz - 1) from congrArg V.int (by omega)]
    · exact ⟨n0, h0, rfl, hd3, k2.trans k3, k3 _ _ (by simp [nDd]) eD⟩
  rintro σ' H3 ⟨m0, hm0, rfl, hd3, k3, eD3⟩
  refine ⟨_, rfl, D, _, _, _, rfl, rfl, SqL.of eD3, atI_nat (j := 0) rfl, _, _, rfl, rfl, .inl ⟨by decide, by decide⟩, ?_⟩
  refine ⟨_, rfl, d, c, 2, rfl, hd3, by decide, by decide, fun r1 H4 r10 r11 hd4 k4 => ⟨_, _, rfl, rfl, ?_⟩⟩
  have eD4 := k4 _ _ (by simp [nDd]) eD3
  refine ⟨_, rfl, D, _, _, _, rfl, rfl, SqL.of eD4, atI_nat (j := 1) rfl, _, _, rfl, rfl, .inl ⟨by decide, by decide⟩, ?_⟩
  refine ⟨_, rfl, d, c, 2, rfl, hd4, by decide, by decide, fun r2 H5 r20 r21 hd5 k5 => ⟨_, _, rfl, rfl, by show 2 ≤ sizeLine; decide, fun t ht => ?_⟩⟩
  obtain ⟨y1, rfl⟩ := Int.eq_ofNat_of_zero_le r10
  obtain ⟨y2, rfl⟩ := Int.eq_ofNat_of_zero_le r20
  refine q t (2 * m0 + y1, 2 * n1 + y2) _ (.tup upd_same ?_) (by show 2 * m0 + y1 < 2 * sz; omega) (by show 2 * n1 + y2 < 2 * sz; omega) (hd5.same (same_new ht _)) (((k3.trans k4).trans k5).trans (.of_same (same_new ht _)))
  have e1 : V.int (2 * (m0 : Int) + (y1 : Int)) = vI (2 * m0 + y1) := congrArg V.int (by omega)
  have e2 : V.int (2 * (n1 : Int) + (y2 : Int)) = vI (2 * n1 + y2) := congrArg V.int (by omega)
  show LayAll _ [V.int (2 * (m0 : Int) + (y1 : Int)), V.int (2 * (n1 : Int) + (y2 : Int))] [intD (2 * m0 + y1), intD (2 * n1 + y2)]
  rw [e1, e2]
  exact .cons (.int _) (.cons (.int _) .nil)
end

end Bf

set_option Elab.async false
set_option linter.all false
set_option maxRecDepth 100000
set_option maxHeartbeats 4000000
namespace Bf
open PySem PySem.Spec PyProof.Rows L2
/-! ### open nets: what the registers take -/
def nOf : V → Nat
  | .int i => i.toNat
  | _ => 0
theorem perm_vI {ys : List V} {xs : List Nat} (h : ys.Perm (xs.map vI)) : ∃ zs : List Nat, ys = zs.map vI ∧ zs.Perm xs := by
  refine ⟨ys.map nOf, ?_, ?_⟩
  · rw [List.map_map]
    have : ys.map (vI ∘ nOf) = ys.map id := List.map_congr_left fun y hy => by
      obtain ⟨x, _, rfl⟩ := List.mem_map.mp (h.mem_iff.mp hy)
      rfl
    rw [this, List.map_id]
  · have := h.map nOf
    rw [List.map_map] at this
    refine this.trans ?_
    have e : xs.map (nOf ∘ vI) = xs.map id := List.map_congr_left fun x _ => rfl
    rw [e, List.map_id]
theorem rgV_vI (a b : Nat) : rgV (a : Int) (b : Int) = ((List.range (b - a)).map fun i => a + i).map vI := by
  unfold rgV
  rw [show ((b : Int) - (a : Int)).toNat = b - a by omega, List.map_map]
  refine List.map_congr_left fun i _ => ?_
  show V.int _ = V.int _
  congr 1
theorem DS.ne_ints {H : Hp} {d c r : Addr} {ps : List Nat} (h : DS H d c) (e : H r = some (.lst (ps.map vI))) : r ≠ d := by
  rintro rfl
  obtain ⟨_, _, _, _, e1, _⟩ := h
  rw [e] at e1
  have q := HO.lst.inj (Option.some.inj e1)
  cases ps with
  | nil => cases q
  | cons a l => cases (List.cons.inj q).1
/-- in the order, each takes what comes before it, or no register -/
def OpenTo (b f : Nat) (order nexts : List Nat) (i : Nat) : Prop := ∀ (j k l : Nat), j < i → order[j]? = some k → nexts[k]? = some l → b ≤ l / 2 → l / 2 < f → ∃ j', j' < j ∧ order[j']? = some (l / 2 - b)
def spNexts : Sp := fun vs H Q _ => ∃ (d c : Addr) (b f s : Nat), vs = [.ref d, vI b, vI f, vI s] ∧ DS H d c ∧ 1 ≤ b ∧ b ≤ f ∧ f ≤ s ∧ s ≤ 200 ∧
  ∀ (L : Addr) (order nexts : List Nat) (H' : Hp), H' L = some (.lst (nexts.map vI)) → nexts.length = f - b → (∀ l ∈ nexts, l < 2 * s) → order.Perm (List.range (f - b)) → OpenTo b f order nexts (f - b) → DS H' d c → Keep [d] H H' → Q (.ref L) H'
section
variable {P : Program} {w : World} {K : PySem.W.Frag} {mg : Str → Option Value} {base : Heap} {f : Addr} {fd : FuncData}
theorem ok_nexts (F : Fun K "_law_open_nexts" "_law_open_nexts" s_law_open_nexts f fd) (T : Txt mg) (D_law_draw : Dn P w K mg base "_law_draw" ["_law_d", "_law_many"] 1 spDraw) (D_law_shuffled : Dn P w K mg base "_law_shuffled" ["_law_d", "_law_row"] 2 (spShuf K))
    (D_law_pick : Dn P w K mg base "_law_pick" ["_law_d", "_law_row"] 2 (spPickA K)) : FnOk P w K mg base CX0 3 f fd ["_law_d", "_law_begin_here", "_law_first", "_law_size"] spNexts := by
  refine F.ok sc_law_open_nexts (fun vs H Q E h => ?_) (fun cdv A outer s H vs Q E hr h => ?_)
  · obtain ⟨d, c, b, fs, sz, rfl, _⟩ := h
    rfl
  obtain ⟨d, c, b, fs, sz, rfl, hd, hb1, hbf, hfs, hs2, q⟩ := h
  refine ⟨_, (pss_cons (ps_set (i := 4) sc_law_open_nexts.nd rfl (Or.inl rfl) (pe_dn D_law_shuffled (hr.mono (by omega)) (by rfl) (pa_cons (pv 0) (pa_cons (pe_listRg rfl (by rfl) T.n_list (prg_1 (by rfl) T.n_range (pe_op op_sub (pv 2) (pv 1)))) pa_nil))))
      (pss_cons (ps_set (i := 5) sc_law_open_nexts.nd rfl (Or.inl rfl) (pe_op op_cat (pe_listRg rfl (by rfl) T.n_list (prg_1 (by rfl) T.n_range (pv 1))) (pe_listRg rfl (by rfl) T.n_list (prg_2 (by rfl) T.n_range (pv 2) (pv 3)))))
      (pss_cons (ps_setLc (i := 7) (own := [("_law_k", 6)]) (g := (gName 6)) (tt := tYes) rfl sc_law_open_nexts.nd rfl rfl (sw_true rfl rfl rfl (by decide +kernel)) (pi_list (pv 4)) (blkOk_by (N := ["_law_d", "_law_begin_here", "_law_first", "_law_size", "_law_order", "_law_others", "_law_k", "_law_nexts", "_law_done", "_law_turn", "_law_node"]) (sc := defScope s_law_open_nexts) (by decide +kernel)) (fun _ _ _ _ _ => (pg_name (i := 6) sc_law_open_nexts.nd rfl (Or.inl rfl))) (fun _ _ _ _ _ => pts_nil) (fun _ _ _ _ _ => pe_int))
      (pss_cons (ps_set (i := 8) sc_law_open_nexts.nd rfl (Or.inl rfl) (pe_lst pa_nil))
      (pss_cons (ps_for PassesOwn.never rfl (pi_list (pv 4)) (pg_name (i := 6) sc_law_open_nexts.nd rfl (Or.inl rfl)) (pss_cons (ps_set (i := 9) sc_law_open_nexts.nd rfl (Or.inl rfl) (pe_dn D_law_draw (hr.mono (by omega)) (by rfl) (pa_cons (pv 0) (pa_cons pe_int pa_nil))))
      (C8.pss_cut (ps_if (PW.pt (pw_and (pt_cmpR op_lt (pv 9) pe_int (nomark _)) (pw_and1 (pt_cmpR op_gt (pe_callB call_len_seq (by rfl) T.n_len (by decide +kernel) (pa_cons (pv 8) pa_nil)) pe_int (nomark _))))) (pss_one (ps_set (i := 10) sc_law_open_nexts.nd rfl (Or.inl rfl) (pe_op op_add (pv 1) (pe_ifExp (pt_cmpR op_eq (pv 9) pe_int (nomark _)) (pe_ix ix_list (pv 8) (pe_un un_neg pe_int) (fun _ _ => rfl)) (pe_dn D_law_pick (hr.mono (by omega)) (by rfl) (pa_cons (pv 0) (pa_cons (pv 8) pa_nil))))))) (pss_one (ps_set (i := 10) sc_law_open_nexts.nd rfl (Or.inl rfl) (pe_ix ix_list (pv 5) (pe_callB (cr_maxN rfl) (by rfl) T.n_max (by decide +kernel) (pa_cons (pe_dn D_law_draw (hr.mono (by omega)) (by rfl) (pa_cons (pv 0) (pa_cons (pe_callB call_len_seq (by rfl) T.n_len (by decide +kernel) (pa_cons (pv 5) pa_nil)) pa_nil))) (pa_cons (pe_dn D_law_draw (hr.mono (by omega)) (by rfl) (pa_cons (pv 0) (pa_cons (pe_callB call_len_seq (by rfl) T.n_len (by decide +kernel) (pa_cons (pv 5) pa_nil)) pa_nil))) pa_nil))) (fun _ _ => rfl)))))
      (pss_cons (ps_asg (pe_op op_add (pe_op op_mul pe_int (pv 10)) (pe_dn D_law_draw (hr.mono (by omega)) (by rfl) (pa_cons (pv 0) (pa_cons pe_int pa_nil)))) (pg_sub (pv 7) (pv 6) set_list))
      (pss_one (ps_expr (pe_bm PySem.F.plainAttrs_list PySem.F.slot_list_append PySem.F.type_list_append mt_append (pv 8) (pa_cons (pv 6) pa_nil))))))))
      (pss_one (ps_ret (pv 7)))))))), ?_⟩
  refine ⟨_, rfl, _, rfl, _, rfl, _, _, rfl, rfl, _, rfl, .of_le (by decide) (by omega) (by decide) (by omega), fun L0 hL0 => ?_⟩
  have s0 := same_new hL0 (.lst (rgV 0 ((fs : Int) - (b : Int))))
  have e0 : rgV 0 ((fs : Int) - (b : Int)) = (List.range (fs - b)).map vI := by
    have := rgV_vI 0 (fs - b)
    rw [show (((fs - b : Nat) : Int)) = (fs : Int) - (b : Int) by omega] at this
    refine this.trans ?_
    simp
  rw [e0] at s0 ⊢
  refine ⟨d, c, L0, _, rfl, hd.same s0, (hd.new hL0).1, .inl (SqL.of upd_same), by rw [List.length_map, List.length_range]; omega, fun OR ys H1 hperm hOR eOR hd1 k1 => ?_⟩
  obtain ⟨order, rfl, hop⟩ := perm_vI hperm
  have kH1 : Keep [d] H H1 := (Keep.of_same s0).trans k1
  have hol : order.length = fs - b := by rw [hop.length_eq, List.length_range]
  have eA0 : rgV 0 (b : Int) = (List.range b).map vI := by
    have := rgV_vI 0 b
    refine this.trans ?_
    simp
  refine ⟨_, rfl, _, rfl, .of_le (by decide) (by omega) (by decide) (by omega), fun A hA => ?_⟩
  rw [eA0]
  have sA := same_new hA (.lst ((List.range b).map vI))
  have eA := upd_same (H := H1) (a := A) (o := .lst ((List.range b).map vI))
  refine ⟨_, rfl, _, rfl, _, _, rfl, rfl, .of_le (by omega) (by omega) (by omega) (by omega), fun B hB => ?_⟩
  rw [rgV_vI fs sz]
  have sB := same_new hB (.lst (((List.range (sz - fs)).map fun i => fs + i).map vI))
  refine ⟨A, B, _, _, rfl, rfl, sB _ _ eA, upd_same, by rw [List.length_map, List.length_map, List.length_map, List.length_range, List.length_range]; exact le1000 (by omega), fun C hC => ?_⟩
  obtain ⟨oth, hoth⟩ : ∃ oth : List Nat, oth = List.range b ++ (List.range (sz - fs)).map fun i => fs + i := ⟨_, rfl⟩
  rw [← List.map_append, ← hoth]
  have hol2 : oth.length = b + (sz - fs) := by rw [hoth, List.length_append, List.length_range, List.length_map, List.length_range]
  have hom : ∀ x ∈ oth, x < sz ∧ ¬ (b ≤ x ∧ x < fs) := fun x hx => by
    rw [hoth] at hx
    rcases List.mem_append.mp hx with h | h
    · have := List.mem_range.mp h
      omega
    · obtain ⟨i, hi, rfl⟩ := List.mem_map.mp h
      have := List.mem_range.mp hi
      omega
  clear hoth
  have s2 := (sA.trans sB).trans (same_new hC (.lst (oth.map vI)))
  have eC := upd_same (H := upd (upd H1 A (.lst ((List.range b).map vI))) B (.lst (((List.range (sz - fs)).map fun i => fs + i).map vI))) (a := C) (o := .lst (oth.map vI))
  generalize upd (upd (upd H1 A (.lst ((List.range b).map vI))) B (.lst (((List.range (sz - fs)).map fun i => fs + i).map vI))) C (.lst (oth.map vI)) = H2 at s2 eC ⊢
  have eOR2 := s2 _ _ eOR
  have hd2 := hd1.same s2
  refine ⟨_, rfl, OR, rfl, ⟨_, SqL.of eOR2⟩, fun D hD => ?_⟩
  refine lc_rows (walk_list (xs := order.map vI)) (rows := order) (f := intD) (g := fun _ => 0) (h := intD) (fun H' s => SqL.of (s _ _ eOR2)) hD (LayAll.ints _) (by omega) (fun i y n H' R' Z hn s ly kk => ?_) (fun us H3 s3 eD lus => ?_)
  · exact ⟨rfl, kk _ _ (.refl _) (.int _)⟩
  rw [LayAll.ints_inv lus] at eD
  refine ⟨Nat.zero_le _, fun E0 hE => ?_⟩
  have eE := upd_same (H := H3) (a := E0) (o := .lst [])
  have sE := same_new hE (.lst [])
  have eD4 := sE _ _ eD
  have s4 := (s2.trans s3).trans sE
  have eOR4 := (s3.trans sE) _ _ eOR2
  have eC4 := (s3.trans sE) _ _ eC
  have hd4 := hd1.same s4
  have k4 : Keep [d] H (upd H3 E0 (.lst [])) := kH1.trans (.of_same s4)
  have nED : E0 ≠ D := (ne_of_none eD hE).symm
  have hE2 : H2 E0 = none := s3.free hE
  have nDO : D ≠ OR := (ne_of_none eOR2 hD).symm
  have nEO : E0 ≠ OR := (ne_of_none eOR2 hE2).symm
  have nDC : D ≠ C := (ne_of_none eC hD).symm
  have nEC : E0 ≠ C := (ne_of_none eC hE2).symm
  obtain ⟨nDd, nDc⟩ := hd2.new hD
  obtain ⟨nEd, nEc⟩ := hd2.new hE2
  have nOd := hd1.ne_ints (ps := order) eOR
  have nCd : C ≠ d := hd2.ne_ints (ps := oth) eC
  have hD0 : H D = none := kH1.free (s2.free hD) (by simp [nDd])
  have hE0 : H E0 = none := kH1.free (s2.free hE2) (by simp [nEd])
  generalize upd H3 E0 (.lst []) = H4 at eE eD4 eOR4 eC4 hd4 k4 ⊢
  refine ⟨_, rfl, OR, rfl, ⟨_, SqL.of eOR4⟩, for_it (walk_list (xs := order.map vI)) (fun i σ' H' => ∃ (v6 v9 v10 : Option V) (nexts : List Nat), σ' = [some (.ref d), some (vI b), some (vI fs), some (vI sz), some (.ref OR), some (.ref C), v6, some (.ref D), some (.ref E0), v9, v10] ∧ DS H' d c ∧ Keep [d] H H' ∧ H' OR = some (.lst (order.map vI)) ∧ H' C = some (.lst (oth.map vI)) ∧ H' D = some (.lst (nexts.map vI)) ∧ H' E0 = some (.lst ((order.take i).map vI)) ∧ nexts.length = fs - b ∧ (∀ l ∈ nexts, l < 2 * sz) ∧ OpenTo b fs order nexts i)
    ⟨_, _, _, order.map fun _ => 0, rfl, hd4, k4, eOR4, eC4, eD4, eE, by rw [List.length_map, hol], fun l hl => ?_, fun j k l hj => absurd hj (Nat.not_lt_zero _)⟩ (fun i σ' H' _ pp => ?_) (fun i x σ' H5 H6 hi pp y => ?_) (fun σ' H5 pp => ?_)⟩
  · obtain ⟨_, _, rfl⟩ := List.mem_map.mp hl
    omega
  · obtain ⟨_, _, _, _, _, _, _, e, _⟩ := pp
    exact SqL.of e
  · obtain ⟨v6, v9, v10, nexts, rfl, hd5, k5, eOR5, eC5, eD5, eE5, hnl, hns, hop5⟩ := pp
    obtain ⟨rfl, hx⟩ := y
    rw [List.getElem?_map] at hx
    obtain ⟨k, hk, rfl⟩ := Option.map_eq_some_iff.mp hx
    have hi' : i < order.length := (List.getElem?_eq_some_iff.mp hk).1
    have hkl : k < fs - b := List.mem_range.mp (hop.mem_iff.mp (List.mem_of_getElem? hk))
    refine ⟨_, rfl, d, c, 4, rfl, hd5, by decide, by decide, fun tn H7 t0 t1 hd7 k7 => ?_⟩
    have eOR7 := k7 _ _ (by simp [nOd]) eOR5
    have eC7 := k7 _ _ (by simp [nCd]) eC5
    have eD7 := k7 _ _ (by simp [nDd]) eD5
    have eE7 := k7 _ _ (by simp [nEd]) eE5
    refine ⟨fun σ' H' => ∃ nd : Nat, nd < sz ∧ (b ≤ nd → nd < fs → ∃ j', j' < i ∧ order[j']? = some (nd - b)) ∧ σ' = [some (.ref d), some (vI b), some (vI fs), some (vI sz), some (.ref OR), some (.ref C), some (vI k), some (.ref D), some (.ref E0), some (.int tn), some (vI nd)] ∧ DS H' d c ∧ Keep [d] H7 H', ?_, ?_⟩
    · refine ⟨_, rfl, _, _, rfl, rfl, _, rfl, ite2 (fun z => ?_) (fun z => ?_)⟩
      rotate_left
      · refine iteF ?_
        refine ⟨_, rfl, _, rfl, _, rfl, C, _, rfl, .inl (SqL.of eC7), d, c, _, rfl, hd7, by rw [List.length_map]; omega, by rw [List.length_map]; omega, fun r1 H8 r10 r11 hd8 k8 => ?_⟩
        obtain ⟨x1, rfl⟩ := Int.eq_ofNat_of_zero_le r10
        have eC8 := k8 _ _ (by simp [nCd]) eC7
        refine ⟨_, rfl, _, rfl, C, _, rfl, .inl (SqL.of eC8), d, c, _, rfl, hd8, by rw [List.length_map]; omega, by rw [List.length_map]; omega, fun r2 H9 r20 r21 hd9 k9 => ?_⟩
        obtain ⟨x2, rfl⟩ := Int.eq_ofNat_of_zero_le r20
        have eC9 := k9 _ _ (by simp [nCd]) eC8
        rw [List.length_map] at r11 r21
        have hm : max x1 x2 < oth.length := by omega
        have hm2 := hom oth[max x1 x2] (List.getElem_mem hm)
        refine ⟨x1, x2, rfl, C, _, _, _, rfl, rfl, SqL.of eC9, atI_nat (j := max x1 x2) (by rw [List.getElem?_map, List.getElem?_eq_getElem hm]; rfl), oth[max x1 x2], hm2.1, fun h1 h2 => absurd ⟨h1, h2⟩ hm2.2, rfl, hd9, k8.trans k9⟩
      refine ⟨_, rfl, E0, _, rfl, .inl (SqL.of eE7), _, _, rfl, rfl, _, rfl, ite2 (fun z2 => ?_) (fun z2 => ?_)⟩
      rotate_left
      · refine ⟨_, rfl, _, rfl, _, rfl, C, _, rfl, .inl (SqL.of eC7), d, c, _, rfl, hd7, by rw [List.length_map]; omega, by rw [List.length_map]; omega, fun r1 H8 r10 r11 hd8 k8 => ?_⟩
        obtain ⟨x1, rfl⟩ := Int.eq_ofNat_of_zero_le r10
        have eC8 := k8 _ _ (by simp [nCd]) eC7
        refine ⟨_, rfl, _, rfl, C, _, rfl, .inl (SqL.of eC8), d, c, _, rfl, hd8, by rw [List.length_map]; omega, by rw [List.length_map]; omega, fun r2 H9 r20 r21 hd9 k9 => ?_⟩
        obtain ⟨x2, rfl⟩ := Int.eq_ofNat_of_zero_le r20
        have eC9 := k9 _ _ (by simp [nCd]) eC8
        rw [List.length_map] at r11 r21
        have hm : max x1 x2 < oth.length := by omega
        have hm2 := hom oth[max x1 x2] (List.getElem_mem hm)
        refine ⟨x1, x2, rfl, C, _, _, _, rfl, rfl, SqL.of eC9, atI_nat (j := max x1 x2) (by rw [List.getElem?_map, List.getElem?_eq_getElem hm]; rfl), oth[max x1 x2], hm2.1, fun h1 h2 => absurd ⟨h1, h2⟩ hm2.2, rfl, hd9, k8.trans k9⟩
      have z2 : (0 : Int) < ((((order.take i).map vI).length : Nat) : Int) := of_decide_eq_true z2
      have htl : (order.take i).length = i := by rw [List.length_take]; omega
      rw [List.length_map, htl] at z2
      have give : ∀ (j x : Nat), j < i → order[j]? = some x → x < fs - b := fun j x hj hx => List.mem_range.mp (hop.mem_iff.mp (List.mem_of_getElem? hx))
      refine ⟨_, rfl, ?_⟩
      refine ⟨_, rfl, rfl, _, rfl, ite2 (fun z3 => ?_) (fun z3 => ?_)⟩
      · obtain ⟨x, hx⟩ : ∃ x, order[i - 1]? = some x := ⟨_, List.getElem?_eq_getElem (by omega)⟩
        have hxl := give (i - 1) x (by omega) hx
        have hlast : ((order.take i).map vI)[((order.take i).map vI).length - 1]? = some (vI x) := by rw [List.length_map, htl, List.getElem?_map, List.getElem?_take_of_lt (by omega), hx]; rfl
        refine ⟨_, rfl, _, rfl, E0, _, _, _, rfl, rfl, SqL.of eE7, atI_end hlast, _, _, rfl, rfl, b + x, by omega, fun _ _ => ⟨i - 1, by omega, by rw [show b + x - b = x by omega]; exact hx⟩, rfl, hd7, .refl _ _⟩
      · refine ⟨_, rfl, _, rfl, d, c, E0, _, rfl, hd7, nEd, .inl (SqL.of eE7), by rw [List.length_map, htl]; omega, by rw [List.length_map, htl]; omega, fun ko y H8 hy hd8 k8 => ?_⟩
        rw [List.getElem?_map] at hy
        obtain ⟨x, hx, rfl⟩ := Option.map_eq_some_iff.mp hy
        have hko := (List.getElem?_eq_some_iff.mp hx).1
        rw [htl] at hko
        rw [List.getElem?_take_of_lt hko] at hx
        have hxl := give ko x hko hx
        exact ⟨_, _, rfl, rfl, b + x, by omega, fun _ _ => ⟨ko, hko, by rw [show b + x - b = x by omega]; exact hx⟩, rfl, hd8, k8⟩
    rintro σ' H8 ⟨nd, hnd, hno, rfl, hd8, k8⟩
    refine ⟨_, rfl, _, _, rfl, rfl, .inl ⟨by decide, by decide⟩, _, rfl, d, c, 2, rfl, hd8, by decide, by decide, fun r2 H9 r20 r21 hd9 k9 => ⟨_, _, rfl, rfl, ?_⟩⟩
    obtain ⟨y2, rfl⟩ := Int.eq_ofNat_of_zero_le r20
    have k79 := k8.trans k9
    have eD9 := k79 _ _ (by simp [nDd]) eD7
    have eE9 := k79 _ _ (by simp [nEd]) eE7
    have ev : V.int (2 * (nd : Int) + (y2 : Int)) = vI (2 * nd + y2) := congrArg V.int (by omega)
    refine ⟨_, rfl, _, rfl, D, _, _, k, rfl, rfl, eD9, ixN_nat (by rw [List.length_map]; omega), ?_⟩
    dsimp only
    rw [ev, set_vI]
    have eE10 : (upd H9 D (.lst ((nexts.set k (2 * nd + y2)).map vI))) E0 = some (.lst ((order.take i).map vI)) := by rw [upd_ne nED]; exact eE9
    refine ⟨_, rfl, .inl ⟨rfl, _, SqL.of eE10⟩, _, rfl, E0, _, _, rfl, rfl, eE10, len1000 (by rw [List.length_map, List.length_take]; omega), ?_⟩
    have kk : Keep [d, D, E0] H6 (upd (upd H9 D (.lst ((nexts.set k (2 * nd + y2)).map vI))) E0 (.lst ((order.take i).map vI ++ [vI k]))) := ((k7.trans k79).cat (Keep.at1 (a := D))).cat (Keep.at1 (a := E0))
    refine ⟨_, _, _, nexts.set k (2 * nd + y2), rfl, (hd9.keep (S := [D]) Keep.at1 (by simp [nDd.symm]) (by simp [nDc.symm])).keep (S := [E0]) Keep.at1 (by simp [nEd.symm]) (by simp [nEc.symm]), (k5.cat kk).thin (by simp [hD0, hE0]), kk _ _ (by simp [nOd, nDO.symm, nEO.symm]) eOR5, kk _ _ (by simp [nCd, nDC.symm, nEC.symm]) eC5, by rw [upd_ne nED.symm]; exact upd_same, ?_, by rw [List.length_set]; exact hnl, fun l hl => ?_, fun j k2 l hj hjk hl h1 h2 => ?_⟩
    · rw [upd_same, take_snoc hk, List.map_append]
      rfl
    · rcases List.mem_or_eq_of_mem_set hl with h | h
      · exact hns l h
      · rw [h]
        omega
    · by_cases ej : j = i
      · rw [ej, hk] at hjk
        cases hjk
        rw [List.getElem?_set_self (by omega)] at hl
        cases hl
        rw [show (2 * nd + y2) / 2 = nd by omega] at h1 h2 ⊢
        rw [ej]
        exact hno h1 h2
      · have hkk : k2 ≠ k := fun e => by
          have nd0 : order.Nodup := hop.nodup_iff.mpr List.nodup_range
          rw [e] at hjk
          have hjl := (List.getElem?_eq_some_iff.mp hjk).1
          rw [List.getElem?_eq_getElem hjl] at hjk
          rw [List.getElem?_eq_getElem hi'] at hk
          exact ej ((List.getElem_inj nd0).mp ((Option.some.inj hjk).trans (Option.some.inj hk).symm))
        rw [List.getElem?_set_ne (fun e => hkk e.symm)] at hl
        exact hop5 j k2 l (by omega) hjk hl h1 h2
  · obtain ⟨v6, v9, v10, nexts, rfl, hd5, k5, eOR5, eC5, eD5, eE5, hnl, hns, hop5⟩ := pp
    refine ⟨_, rfl, q D order nexts _ eD5 hnl hns hop ?_ hd5 k5⟩
    rw [List.length_map, hol] at hop5
    exact hop5
end

end Bf

set_option Elab.async false
set_option linter.all false
set_option maxRecDepth 100000
set_option maxHeartbeats 4000000
namespace Bf
open PySem PySem.Spec PyProof.Rows L2
/-! ### such a net is open -/
theorem idx_first (a : Nat) : ∀ (l : List Nat) (j : Nat), l[j]? = some a → l.idxOf a ≤ j
  | [], j, h => by simp at h
  | x :: r, j, h => by
    rw [List.idxOf_cons]
    by_cases e : x = a
    · simp [e]
    · have e' : (x == a) = false := by simpa using e
      rw [e']
      cases j with
      | zero => exact absurd (by simpa using h) e
      | succ j =>
        have := idx_first a r j (by simpa using h)
        show r.idxOf a + 1 ≤ j + 1
        omega
theorem idx_at (a : Nat) : ∀ (l : List Nat), a ∈ l → l.idxOf a < l.length ∧ l[l.idxOf a]? = some a
  | [], h => by cases h
  | x :: r, h => by
    rw [List.idxOf_cons]
    by_cases e : x = a
    · simp [e]
    · have e' : (x == a) = false := by simpa using e
      rw [e']
      have hm : a ∈ r := by
        rcases List.mem_cons.mp h with q | q
        · exact absurd q.symm e
        · exact q
      obtain ⟨h1, h2⟩ := idx_at a r hm
      exact ⟨Nat.succ_lt_succ h1, by simpa using h2⟩
theorem openBy_of {N : Net} {order : List Nat} (hp : order.Perm (List.range N.regs.length)) (h : OpenTo (1 + N.ins.length) N.first order (N.regs.map fun r => r.2.2) N.regs.length) : OpenBy N fun a => order.idxOf a := by
  have hl : order.length = N.regs.length := by rw [hp.length_eq, List.length_range]
  have hm : ∀ a, a < N.regs.length → a ∈ order := fun a ha => hp.mem_iff.mpr (List.mem_range.mpr ha)
  refine ⟨fun a ha => by rw [← hl]; exact (idx_at a order (hm a ha)).1, fun a b ha hab => ?_⟩
  obtain ⟨i1, i2⟩ := idx_at a order (hm a ha)
  have ga : N.regs[a]? = some N.regs[a] := List.getElem?_eq_getElem ha
  have ef : N.flw a = N.regs[a].2.2 := by unfold Net.flw; rw [List.getD_eq_getElem?_getD, ga]; rfl
  have hab' : N.regAt (N.flw a) = some b := hab
  unfold Net.regAt at hab'
  split at hab'
  · rename_i hq
    have eb := Option.some.inj hab'
    obtain ⟨j', hj, hjb⟩ := h (order.idxOf a) a (N.flw a) (by omega) i2 (by rw [List.getElem?_map, ga, ef]; rfl) hq.1 hq.2
    have := idx_first b order j' (by rw [hjb]; exact congrArg some (by omega))
    show order.idxOf b < order.idxOf a
    omega
  · cases hab'

end Bf

set_option Elab.async false
set_option linter.all false
set_option maxRecDepth 100000
set_option maxHeartbeats 4000000
namespace Bf
open PySem PySem.Spec PyProof.Rows L2
/-! ### open nets -/
def spNetO : Sp := fun vs H Q _ => ∃ (d c : Addr) (a b m o k : Nat), vs = [.ref d, vI a, vI b, vI m, vI o, vI k] ∧ DS H d c ∧ a + b + o + k ≤ 60 ∧ m ≤ 100 ∧
  ∀ (v : V) (N : Net) (ρ : Nat → Nat) (H' : Hp), Lay H' v (netD N) → OpenBy N ρ → (∀ (i : Nat) (p : Nat × Nat), N.ands[i]? = some p → p.1 < 2 * (N.first + i) ∧ p.2 < 2 * (N.first + i)) → N.ins.length = a → N.regs.length = b → N.ands.length = m → N.outs.length = o → N.cls.length = k → DS H' d c → Keep [d] H H' → Q v H'
section
variable {P : Program} {w : World} {K : PySem.W.Frag} {mg : Str → Option Value} {base : Heap} {f : Addr} {fd : FuncData}
theorem ok_netO (F : Fun K "_law_open_net" "_law_open_net" s_law_open_net f fd) (T : Txt mg) (D_law_draw : Dn P w K mg base "_law_draw" ["_law_d", "_law_many"] 1 spDraw) (D_law_pop : Dn P w K mg base "_law_pop" ["_law_d", "_law_row"] 2 spPop)
    (D_law_pool : Dn P w K mg base "_law_pool" [] 1 spPool) (D_law_drawn_literal : Dn P w K mg base "_law_drawn_literal" ["_law_d", "_law_size"] 2 spLit)
    (D_law_open_pair : Dn P w K mg base "_law_open_pair" ["_law_d", "_law_begin_here", "_law_size", "_law_mode"] 2 spPairO) (D_law_open_nexts : Dn P w K mg base "_law_open_nexts" ["_law_d", "_law_begin_here", "_law_first", "_law_size"] 3 spNexts) :
    FnOk P w K mg base CX0 4 f fd ["_law_d", "_law_inputs", "_law_regs", "_law_ands", "_law_outputs", "_law_claims"] spNetO := by
  refine F.ok sc_law_open_net (fun vs H Q E h => ?_) (fun cdv A outer s H vs Q E hr h => ?_)
  · obtain ⟨d, c, a, b, m, o, k, rfl, _⟩ := h
    rfl
  obtain ⟨d, c, a, b, m, o, k, rfl, hd, h61, h100, q⟩ := h
  refine ⟨_, (pss_cons (ps_set (i := 6) sc_law_open_net.nd rfl (Or.inr rfl) (pe_dn0 D_law_pool (hr.mono (by omega)) (by rfl)))
      (pss_cons (ps_set (i := 7) sc_law_open_net.nd rfl (Or.inr rfl) (pe_op op_add pe_int (pv 1)))
      (pss_cons (ps_set (i := 8) sc_law_open_net.nd rfl (Or.inr rfl) (pe_op op_add (pv 7) (pv 2)))
      (pss_cons (ps_set (i := 9) sc_law_open_net.nd rfl (Or.inr rfl) (pe_dn D_law_draw (hr.mono (by omega)) (by rfl) (pa_cons (pv 0) (pa_cons pe_int pa_nil))))
      (pss_cons (ps_setLc (i := 10) (own := [("_law_k", 17)]) (g := (gName 17)) (tt := tYes) rfl sc_law_open_net.nd rfl rfl (sw_true rfl rfl rfl (by decide +kernel)) (pi_range1 rfl T.n_range (pa_cons (pv 3) pa_nil)) (blkOk_by (N := ["_law_d", "_law_inputs", "_law_regs", "_law_ands", "_law_outputs", "_law_claims", "_law_names", "_law_begin_here", "_law_first", "_law_mode", "_law_pairs", "_law_size", "_law_given", "_law_nexts", "_law_rows", "_law_shown", "_law_asked", "_law_k"]) (sc := defScope s_law_open_net) (by decide +kernel)) (fun _ _ _ _ _ => (pg_name (i := 17) sc_law_open_net.nd rfl (Or.inl rfl))) (fun _ _ _ _ _ => pts_nil) (fun _ _ _ _ _ => (pe_dn D_law_open_pair (hr.mono (by omega)) (by rfl) (pa_cons (pv 0) (pa_cons (pv 7) (pa_cons (pe_op op_add (pv 8) (pv 17)) (pa_cons (pv 9) pa_nil)))))))
      (pss_cons (ps_set (i := 11) sc_law_open_net.nd rfl (Or.inr rfl) (pe_op op_add (pv 8) (pv 3)))
      (pss_cons (ps_set (i := 12) sc_law_open_net.nd rfl (Or.inl rfl) (pe_callTy call_tuple_of (by rfl) T.n_tuple (by decide +kernel) (pa_cons (pe_lc (own := [("_law_k", 17)]) (g := (gName 17)) (tt := tYes) rfl sc_law_open_net.nd (pi_range1 rfl T.n_range (pa_cons (pv 1) pa_nil)) (blkOk_by (N := ["_law_d", "_law_inputs", "_law_regs", "_law_ands", "_law_outputs", "_law_claims", "_law_names", "_law_begin_here", "_law_first", "_law_mode", "_law_pairs", "_law_size", "_law_given", "_law_nexts", "_law_rows", "_law_shown", "_law_asked", "_law_k"]) (sc := defScope s_law_open_net) (by decide +kernel)) (fun _ _ _ _ _ => (pg_name (i := 17) sc_law_open_net.nd rfl (Or.inl rfl))) (fun _ _ _ _ _ => pts_nil) (fun _ _ _ _ _ => (pe_dn D_law_pop (hr.mono (by omega)) (by rfl) (pa_cons (pv 0) (pa_cons (pv 6) pa_nil))))) pa_nil)))
      (C8.pss_cut (ps_set (i := 13) sc_law_open_net.nd rfl (Or.inr rfl) (pe_dn D_law_open_nexts (hr.mono (by omega)) (by rfl) (pa_cons (pv 0) (pa_cons (pv 7) (pa_cons (pv 8) (pa_cons (pv 11) pa_nil))))))
      (pss_cons (ps_setLc (i := 14) (own := [("_law_k", 17)]) (g := (gName 17)) (tt := tYes) rfl sc_law_open_net.nd rfl rfl (sw_true rfl rfl rfl (by decide +kernel)) (pi_range1 rfl T.n_range (pa_cons (pv 2) pa_nil)) (blkOk_by (N := ["_law_d", "_law_inputs", "_law_regs", "_law_ands", "_law_outputs", "_law_claims", "_law_names", "_law_begin_here", "_law_first", "_law_mode", "_law_pairs", "_law_size", "_law_given", "_law_nexts", "_law_rows", "_law_shown", "_law_asked", "_law_k"]) (sc := defScope s_law_open_net) (by decide +kernel)) (fun _ _ _ _ _ => (pg_name (i := 17) sc_law_open_net.nd rfl (Or.inl rfl))) (fun _ _ _ _ _ => pts_nil) (fun _ _ _ _ _ => (pe_tup (pa_cons (pe_dn D_law_pop (hr.mono (by omega)) (by rfl) (pa_cons (pv 0) (pa_cons (pv 6) pa_nil))) (pa_cons (pe_dn D_law_draw (hr.mono (by omega)) (by rfl) (pa_cons (pv 0) (pa_cons pe_int pa_nil))) (pa_cons (pe_ix (ix_list : IxR _ (rIxL K)) (pv 13) (pv 17) (fun _ _ => rfl)) pa_nil))))))
      (pss_cons (ps_setLc (i := 15) (own := [("_law_k", 17)]) (g := (gName 17)) (tt := tYes) rfl sc_law_open_net.nd rfl rfl (sw_true rfl rfl rfl (by decide +kernel)) (pi_range1 rfl T.n_range (pa_cons (pv 4) pa_nil)) (blkOk_by (N := ["_law_d", "_law_inputs", "_law_regs", "_law_ands", "_law_outputs", "_law_claims", "_law_names", "_law_begin_here", "_law_first", "_law_mode", "_law_pairs", "_law_size", "_law_given", "_law_nexts", "_law_rows", "_law_shown", "_law_asked", "_law_k"]) (sc := defScope s_law_open_net) (by decide +kernel)) (fun _ _ _ _ _ => (pg_name (i := 17) sc_law_open_net.nd rfl (Or.inl rfl))) (fun _ _ _ _ _ => pts_nil) (fun _ _ _ _ _ => (pe_tup (pa_cons (pe_dn D_law_pop (hr.mono (by omega)) (by rfl) (pa_cons (pv 0) (pa_cons (pv 6) pa_nil))) (pa_cons (pe_dn D_law_drawn_literal (hr.mono (by omega)) (by rfl) (pa_cons (pv 0) (pa_cons (pv 11) pa_nil))) pa_nil)))))
      (pss_cons (ps_setLc (i := 16) (own := [("_law_k", 17)]) (g := (gName 17)) (tt := tYes) rfl sc_law_open_net.nd rfl rfl (sw_true rfl rfl rfl (by decide +kernel)) (pi_range1 rfl T.n_range (pa_cons (pv 5) pa_nil)) (blkOk_by (N := ["_law_d", "_law_inputs", "_law_regs", "_law_ands", "_law_outputs", "_law_claims", "_law_names", "_law_begin_here", "_law_first", "_law_mode", "_law_pairs", "_law_size", "_law_given", "_law_nexts", "_law_rows", "_law_shown", "_law_asked", "_law_k"]) (sc := defScope s_law_open_net) (by decide +kernel)) (fun _ _ _ _ _ => (pg_name (i := 17) sc_law_open_net.nd rfl (Or.inl rfl))) (fun _ _ _ _ _ => pts_nil) (fun _ _ _ _ _ => (pe_tup (pa_cons (pe_dn D_law_pop (hr.mono (by omega)) (by rfl) (pa_cons (pv 0) (pa_cons (pv 6) pa_nil))) (pa_cons (pe_dn D_law_drawn_literal (hr.mono (by omega)) (by rfl) (pa_cons (pv 0) (pa_cons (pv 11) pa_nil))) pa_nil)))))
      (pss_one (ps_ret (pe_tup (pa_cons pe_str (pa_cons (pv 12) (pa_cons (pe_callTy call_tuple_of (by rfl) T.n_tuple (by decide +kernel) (pa_cons (pv 14) pa_nil)) (pa_cons (pe_callTy call_tuple_of (by rfl) T.n_tuple (by decide +kernel) (pa_cons (pv 10) pa_nil)) (pa_cons (pe_callTy call_tuple_of (by rfl) T.n_tuple (by decide +kernel) (pa_cons (pv 15) pa_nil)) (pa_cons (pe_callTy call_tuple_of (by rfl) T.n_tuple (by decide +kernel) (pa_cons (pv 16) pa_nil)) pa_nil)))))))))))))))))))), ?_⟩
  refine ⟨rfl, fun pn xs hpn hx => ?_⟩
  have hd1 := hd.same (same_new hpn (.lst (xs.map V.str)))
  obtain ⟨nnd, nnc⟩ := hd.new hpn
  have hn1 : Nms (upd H pn (.lst (xs.map V.str))) pn 61 := ⟨_, upd_same, fun v hv => (let ⟨z, _, e⟩ := List.mem_map.mp hv; ⟨z, e.symm⟩), by rw [List.length_map, hx]⟩
  have k1 : Keep [d] H (upd H pn (.lst (xs.map V.str))) := Keep.new hpn
  generalize upd H pn (.lst (xs.map V.str)) = H0 at hd1 hn1 k1 ⊢
  refine ⟨_, rfl, _, _, rfl, rfl, ?_⟩
  refine ⟨_, rfl, _, rfl, _, _, rfl, rfl, ?_⟩
  refine ⟨_, rfl, d, c, 4, rfl, hd1, by decide, by decide, fun mode H1 mo0 mo1 hd1' kmo => ?_⟩
  replace hn1 := hn1.keep kmo (by simp [nnd])
  replace k1 := k1.trans kmo
  replace hd1 := hd1'
  clear hd1'
  -- the ands
  refine ⟨_, rfl, (m : Int), rfl, (i62 (by omega)).1, (i62 (by omega)).2, fun D1 hD1 => ?_⟩
  obtain ⟨nDd, nDc⟩ := hd1.new hD1
  have nDn : D1 ≠ pn := let ⟨x, e, _⟩ := hn1; (ne_of_none e hD1).symm
  refine lc_range (lo := 0) (n := m) (fun i H' => ∃ acc : List (Nat × Nat), Acc D1 pairD acc H' ∧ acc.length = i ∧ (∀ j p, acc[j]? = some p → p.1 < 2 * (1 + a + b + j) ∧ p.2 < 2 * (1 + a + b + j)) ∧ DS H' d c ∧ Nms H' pn 61 ∧ Keep [d] H H')
    ⟨[], .nil, rfl, fun j p e => by simp at e, hd1.same (same_new hD1 _), hn1.same (same_new hD1 _), k1.trans (Keep.new hD1)⟩ (fun i H2 hi p => ?_) (fun H2 p => ?_)
  · obtain ⟨acc, hA, hl, hb, hd2, hn2, k2⟩ := p
    have hi : i < m := hi
    have e1 : V.int (1 + (a : Int)) = vI (1 + a) := congrArg V.int (by omega)
    have e2 : V.int (1 + (a : Int) + (b : Int) + (0 + (i : Int))) = vI (1 + a + b + i) := congrArg V.int (by omega)
    refine ⟨rfl, _, rfl, _, rfl, _, rfl, _, rfl, _, _, rfl, rfl, _, rfl, ?_⟩
    refine ⟨d, c, 1 + a, 1 + a + b + i, mode, (show [V.ref d, V.int (1 + (a : Int)), V.int (1 + (a : Int) + (b : Int) + (0 + (i : Int))), V.int mode] = _ by rw [e1, e2]), hd2, by omega, by omega, fun qq pp H3 lq pp1 pp2 hd3 k3 => ?_⟩
    have hA5 := hA.keep k3 (k3.tup1 hd2) (by simp [nDd])
    have hn5 := hn2.keep k3 (by simp [nnd])
    obtain ⟨vs, e, hlen, hA6, _⟩ := hA5.push (x := pp) lq (by omega)
    refine ⟨vs, e, hlen, acc ++ [pp], hA6, by rw [List.length_append, hl]; rfl, fun j p hp => ?_, ?_, ?_, ?_⟩
    · by_cases hj : j < acc.length
      · rw [List.getElem?_append_left hj] at hp
        exact hb j p hp
      · rw [List.getElem?_append_right (by omega)] at hp
        have hj0 : j - acc.length = 0 := by
          cases z : j - acc.length with
          | zero => rfl
          | succ n => rw [z] at hp; simp at hp
        rw [hj0] at hp
        obtain rfl : pp = p := Option.some.inj hp
        have : j = i := by omega
        rw [this]
        exact ⟨pp1, pp2⟩
    · exact hd3.keep (S := [D1]) (Keep.upd (by simp)) (by simp [nDd.symm]) (by simp [nDc.symm])
    · exact hn5.keep (S := [D1]) (Keep.upd (by simp)) (by simp [nDn.symm])
    · exact ((k2.cat k3).cat .at1).thin (by simp [k1.free hD1 (by simp [nDd])])
  obtain ⟨an, hA, hal, hab, hd2, hn2, k2⟩ := p
  clear hd1 hn1 k1
  refine ⟨_, rfl, _, rfl, _, _, rfl, rfl, ?_⟩
  -- the inputs
  refine ⟨_, rfl, (a : Int), rfl, (i62 (by omega)).1, (i62 (by omega)).2, fun D2 hD2 => ?_⟩
  obtain ⟨n2d, n2c⟩ := hd2.new hD2
  have n2n : D2 ≠ pn := let ⟨x, e, _⟩ := hn2; (ne_of_none e hD2).symm
  have n21 : D2 ≠ D1 := let ⟨x, e⟩ := hA.at_; (ne_of_none e hD2).symm
  have f2 : H D2 = none := k2.free hD2 (by simp [n2d])
  refine lc_range (lo := 0) (n := a) (fun i H' => ∃ acc : List Str, Acc D2 PyData.str acc H' ∧ acc.length = i ∧ DS H' d c ∧ Nms H' pn (61 - i) ∧ Acc D1 pairD an H' ∧ Keep [d] H H')
    ⟨[], .nil, rfl, hd2.same (same_new hD2 _), hn2.same (same_new hD2 _), hA.same (same_new hD2 _), k2.trans (Keep.new hD2)⟩ (fun i H3 hi p => ?_) (fun H3 p => ?_)
  · obtain ⟨acc, hB, hl, hd3, hn3, hA3, k3⟩ := p
    have hi : i < a := hi
    obtain ⟨names, hn, hz, h61'⟩ := hn3
    refine ⟨rfl, _, rfl, _, rfl, d, c, pn, names, rfl, hd3, hn, nnd, nnc, by omega, by omega, fun j y H4 hy hd4 hn4 k4 => ?_⟩
    obtain ⟨z, rfl⟩ := hz y (List.mem_of_getElem? hy)
    have t4 := k4.tup2 hd3 hn
    have hB4 := hB.keep k4 t4 (by simp [n2d, n2n])
    obtain ⟨vs, e, hlen, hB5, t5⟩ := hB4.push (x := z) (.str z) (by omega)
    refine ⟨vs, e, hlen, acc ++ [z], hB5, by rw [List.length_append, hl]; rfl, hd4.keep (S := [D2]) Keep.at1 (by simp [n2d.symm]) (by simp [n2c.symm]), ⟨names.eraseIdx j, ?_, fun v hv => hz v (List.mem_of_mem_eraseIdx hv), ?_⟩, ?_, ?_⟩
    · rw [upd_ne n2n.symm]; exact hn4
    · rw [List.length_eraseIdx, if_pos (List.getElem?_eq_some_iff.mp hy).1]; omega
    · exact (hA3.keep k4 t4 (by simp [nDd, nDn])).keep Keep.at1 t5 (by simp [n21.symm])
    · exact ((k3.cat k4).cat .at1).thin (by simp [hpn, f2])
  -- behind the inputs
  obtain ⟨is, ⟨vs, hB, lB⟩, hil, hdS, hnS, hAS, kS⟩ := p
  obtain rfl := lB.strs_inv
  refine ⟨D2, _, rfl, .inl ⟨SqL.of hB, fun pi hpi => ?_⟩⟩
  have st := same_new hpi (.tup (is.map V.str))
  have hP : upd H3 pi (.tup (is.map V.str)) pi = some (.tup (is.map V.str)) := upd_same
  replace hdS := hdS.same st
  replace hnS := hnS.same st
  replace hAS := hAS.same st
  replace kS : Keep [d] H (upd H3 pi (.tup (is.map V.str))) := kS.trans (.of_same st)
  generalize upd H3 pi (.tup (is.map V.str)) = Ht0 at hP hdS hnS hAS kS ⊢
  have m1 : D1 ∉ [d, pn] := by simp [nDd, nDn]
  clear hB lB hpi st hd2 hn2 hA k2 hD2 hD1
  -- the nexts
  have ev1 : V.int (1 + (a : Int)) = vI (1 + a) := congrArg V.int (by omega)
  have ev2 : V.int (1 + (a : Int) + (b : Int)) = vI (1 + a + b) := congrArg V.int (by omega)
  have ev3 : V.int (1 + (a : Int) + (b : Int) + (m : Int)) = vI (1 + a + b + m) := congrArg V.int (by omega)
  refine ⟨fun σ' H' => ∃ (LN : Addr) (order nexts : List Nat), σ' = [some (.ref d), some (vI a), some (vI b), some (vI m), some (vI o), some (vI k), some (.ref pn), some (V.int (1 + (a : Int))), some (V.int (1 + (a : Int) + (b : Int))), some (.int mode), some (.ref D1), some (V.int (1 + (a : Int) + (b : Int) + (m : Int))), some (.ref pi), some (.ref LN), none, none, none, none] ∧
    H' LN = some (.lst (nexts.map vI)) ∧ nexts.length = b ∧ order.Perm (List.range b) ∧ OpenTo (1 + a) (1 + a + b) order nexts b ∧ DS H' d c ∧ Keep [d] Ht0 H', ?_, ?_⟩
  · refine ⟨_, rfl, _, rfl, _, rfl, _, rfl, ?_⟩
    refine ⟨d, c, 1 + a, 1 + a + b, 1 + a + b + m, (show [V.ref d, V.int (1 + (a : Int)), V.int (1 + (a : Int) + (b : Int)), V.int (1 + (a : Int) + (b : Int) + (m : Int))] = _ by rw [ev1, ev2, ev3]), hdS, by omega, by omega, by omega, by omega, fun LN order nexts Ht eLN hnl hns hop hto hdN kN => ?_⟩
    rw [show 1 + a + b - (1 + a) = b by omega] at hnl hop hto
    exact ⟨LN, order, nexts, rfl, eLN, hnl, hop, hto, hdN, kN⟩
  rintro σ' Ht ⟨LN, order, nexts, rfl, eLN, hnl, hop, hto, hdN, kN⟩
  replace hAS := hAS.keep kN (kN.tup1 hdS) (by simp [nDd])
  replace hnS := hnS.keep kN (by simp [nnd])
  replace hP := (kN.tup1 hdS) _ _ hP
  replace kS := kS.trans kN
  replace hdS := hdN
  have nLd : LN ≠ d := hdN.ne_ints eLN
  have nLn : LN ≠ pn := ?nln
  have ktS : KeepT Ht Ht := .refl _
  clear hdN
  -- the regs
  refine ⟨_, rfl, (b : Int), rfl, (i62 (by omega)).1, (i62 (by omega)).2, fun D3 hD => ?_⟩
  obtain ⟨ndD3, ncD3⟩ := hdS.new hD
  have nnD3 : D3 ≠ pn := let ⟨x, e, _⟩ := hnS; (ne_of_none e hD).symm
  have nD3D1 : D3 ≠ D1 := let ⟨x, e⟩ := hAS.at_; (ne_of_none e hD).symm
  have nD3L : D3 ≠ LN := (ne_of_none eLN hD).symm
  have fD3 : H D3 = none := kS.free hD (by simp [ndD3])
  refine lc_range (lo := 0) (n := b) (fun i H' => ∃ acc : List (Str × Nat × Nat), Acc D3 regD acc H' ∧ acc.length = i ∧ (acc.map fun r => r.2.2) = nexts.take i ∧ DS H' d c ∧ Nms H' pn (61 - (a) - i) ∧ KeepT Ht H' ∧ Keep [d] H H' ∧ Acc D1 pairD an H' ∧ H' LN = some (.lst (nexts.map vI)))
    ⟨[], .nil, rfl, rfl, hdS.same (same_new hD _), (hnS.same (same_new hD _)).cast (by omega), ktS.trans (.new hD), kS.trans (Keep.new hD), hAS.same (same_new hD _), (same_new hD _) _ _ eLN⟩ (fun i H3 hi p => ?_) (fun H3 p => ?_)
  · obtain ⟨acc, hB, hl, hg, hd3, ⟨names, hn, hz, h61'⟩, kt3, k3, hAS3, eLN3⟩ := p
    have hi : i < b := hi
    refine ⟨rfl, _, rfl, _, rfl, d, c, pn, names, rfl, hd3, hn, nnd, nnc, by omega, by omega, fun j y H4 hy hd4 hn4 k4 => ?_⟩
    obtain ⟨z, rfl⟩ := hz y (List.mem_of_getElem? hy)
    have t4 := k4.tup2 hd3 hn
    refine ⟨_, rfl, d, c, 2, rfl, hd4, by decide, by decide, fun r H5 r0 r1 hd5 k5 => ?_⟩
    obtain ⟨u, rfl⟩ := Int.eq_ofNat_of_zero_le r0
    have t5 := k5.tup1 hd4
    have eLN5 := k5 _ _ (by simp [nLd]) (k4 _ _ (by simp [nLd, nLn]) eLN3)
    have hil : i < nexts.length := by omega
    obtain ⟨l, hll⟩ : ∃ l, l = nexts[i] := ⟨_, rfl⟩
    have hat : atI (nexts.map vI) (0 + (i : Int)) = some (vI l) := by
      rw [Int.zero_add]
      exact atI_nat (by rw [List.getElem?_map, List.getElem?_eq_getElem hil, hll]; rfl)
    refine ⟨_, rfl, _, rfl, LN, _, _, _, rfl, rfl, SqL.of eLN5, hat, ?_⟩
    refine ⟨(by show 3 ≤ sizeLine; decide), fun t ht => ?_⟩
    have st := same_new ht (.tup [.str z, vI u, vI l])
    have kc : Keep [d, pn] H3 (upd H5 t (.tup [.str z, vI u, vI l])) := ((k4.cat k5).cat (.sm st)).wide (by simp)
    have tc : KeepT H3 (upd H5 t (.tup [.str z, vI u, vI l])) := (t4.trans t5).trans (.same st)
    have hn6 : (upd H5 t (.tup [.str z, vI u, vI l])) pn = some (.lst (names.eraseIdx j)) := st _ _ (k5 _ _ (by simp [nnd]) hn4)
    obtain ⟨vs, e, hlen, hB7, t7⟩ := (hB.keep kc tc (by simp [ndD3, nnD3])).push (x := (z, u, l)) (.mkReg upd_same) (by omega)
    refine ⟨vs, e, hlen, acc ++ [(z, u, l)], hB7, by rw [List.length_append, hl]; rfl, ?_, (hd5.same st).keep (S := [D3]) Keep.at1 (by simp [ndD3.symm]) (by simp [ncD3.symm]), ⟨names.eraseIdx j, ?_, fun v hv => hz v (List.mem_of_mem_eraseIdx hv), ?_⟩, (kt3.trans tc).trans t7, ((k3.cat kc).cat .at1).thin (by simp [hpn, fD3]), (hAS3.keep kc tc (by simp [*])).keep Keep.at1 t7 (by simp [nD3D1.symm]), by rw [upd_ne nD3L.symm]; exact st _ _ eLN5⟩
    · rw [List.map_append, hg, take_snoc (List.getElem?_eq_getElem hil), ← hll]
      rfl
    · rw [upd_ne nnD3.symm]; exact hn6
    · rw [List.length_eraseIdx, if_pos (List.getElem?_eq_some_iff.mp hy).1]; omega
  obtain ⟨rs, hRS, hrl, hrg, hdS, hnS, ktS, kS, hAS, _⟩ := p
  -- the outs
  refine ⟨_, rfl, (o : Int), rfl, (i62 (by omega)).1, (i62 (by omega)).2, fun D4 hD => ?_⟩
  obtain ⟨ndD4, ncD4⟩ := hdS.new hD
  have nnD4 : D4 ≠ pn := let ⟨x, e, _⟩ := hnS; (ne_of_none e hD).symm
  have nD4D1 : D4 ≠ D1 := let ⟨x, e⟩ := hAS.at_; (ne_of_none e hD).symm
  have nD4D3 : D4 ≠ D3 := let ⟨x, e⟩ := hRS.at_; (ne_of_none e hD).symm
  have fD4 : H D4 = none := kS.free hD (by simp [ndD4])
  refine lc_range (lo := 0) (n := o) (fun i H' => ∃ acc : List (Str × Nat), Acc D4 namD acc H' ∧ acc.length = i ∧ (∀ r ∈ acc, r.2 < 2 * (1 + a + b + m)) ∧ DS H' d c ∧ Nms H' pn (61 - (a + b) - i) ∧ KeepT Ht H' ∧ Keep [d] H H' ∧ Acc D1 pairD an H' ∧ Acc D3 regD rs H')
    ⟨[], .nil, rfl, fun r hr => by simp at hr, hdS.same (same_new hD _), (hnS.same (same_new hD _)).cast (by omega), ktS.trans (.new hD), kS.trans (Keep.new hD), hAS.same (same_new hD _), hRS.same (same_new hD _)⟩ (fun i H3 hi p => ?_) (fun H3 p => ?_)
  · obtain ⟨acc, hB, hl, hg, hd3, ⟨names, hn, hz, h61'⟩, kt3, k3, hAS3, hRS3⟩ := p
    have hi : i < o := hi
    refine ⟨rfl, _, rfl, _, rfl, d, c, pn, names, rfl, hd3, hn, nnd, nnc, by omega, by omega, fun j y H4 hy hd4 hn4 k4 => ?_⟩
    obtain ⟨z, rfl⟩ := hz y (List.mem_of_getElem? hy)
    have t4 := k4.tup2 hd3 hn
    refine ⟨_, rfl, _, rfl, d, c, _, 1 + a + b + m, rfl, by omega, hd4, by omega, by omega, fun l H6 hl6 hd6 k6 => ?_⟩
    have t6 := k6.tup1 hd4
    refine ⟨(by show 2 ≤ sizeLine; decide), fun t ht => ?_⟩
    have st := same_new ht (.tup [.str z, vI l])
    have kc : Keep [d, pn] H3 (upd H6 t (.tup [.str z, vI l])) := ((k4.cat k6).cat (.sm st)).wide (by simp)
    have tc : KeepT H3 (upd H6 t (.tup [.str z, vI l])) := (t4.trans t6).trans (.same st)
    have hn6 : (upd H6 t (.tup [.str z, vI l])) pn = some (.lst (names.eraseIdx j)) := st _ _ (k6 _ _ (by simp [nnd]) hn4)
    obtain ⟨vs, e, hlen, hB7, t7⟩ := (hB.keep kc tc (by simp [ndD4, nnD4])).push (x := (z, l)) (.mkNam upd_same) (by omega)
    refine ⟨vs, e, hlen, acc ++ [(z, l)], hB7, by rw [List.length_append, hl]; rfl, fun r hr => ?_, (hd6.same st).keep (S := [D4]) Keep.at1 (by simp [ndD4.symm]) (by simp [ncD4.symm]), ⟨names.eraseIdx j, ?_, fun v hv => hz v (List.mem_of_mem_eraseIdx hv), ?_⟩, (kt3.trans tc).trans t7, ((k3.cat kc).cat .at1).thin (by simp [hpn, fD4]), (hAS3.keep kc tc (by simp [*])).keep Keep.at1 t7 (by simp [nD4D1.symm]), (hRS3.keep kc tc (by simp [*])).keep Keep.at1 t7 (by simp [nD4D3.symm])⟩
    · rcases List.mem_append.mp hr with q | q
      · exact hg r q
      · rw [List.mem_singleton.mp q]
        exact hl6
    · rw [upd_ne nnD4.symm]; exact hn6
    · rw [List.length_eraseIdx, if_pos (List.getElem?_eq_some_iff.mp hy).1]; omega
  obtain ⟨os, hOS, hol, hog, hdS, hnS, ktS, kS, hAS, hRS⟩ := p
  -- the cls
  refine ⟨_, rfl, (k : Int), rfl, (i62 (by omega)).1, (i62 (by omega)).2, fun D5 hD => ?_⟩
  obtain ⟨ndD5, ncD5⟩ := hdS.new hD
  have nnD5 : D5 ≠ pn := let ⟨x, e, _⟩ := hnS; (ne_of_none e hD).symm
  have nD5D1 : D5 ≠ D1 := let ⟨x, e⟩ := hAS.at_; (ne_of_none e hD).symm
  have nD5D3 : D5 ≠ D3 := let ⟨x, e⟩ := hRS.at_; (ne_of_none e hD).symm
  have nD5D4 : D5 ≠ D4 := let ⟨x, e⟩ := hOS.at_; (ne_of_none e hD).symm
  have fD5 : H D5 = none := kS.free hD (by simp [ndD5])
  refine lc_range (lo := 0) (n := k) (fun i H' => ∃ acc : List (Str × Nat), Acc D5 namD acc H' ∧ acc.length = i ∧ (∀ r ∈ acc, r.2 < 2 * (1 + a + b + m)) ∧ DS H' d c ∧ Nms H' pn (61 - (a + b + o) - i) ∧ KeepT Ht H' ∧ Keep [d] H H' ∧ Acc D1 pairD an H' ∧ Acc D3 regD rs H' ∧ Acc D4 namD os H')
    ⟨[], .nil, rfl, fun r hr => by simp at hr, hdS.same (same_new hD _), (hnS.same (same_new hD _)).cast (by omega), ktS.trans (.new hD), kS.trans (Keep.new hD), hAS.same (same_new hD _), hRS.same (same_new hD _), hOS.same (same_new hD _)⟩ (fun i H3 hi p => ?_) (fun H3 p => ?_)
  · obtain ⟨acc, hB, hl, hg, hd3, ⟨names, hn, hz, h61'⟩, kt3, k3, hAS3, hRS3, hOS3⟩ := p
    have hi : i < k := hi
    refine ⟨rfl, _, rfl, _, rfl, d, c, pn, names, rfl, hd3, hn, nnd, nnc, by omega, by omega, fun j y H4 hy hd4 hn4 k4 => ?_⟩
    obtain ⟨z, rfl⟩ := hz y (List.mem_of_getElem? hy)
    have t4 := k4.tup2 hd3 hn
    refine ⟨_, rfl, _, rfl, d, c, _, 1 + a + b + m, rfl, by omega, hd4, by omega, by omega, fun l H6 hl6 hd6 k6 => ?_⟩
    have t6 := k6.tup1 hd4
    refine ⟨(by show 2 ≤ sizeLine; decide), fun t ht => ?_⟩
    have st := same_new ht (.tup [.str z, vI l])
    have kc : Keep [d, pn] H3 (upd H6 t (.tup [.str z, vI l])) := ((k4.cat k6).cat (.sm st)).wide (by simp)
    have tc : KeepT H3 (upd H6 t (.tup [.str z, vI l])) := (t4.trans t6).trans (.same st)
    have hn6 : (upd H6 t (.tup [.str z, vI l])) pn = some (.lst (names.eraseIdx j)) := st _ _ (k6 _ _ (by simp [nnd]) hn4)
    obtain ⟨vs, e, hlen, hB7, t7⟩ := (hB.keep kc tc (by simp [ndD5, nnD5])).push (x := (z, l)) (.mkNam upd_same) (by omega)
    refine ⟨vs, e, hlen, acc ++ [(z, l)], hB7, by rw [List.length_append, hl]; rfl, fun r hr => ?_, (hd6.same st).keep (S := [D5]) Keep.at1 (by simp [ndD5.symm]) (by simp [ncD5.symm]), ⟨names.eraseIdx j, ?_, fun v hv => hz v (List.mem_of_mem_eraseIdx hv), ?_⟩, (kt3.trans tc).trans t7, ((k3.cat kc).cat .at1).thin (by simp [hpn, fD5]), (hAS3.keep kc tc (by simp [*])).keep Keep.at1 t7 (by simp [nD5D1.symm]), (hRS3.keep kc tc (by simp [*])).keep Keep.at1 t7 (by simp [nD5D3.symm]), (hOS3.keep kc tc (by simp [*])).keep Keep.at1 t7 (by simp [nD5D4.symm])⟩
    · rcases List.mem_append.mp hr with q | q
      · exact hg r q
      · rw [List.mem_singleton.mp q]
        exact hl6
    · rw [upd_ne nnD5.symm]; exact hn6
    · rw [List.length_eraseIdx, if_pos (List.getElem?_eq_some_iff.mp hy).1]; omega
  obtain ⟨cs, hCS, hcl, hcg, hdS, hnS, ktS, kS, hAS, hRS, hOS⟩ := p
  obtain ⟨va, ea, la⟩ := hAS
  obtain ⟨vr, er, lr⟩ := hRS
  obtain ⟨vo, eo, lo⟩ := hOS
  obtain ⟨vc, ec, lc⟩ := hCS
  refine ⟨_, rfl, _, rfl, D3, _, rfl, .inl ⟨SqL.of er, fun pr hpr => ?_⟩⟩
  have s1 := same_new hpr (.tup vr)
  refine ⟨_, rfl, D1, _, rfl, .inl ⟨SqL.of (s1 _ _ ea), fun pa hpa => ?_⟩⟩
  have s2 := s1.trans (same_new hpa (.tup va))
  refine ⟨_, rfl, D4, _, rfl, .inl ⟨SqL.of (s2 _ _ eo), fun po hpo => ?_⟩⟩
  have s3 := s2.trans (same_new hpo (.tup vo))
  refine ⟨_, rfl, D5, _, rfl, .inl ⟨SqL.of (s3 _ _ ec), fun pc hpc => ?_⟩⟩
  have s4 := s3.trans (same_new hpc (.tup vc))
  refine ⟨(by show 6 ≤ sizeLine; decide), fun p hp => ?_⟩
  have s5 := s4.trans (same_new hp (.tup [.str "net", .ref pi, .ref pr, .ref pa, .ref po, .ref pc]))
  have g1 := same_new hpa (.tup va)
  have g2 := same_new hpo (.tup vo)
  have g3 := same_new hpc (.tup vc)
  have g4 := same_new hp (.tup [.str "net", .ref pi, .ref pr, .ref pa, .ref po, .ref pc])
  have hN : NetAt _ p pi pr pa po pc vr va vo vc ⟨is, rs, an, os, cs⟩ := ⟨upd_same, s5 _ _ (ktS _ _ hP), g4 _ _ (g3 _ _ (g2 _ _ (g1 _ _ upd_same))), lr.keep' (.same s5), g4 _ _ (g3 _ _ (g2 _ _ upd_same)), la.keep' (.same s5), g4 _ _ (g3 _ _ upd_same), lo.keep' (.same s5), g4 _ _ upd_same, lc.keep' (.same s5)⟩
  have e1 : (Net.mk is rs an os cs).first = 1 + a + b := by
    show 1 + is.length + rs.length = _
    rw [hil, hrl]
  have e2 : (Net.mk is rs an os cs).size = 1 + a + b + m := by
    show (Net.mk is rs an os cs).first + an.length = _
    rw [e1, hal]
  refine q _ ⟨is, rs, an, os, cs⟩ _ _ hN.lay (openBy_of (order := order) (by show order.Perm (List.range rs.length); rw [hrl]; exact hop) ?_) (fun i p h => by rw [e1]; exact hab i p h) hil hrl hal hol hcl (hdS.same s5) (kS.trans (.of_same s5))
  show OpenTo (1 + is.length) (Net.mk is rs an os cs).first order (rs.map fun r => r.2.2) rs.length
  rw [hrg, e1, hil, hrl, List.take_of_length_le (by omega)]
  exact hto
  case nln =>
    rintro rfl
    obtain ⟨names, hn, _, hnn⟩ := hnS
    rw [eLN] at hn
    have := congrArg List.length (HO.lst.inj (Option.some.inj hn))
    rw [List.length_map, hnl, hnn] at this
    omega
end

end Bf

set_option Elab.async false
set_option linter.all false
set_option maxRecDepth 100000
set_option maxHeartbeats 4000000
namespace Bf
open PySem
/-! ### walks along the feeds -/
def LowAnds (N : Net) : Prop := ∀ (i : Nat) (p : Nat × Nat), N.ands[i]? = some p → p.1 < 2 * (N.first + i) ∧ p.2 < 2 * (N.first + i)
theorem rowOf_up {N : Net} (hN : LowAnds N) {k : Nat} (hk : k < N.ands.length) {c x : Int} (h : (c, x) ∈ rowOf N ((N.first + k : Nat) : Int)) : 0 ≤ c ∧ (c = 0 → x < ((N.first + k : Nat) : Int)) ∧ c ≤ (N.regs.length : Int) := by
  have e2 := rowOf_at (N := N) (y := ((N.first + k : Nat) : Int)) (by omega)
  rw [show (((N.first + k : Nat) : Int)).toNat - N.first = k by omega] at e2
  unfold srcs at e2
  rw [List.getElem?_map] at e2
  obtain ⟨p, hp, e⟩ := Option.map_eq_some_iff.mp e2
  rw [← e] at h
  have lo := hN k p hp
  have key : ∀ l : Nat, l < 2 * (N.first + k) → (c, x) = src N l → 0 ≤ c ∧ (c = 0 → x < ((N.first + k : Nat) : Int)) ∧ c ≤ (N.regs.length : Int) := fun l hl el => by
    unfold src at el
    have e1 : c = ((trace N l).1.length : Int) := congrArg Prod.fst el
    have e2 : x = (((trace N l).2 / 2 : Nat) : Int) := congrArg Prod.snd el
    have hlen : (trace N l).1.length ≤ N.regs.length := runT_len _
    refine ⟨by omega, fun h0 => ?_, by omega⟩
    have := trace_plain (N := N) (l := l) (by omega)
    rw [this] at e2
    omega
  rcases List.mem_cons.mp h with h | h
  · exact key _ lo.1 h
  · exact key _ lo.2 (List.mem_singleton.mp h)
structure WalkOk (ands counts : List Int) : Prop where
  ne : 0 < ands.length
  len : ands.length = counts.length
  cnt : ∀ c ∈ counts, 0 ≤ c
  top : ∀ c ∈ counts, c ≤ 60
  up : ∀ (k : Nat) (x y : Int), ands[k]? = some x → ands[k + 1]? = some y → counts[k + 1]? = some 0 → x < y
theorem WalkOk.one {x c : Int} (h : 0 ≤ c) (h' : c ≤ 60) : WalkOk [x] [c] := ⟨by simp, rfl, fun d hd => by rw [List.mem_singleton.mp hd]; exact h, fun d hd => by rw [List.mem_singleton.mp hd]; exact h', fun k x y _ h => by simp at h⟩
theorem WalkOk.step {ands counts : List Int} {x y c : Int} (h : WalkOk ands counts) (hl : ands[ands.length - 1]? = some x) (h0 : 0 ≤ c) (h6 : c ≤ 60) (hu : c = 0 → x < y) : WalkOk (ands ++ [y]) (counts ++ [c]) := by
  have hn := h.ne
  have hl2 := h.len
  refine ⟨by simp, by rw [List.length_append, List.length_append, h.len]; rfl, fun d hd => ?_, fun d hd => ?_, fun k x' y' e1 e2 e3 => ?_⟩
  · rcases List.mem_append.mp hd with q | q
    · exact h.cnt d q
    · rw [List.mem_singleton.mp q]; exact h0
  · rcases List.mem_append.mp hd with q | q
    · exact h.top d q
    · rw [List.mem_singleton.mp q]; exact h6
  · by_cases hk : k + 1 < ands.length
    · rw [List.getElem?_append_left hk] at e2
      rw [List.getElem?_append_left (by omega)] at e1 e3
      exact h.up k x' y' e1 e2 e3
    · have hb := (List.getElem?_eq_some_iff.mp e2).1
      rw [List.length_append, List.length_singleton] at hb
      have ek : k + 1 = ands.length := by omega
      rw [List.getElem?_append_left (by omega), show k = ands.length - 1 by omega, hl] at e1
      rw [ek, List.getElem?_append_right (Nat.le_refl _), Nat.sub_self] at e2
      rw [ek, List.getElem?_append_right (by omega), hl2, Nat.sub_self] at e3
      cases e1
      cases e2
      exact hu (Option.some.inj e3)
theorem sum_pos : ∀ xs : List Int, (∀ c ∈ xs, 0 ≤ c) → 0 ≤ xs.sum
  | [], _ => by simp
  | x :: r, h => by
    rw [List.sum_cons]
    have := h x (by simp)
    have := sum_pos r fun c hc => h c (by simp [hc])
    omega
theorem sum_top : ∀ xs : List Int, (∀ c ∈ xs, c ≤ 60) → xs.sum ≤ 60 * (xs.length : Int)
  | [], _ => by simp
  | x :: r, h => by
    rw [List.sum_cons, List.length_cons]
    have := h x (by simp)
    have := sum_top r fun c hc => h c (by simp [hc])
    omega
theorem sum_zero : ∀ xs : List Int, (∀ c ∈ xs, 0 ≤ c) → xs.sum ≤ 0 → ∀ c ∈ xs, c = 0
  | [], _, _, c, hc => by cases hc
  | x :: r, h, hs, c, hc => by
    rw [List.sum_cons] at hs
    have h1 := h x (by simp)
    have hr := fun c hc => h c (List.mem_cons_of_mem x hc)
    have h2 := sum_pos r hr
    rcases List.mem_cons.mp hc with q | q
    · omega
    · exact sum_zero r hr (by omega) c q
theorem WalkOk.asc {ands counts : List Int} (h : WalkOk ands counts) : ∀ (n i : Nat) (x y : Int), ands[i]? = some x → ands[i + n + 1]? = some y → (∀ k, i ≤ k → k ≤ i + n → counts[k + 1]? = some 0) → x < y
  | 0, i, x, y, e1, e2, hz => h.up i x y e1 e2 (hz i (Nat.le_refl _) (Nat.le_refl _))
  | n + 1, i, x, y, e1, e2, hz => by
    have hb := (List.getElem?_eq_some_iff.mp e2).1
    have e3 : ands[i + n + 1]? = some ands[i + n + 1] := List.getElem?_eq_getElem (by omega)
    have a := h.asc n i x _ e1 e3 fun k h1 h2 => hz k h1 (by omega)
    have b := h.up (i + n + 1) _ y e3 e2 (hz _ (by omega) (by omega))
    omega
/-- a ring has a register -/
theorem WalkOk.ring {ands counts : List Int} (h : WalkOk ands counts) {i n : Nat} {x : Int} (e1 : ands[i]? = some x) (e2 : ands[i + n + 1]? = some x) : 1 ≤ ((counts.drop (i + 1)).take (n + 1)).sum := by
  have hl := h.len
  have hb := (List.getElem?_eq_some_iff.mp e2).1
  have hc : ∀ c ∈ (counts.drop (i + 1)).take (n + 1), 0 ≤ c := fun c hc => h.cnt c (List.mem_of_mem_drop (List.mem_of_mem_take hc))
  have hp := sum_pos _ hc
  by_cases hz : ((counts.drop (i + 1)).take (n + 1)).sum ≤ 0
  · have z := sum_zero _ hc hz
    have := h.asc n i x x e1 e2 fun k h1 h2 => by
      have ek : counts[k + 1]? = some counts[k + 1] := List.getElem?_eq_getElem (by omega)
      have hm : counts[k + 1] ∈ (counts.drop (i + 1)).take (n + 1) := List.mem_of_getElem? (i := k - i) (by
        rw [List.getElem?_take_of_lt (by omega), List.getElem?_drop, show i + 1 + (k - i) = k + 1 by omega, ek])
      rw [ek, z _ hm]
    omega
  · omega
theorem sum_rep (xs : List Int) : ∀ n : Nat, 1 ≤ n → 1 ≤ xs.sum → 1 ≤ (List.replicate n xs).flatten.sum
  | 0, h, _ => by omega
  | 1, _, h => by simpa using h
  | n + 2, _, h => by
    rw [List.replicate_succ, List.flatten_cons, List.sum_append]
    have := sum_rep xs (n + 1) (by omega) h
    omega
/-- a bar that the law builds -/
def BarG (b : Str × List Int × List Int) : Prop := (b.1 = "way" ∨ b.1 = "ring") ∧ 1 ≤ b.2.1.length ∧ b.2.1.length ≤ 40 ∧ b.2.2.length = b.2.1.length ∧ 1 ≤ b.2.2.sum + (if b.1 = "way" then 1 else 0) ∧ b.2.2.sum ≤ 2400
end Bf

set_option Elab.async false
set_option linter.all false
set_option maxRecDepth 100000
set_option maxHeartbeats 4000000
namespace PySem
open Sem (wp)
section
variable {prog : Program} {w : World} {A : Around} {E : Value → Shared → Prop} {s : Shared}
/-- min(a, b), the items compared where H stands -/
theorem call_min_twoH {a b : Value} {Q : Value → Shared → Prop}
    (h : wpAny (model prog w) A.in1 (pyIter (.ref s.heap.objs.size)) (fun it s₂ => ∃ I fp wr G n P St H bt, it = .ref I ∧ WalksS prog w A.in1 I fp wr G n P St ∧ St 0 s₂ ∧ (∀ b ∈ fp, b < s₂.heap.objs.size) ∧ 0 < n ∧
      (∀ b o, H.get? b = some o → b ∉ wr) ∧ (∀ b o, H.get? b = some o → s₂.heap.get? b = some o) ∧ CmpIn prog w A.in1 .Lt H P bt ∧ ∀ v s', P (argBest bt (n - 1)) v → Moved wr G s₂ s' → Q v s') E
      { s with heap := s.heap.push { cls := .type "tuple", data := .seq #[a, b] } }) :
    wpAny (model prog w) A (call (.builtin "min") [a, b]) Q E s := by
  have hname : (toString "min" ++ toString ".loop" : String) = "min.loop" := by decide
  refine call_function_tree F.kind_min F.plain_min F.entry_min (F.args_min2 _ _) ?_
  show wpAny _ A.in1 (Builtin.Builtins.bindParams "min" ["key", "default"] 0 ⟨[], []⟩ >>= _) _ _ s
  refine wpAny_bind (wpAny_of_eq (show Builtin.Builtins.bindParams "min" ["key", "default"] 0 ⟨[], []⟩ = pure [none, none] from rfl) ?_)
  show wpAny _ A.in1 (newTuple [a, b] >>= _) _ _ s
  refine wpAny_bind (wpAny_newObj_type ?_)
  refine wpAny_bind (wpAny_mono h (fun it s₂ h₂ => ?_) fun _ _ e => e)
  obtain ⟨I, fp, wr, G, n, P, St, H, bt, rfl, W, hst, hfp, hn, hw, hkeep, hcmp, hQ⟩ := h₂
  refine wpAny_bind (wpAny_newObj_type ?_)
  have hSf : s₂.heap.objs.size ∉ fp := fun hm => Nat.lt_irrefl _ (hfp _ hm)
  rw [hname]
  refine wpAny_pure ⟨plainId_quiet F.plain_min_loop _, codeAny_min_loop_firstH W H hw bt hcmp s₂.heap.objs.size hSf (fresh_in hkeep) _ hn (fun b o e => Heap.get?_push_of_some _ (hkeep b o e)) (W.frame 0 s₂ _ s₂.toks hst (Nat.le_refl _) fun b _ o e => Heap.get?_push_of_some _ e) (Heap.get?_push_size _ rfl) fun v s' hP hm => ?_⟩
  exact hQ v s' hP (Moved.drop_new (tk := s₂.toks) hm (Nat.le_refl _))
end
end PySem
namespace Bf
open PySem PySem.Spec PyProof.Rows L2 PySem.W
/-- min(x, y) of two alike data: one of them -/
def rMin2D (K : PySem.W.Frag) : List V → Hp → VK → Prop := fun vs H Q => ∃ (x y : V) (dx dy : PyData), vs = [x, y] ∧ Dp K H x dx ∧ Dp K H y dy ∧ AlikeAll [dx, dy] ∧ PyData.depthAll [dx, dy] ≤ 32 ∧ Q x H ∧ Q y H
section
variable {X : Cx}
theorem cr_min2D (hc : X.calm = true) (hu : X.A.units + 64 < cLine) : CallR X (.builtin "min") (rMin2D X.K) := by
  intro pins s σ H vs us Q I r h
  obtain ⟨x, y, dx, dy, rfl, lx, ly, al, dep, q1, q2⟩ := h
  obtain ⟨as, hr⟩ := Dp.readsAll I [dx, dy] _ _ (.cons lx (.cons ly .nil)) r
  obtain ⟨u, w', rfl, r1, r2⟩ := vals2 r
  have hT : (s.heap.push { cls := .type "tuple", data := .seq #[u, w'] }).IsTuple s.heap.objs.size #[u, w'] := ⟨_, Heap.get?_push_size _ rfl, rfl, 0, rfl⟩
  have hk0 : ∀ b o, s.heap.get? b = some o → (s.heap.push { cls := .type "tuple", data := .seq #[u, w'] }).get? b = some o := fun b o e => Heap.get?_push_of_some _ e
  have hr2 : ReadsAll (s.heap.push { cls := .type "tuple", data := .seq #[u, w'] }) (#[u, w'] : Array Value).toList [dx, dy] as := PyProof.Rows.ReadsAll.keeps hk0 hr
  refine call_min_twoH (iter_tupleW (A := X.A.in1) (s := { s with heap := s.heap.push { cls := .type "tuple", data := .seq #[u, w'] } }) (I.ok.hd hc) hT fun s₂ e W st hfp hw hk => ?_)
  refine ⟨_, _, _, _, _, _, _, s.heap.push { cls := .type "tuple", data := .seq #[u, w'] }, _, rfl, W, st, hfp, Nat.succ_pos 1, hw, hk, cmpIn_lt (A := X.A.in1) (s := { s with heap := s.heap.push { cls := .type "tuple", data := .seq #[u, w'] } }) hr2 al (by show X.A.units + 1 + _ < _; omega), fun v s' hP m => ?_⟩
  obtain ⟨h', tk, rfl, hk'⟩ := moved_old e rfl m
  have hold : ∀ b o, s.heap.get? b = some o → h'.get? b = some o := fun b o e => hk' b o (hk0 b o e)
  have I' : Inv X pins σ H { s with heap := h', toks := tk } := I.kept hold
  have hv : v = u ∨ v = w' := by
    have hm : v ∈ #[u, w'] := Array.mem_of_getElem? hP
    have : v ∈ [u, w'] := by simpa using hm
    rcases List.mem_cons.mp this with q | q
    · exact .inl q
    · exact .inr (List.mem_singleton.mp q)
  rcases hv with rfl | rfl
  · exact ⟨x, H, I', r1, q1⟩
  · exact ⟨y, H, I', r2, q2⟩
end
/-- of two pairs of ints -/
theorem alikeP (p q : Int × Int) : AlikeAll [.tuple [.int p.1, .int p.2], .tuple [.int q.1, .int q.2]] := by
  refine ⟨fun a ha b hb => ?_, fun a ha e => ?_⟩
  · have h : ∀ c ∈ [PyData.tuple [.int p.1, .int p.2], PyData.tuple [.int q.1, .int q.2]], ∃ i j, c = .tuple [.int i, .int j] := fun c hc => by
      rcases List.mem_cons.mp hc with h | h
      · exact ⟨_, _, h⟩
      · exact ⟨_, _, List.mem_singleton.mp h⟩
    obtain ⟨i, j, rfl⟩ := h a ha
    obtain ⟨k, l, rfl⟩ := h b hb
    simp [alike, alikeAll]
  · subst e
    rcases List.mem_cons.mp ha with h | h
    · cases h
    · cases List.mem_singleton.mp h
theorem depthP (p q : Int × Int) : PyData.depthAll [.tuple [.int p.1, .int p.2], .tuple [.int q.1, .int q.2]] ≤ 32 := by simp [PyData.depthAll, PyData.depth]
end Bf

set_option Elab.async false
set_option linter.all false
set_option maxRecDepth 100000
set_option maxHeartbeats 4000000
namespace Bf
open PySem PySem.Spec PyProof.Rows L2
/-! ### walks along the feeds -/
theorem FeedsAt.ne {H : Hp} {d c r : Addr} {rows : List (List (Int × Int))} {qs : List Addr} (h : FeedsAt H r rows qs) (hd : DS H d c) : r ≠ d ∧ d ∉ qs := by
  obtain ⟨at_, left, st, cells, e1, _, _⟩ := hd
  refine ⟨fun z => ?_, fun hm => ?_⟩
  · have := h.top
    rw [z, e1] at this
    have q := HO.lst.inj (Option.some.inj this)
    rcases qs with _ | ⟨a, _ | ⟨b, qs⟩⟩
    · cases q
    · cases q
    · exact V.noConfusion (List.cons.inj (List.cons.inj q).2).1
  · obtain ⟨j, hj⟩ := List.mem_iff_getElem?.mp hm
    have hl := (List.getElem?_eq_some_iff.mp hj).1
    have hl2 := h.len
    obtain ⟨q, vs, a, b, lay⟩ := h.row j rows[j] (List.getElem?_eq_getElem (by omega))
    rw [hj] at a
    cases a
    rw [e1] at b
    cases b
    generalize rows[j] = row at lay
    rcases row with _ | ⟨x, _ | ⟨y, row⟩⟩
    · cases lay
    · obtain ⟨v, us, e, _, l⟩ := lay.cons_inv
      cases e
      cases l
    · obtain ⟨v, us, e, _, l⟩ := lay.cons_inv
      cases e
      obtain ⟨v, us, e, l, _⟩ := l.cons_inv
      cases e
      cases l
theorem FeedsAt.keep {S : List Addr} {H H' : Hp} {r : Addr} {rows : List (List (Int × Int))} {qs : List Addr} (h : FeedsAt H r rows qs) (k : Keep S H H') (t : KeepT H H') (h1 : r ∉ S) (h2 : ∀ q ∈ qs, q ∉ S) : FeedsAt H' r rows qs :=
  ⟨k _ _ h1 h.top, h.len, fun j row e => let ⟨q, vs, a, b, c⟩ := h.row j row e; ⟨q, vs, a, k _ _ (h2 q (List.mem_of_getElem? a)) b, c.keep' t⟩⟩
theorem FeedsAt.keepD {H H' : Hp} {d c r : Addr} {rows : List (List (Int × Int))} {qs : List Addr} (h : FeedsAt H r rows qs) (k : Keep [d] H H') (hd : DS H d c) : FeedsAt H' r rows qs :=
  h.keep k (k.tup1 hd) (by simp [(h.ne hd).1]) fun q hq e => (h.ne hd).2 (by rw [← List.mem_singleton.mp e]; exact hq)
def spWalk : Sp := fun vs H Q _ => ∃ (d c r : Addr) (qs : List Addr) (N : Net) (c0 : Int) (a m : Nat), vs = [.ref d, .ref r, vI N.first, .int c0, vI a, vI m] ∧ DS H d c ∧ FeedsAt H r (srcs N) qs ∧ LowAnds N ∧ N.ands.length ≤ 60 ∧ N.regs.length ≤ 60 ∧ a < N.ands.length ∧ 0 ≤ c0 ∧ c0 ≤ 60 ∧ m ≤ 20 ∧
  ∀ (t A C : Addr) (ands counts : List Int) (H' : Hp), H' t = some (.tup [.ref A, .ref C]) → H' A = some (.lst (ands.map V.int)) → H' C = some (.lst (counts.map V.int)) → A ≠ d → C ≠ d → WalkOk ands counts → ands.length ≤ m + 1 → DS H' d c → Keep [d] H H' → Q (.ref t) H'
section
variable {P : Program} {w : World} {K : PySem.W.Frag} {mg : Str → Option Value} {base : Heap} {f : Addr} {fd : FuncData}
theorem ok_walk (F : Fun K "_law_walk" "_law_walk" s_law_walk f fd) (T : Txt mg) (D_law_next_ands : Dn P w K mg base "_law_next_ands" ["_law_feeds_here", "_law_first", "_law_at"] 1 spNextA) (D_law_pick : Dn P w K mg base "_law_pick" ["_law_d", "_law_row"] 2 (spPickA K)) : FnOk P w K mg base CX0 3 f fd ["_law_d", "_law_feeds_here", "_law_first", "_law_count", "_law_at", "_law_most"] spWalk := by
  refine F.ok sc_law_walk (fun vs H Q E h => ?_) (fun cdv A outer s H vs Q E hr h => ?_)
  · obtain ⟨d, c, r, qs, N, c0, a, m, rfl, _⟩ := h
    rfl
  obtain ⟨d, c, r, qs, N, c0, a, m, rfl, hd, hF, low, h60, r60, ha, hc0, hc6, hm, q⟩ := h
  refine ⟨_, (pss_cons (ps_par (i := 6) (j := 7) (by rfl) sc_law_walk.nd rfl rfl (by decide) rfl rfl (pa_cons (pe_lst (pa_cons (pe_op op_add (pv 2) (pv 4)) pa_nil)) (pa_cons (pe_lst (pa_cons (pv 3) pa_nil)) pa_nil)) (by rfl))
      (C8.pss_cut (ps_for PassesOwn.never rfl (pi_range1 rfl T.n_range (pa_cons (pv 5) pa_nil)) (pg_name (i := 8) sc_law_walk.nd rfl (Or.inl rfl)) (pss_cons (ps_set (i := 9) sc_law_walk.nd rfl (Or.inl rfl) (pe_dn D_law_next_ands (hr.mono (by omega)) (by rfl) (pa_cons (pv 1) (pa_cons (pv 2) (pa_cons (pv 4) pa_nil)))))
      (pss_cons (ps_if (pt_cmpR op_eq (pe_callB call_len_seq (by rfl) T.n_len (by decide +kernel) (pa_cons (pv 9) pa_nil)) pe_int (nomark _)) (pss_one ps_break) pss_nil)
      (pss_cons (ps_asg (pe_callB (cr_min2D rfl hr.units : CallR _ _ (rMin2D K)) (by rfl) T.n_min (by decide +kernel) (pa_cons (pe_dn D_law_pick (hr.mono (by omega)) (by rfl) (pa_cons (pv 0) (pa_cons (pv 9) pa_nil))) (pa_cons (pe_dn D_law_pick (hr.mono (by omega)) (by rfl) (pa_cons (pv 0) (pa_cons (pv 9) pa_nil))) pa_nil))) (pg_tup rfl (pgs_cons (pg_name (i := 3) sc_law_walk.nd rfl (Or.inl rfl)) (pgs_cons (pg_name (i := 4) sc_law_walk.nd rfl (Or.inl rfl)) pgs_nil))))
      (pss_cons (ps_expr (pe_bm PySem.F.plainAttrs_list PySem.F.slot_list_append PySem.F.type_list_append mt_append (pv 6) (pa_cons (pe_op op_add (pv 2) (pv 4)) pa_nil)))
      (pss_one (ps_expr (pe_bm PySem.F.plainAttrs_list PySem.F.slot_list_append PySem.F.type_list_append mt_append (pv 7) (pa_cons (pv 3) pa_nil)))))))))
      (pss_one (ps_ret (pe_tup (pa_cons (pv 6) (pa_cons (pv 7) pa_nil))))))), ?_⟩
  refine ⟨_, rfl, _, rfl, _, _, rfl, rfl, by show 1 ≤ sizeLine; decide, fun A hA => ⟨_, rfl, by show 1 ≤ sizeLine; decide, fun C hC => ⟨_, _, rfl, ?_⟩⟩⟩
  have ea : V.int ((N.first : Int) + (a : Int)) = V.int ((N.first + a : Nat) : Int) := congrArg V.int (by omega)
  have sA := same_new hA (.lst [V.int ((N.first : Int) + (a : Int))])
  have sC := same_new hC (.lst [V.int c0])
  have eA0 := sC _ _ (upd_same (H := H) (a := A) (o := .lst [V.int ((N.first : Int) + (a : Int))]))
  have eC0 := upd_same (H := upd H A (.lst [V.int ((N.first : Int) + (a : Int))])) (a := C) (o := .lst [V.int c0])
  have s0 := sA.trans sC
  have nCA : C ≠ A := (ne_of_none upd_same hC).symm
  obtain ⟨nAd, nAc⟩ := hd.new hA
  have hC0 : H C = none := sA.free hC
  obtain ⟨nCd, nCc⟩ := hd.new hC0
  have hd0 := hd.same s0
  have k0 : Keep [d] H _ := .of_same s0
  generalize upd (upd H A (.lst [V.int ((N.first : Int) + (a : Int))])) C (.lst [V.int c0]) = H0 at eA0 eC0 hd0 k0 ⊢
  clear sA sC s0
  rw [ea] at eA0
  refine ⟨fun σ' H' => ∃ (v3 v4 v8 v9 : Option V) (ands counts : List Int), σ' = [some (.ref d), some (.ref r), some (vI N.first), v3, v4, some (vI m), some (.ref A), some (.ref C), v8, v9] ∧ DS H' d c ∧ Keep [d] H H' ∧ H' A = some (.lst (ands.map V.int)) ∧ H' C = some (.lst (counts.map V.int)) ∧ WalkOk ands counts ∧ ands.length ≤ m + 1, ?_, ?_⟩
  rotate_left
  · rintro σ' H' ⟨v3, v4, v8, v9, ands, counts, rfl, hd1, k1, eA, eC, ok, hl⟩
    refine ⟨_, rfl, _, rfl, by show 2 ≤ sizeLine; decide, fun t ht => ?_⟩
    have st := same_new ht (.tup [.ref A, .ref C])
    exact q t A C ands counts _ upd_same (st _ _ eA) (st _ _ eC) nAd nCd ok hl (hd1.same st) (k1.trans (.of_same st))
  refine ⟨_, rfl, (m : Int), rfl, (i62 (by omega)).1, (i62 (by omega)).2, for_it walk_range (fun i σ' H' => ∃ (v8 v9 : Option V) (c1 : Int) (a1 : Nat) (ands counts : List Int), σ' = [some (.ref d), some (.ref r), some (vI N.first), some (.int c1), some (vI a1), some (vI m), some (.ref A), some (.ref C), v8, v9] ∧ DS H' d c ∧ Keep [d] H H' ∧ H' A = some (.lst (ands.map V.int)) ∧ H' C = some (.lst (counts.map V.int)) ∧ WalkOk ands counts ∧ ands.length ≤ i + 1 ∧ ands[ands.length - 1]? = some ((N.first + a1 : Nat) : Int) ∧ a1 < N.ands.length)
    ⟨_, _, c0, a, [((N.first + a : Nat) : Int)], [c0], rfl, hd0, k0, eA0, eC0, .one hc0 hc6, Nat.le_refl _, rfl, ha⟩ (fun _ _ _ _ _ => trivial) (fun i x σ' H2 H3 hi pp y => ?_) (fun σ' H2 pp => ?_)⟩
  rotate_left
  · obtain ⟨v8, v9, c1, a1, ands, counts, rfl, hd1, k1, eA, eC, ok, hl, _, _⟩ := pp
    exact ⟨_, _, _, _, ands, counts, rfl, hd1, k1, eA, eC, ok, by omega⟩
  obtain ⟨v8, v9, c1, a1, ands, counts, rfl, hd1, k1, eA, eC, ok, hl, hlast, ha1⟩ := pp
  obtain ⟨rfl, rfl⟩ := y
  have hi : i < m := by omega
  have hF1 := hF.keepD k1 hd
  refine ⟨_, rfl, _, rfl, _, rfl, r, qs, N, a1, rfl, hF1, h60, fun L vs rows H4 s4 hL eL lL hrl hok => ?_⟩
  have hd4 := hd1.same s4
  have eA4 := s4 _ _ eA
  have eC4 := s4 _ _ eC
  have k4 := k1.trans (.of_same s4)
  have nLd := (hd1.new hL).1
  have hvl : vs.length = rows.length := by simpa using lL.len
  refine ⟨_, rfl, L, _, rfl, .inl (SqL.of eL), rfl, _, rfl, ite2 (fun z => ?_) (fun z => ?_)⟩
  · exact ⟨_, _, _, _, ands, counts, rfl, hd4, k4, eA4, eC4, ok, by omega⟩
  have z : vs.length ≠ 0 := fun e => z (by rw [e]; rfl)
  refine ⟨_, rfl, _, rfl, d, c, L, vs, rfl, hd4, nLd, .inl (SqL.of eL), by omega, by omega, fun j1 y1 H5 hy1 hd5 k5 => ?_⟩
  have eL5 := k5 _ _ (by simp [nLd]) eL
  have lL5 := lL.keep' (k5.tup1 hd4)
  refine ⟨_, rfl, _, rfl, d, c, L, vs, rfl, hd5, nLd, .inl (SqL.of eL5), by omega, by omega, fun j2 y2 H6 hy2 hd6 k6 => ?_⟩
  have lL6 := lL5.keep' (k6.tup1 hd5)
  have eA6 := k6 _ _ (by simp [nAd]) (k5 _ _ (by simp [nAd]) eA4)
  have eC6 := k6 _ _ (by simp [nCd]) (k5 _ _ (by simp [nCd]) eC4)
  have k7 := (k4.trans k5).trans k6
  obtain ⟨d1, hd1', l1⟩ := lL6.get j1 hy1
  obtain ⟨r1, hr1, rfl⟩ := mapAtD hd1'
  obtain ⟨d2, hd2', l2⟩ := lL6.get j2 hy2
  obtain ⟨r2, hr2, rfl⟩ := mapAtD hd2'
  have l1' := l1
  have l2' := l2
  refine ⟨y1, y2, _, _, rfl, l1'.dp', l2'.dp', alikeP r1 r2, depthP r1 r2, ?_, ?_⟩
  · obtain ⟨q8, rfl, e8⟩ := l1.p2
    obtain ⟨kk, ek, hkk, hrow⟩ := hok r1 (List.mem_of_getElem? hr1)
    obtain ⟨up0, up1, up2⟩ := rowOf_up low hkk hrow
    refine ⟨q8, _, rfl, SqT.of e8, rfl, _, _, rfl, _, _, rfl, rfl, ?_⟩
    rw [ek]
    have ex : V.int ((N.first : Int) + (kk : Int)) = V.int ((N.first + kk : Nat) : Int) := congrArg V.int (by omega)
    refine ⟨_, rfl, .inl ⟨rfl, _, SqL.of eA6⟩, _, rfl, _, rfl, _, _, rfl, rfl, A, _, _, rfl, rfl, eA6, len1000 (by rw [List.length_map]; omega), ?_⟩
    have eC7 : (upd H6 A (.lst (ands.map V.int ++ [V.int ((N.first : Int) + (kk : Int))]))) C = some (.lst (counts.map V.int)) := by rw [upd_ne nCA]; exact eC6
    refine ⟨_, rfl, .inl ⟨rfl, _, SqL.of eC7⟩, _, rfl, C, _, _, rfl, rfl, eC7, len1000 (by rw [List.length_map, ← ok.len]; omega), ?_⟩
    refine ⟨_, _, r1.1, kk, ands ++ [((N.first + kk : Nat) : Int)], counts ++ [r1.1], rfl, (hd6.keep (S := [A]) Keep.at1 (by simp [nAd.symm]) (by simp [nAc.symm])).keep (S := [C]) Keep.at1 (by simp [nCd.symm]) (by simp [nCc.symm]), ((k7.cat (Keep.at1 (a := A))).cat (Keep.at1 (a := C))).thin (by simp [hA, hC0]), ?_, ?_, ok.step hlast up0 (by omega) up1, by rw [List.length_append]; exact Nat.succ_le_succ hl, ?_, hkk⟩
    · rw [upd_ne nCA.symm, upd_same, List.map_append]
      show some (HO.lst (ands.map V.int ++ [V.int ((N.first : Int) + (kk : Int))])) = _
      rw [ex]
      rfl
    · rw [upd_same, List.map_append]
      rfl
    · rw [List.length_append, List.length_singleton, Nat.add_sub_cancel, List.getElem?_append_right (Nat.le_refl _), Nat.sub_self]
      rfl
  · obtain ⟨q8, rfl, e8⟩ := l2.p2
    obtain ⟨kk, ek, hkk, hrow⟩ := hok r2 (List.mem_of_getElem? hr2)
    obtain ⟨up0, up1, up2⟩ := rowOf_up low hkk hrow
    refine ⟨q8, _, rfl, SqT.of e8, rfl, _, _, rfl, _, _, rfl, rfl, ?_⟩
    rw [ek]
    have ex : V.int ((N.first : Int) + (kk : Int)) = V.int ((N.first + kk : Nat) : Int) := congrArg V.int (by omega)
    refine ⟨_, rfl, .inl ⟨rfl, _, SqL.of eA6⟩, _, rfl, _, rfl, _, _, rfl, rfl, A, _, _, rfl, rfl, eA6, len1000 (by rw [List.length_map]; omega), ?_⟩
    have eC7 : (upd H6 A (.lst (ands.map V.int ++ [V.int ((N.first : Int) + (kk : Int))]))) C = some (.lst (counts.map V.int)) := by rw [upd_ne nCA]; exact eC6
    refine ⟨_, rfl, .inl ⟨rfl, _, SqL.of eC7⟩, _, rfl, C, _, _, rfl, rfl, eC7, len1000 (by rw [List.length_map, ← ok.len]; omega), ?_⟩
    refine ⟨_, _, r2.1, kk, ands ++ [((N.first + kk : Nat) : Int)], counts ++ [r2.1], rfl, (hd6.keep (S := [A]) Keep.at1 (by simp [nAd.symm]) (by simp [nAc.symm])).keep (S := [C]) Keep.at1 (by simp [nCd.symm]) (by simp [nCc.symm]), ((k7.cat (Keep.at1 (a := A))).cat (Keep.at1 (a := C))).thin (by simp [hA, hC0]), ?_, ?_, ok.step hlast up0 (by omega) up1, by rw [List.length_append]; exact Nat.succ_le_succ hl, ?_, hkk⟩
    · rw [upd_ne nCA.symm, upd_same, List.map_append]
      show some (HO.lst (ands.map V.int ++ [V.int ((N.first : Int) + (kk : Int))])) = _
      rw [ex]
      rfl
    · rw [upd_same, List.map_append]
      rfl
    · rw [List.length_append, List.length_singleton, Nat.add_sub_cancel, List.getElem?_append_right (Nat.le_refl _), Nat.sub_self]
      rfl
end

end Bf

set_option Elab.async false
set_option linter.all false
set_option maxRecDepth 100000
set_option maxHeartbeats 4000000
namespace Bf
open PySem PySem.Spec PyProof.Rows L2
/-! ### ways and rings, as the law builds them -/
def spBarD : Sp := fun vs H Q _ => ∃ (d c r : Addr) (v : V) (qs : List Addr) (N : Net), vs = [.ref d, v, .ref r] ∧ DS H d c ∧ Lay H v (netD N) ∧ FeedsAt H r (srcs N) qs ∧ LowAnds N ∧ N.regs.length ≤ 60 ∧ N.ands.length ≤ 60 ∧ 1 ≤ N.ands.length ∧
  ∀ (x : V) (bar : Option (Str × List Int × List Int)) (H' : Hp), BarAt H' x bar → (∀ b, bar = some b → BarG b) → DS H' d c → Keep [d] H H' → Q x H'
theorem rowOf_len {N : Net} {k : Nat} {row : List (Int × Int)} (e : (srcs N)[k]? = some row) : row.length ≤ 2 ∧ row = rowOf N ((N.first + k : Nat) : Int) ∧ k < N.ands.length := by
  have hk := (List.getElem?_eq_some_iff.mp e).1
  have hsl : (srcs N).length = N.ands.length := by unfold srcs; rw [List.length_map]
  have e2 := rowOf_at (N := N) (y := ((N.first + k : Nat) : Int)) (by omega)
  rw [show (((N.first + k : Nat) : Int)).toNat - N.first = k by omega, e] at e2
  refine ⟨?_, Option.some.inj e2, by omega⟩
  unfold srcs at e
  rw [List.getElem?_map] at e
  obtain ⟨pp, _, e3⟩ := Option.map_eq_some_iff.mp e
  rw [← e3]
  exact Nat.le_refl _
section
variable {P : Program} {w : World} {K : PySem.W.Frag} {mg : Str → Option Value} {base : Heap} {f : Addr} {fd : FuncData}
theorem ok_way (F : Fun K "_law_way" "_law_way" s_law_way f fd) (T : Txt mg) (D_law_draw : Dn P w K mg base "_law_draw" ["_law_d", "_law_many"] 1 spDraw) (D_law_pick : Dn P w K mg base "_law_pick" ["_law_d", "_law_row"] 2 (spPickA K)) (D_law_walk : Dn P w K mg base "_law_walk" ["_law_d", "_law_feeds_here", "_law_first", "_law_count", "_law_at", "_law_most"] 3 spWalk) : FnOk P w K mg base CX0 4 f fd ["_law_d", "_law_net", "_law_feeds_here"] spBarD := by
  refine F.ok sc_law_way (fun vs H Q E h => ?_) (fun cdv A outer s H vs Q E hr h => ?_)
  · obtain ⟨d, c, r, v, qs, N, rfl, _⟩ := h
    rfl
  obtain ⟨d, c, r, v, qs, N, rfl, hd, lv, hF, low, r60, h60, h1, q⟩ := h
  refine ⟨_, (pss_cons (ps_set (i := 3) sc_law_way.nd rfl (Or.inr rfl) (pe_op op_add pe_int (pe_callB call_len_seq (by rfl) T.n_len (by decide +kernel) (pa_cons (pe_ix ix_tup (pv 1) pe_int (fun _ _ => rfl)) pa_nil))))
      (pss_cons (ps_set (i := 4) sc_law_way.nd rfl (Or.inl rfl) (pe_op op_add (pv 3) (pe_callB call_len_seq (by rfl) T.n_len (by decide +kernel) (pa_cons (pe_ix ix_tup (pv 1) pe_int (fun _ _ => rfl)) pa_nil))))
      (pss_cons (ps_set (i := 5) sc_law_way.nd rfl (Or.inl rfl) (pe_lst pa_nil))
      (C8.pss_cut (ps_for PassesOwn.never rfl (pi_range1 rfl T.n_range (pa_cons (pe_callB call_len_seq (by rfl) T.n_len (by decide +kernel) (pa_cons (pv 2) pa_nil)) pa_nil)) (pg_name (i := 6) sc_law_way.nd rfl (Or.inr rfl)) (pss_one (ps_set (i := 5) sc_law_way.nd rfl (Or.inl rfl) (pe_op op_cat (pv 5) (pe_lc (own := [("_law_count", 7), ("_law_node", 11)]) (g := (gTup K 2 (gCons (gName 7) (gCons (gName 11) gNil)))) rfl sc_law_way.nd (pi_list (pe_ix ix_list (pv 2) (pv 6) (fun _ _ => rfl))) (blkOk_by (N := ["_law_d", "_law_net", "_law_feeds_here", "_law_begin_here", "_law_first", "_law_row", "_law_k", "_law_count", "_law_at", "_law_ands", "_law_counts", "_law_node"]) (sc := defScope s_law_way) (by decide +kernel)) (fun _ _ _ _ _ => (pg_tup rfl (pgs_cons (pg_name (i := 7) sc_law_way.nd rfl (Or.inl rfl)) (pgs_cons (pg_name (i := 11) sc_law_way.nd rfl (Or.inl rfl)) pgs_nil)))) (fun _ _ _ _ _ => (pts_one (pt_cmpR op_lt (pv 11) (pv 3) (nomark _)))) (fun _ _ _ _ _ => (pe_tup (pa_cons (pv 7) (pa_cons (pv 6) pa_nil)))))))))
      (pss_cons (ps_if (pt_cmpR op_eq (pe_callB call_len_seq (by rfl) T.n_len (by decide +kernel) (pa_cons (pv 5) pa_nil)) pe_int (nomark _)) (pss_one (ps_ret pe_non)) pss_nil)
      (pss_cons (ps_asg (pe_callB (cr_min2D rfl hr.units : CallR _ _ (rMin2D K)) (by rfl) T.n_min (by decide +kernel) (pa_cons (pe_dn D_law_pick (hr.mono (by omega)) (by rfl) (pa_cons (pv 0) (pa_cons (pv 5) pa_nil))) (pa_cons (pe_dn D_law_pick (hr.mono (by omega)) (by rfl) (pa_cons (pv 0) (pa_cons (pv 5) pa_nil))) pa_nil))) (pg_tup rfl (pgs_cons (pg_name (i := 7) sc_law_way.nd rfl (Or.inl rfl)) (pgs_cons (pg_name (i := 8) sc_law_way.nd rfl (Or.inl rfl)) pgs_nil))))
      (pss_cons (ps_asg (pe_dn D_law_walk (hr.mono (by omega)) (by rfl) (pa_cons (pv 0) (pa_cons (pv 2) (pa_cons (pv 4) (pa_cons (pv 7) (pa_cons (pv 8) (pa_cons (pe_dn D_law_draw (hr.mono (by omega)) (by rfl) (pa_cons (pv 0) (pa_cons pe_int pa_nil))) pa_nil))))))) (pg_tup rfl (pgs_cons (pg_name (i := 9) sc_law_way.nd rfl (Or.inl rfl)) (pgs_cons (pg_name (i := 10) sc_law_way.nd rfl (Or.inl rfl)) pgs_nil))))
      (pss_one (ps_ret (pe_tup (pa_cons pe_str (pa_cons (pe_callTy call_tuple_of (by rfl) T.n_tuple (by decide +kernel) (pa_cons (pv 9) pa_nil)) (pa_cons (pe_callTy call_tuple_of (by rfl) T.n_tuple (by decide +kernel) (pa_cons (pv 10) pa_nil)) pa_nil))))))))))))), ?_⟩
  obtain ⟨p, pi, pr, pa, po, pc, vr, va, vo, vc, rfl, hN⟩ := lv.net
  have hl := hN.lens
  have hsl : (srcs N).length = N.ands.length := by unfold srcs; rw [List.length_map]
  have hql : qs.length = N.ands.length := by rw [hF.len, hsl]
  have hql2 : (qs.map V.ref).length = N.ands.length := by rw [List.length_map, hql]
  refine ⟨_, rfl, p, _, _, _, rfl, rfl, SqT.of hN.top, atI_nat (j := 1) rfl, pi, _, rfl, .inr (SqT.of hN.hi), _, _, rfl, rfl, ?_⟩
  refine ⟨_, rfl, _, rfl, p, _, _, _, rfl, rfl, SqT.of hN.top, atI_nat (j := 2) rfl, pr, _, rfl, .inr (SqT.of hN.hr), _, _, rfl, rfl, ?_⟩
  refine ⟨Nat.zero_le _, fun R hR => ?_⟩
  have eb1 : (1 : Int) + ((N.ins.map V.str).length : Nat) = 1 + (N.ins.length : Int) := by rw [List.length_map]
  have ef1 : (1 : Int) + ((N.ins.map V.str).length : Nat) + (vr.length : Nat) = (N.first : Int) := by rw [List.length_map, hl.1]; unfold Net.first; omega
  have sR := same_new hR (.lst [])
  refine ⟨fun σ' H' => ∃ (v6 : Option V) (R' : Addr) (vs : List V) (rows : List (Int × Int)), σ' = [some (.ref d), some (.ref p), some (.ref r), some (V.int (1 + ((N.ins.map V.str).length : Nat))), some (V.int (1 + ((N.ins.map V.str).length : Nat) + (vr.length : Nat))), some (.ref R'), v6, none, none, none, none, none] ∧ Same H H' ∧ H' R' = some (.lst vs) ∧ H R' = none ∧ LayAll H' vs (rows.map p2D) ∧ rows.length ≤ 120 ∧ ∀ rr ∈ rows, (0 ≤ rr.1 ∧ rr.1 ≤ 60) ∧ ∃ k : Nat, rr.2 = (k : Int) ∧ k < N.ands.length, ?_, ?_⟩
  · refine ⟨_, rfl, r, _, rfl, .inl (SqL.of (hF.same sR).top), _, rfl, by rw [List.length_map]; omega, by rw [List.length_map]; omega, ?_⟩
    refine for_it walk_range (fun i σ' H' => ∃ (v6 : Option V) (R' : Addr) (vs : List V) (rows : List (Int × Int)), σ' = [some (.ref d), some (.ref p), some (.ref r), some (V.int (1 + ((N.ins.map V.str).length : Nat))), some (V.int (1 + ((N.ins.map V.str).length : Nat) + (vr.length : Nat))), some (.ref R'), v6, none, none, none, none, none] ∧ Same H H' ∧ H' R' = some (.lst vs) ∧ H R' = none ∧ LayAll H' vs (rows.map p2D) ∧ rows.length ≤ 2 * i ∧ ∀ rr ∈ rows, (0 ≤ rr.1 ∧ rr.1 ≤ 60) ∧ ∃ k : Nat, rr.2 = (k : Int) ∧ k < N.ands.length)
      ⟨_, R, [], [], rfl, sR, upd_same, hR, .nil, Nat.le_refl _, fun rr h => by cases h⟩ (fun _ _ _ _ _ => trivial) (fun i x σ' H2 H3 hi pp y => ?_) (fun σ' H2 pp => ?_)
    rotate_left
    · obtain ⟨v6, R', vs, rows, rfl, sm, eR, hR', lR, hrl, hok⟩ := pp
      exact ⟨_, R', vs, rows, rfl, sm, eR, hR', lR, by omega, hok⟩
    obtain ⟨v6, R', vs, rows, rfl, sm, eR, hR', lR, hrl, hok⟩ := pp
    obtain ⟨rfl, rfl⟩ := y
    have hi' : i < N.ands.length := by omega
    have e : (srcs N)[i]? = some (srcs N)[i] := List.getElem?_eq_getElem (by omega)
    obtain ⟨q9, us9, eq9, e9, l9⟩ := (hF.same sm).row i _ e
    obtain ⟨hr2, hrow, _⟩ := rowOf_len e
    generalize (srcs N)[i] = row at e l9 hr2 hrow
    have hat : atI (qs.map V.ref) (0 + (i : Int)) = some (.ref q9) := by
      rw [Int.zero_add]
      exact atI_nat (by rw [List.getElem?_map, eq9]; rfl)
    have lus : us9.length = row.length := by simpa using l9.len
    refine ⟨_, rfl, _, rfl, _, rfl, r, _, _, .ref q9, rfl, rfl, SqL.of (hF.same sm).top, hat, q9, rfl, ⟨_, SqL.of e9⟩, fun D hD => ?_⟩
    have sD := same_new hD (.lst [])
    refine lc_it (walk_list (xs := us9)) (fun j H' => ∃ acc : List (Int × Int), Acc D p2D acc H' ∧ Same H3 H' ∧ acc.length ≤ j ∧ ∀ rr ∈ acc, (0 ≤ rr.1 ∧ rr.1 ≤ 60) ∧ rr.2 = (i : Int)) ⟨[], .nil, sD, Nat.le_refl _, fun rr h => by cases h⟩ (fun j H' _ pp => ?_) (fun j x H4 H5 hj pp y => ?_) (fun H4 pp => ?_)
    · obtain ⟨_, _, s, _⟩ := pp
      exact SqL.of (s _ _ e9)
    · obtain ⟨acc, hA, s4, hal, hac⟩ := pp
      obtain ⟨rfl, hx⟩ := y
      obtain ⟨dd, hd1, hd2⟩ := (l9.keep' (.same s4)).get j hx
      rw [List.getElem?_map] at hd1
      obtain ⟨rr, hrr, rfl⟩ := Option.map_eq_some_iff.mp hd1
      obtain ⟨q8, rfl, e8⟩ := hd2.p2
      have hmem := List.mem_of_getElem? hrr
      rw [hrow] at hmem
      have hup := rowOf_up low hi' hmem
      have hjl : j < row.length := by omega
      refine ⟨q8, _, rfl, SqT.of e8, rfl, _, _, rfl, _, _, rfl, rfl, rfl, ?_⟩
      refine ⟨_, rfl, _, rfl, _, _, rfl, rfl, _, rfl, ite2 (fun z => ?_) (fun z => ?_)⟩
      · refine ⟨_, rfl, _, rfl, by show 2 ≤ sizeLine; decide, fun t ht => ?_⟩
        have st := same_new ht (.tup [V.int rr.1, V.int (0 + (i : Int))])
        have lt : Lay (upd H5 t (.tup [V.int rr.1, V.int (0 + (i : Int))])) (.ref t) (p2D (rr.1, (i : Int))) := by
          refine .tup upd_same ?_
          rw [Int.zero_add]
          exact .cons (.int _) (.cons (.int _) .nil)
        obtain ⟨vs, eB, la, hBp, kp⟩ := (hA.same st).push lt (by omega)
        refine ⟨vs, eB, la, acc ++ [(rr.1, (i : Int))], hBp, same_two (s4.trans st) hD, by rw [List.length_append]; exact Nat.succ_le_succ hal, fun r' hr' => ?_⟩
        rcases List.mem_append.mp hr' with h | h
        · exact hac r' h
        · rw [List.mem_singleton.mp h]
          exact ⟨⟨hup.1, by have := hup.2.2; show rr.1 ≤ 60; omega⟩, rfl⟩
      · exact ⟨acc, hA, s4, by omega, hac⟩
    · obtain ⟨acc, ⟨us, eD, lD⟩, s4, hal, hac⟩ := pp
      have hvl : vs.length = rows.length := by simpa using lR.len
      have hul : us.length = acc.length := by simpa using lD.len
      refine ⟨R', D, vs, us, rfl, rfl, s4 _ _ eR, eD, le1000 (by omega), fun C hC => ?_⟩
      have sC := same_new hC (.lst (vs ++ us))
      refine ⟨_, C, vs ++ us, rows ++ acc, rfl, (sm.trans s4).trans sC, upd_same, (sm.trans s4).free hC, ?_, by rw [List.length_append]; omega, fun rr h => ?_⟩
      · rw [List.map_append]
        exact ((lR.keep' (.same s4)).app lD).keep' (.same sC)
      · rcases List.mem_append.mp h with h | h
        · exact hok rr h
        · exact ⟨(hac rr h).1, i, (hac rr h).2, hi'⟩
  rintro σ' H1 ⟨v6, R', vs, rows, rfl, s1, eR, hR', lR, hrl, hok⟩
  have hd1 := hd.same s1
  have nRd := (hd.new hR').1
  have hvl : vs.length = rows.length := by simpa using lR.len
  refine ⟨_, rfl, R', _, rfl, .inl (SqL.of eR), rfl, _, rfl, ite2 (fun z => ?_) (fun z => ?_)⟩
  · exact q .non none H1 rfl (fun b h => by cases h) hd1 (.of_same s1)
  have z : vs.length ≠ 0 := fun e => z (by rw [e]; rfl)
  refine ⟨_, rfl, _, rfl, d, c, R', vs, rfl, hd1, nRd, .inl (SqL.of eR), by omega, by omega, fun j1 y1 H5 hy1 hd5 k5 => ?_⟩
  have eL5 := k5 _ _ (by simp [nRd]) eR
  have lL5 := lR.keep' (k5.tup1 hd1)
  refine ⟨_, rfl, _, rfl, d, c, R', vs, rfl, hd5, nRd, .inl (SqL.of eL5), by omega, by omega, fun j2 y2 H6 hy2 hd6 k6 => ?_⟩
  have lL6 := lL5.keep' (k6.tup1 hd5)
  have k7 : Keep [d] H H6 := ((Keep.of_same s1).trans k5).trans k6
  obtain ⟨d1, hd1', l1⟩ := lL6.get j1 hy1
  obtain ⟨r1, hr1, rfl⟩ := mapAtD hd1'
  obtain ⟨d2, hd2', l2⟩ := lL6.get j2 hy2
  obtain ⟨r2, hr2, rfl⟩ := mapAtD hd2'
  refine ⟨y1, y2, _, _, rfl, l1.dp', l2.dp', alikeP r1 r2, depthP r1 r2, ?_, ?_⟩
  · obtain ⟨q8, rfl, e8⟩ := l1.p2
    obtain ⟨c0, kk, ek, hkk⟩ := hok r1 (List.mem_of_getElem? hr1)
    refine ⟨q8, _, rfl, SqT.of e8, rfl, _, _, rfl, _, _, rfl, rfl, ?_⟩
    rw [ek]
    have ef2 : V.int (1 + ((N.ins.map V.str).length : Nat) + (vr.length : Nat)) = vI N.first := congrArg V.int ef1
    refine ⟨_, rfl, _, rfl, _, rfl, _, rfl, _, rfl, _, rfl, d, c, 15, rfl, hd6, by decide, by decide, fun m0 H7 m1 m2 hd7 k8 => ?_⟩
    obtain ⟨m, rfl⟩ := Int.eq_ofNat_of_zero_le m1
    refine ⟨d, c, r, qs, N, r1.1, kk, m, (show [V.ref d, V.ref r, V.int (1 + ((N.ins.map V.str).length : Nat) + (vr.length : Nat)), V.int r1.1, V.int (kk : Int), V.int (m : Int)] = _ by rw [ef2]; rfl), hd7, hF.keepD (k7.trans k8) hd, low, h60, r60, hkk, c0.1, c0.2, by omega, fun t A C ands counts H8 et eA eC nA nC ok hal hd8 k9 => ?_⟩
    refine ⟨t, _, rfl, SqT.of et, rfl, _, _, rfl, _, _, rfl, rfl, ?_⟩
    refine ⟨_, rfl, A, _, rfl, .inl ⟨SqL.of eA, fun tA htA => ?_⟩⟩
    have sA := same_new htA (.tup (ands.map V.int))
    refine ⟨_, rfl, C, _, rfl, .inl ⟨SqL.of (sA _ _ eC), fun tC htC => ?_⟩⟩
    have sC := same_new htC (.tup (counts.map V.int))
    refine ⟨by show 3 ≤ sizeLine; decide, fun tt htt => ?_⟩
    have st := same_new htt (.tup [.str "way", .ref tA, .ref tC])
    have hb := ok.ne
    have hb2 := ok.len
    refine q (.ref tt) (some ("way", ands, counts)) _ (.tup upd_same (.cons (.str _) (.cons (.tup (st _ _ (sC _ _ upd_same)) (zs_lay _)) (.cons (.tup (st _ _ upd_same) (zs_lay _)) .nil)))) (fun b h => ?_) (((hd8.same sA).same sC).same st) (((k7.trans k8).trans k9).trans (.of_same ((sA.trans sC).trans st)))
    cases h
    refine ⟨.inl rfl, hb, by show ands.length ≤ 40; omega, hb2.symm, ?_⟩
    have := sum_pos counts ok.cnt
    have := sum_top counts ok.top
    refine ⟨?_, ?_⟩
    · show 1 ≤ counts.sum + 1
      omega
    · show counts.sum ≤ 2400
      omega
  · obtain ⟨q8, rfl, e8⟩ := l2.p2
    obtain ⟨c0, kk, ek, hkk⟩ := hok r2 (List.mem_of_getElem? hr2)
    refine ⟨q8, _, rfl, SqT.of e8, rfl, _, _, rfl, _, _, rfl, rfl, ?_⟩
    rw [ek]
    have ef2 : V.int (1 + ((N.ins.map V.str).length : Nat) + (vr.length : Nat)) = vI N.first := congrArg V.int ef1
    refine ⟨_, rfl, _, rfl, _, rfl, _, rfl, _, rfl, _, rfl, d, c, 15, rfl, hd6, by decide, by decide, fun m0 H7 m1 m2 hd7 k8 => ?_⟩
    obtain ⟨m, rfl⟩ := Int.eq_ofNat_of_zero_le m1
    refine ⟨d, c, r, qs, N, r2.1, kk, m, (show [V.ref d, V.ref r, V.int (1 + ((N.ins.map V.str).length : Nat) + (vr.length : Nat)), V.int r2.1, V.int (kk : Int), V.int (m : Int)] = _ by rw [ef2]; rfl), hd7, hF.keepD (k7.trans k8) hd, low, h60, r60, hkk, c0.1, c0.2, by omega, fun t A C ands counts H8 et eA eC nA nC ok hal hd8 k9 => ?_⟩
    refine ⟨t, _, rfl, SqT.of et, rfl, _, _, rfl, _, _, rfl, rfl, ?_⟩
    refine ⟨_, rfl, A, _, rfl, .inl ⟨SqL.of eA, fun tA htA => ?_⟩⟩
    have sA := same_new htA (.tup (ands.map V.int))
    refine ⟨_, rfl, C, _, rfl, .inl ⟨SqL.of (sA _ _ eC), fun tC htC => ?_⟩⟩
    have sC := same_new htC (.tup (counts.map V.int))
    refine ⟨by show 3 ≤ sizeLine; decide, fun tt htt => ?_⟩
    have st := same_new htt (.tup [.str "way", .ref tA, .ref tC])
    have hb := ok.ne
    have hb2 := ok.len
    refine q (.ref tt) (some ("way", ands, counts)) _ (.tup upd_same (.cons (.str _) (.cons (.tup (st _ _ (sC _ _ upd_same)) (zs_lay _)) (.cons (.tup (st _ _ upd_same) (zs_lay _)) .nil)))) (fun b h => ?_) (((hd8.same sA).same sC).same st) (((k7.trans k8).trans k9).trans (.of_same ((sA.trans sC).trans st)))
    cases h
    refine ⟨.inl rfl, hb, by show ands.length ≤ 40; omega, hb2.symm, ?_⟩
    have := sum_pos counts ok.cnt
    have := sum_top counts ok.top
    refine ⟨?_, ?_⟩
    · show 1 ≤ counts.sum + 1
      omega
    · show counts.sum ≤ 2400
      omega
end

end Bf

set_option Elab.async false
set_option linter.all false
set_option maxRecDepth 100000
set_option maxHeartbeats 4000000
namespace Bf
open PySem PySem.Spec PyProof.Rows L2
theorem cutV_mid (xs : List V) (a b : Nat) (ha : a ≤ xs.length) (hb : b ≤ xs.length) : cutV xs (some (a : Int)) (some (b : Int)) = (xs.drop a).take (b - a) := by
  unfold cutV
  rw [HT.sIx_nat, HT.sIx_nat, Nat.min_eq_left ha, Nat.min_eq_left hb]
theorem rep_len (xs : List Int) : ∀ n : Nat, (List.replicate n xs).flatten.length = n * xs.length
  | 0 => by simp
  | n + 1 => by rw [List.replicate_succ, List.flatten_cons, List.length_append, rep_len xs n, Nat.succ_mul, Nat.add_comm]
theorem rep_map (xs : List Int) : ∀ n : Nat, (List.replicate n (xs.map V.int)).flatten = ((List.replicate n xs).flatten).map V.int
  | 0 => rfl
  | n + 1 => by rw [List.replicate_succ, List.flatten_cons, rep_map xs n, List.replicate_succ, List.flatten_cons, List.map_append]
theorem first_at (a : Int) : ∀ xs : List Int, a ∈ xs → ∃ j : Nat, xs[j]? = some a ∧ ∀ (m : Nat) (z : Int), m < j → xs[m]? = some z → z ≠ a
  | [], h => by cases h
  | x :: r, h => by
    by_cases e : x = a
    · exact ⟨0, by rw [e]; rfl, fun m z hm => absurd hm (Nat.not_lt_zero _)⟩
    · have hr : a ∈ r := by
        rcases List.mem_cons.mp h with q | q
        · exact absurd q.symm e
        · exact q
      obtain ⟨j, h1, h2⟩ := first_at a r hr
      refine ⟨j + 1, h1, fun m z hm hz => ?_⟩
      cases m with
      | zero => cases hz; exact e
      | succ m => exact h2 m z (by omega) hz
section
variable {P : Program} {w : World} {K : PySem.W.Frag} {mg : Str → Option Value} {base : Heap} {f : Addr} {fd : FuncData}
theorem ok_ring (F : Fun K "_law_ring" "_law_ring" s_law_ring f fd) (T : Txt mg) (D_law_walk : Dn P w K mg base "_law_walk" ["_law_d", "_law_feeds_here", "_law_first", "_law_count", "_law_at", "_law_most"] 3 spWalk) (D_law_draw : Dn P w K mg base "_law_draw" ["_law_d", "_law_many"] 1 spDraw) : FnOk P w K mg base CX0 4 f fd ["_law_d", "_law_net", "_law_feeds_here"] spBarD := by
  refine F.ok sc_law_ring (fun vs H Q E h => ?_) (fun cdv A outer s H vs Q E hr h => ?_)
  · obtain ⟨d, c, r, v, qs, N, rfl, _⟩ := h
    rfl
  obtain ⟨d, c, r, v, qs, N, rfl, hd, lv, hF, low, r60, h60, h1, q⟩ := h
  refine ⟨_, (pss_cons (ps_set (i := 3) sc_law_ring.nd rfl (Or.inl rfl) (pe_op op_add (pe_op op_add pe_int (pe_callB call_len_seq (by rfl) T.n_len (by decide +kernel) (pa_cons (pe_ix ix_tup (pv 1) pe_int (fun _ _ => rfl)) pa_nil))) (pe_callB call_len_seq (by rfl) T.n_len (by decide +kernel) (pa_cons (pe_ix ix_tup (pv 1) pe_int (fun _ _ => rfl)) pa_nil))))
      (C8.pss_cut (ps_asg (pe_dn D_law_walk (hr.mono (by omega)) (by rfl) (pa_cons (pv 0) (pa_cons (pv 2) (pa_cons (pv 3) (pa_cons pe_int (pa_cons (pe_dn D_law_draw (hr.mono (by omega)) (by rfl) (pa_cons (pv 0) (pa_cons (pe_callB call_len_seq (by rfl) T.n_len (by decide +kernel) (pa_cons (pv 2) pa_nil)) pa_nil))) (pa_cons (pe_op op_add pe_int (pe_dn D_law_draw (hr.mono (by omega)) (by rfl) (pa_cons (pv 0) (pa_cons pe_int pa_nil)))) pa_nil))))))) (pg_tup rfl (pgs_cons (pg_name (i := 4) sc_law_ring.nd rfl (Or.inl rfl)) (pgs_cons (pg_name (i := 5) sc_law_ring.nd rfl (Or.inl rfl)) pgs_nil))))
      (pss_cons (ps_for PassesOwn.never rfl (pi_range2 rfl T.n_range (pa_cons pe_int (pa_cons (pe_callB call_len_seq (by rfl) T.n_len (by decide +kernel) (pa_cons (pv 4) pa_nil)) pa_nil))) (pg_name (i := 6) sc_law_ring.nd rfl (Or.inl rfl)) (pss_one (ps_if (pt_cmpR op_in_seq (pe_ix ix_list (pv 4) (pv 6) (fun _ _ => rfl)) (pe_slice sl_list (pv 4) po_none (po_some (pv 6))) (by rfl)) (pss_cons (ps_set (i := 7) sc_law_ring.nd rfl (Or.inl rfl) (pe_op op_add (pe_bm PySem.F.plainAttrs_list PySem.F.slot_list_index PySem.F.type_list_index mt_index (pv 4) (pa_cons (pe_ix ix_list (pv 4) (pv 6) (fun _ _ => rfl)) pa_nil)) pe_int))
      (pss_cons (ps_set (i := 8) sc_law_ring.nd rfl (Or.inl rfl) (pe_op op_add pe_int (pe_dn D_law_draw (hr.mono (by omega)) (by rfl) (pa_cons (pv 0) (pa_cons pe_int pa_nil)))))
      (pss_one (ps_ret (pe_tup (pa_cons pe_str (pa_cons (pe_callTy call_tuple_of (by rfl) T.n_tuple (by decide +kernel) (pa_cons (pe_op op_rep (pe_slice sl_list (pv 4) (po_some (pv 7)) (po_some (pe_op op_add (pv 6) pe_int))) (pv 8)) pa_nil)) (pa_cons (pe_callTy call_tuple_of (by rfl) T.n_tuple (by decide +kernel) (pa_cons (pe_op op_rep (pe_slice sl_list (pv 5) (po_some (pv 7)) (po_some (pe_op op_add (pv 6) pe_int))) (pv 8)) pa_nil)) pa_nil)))))))) pss_nil)))
      (pss_one (ps_ret pe_non))))), ?_⟩
  obtain ⟨p, pi, pr, pa, po, pc, vr, va, vo, vc, rfl, hN⟩ := lv.net
  have hl := hN.lens
  have hsl : (srcs N).length = N.ands.length := by unfold srcs; rw [List.length_map]
  have hql : qs.length = N.ands.length := by rw [hF.len, hsl]
  have hql2 : (qs.map V.ref).length = N.ands.length := by rw [List.length_map, hql]
  have ef1 : (1 : Int) + ((N.ins.map V.str).length : Nat) + (vr.length : Nat) = (N.first : Int) := by rw [List.length_map, hl.1]; unfold Net.first; omega
  have ef2 : V.int (1 + ((N.ins.map V.str).length : Nat) + (vr.length : Nat)) = vI N.first := congrArg V.int ef1
  refine ⟨_, rfl, p, _, _, _, rfl, rfl, SqT.of hN.top, atI_nat (j := 1) rfl, pi, _, rfl, .inr (SqT.of hN.hi), _, _, rfl, rfl, ?_⟩
  refine ⟨_, rfl, p, _, _, _, rfl, rfl, SqT.of hN.top, atI_nat (j := 2) rfl, pr, _, rfl, .inr (SqT.of hN.hr), _, _, rfl, rfl, ?_⟩
  refine ⟨fun σ' H' => ∃ (A C : Addr) (ands counts : List Int), σ' = [some (.ref d), some (.ref p), some (.ref r), some (vI N.first), some (.ref A), some (.ref C), none, none, none] ∧ DS H' d c ∧ Keep [d] H H' ∧ H' A = some (.lst (ands.map V.int)) ∧ H' C = some (.lst (counts.map V.int)) ∧ A ≠ d ∧ C ≠ d ∧ WalkOk ands counts ∧ ands.length ≤ 16, ?_, ?_⟩
  · refine ⟨_, rfl, _, rfl, _, rfl, _, rfl, _, rfl, r, _, rfl, .inl (SqL.of hF.top), d, c, _, rfl, hd, by omega, by omega, fun a0 H1 a1 a2 hd1 k1 => ?_⟩
    obtain ⟨a, rfl⟩ := Int.eq_ofNat_of_zero_le a1
    refine ⟨_, rfl, d, c, _, rfl, hd1, by decide, by decide, fun m0 H2 m1 m2 hd2 k2 => ?_⟩
    obtain ⟨m, rfl⟩ := Int.eq_ofNat_of_zero_le m1
    refine ⟨_, _, rfl, rfl, ?_⟩
    have em : V.int (2 + (m : Int)) = vI (2 + m) := congrArg V.int (by omega)
    refine ⟨d, c, r, qs, N, 0, a, 2 + m, (show [V.ref d, V.ref r, V.int (1 + ((N.ins.map V.str).length : Nat) + (vr.length : Nat)), V.int 0, V.int (a : Int), V.int (2 + (m : Int))] = _ by rw [ef2, em]; rfl), hd2, hF.keepD (k1.trans k2) hd, low, h60, r60, by omega, Int.le_refl _, by decide, by omega, fun t A C ands counts H8 et eA eC nA nC ok hal hd8 k9 => ?_⟩
    refine ⟨t, _, rfl, SqT.of et, rfl, _, _, rfl, _, _, rfl, rfl, ?_⟩
    refine ⟨A, C, ands, counts, ?_, hd8, (k1.trans k2).trans k9, eA, eC, nA, nC, ok, by omega⟩
    rw [← ef2]
    rfl
  rintro σ' H0 ⟨A, C, ands, counts, rfl, hd0, k0, eA, eC, nA, nC, ok, hal⟩
  have hne := ok.ne
  have hlen := ok.len
  refine ⟨_, rfl, A, _, rfl, .inl (SqL.of eA), 1, _, rfl, ⟨by decide, by decide, by rw [List.length_map]; omega, by rw [List.length_map]; omega⟩, ?_⟩
  rw [show (((ands.map V.int).length : Nat) - (1 : Int)).toNat = ands.length - 1 by rw [List.length_map]; omega]
  refine for_it walk_range (fun i σ' H' => ∃ (v6 : Option V), σ' = [some (.ref d), some (.ref p), some (.ref r), some (vI N.first), some (.ref A), some (.ref C), v6, none, none] ∧ Same H0 H') ⟨_, rfl, .refl _⟩ (fun _ _ _ _ _ => trivial) (fun i x σ' H2 H3 hi pp y => ?_) (fun σ' H2 pp => ?_)
  rotate_left
  · obtain ⟨v6, rfl, s2⟩ := pp
    exact q .non none H2 rfl (fun b h => by cases h) (hd0.same s2) (k0.trans (.of_same s2))
  obtain ⟨v6, rfl, s2⟩ := pp
  obtain ⟨rfl, rfl⟩ := y
  have eA2 := s2 _ _ eA
  have eC2 := s2 _ _ eC
  have hd2 := hd0.same s2
  have k2 := k0.trans (.of_same s2)
  obtain ⟨x, hx⟩ : ∃ x, ands[i + 1]? = some x := ⟨_, List.getElem?_eq_getElem (by omega)⟩
  have hat : atI (ands.map V.int) (1 + (i : Int)) = some (V.int x) := by
    rw [show (1 : Int) + (i : Int) = ((i + 1 : Nat) : Int) by omega]
    exact atI_nat (by rw [List.getElem?_map, hx]; rfl)
  refine ⟨_, rfl, _, rfl, A, _, _, _, rfl, rfl, SqL.of eA2, hat, _, rfl, ?_⟩
  delta tNoPart
  have ecut : cutV (ands.map V.int) none (some (1 + (i : Int))) = (ands.take (i + 1)).map V.int := by rw [show (1 : Int) + (i : Int) = ((i + 1 : Nat) : Int) by omega, cutV_to, List.map_take]
  refine ⟨_, rfl, _, rfl, A, _, rfl, SqL.of eA2, fun t ht => ?_⟩
  have st := same_new ht (.lst (cutV (ands.map V.int) none (some (1 + (i : Int)))))
  have et : upd H3 t (.lst (cutV (ands.map V.int) none (some (1 + (i : Int))))) t = some (.lst ((ands.take (i + 1)).map V.int)) := by rw [upd_same, ecut]
  have eA3 := st _ _ eA2
  have eC3 := st _ _ eC2
  have hd3 := hd2.same st
  have k3 := k2.trans (.of_same st)
  have s3 := s2.trans st
  generalize upd H3 t (.lst (cutV (ands.map V.int) none (some (1 + (i : Int))))) = H4 at et eA3 eC3 hd3 k3 s3 ⊢
  refine ⟨t, (ands.take (i + 1)).map V.int, rfl, .inl (SqL.of et), rfl, flat_zs _, _, rfl, ite2 (fun z => ?_) (fun z => ?_)⟩
  rotate_left
  · exact ⟨_, rfl, s3⟩
  have z : inV (.int x) ((ands.take (i + 1)).map V.int) = true := z
  rw [inV_z, decide_eq_true_iff] at z
  obtain ⟨j, hj, hno⟩ := first_at x _ z
  have hjl := (List.getElem?_eq_some_iff.mp hj).1
  rw [List.length_take] at hjl
  rw [List.getElem?_take_of_lt (by omega)] at hj
  have hno' : ∀ (m : Nat) (z' : V), m < j → (ands.map V.int)[m]? = some z' → eqV z' (.int x) = false := fun m z' hm e => by
    obtain ⟨u, hu, rfl⟩ := mapAt e
    have := hno m u hm (by rw [List.getElem?_take_of_lt (by omega)]; exact hu)
    exact beq_false_of_ne this
  refine ⟨_, rfl, .inl ⟨rfl, _, SqL.of eA3⟩, _, rfl, _, rfl, A, _, _, _, rfl, rfl, SqL.of eA3, hat, A, ands.map V.int, .int x, j, .int x, rfl, rfl, SqL.of eA3, rfl, flat_zs _, by rw [List.getElem?_map, hj]; rfl, beq_self_eq_true x, hno', _, _, rfl, rfl, ?_⟩
  refine ⟨_, rfl, d, c, 2, rfl, hd3, by decide, by decide, fun t0 H5 t1 t2 hd5 k5 => ⟨_, _, rfl, rfl, ?_⟩⟩
  obtain ⟨tn, rfl⟩ := Int.eq_ofNat_of_zero_le t1
  have eA5 := k5 _ _ (by simp [nA]) eA3
  have eC5 := k5 _ _ (by simp [nC]) eC3
  have k6 := k3.trans k5
  have ecA : ∀ xs : List Int, xs.length = ands.length → cutV (xs.map V.int) (some ((j : Int) + 1)) (some (1 + (i : Int) + 1)) = ((xs.drop (j + 1)).take (i - j + 1)).map V.int := fun xs hx => by
    rw [show (j : Int) + 1 = ((j + 1 : Nat) : Int) by omega, show (1 : Int) + (i : Int) + 1 = ((i + 2 : Nat) : Int) by omega, cutV_mid _ _ _ (by rw [List.length_map]; omega) (by rw [List.length_map]; omega), show i + 2 - (j + 1) = i - j + 1 by omega, List.map_take, List.map_drop]
  have lenX : ∀ xs : List Int, xs.length = ands.length → ((xs.drop (j + 1)).take (i - j + 1)).length = i - j + 1 := fun xs hx => by
    rw [List.length_take, List.length_drop]
    omega
  have lenV : ∀ xs : List Int, xs.length = ands.length → (cutV (xs.map V.int) (some ((j : Int) + 1)) (some (1 + (i : Int) + 1))).length * ((1 + (tn : Int))).toNat ≤ sizeLine := fun xs hx => by
    rw [ecA xs hx, List.length_map, lenX xs hx]
    exact Nat.le_trans (Nat.mul_le_mul (show i - j + 1 ≤ 16 by omega) (show ((1 + (tn : Int))).toNat ≤ 2 by omega)) (le1000 (by decide))
  have e63 : -(2 ^ 63) ≤ (1 + (tn : Int)) ∧ (1 + (tn : Int)) < 2 ^ 63 := ⟨by omega, by omega⟩
  have etn : ((1 + (tn : Int))).toNat = tn + 1 := by omega
  have eX : (List.replicate ((1 + (tn : Int))).toNat (cutV (ands.map V.int) (some ((j : Int) + 1)) (some (1 + (i : Int) + 1)))).flatten = ((List.replicate (tn + 1) ((ands.drop (j + 1)).take (i - j + 1))).flatten).map V.int := by rw [etn, ecA ands rfl, rep_map]
  have eY : (List.replicate ((1 + (tn : Int))).toNat (cutV (counts.map V.int) (some ((j : Int) + 1)) (some (1 + (i : Int) + 1)))).flatten = ((List.replicate (tn + 1) ((counts.drop (j + 1)).take (i - j + 1))).flatten).map V.int := by rw [etn, ecA counts hlen.symm, rep_map]
  refine ⟨_, rfl, _, rfl, _, rfl, _, rfl, _, _, rfl, rfl, _, rfl, A, _, rfl, SqL.of eA5, fun s1 hs1 => ⟨_, rfl, s1, _, _, rfl, rfl, upd_same, e63.1, e63.2, lenV ands rfl, fun r1 hr1 => ⟨r1, _, rfl, .inl ⟨SqL.of upd_same, fun u1 hu1 => ?_⟩⟩⟩⟩
  have q1 := ((same_new hs1 (.lst (cutV (ands.map V.int) (some ((j : Int) + 1)) (some (1 + (i : Int) + 1))))).trans (same_new hr1 (.lst (List.replicate ((1 + (tn : Int))).toNat (cutV (ands.map V.int) (some ((j : Int) + 1)) (some (1 + (i : Int) + 1)))).flatten))).trans (same_new hu1 (.tup (List.replicate ((1 + (tn : Int))).toNat (cutV (ands.map V.int) (some ((j : Int) + 1)) (some (1 + (i : Int) + 1)))).flatten))
  have eu1 := upd_same (H := upd (upd H5 s1 (.lst (cutV (ands.map V.int) (some ((j : Int) + 1)) (some (1 + (i : Int) + 1))))) r1 (.lst (List.replicate ((1 + (tn : Int))).toNat (cutV (ands.map V.int) (some ((j : Int) + 1)) (some (1 + (i : Int) + 1)))).flatten)) (a := u1) (o := .tup (List.replicate ((1 + (tn : Int))).toNat (cutV (ands.map V.int) (some ((j : Int) + 1)) (some (1 + (i : Int) + 1)))).flatten)
  refine ⟨_, rfl, _, rfl, _, rfl, _, rfl, _, _, rfl, rfl, _, rfl, C, _, rfl, SqL.of (q1 _ _ eC5), fun s2 hs2 => ⟨_, rfl, s2, _, _, rfl, rfl, upd_same, e63.1, e63.2, lenV counts hlen.symm, fun r2 hr2 => ⟨r2, _, rfl, .inl ⟨SqL.of upd_same, fun u2 hu2 => ⟨by show 3 ≤ sizeLine; decide, fun tt htt => ?_⟩⟩⟩⟩⟩
  have q2 := ((same_new hs2 (.lst (cutV (counts.map V.int) (some ((j : Int) + 1)) (some (1 + (i : Int) + 1))))).trans (same_new hr2 (.lst (List.replicate ((1 + (tn : Int))).toNat (cutV (counts.map V.int) (some ((j : Int) + 1)) (some (1 + (i : Int) + 1)))).flatten))).trans (same_new hu2 (.tup (List.replicate ((1 + (tn : Int))).toNat (cutV (counts.map V.int) (some ((j : Int) + 1)) (some (1 + (i : Int) + 1)))).flatten))
  have q3 := same_new htt (.tup [.str "ring", .ref u1, .ref u2])
  have eu1' := (q3 _ _ (q2 _ _ eu1)).trans (congrArg (fun l => some (HO.tup l)) eX)
  have eu2 := (q3 _ _ upd_same).trans (congrArg (fun l => some (HO.tup l)) eY)
  refine q (.ref tt) (some ("ring", (List.replicate (tn + 1) ((ands.drop (j + 1)).take (i - j + 1))).flatten, (List.replicate (tn + 1) ((counts.drop (j + 1)).take (i - j + 1))).flatten)) _ (.tup upd_same (.cons (.str _) (.cons (.tup eu1' (zs_lay _)) (.cons (.tup eu2 (zs_lay _)) .nil)))) (fun b h => ?_) (((hd5.same q1).same q2).same q3) (k6.trans (.of_same ((q1.trans q2).trans q3)))
  cases h
  have hlX := lenX ands rfl
  have hlY := lenX counts hlen.symm
  have hm : (tn + 1) * (i - j + 1) ≤ 2 * 16 := Nat.mul_le_mul (by omega) (by omega)
  have hm2 : 1 * 1 ≤ (tn + 1) * (i - j + 1) := Nat.mul_le_mul (by omega) (by omega)
  refine ⟨.inr rfl, ?_, ?_, ?_, ?_, ?_⟩
  · show 1 ≤ (List.replicate (tn + 1) ((ands.drop (j + 1)).take (i - j + 1))).flatten.length
    rw [rep_len, hlX]
    omega
  · show (List.replicate (tn + 1) ((ands.drop (j + 1)).take (i - j + 1))).flatten.length ≤ 40
    rw [rep_len, hlX]
    omega
  · show (List.replicate (tn + 1) ((counts.drop (j + 1)).take (i - j + 1))).flatten.length = (List.replicate (tn + 1) ((ands.drop (j + 1)).take (i - j + 1))).flatten.length
    rw [rep_len, rep_len, hlX, hlY]
  · have := sum_rep _ (tn + 1) (by omega) (ok.ring (n := i - j) hj (by rw [show j + (i - j) + 1 = i + 1 by omega]; exact hx))
    show 1 ≤ (List.replicate (tn + 1) ((counts.drop (j + 1)).take (i - j + 1))).flatten.sum + 0
    omega
  · have htop : ∀ c ∈ (List.replicate (tn + 1) ((counts.drop (j + 1)).take (i - j + 1))).flatten, c ≤ 60 := fun c hc => by
      obtain ⟨l, hl1, hl2⟩ := List.mem_flatten.mp hc
      rw [(List.mem_replicate.mp hl1).2] at hl2
      exact ok.top c (List.mem_of_mem_drop (List.mem_of_mem_take hl2))
    have := sum_top _ htop
    rw [rep_len, hlY] at this
    show (List.replicate (tn + 1) ((counts.drop (j + 1)).take (i - j + 1))).flatten.sum ≤ 2400
    omega
end

end Bf

set_option Elab.async false
set_option linter.all false
set_option maxRecDepth 100000
set_option maxHeartbeats 4000000
namespace RT
open PySem PySem.Spec PyProof.Rows
/-! ### tuple(reversed(tuple)) -/
theorem nolen_rt : typeLookup (.type "reversed") "__len__" = pure none := by rw [typeLookup_type, builtinLookup_eq_fast]; kernel_rfl
theorem slot_rt_hint : Slot "reversed" "__length_hint__" "reversed.__length_hint__" :=
  .of (owner := "reversed") (n := "__length_hint__") (by rw [typeLookup_type, builtinLookup_eq_fast]; kernel_rfl) (by decide +kernel) (by decide +kernel) (by decide +kernel)
    (by first | exact .inl (by decide +kernel) | exact .inr (by decide +kernel)) (by rw [isSubtype_type]; kernel_rfl)
theorem entry_rt_hint : entryFor table "reversed.__length_hint__" = some Builtin.«reversed.__length_hint__» := entryFor_of_tree (by kernel_rfl)
theorem args_rt_hint (a : Value) : argsOk "reversed.__length_hint__" ⟨[a], []⟩ := by
  unfold argsOk; rw [signature?_of (id := "reversed.__length_hint__") (n := ['_', '_', 't', 'n', 'i', 'h', '_', 'h', 't', 'g', 'n', 'e', 'l', '_', '_']) (o := ['d', 'e', 's', 'r', 'e', 'v', 'e', 'r']) (by kernel_rfl) owner_rt]; kernel_rfl
section
variable {prog : Program} {w : World} {A : Around} {E : Value → Shared → Prop} {s : Shared}
theorem walks_rt (hh : A.handled = none) (I t : Addr) (hne : t ≠ I) (items : Array Value) (hsz : items.size ≤ sizeLine) :
    Walks prog w A I [I, t] [I] items.size (fun i v => items[items.size - 1 - i]? = some v) (fun i h => i ≤ items.size ∧ IsRt h I t ((items.size : Int) - 1 - (i : Int)) ∧ IsTup h t items) where
  sub := fun b hb => by simp at hb; simp [hb]
  frame := fun _ _ _ x hk => ⟨x.1, x.2.1.at fun o e => hk I (by simp) o e, let ⟨o, e, r⟩ := x.2.2; ⟨o, hk t (by simp) o e, r⟩⟩
  item := fun i s Q E hi x hQ => by
    have e : (items.size : Int) - 1 - (i : Int) = ((items.size - 1 - i : Nat) : Int) := by omega
    have hit := x.2.1
    rw [e] at hit
    have hx : items[items.size - 1 - i]? = some (items[items.size - 1 - i]'(by omega)) := Array.getElem?_eq_getElem (by omega)
    refine next_rt_item hit x.2.2 hx hsz fun h' hit' hs' => ?_
    have e2 : ((items.size - 1 - i : Nat) : Int) - 1 = (items.size : Int) - 1 - ((i + 1 : Nat) : Int) := by omega
    rw [e2] at hit'
    exact hQ _ h' _ hx ⟨hi, hit', let ⟨o, eo, r⟩ := x.2.2; ⟨o, (hs'.2 t hne).trans eo, r⟩⟩ fun b o hb eo => (hs'.2 b (fun h => hb (by simp [h]))).trans eo
  done := fun s Q E x hQ => by
    have e : (items.size : Int) - 1 - (items.size : Int) = -1 := by omega
    have hit := x.2.1
    rw [e] at hit
    exact next_rt_end hh hit fun h' he' => hQ h' s.toks fun b o hb eo => he' b o (fun h => hb (by simp [h])) eo
  self := fun _ _ _ _ x hQ => iter_rt x.2.1 hQ
theorem call_hint_rt {it t : Addr} {n : Nat} {i : Int} {Q : Value → Shared → Prop} (hit : IsRt s.heap it t i) (hi : i + 1 = (n : Int))
    (hlen : ∀ (A : Around) (E : Value → Shared → Prop) (Q : Value → Shared → Prop), Q (.int n (s.toks + 1)) { s with toks := s.toks + 1 + 1 } → wpAny (model prog w) A (call (.builtin "len") [.ref t]) Q E s)
    (h : ∀ k tk, s.toks ≤ tk → Q (.int n k) { s with toks := tk }) : wpAny (model prog w) A (call (.builtin "reversed.__length_hint__") [.ref it]) Q E s := by
  obtain ⟨o, ho, hc, hd⟩ := id hit
  refine wpAny_call_entry slot_rt_hint hit.typeIs entry_rt_hint ?_ (args_rt_hint _)
  unfold Builtin.«reversed.__length_hint__»
  refine wpAny_bind (wpAny_of_eq (a := Value.ref it) rfl ?_)
  try dsimp only
  refine wpAny_bind (wpAny_field ho hd (x := .ref t) rfl ?_)
  try dsimp only
  rw [if_neg (show ¬ (Value.ref t == Value.none) = true from fun h => by cases h)]
  refine wpAny_bind (hlen _ _ _ ?_)
  refine wpAny_bind (m := asInt? _) (wpAny_pure ?_)
  try dsimp only
  refine wpAny_bind (wpAny_field (s := { s with toks := s.toks + 1 + 1 }) ho hd (x := rawInt i) rfl ?_)
  show wpAny _ A.in1 (if (n : Int) < i + 1 then _ else retInt (i + 1)) _ _ _
  rw [if_neg (by omega), hi]
  unfold retInt
  refine wpAny_bind (wpAny_mkInt ?_)
  exact wpAny_pure ⟨_, rfl, h _ _ (by show s.toks ≤ s.toks + 1 + 1 + 1; omega)⟩
theorem collect_rt {it t : Addr} {items : Array Value} {Q : List Value → Shared → Prop} (hh : A.handled = none) (hit : IsRt s.heap it t ((items.size : Int) - 1)) (ht : IsTup s.heap t items) (hne : t ≠ it) (hn : items.size ≤ sizeLine)
    (hlen : ∀ (s : Shared) (A : Around) (E : Value → Shared → Prop) (Q : Value → Shared → Prop), IsTup s.heap t items → Q (.int items.size (s.toks + 1)) { s with toks := s.toks + 1 + 1 } → wpAny (model prog w) A (call (.builtin "len") [.ref t]) Q E s)
    (hQ : ∀ (h' : Heap) (tk : Nat) (acc : Array Value), (∀ b o, b ≠ it → s.heap.get? b = some o → h'.get? b = some o) → ItemsOf (fun i v => items[items.size - 1 - i]? = some v) acc items.size → Q acc.toList { s with heap := h', toks := tk }) :
    wpAny (model prog w) A (collect (.ref it)) Q E s := by
  have W := (walks_rt (prog := prog) (w := w) (A := A.in1) hh it t hne items hn).toS
  obtain ⟨oi, hoi, _⟩ := id hit
  obtain ⟨ol, hol, _⟩ := id ht
  have hSi : s.heap.objs.size ≠ it := Nat.ne_of_gt (Heap.lt_size hoi)
  have hSl : s.heap.objs.size ≠ t := Nat.ne_of_gt (Heap.lt_size hol)
  have hSf : s.heap.objs.size ∉ [it, t] := by simp only [List.mem_cons, List.not_mem_nil, or_false, not_or]; exact ⟨hSi, hSl⟩
  unfold collect
  refine wpAny_bind (wpAny_runValue (codeAny_builtin F.entry_proto_collect ?_))
  rw [Around.under_plainId F.plain_proto_collect _]
  show wpAny _ A.in1 (newList [] >>= fun l' => again (.builtin "list.__iadd__" ⟨[l', .ref it], []⟩)) _ _ s
  refine wpAny_bind (wpAny_newObj_type ?_)
  refine wpAny_pure ⟨plainId_quiet F.plain_list_iadd _, codeAny_builtin F.entry_list_iadd ?_⟩
  rw [Around.under_plainId F.plain_list_iadd _]
  have hS₁ : (s.heap.push { cls := .type "list", data := .seq ([] : List Value).toArray }).get? s.heap.objs.size = some { cls := .type "list", data := .seq ([] : List Value).toArray } := Heap.get?_push_size _ rfl
  have hit1 : IsRt (s.heap.push { cls := .type "list", data := .seq ([] : List Value).toArray }) it t ((items.size : Int) - 1) := hit.at fun o e => Heap.get?_push_of_some _ e
  have ht1 : IsTup (s.heap.push { cls := .type "list", data := .seq ([] : List Value).toArray }) t items := ht.push _
  have hT : ({ s with heap := s.heap.push { cls := .type "list", data := .seq ([] : List Value).toArray } } : Shared).TypeIs (.ref it) "reversed" := IsRt.typeIs (s := { s with heap := s.heap.push { cls := .type "list", data := .seq ([] : List Value).toArray } }) hit1
  have h1 : Builtin.List.listSameRef (.ref s.heap.objs.size) (.ref it) = false := by simp [Builtin.List.listSameRef, hSi]
  show wpAny _ A.in1 (Builtin.List.listExtendWith (.ref s.heap.objs.size) (.ref it) (.ref s.heap.objs.size)) _ _ _
  unfold Builtin.List.listExtendWith
  refine wpAny_bind (wpAny_typeOf hT ?_)
  rw [if_neg (by rw [h1]; decide)]
  refine wpAny_bind (iter_rt (s := { s with heap := s.heap.push { cls := .type "list", data := .seq ([] : List Value).toArray } }) hit1 ?_)
  refine wpAny_bind (wpAny_holding ?_)
  unfold Builtin.List.listLengthHint
  refine wpAny_bind (wpAny_specialOf hT nolen_rt ?_)
  show wpAny _ A.in1 (specialOf (Value.ref it) (Str.ofString "__length_hint__") >>= _) _ _ _
  refine wpAny_bind (wpAny_specialOf hT slot_rt_hint.lookup ?_)
  generalize hid : ("reversed.__length_hint__" : String) = id0
  wp_delta
  rw [show splitId id0 = some ("reversed", "__length_hint__") from by subst hid; decide +kernel]
  subst hid
  refine wpAny_bind (wpAny_isInstance (b := true) hT (by rw [isSubtype_type]; kernel_rfl) ?_)
  refine wpAny_ite_split (fun hab => absurd hab (by decide)) (fun _ => ?_)
  refine wpAny_ite_split (fun hab => absurd hab (by decide +kernel)) (fun _ => ?_)
  refine wpAny_bind (wpAny_rule ?_)
  refine wpAny_bind (wpAny_of_eq (slot_rt_hint.bind _) ?_)
  try dsimp only
  refine wpAny_bind (wpAny_attempt (call_hint_rt (n := items.size) hit1 (by omega) (fun A E Q q => hlen _ A E Q ht1 q) fun k tk htk => ?_))
  have h0 : (0 : Int) ≤ ((items.size : Nat) : Int) := Int.natCast_nonneg _
  have hle : ((items.size : Nat) : Int) ≤ (sizeLine : Nat) := by omega
  have hzero : (((items.size : Nat) : Int) != 0) = false → items.size = 0 := fun h => by simpa using h
  generalize hnn : ((items.size : Nat) : Int) = nn at h0 hle hzero ⊢
  refine wpAny_bind (m := asInt? (.int nn k)) (wpAny_pure ?_)
  show wpAny _ A.in1 (if (!Builtin.List.listFitsIndex nn) = true then _ else _) _ _ _
  have sl : sizeLine = 16777216 := sizeLine_eq
  have hfit : Builtin.List.listFitsIndex nn = true := by
    unfold Builtin.List.listFitsIndex
    have h63 : (9223372036854775808 : Int) = 2 ^ 63 := by decide
    rw [Bool.and_eq_true, decide_eq_true_iff, decide_eq_true_iff, ← h63]
    rw [sl] at hle
    exact ⟨by omega, by omega⟩
  have hlong : Builtin.List.listTooLong nn.toNat = false := by
    unfold Builtin.List.listTooLong
    exact decide_eq_false (by omega)
  rw [if_neg (show ¬ (!Builtin.List.listFitsIndex nn) = true by rw [hfit]; exact Bool.false_ne_true), if_neg (show ¬ nn < 0 by omega), if_neg (show ¬ Builtin.List.listTooLong nn.toNat = true by rw [hlong]; exact Bool.false_ne_true)]
  refine wpAny_pure ?_
  have e0 : ((items.size : Nat) : Int) - 1 - ((0 : Nat) : Int) = (items.size : Int) - 1 := by omega
  have fin : ∀ (s' : Shared) (acc' : Array Value), Moved [s.heap.objs.size, it] (fun a b => b = a) { s with heap := s.heap.push { cls := .type "list", data := .seq ([] : List Value).toArray }, toks := tk } s' → ItemsOf (fun i v => items[items.size - 1 - i]? = some v) acc' items.size → Q acc'.toList s' := fun s' acc' hm hacc => by
    rw [Moved.eq_with hm]
    refine hQ s'.heap s'.toks acc' (fun b o hb e => hm.heap b o (fun hmem => ?_) (Heap.get?_push_of_some _ e)) hacc
    rcases List.mem_cons.mp hmem with e' | hmem
    · exact absurd (Heap.lt_size e) (by rw [e']; exact Nat.lt_irrefl _)
    · exact hb (List.mem_singleton.mp hmem)
  by_cases hz : nn = 0
  · rw [if_neg (by rw [hz]; decide)]
    refine wpAny_pure ⟨plainId_quiet F.plain_extend_loop _, codeAny_extend_loopS W hn _ hSf _ items.size 0 _ _ _ rfl (Nat.zero_le _) ⟨Nat.zero_le _, by rw [e0]; exact hit1, ht1⟩ hS₁ (ItemsOf.nil _) fun s' acc' c' hm hS' hacc => ?_⟩
    show wpAny _ A (load s.heap.objs.size >>= _) _ _ s'
    refine wpAny_bind (wpAny_load hS' ?_)
    exact wpAny_pure (fin s' acc' hm hacc)
  · rw [if_pos (by rw [Bool.or_eq_true]; exact .inl (bne_iff_ne.mpr hz))]
    refine wpAny_bind (wpAny_rule ?_)
    refine wpAny_bind ?_
    show wpAny _ A.in1 (updateSeq s.heap.objs.size (·.push .none) >>= fun _ => updateSeq s.heap.objs.size (·.pop)) _ _ _
    refine wpAny_bind (wpAny_updateSeq hS₁ rfl ?_)
    have hS₂ := Heap.get?_update_self (Obj.mapSeq (·.push Value.none)) hS₁ rfl
    refine wpAny_updateSeq hS₂ rfl ?_
    have hS₃ := Heap.get?_update_self (Obj.mapSeq (·.pop)) hS₂ rfl
    have oth : ∀ b o, b ≠ s.heap.objs.size → (s.heap.push { cls := .type "list", data := .seq ([] : List Value).toArray }).get? b = some o →
        (((s.heap.push { cls := .type "list", data := .seq ([] : List Value).toArray }).update s.heap.objs.size (Obj.mapSeq (·.push Value.none))).update s.heap.objs.size (Obj.mapSeq (·.pop))).get? b = some o :=
      fun b o hb e => (Heap.get?_update_other _ _ (Ne.symm hb)).trans ((Heap.get?_update_other _ _ (Ne.symm hb)).trans e)
    refine wpAny_pure ⟨plainId_quiet F.plain_extend_loop _, codeAny_extend_loopS W hn _ hSf _ items.size 0 _ _ _ rfl (Nat.zero_le _) ⟨Nat.zero_le _, by rw [e0]; exact hit1.at fun o e => oth _ _ (Ne.symm hSi) e, let ⟨o, eo, r⟩ := ht1; ⟨o, oth _ _ (Ne.symm hSl) eo, r⟩⟩ hS₃ (ItemsOf.nil _) fun s' acc' c' hm hS' hacc => ?_⟩
    show wpAny _ A (load s.heap.objs.size >>= _) _ _ s'
    refine wpAny_bind (wpAny_load hS' ?_)
    refine wpAny_pure (fin s' acc' ⟨fun b o hb e => hm.heap b o hb (oth b o (fun h => hb (by simp [h])) e), hm.gens, hm.drawn, hm.os, hm.toks⟩ hacc)
theorem code_tuple_new_rt {it t : Addr} {items : Array Value} {Q₁ : Value → Shared → Prop} (hh : A.handled = none) (hit : IsRt s.heap it t ((items.size : Int) - 1)) (ht : IsTup s.heap t items) (hne : t ≠ it) (hn : items.size ≤ sizeLine)
    (hlen : ∀ (s : Shared) (A : Around) (E : Value → Shared → Prop) (Q : Value → Shared → Prop), IsTup s.heap t items → Q (.int items.size (s.toks + 1)) { s with toks := s.toks + 1 + 1 } → wpAny (model prog w) A (call (.builtin "len") [.ref t]) Q E s)
    (h : ∀ (h' : Heap) (tk : Nat) (acc : Array Value), (∀ b o, b ≠ it → s.heap.get? b = some o → h'.get? b = some o) → ItemsOf (fun i v => items[items.size - 1 - i]? = some v) acc items.size →
      Q₁ (.ref h'.objs.size) { s with heap := h'.push { cls := .type "tuple", data := .seq acc }, toks := tk }) :
    codeAny (model prog w) A (.call (.builtin "tuple.__new__") ⟨[.type "tuple", .ref it], []⟩) (wants Q₁ E) s := by
  refine codeAny_of_tree ?_
  show wpAny _ A.in1 (do checkBuiltinCall "tuple.__new__" ⟨[.type "tuple", .ref it], []⟩; again (.builtin "tuple.__new__" ⟨[.type "tuple", .ref it], []⟩)) _ _ s
  refine wpAny_bind (wpAny_of_eq (F.newCall_tuple_1 _) (wpAny_pure ⟨plainId_quiet F.plain_tuple_new _, codeAny_builtin F.entry_tuple_new ?_⟩))
  rw [Around.under_plainId F.plain_tuple_new _]
  have hsub := sub_tuple_self
  have hinit := init_tuple_lookup
  have hmh := madeHere_tuple
  have hTI : s.TypeIs (.ref it) "reversed" := hit.typeIs
  have hh1 : A.in1.handled = none := hh
  wp_walk using wpAny_typeOf hTI, collect_rt (A := A.in1) hh1 hit ht hne hn hlen
  intro h' tk acc hk hacc
  show wpAny _ _ (Builtin.Tuple.tupleExact acc.toList.toArray >>= fun v => ret v) _ _ _
  unfold Builtin.Tuple.tupleExact
  refine wpAny_bind (wpAny_newObj_type ?_ (by show acc.toList.toArray.size ≤ sizeLine; simp only [Array.toArray_toList]; rw [hacc.1]; exact hn))
  refine wpAny_pure ?_
  have e : acc.toList.toArray = acc := by simp
  rw [e]
  exact h h' tk acc hk hacc
theorem call_tuple_rt {it t : Addr} {items : Array Value} {Q : Value → Shared → Prop} (hh : A.handled = none) (hit : IsRt s.heap it t ((items.size : Int) - 1)) (ht : IsTup s.heap t items) (hne : t ≠ it) (hn : items.size ≤ sizeLine)
    (hlen : ∀ (s : Shared) (A : Around) (E : Value → Shared → Prop) (Q : Value → Shared → Prop), IsTup s.heap t items → Q (.int items.size (s.toks + 1)) { s with toks := s.toks + 1 + 1 } → wpAny (model prog w) A (call (.builtin "len") [.ref t]) Q E s)
    (hQ : ∀ (h' : Heap) (tk : Nat) (acc : Array Value), (∀ b o, b ≠ it → s.heap.get? b = some o → h'.get? b = some o) → ItemsOf (fun i v => items[items.size - 1 - i]? = some v) acc items.size →
      Q (.ref h'.objs.size) { s with heap := h'.push { cls := .type "tuple", data := .seq acc }, toks := tk }) :
    wpAny (model prog w) A (call (.type "tuple") [.ref it]) Q E s := by
  refine callType_codes (Q₁ := fun obj s₁ => s₁.TypeIs obj "tuple" ∧ Q obj s₁) F.called_tuple (F.typeCall_tuple_1 _) F.entry_object_init
    (code_tuple_new_rt (A := A.in1) hh hit ht hne hn hlen fun h' tk acc hk hacc => ⟨⟨_, Heap.get?_push_size _ rfl, rfl⟩, hQ h' tk acc hk hacc⟩) fun obj s₁ h₁ => ?_
  exact ⟨h₁.1, F.args_object_init_2 obj _, object_init_meets F.called_tuple.init.lookup F.called_tuple.made (by decide) prog w A.in1 _ s₁ ⟨h₁.1, rfl, h₁.2⟩⟩
end
end RT
namespace Bf
open PySem PySem.Spec PyProof.Rows L2 RT
/-- tuple(reversed(x)), x a tuple: a new tuple -/
def tTupRevT (K : PySem.W.Frag) (te : TE) : TE := fun σ H Q => te σ H fun v H1 => ∃ (a : Addr) (xs : List V), v = .ref a ∧ SqT K H1 a xs ∧ ∀ q, H1 q = none → Q (.ref q) (upd H1 q (.tup xs.reverse))
section
variable {X : Cx}
theorem pe_tupRevT {e : Expr} {te : TE} {p p2 pos pos2 : Pos} (hc : X.calm = true) (hg : Gl X "tuple") (hm : X.mg "tuple" = none) (hg2 : Gl X "reversed") (hm2 : X.mg "reversed" = none) (he : PE X e te)
    (hs : starEach [e] X.env = (false, eval e X.env) :: starEach [] X.env := by rfl)
    (hs2 : starEach [.Call (.Name "reversed" p2) [e] [] pos2] X.env = (false, eval (.Call (.Name "reversed" p2) [e] [] pos2) X.env) :: starEach [] X.env := by rfl) :
    PE X (.Call (.Name "tuple" p) [.Call (.Name "reversed" p2) [e] [] pos2] [] pos) (tTupRevT X.K te) := by
  refine ⟨fun pins s σ H Q I h => ?_⟩
  refine Call_ (ld_blt I hg hm boot_tuple (PyProof.Rows.callWith_type1 (args_cons (Call_ (ld_blt I hg2 hm2 PyProof.Rows.boot_reversed (PyProof.Rows.callWith_type1 (args_cons (thn (he.run pins s σ H _ I h) fun u s1 ⟨v, H1, I1, r1, q1⟩ => args_nil ?_) hs) hs rfl))) hs2) hs2 rfl))
  obtain ⟨a, xs, ev, hq, q⟩ := q1
  subst ev
  obtain rfl : u = Value.ref a := r1
  obtain ⟨its, rv, p', hz⟩ := I1.tuple hq
  have hl0 := rv.length
  have hn63 := line63
  have hn : its.toArray.size ≤ sizeLine := by rw [List.size_toArray, ← rv.length]; exact hz
  refine call_reversed_tup p' (fun A E Q k => len_tuple p' (by simp only [List.size_toArray] <;> omega) k) (args_nil ?_)
  have k0 : ∀ b o, s1.heap.get? b = some o → (s1.heap.push (rtObj a ((its.toArray.size : Int) - 1))).get? b = some o := fun b o e => Heap.get?_push_of_some _ e
  have I2 : Inv X pins σ H1 { s1 with heap := s1.heap.push (rtObj a ((its.toArray.size : Int) - 1)), toks := s1.toks + 1 + 1 } := I1.kept (t' := s1.toks + 1 + 1) k0
  obtain ⟨f0, f1, f2, f3, f4, f5⟩ := I1.fpOk (H' := H1) (b := s1.heap.objs.size) (Nat.le_refl _) (I1.hok.fresh (Nat.le_refl _))
  obtain ⟨ol, hol, _⟩ := id p'
  have hne : a ≠ s1.heap.objs.size := Nat.ne_of_lt (Heap.lt_size hol)
  refine call_tuple_rt (s := { s1 with heap := s1.heap.push (rtObj a ((its.toArray.size : Int) - 1)), toks := s1.toks + 1 + 1 }) (I1.ok.hd hc) ⟨_, Heap.get?_push_size _ rfl, rfl, rfl⟩ (p'.push _) hne hn (fun s A E Q ht k => len_tuple ht (by simp only [List.size_toArray] <;> omega) k) fun h' tk acc hk hi => ?_
  have I3 : Inv X pins σ H1 { s1 with heap := h', toks := tk } := I2.turned (t' := tk) (fun b o hb e => hk b o hb e) f0 f1 f3 f4 f5
  refine ⟨.ref h'.objs.size, upd H1 h'.objs.size (.tup xs.reverse), I3.laid (t' := tk) (fun c o e => Heap.get?_push_of_some _ e) (Nat.le_refl _) (show ObjOk X.prog X.w _ _ _ (.tup xs.reverse) from ⟨by rw [List.length_reverse]; exact hz, acc.toList, vals_rev rv hi, ?_⟩), rfl, q _ (I3.hok.fresh (Nat.le_refl _))⟩
  rw [Array.toArray_toList]
  exact IsTup.new _ _
end
end Bf

set_option Elab.async false
set_option linter.all false
set_option maxRecDepth 100000
set_option maxHeartbeats 4000000
namespace Bf
open PySem PySem.Spec PyProof.Rows L2
/-! ### spoilt bars: only their shape -/
theorem cutV_ints (xs : List Int) (lo hi : Option Int) : ∃ zs : List Int, cutV (xs.map V.int) lo hi = zs.map V.int ∧ zs.length ≤ xs.length := by
  refine ⟨(xs.drop (HT.sIx xs.length 0 lo)).take (HT.sIx xs.length xs.length hi - HT.sIx xs.length 0 lo), ?_, ?_⟩
  · unfold cutV
    rw [List.length_map, List.map_take, List.map_drop]
  · rw [List.length_take, List.length_drop]
    omega
theorem rdSlZ {K : PySem.W.Frag} {H : Hp} {b : Addr} {xs : List Int} {lo hi : Option Int} {Q : VK} (hb : H b = some (.tup (xs.map V.int))) (k : ∀ (t : Addr) (H' : Hp) (zs : List Int), Same H H' → H' t = some (.tup (zs.map V.int)) → zs.length ≤ xs.length → Q (.ref t) H') : rSlA K (.ref b) lo hi H Q := by
  obtain ⟨zs, e, hl⟩ := cutV_ints xs lo hi
  exact rdSlX hb fun t H' s et => k t H' zs s (by rw [et, e]) hl
theorem rdCatZ {K : PySem.W.Frag} {H : Hp} {a b : Addr} {xs ys : List Int} {Q : VK} (ha : H a = some (.tup (xs.map V.int))) (hb : H b = some (.tup (ys.map V.int))) (hl : xs.length + ys.length ≤ 1000) (k : ∀ (t : Addr) (H' : Hp), Same H H' → H' t = some (.tup ((xs ++ ys).map V.int)) → Q (.ref t) H') : rCatA K (.ref a) (.ref b) H Q :=
  rdCatX ha hb (by rw [List.length_map, List.length_map]; exact hl) fun t H' s e => k t H' s (by rw [e, List.map_append])
def spSpoil : Sp := fun vs H Q _ => ∃ (d c : Addr) (x : V) (b : Str × List Int × List Int) (s : Nat), vs = [.ref d, x, vI s] ∧ DS H d c ∧ Lay H x (barD b) ∧ 1 ≤ b.2.1.length ∧ b.2.1.length ≤ 40 ∧ b.2.2.length = b.2.1.length ∧ s ≤ 100 ∧
  ∀ (t : Addr) (b' : Str × List Int × List Int) (H' : Hp), Lay H' (.ref t) (barD b') → b'.2.1.length ≤ 200 → b'.2.2.length ≤ 200 → DS H' d c → Keep [d] H H' → Q (.ref t) H'
section
variable {P : Program} {w : World} {K : PySem.W.Frag} {mg : Str → Option Value} {base : Heap} {f : Addr} {fd : FuncData}
theorem ok_spoilt (F : Fun K "_law_spoilt" "_law_spoilt" s_law_spoilt f fd) (T : Txt mg) (D_law_draw : Dn P w K mg base "_law_draw" ["_law_d", "_law_many"] 1 spDraw) (D_law_pick : Dn P w K mg base "_law_pick" ["_law_d", "_law_row"] 2 (spPickA K)) : FnOk P w K mg base CX0 3 f fd ["_law_d", "_law_bar", "_law_size"] spSpoil := by
  refine F.ok sc_law_spoilt (fun vs H Q E h => ?_) (fun cdv A outer s H vs Q E hr h => ?_)
  · obtain ⟨d, c, x, b, s, rfl, _⟩ := h
    rfl
  obtain ⟨d, c, x, ⟨w, ands, counts⟩, sz, rfl, hd, lx, h1, h40, hcl, hsz, q⟩ := h
  refine ⟨_, (pss_cons (ps_asg (pv 1) (pg_tup rfl (pgs_cons (pg_name (i := 3) sc_law_spoilt.nd rfl (Or.inl rfl)) (pgs_cons (pg_name (i := 4) sc_law_spoilt.nd rfl (Or.inl rfl)) (pgs_cons (pg_name (i := 5) sc_law_spoilt.nd rfl (Or.inl rfl)) pgs_nil)))))
      (pss_cons (ps_set (i := 6) sc_law_spoilt.nd rfl (Or.inl rfl) (pe_dn D_law_draw (hr.mono (by omega)) (by rfl) (pa_cons (pv 0) (pa_cons (pe_callB call_len_seq (by rfl) T.n_len (by decide +kernel) (pa_cons (pv 4) pa_nil)) pa_nil))))
      (pss_cons (ps_set (i := 7) sc_law_spoilt.nd rfl (Or.inl rfl) (pe_dn D_law_draw (hr.mono (by omega)) (by rfl) (pa_cons (pv 0) (pa_cons pe_int pa_nil))))
      (pss_cons (ps_if (pt_cmpR op_eq (pv 7) pe_int (nomark _)) (pss_one (ps_ret (pe_tup (pa_cons (pe_ifExp (pt_cmpR op_eq (pv 3) pe_str (nomark _)) pe_str pe_str) (pa_cons (pv 4) (pa_cons (pv 5) pa_nil)))))) pss_nil)
      (pss_cons (ps_if (pt_cmpR op_eq (pv 7) pe_int (nomark _)) (pss_one (ps_ret (pe_tup (pa_cons (pe_dn D_law_pick (hr.mono (by omega)) (by rfl) (pa_cons (pv 0) (pa_cons (pe_lst (pa_cons pe_str (pa_cons pe_str (pa_cons pe_str (pa_cons pe_str pa_nil))))) pa_nil))) (pa_cons (pv 4) (pa_cons (pv 5) pa_nil)))))) pss_nil)
      (pss_cons (ps_if (pt_cmpR op_lt (pv 7) pe_int (nomark _)) (pss_one (ps_ret (pe_tup (pa_cons (pv 3) (pa_cons (pe_op op_catA (pe_op op_catA (pe_slice sl_tupA (pv 4) po_none (po_some (pv 6))) (pe_tup (pa_cons (pe_op op_sub (pe_dn D_law_draw (hr.mono (by omega)) (by rfl) (pa_cons (pv 0) (pa_cons (pe_op op_add (pv 2) pe_int) pa_nil))) pe_int) pa_nil))) (pe_slice sl_tupA (pv 4) (po_some (pe_op op_add (pv 6) pe_int)) po_none)) (pa_cons (pv 5) pa_nil)))))) pss_nil)
      (pss_cons (ps_if (pt_cmpR op_lt (pv 7) pe_int (nomark _)) (pss_one (ps_ret (pe_tup (pa_cons (pv 3) (pa_cons (pv 4) (pa_cons (pe_op op_catA (pe_op op_catA (pe_slice sl_tupA (pv 5) po_none (po_some (pv 6))) (pe_tup (pa_cons (pe_op op_sub (pe_op op_add (pe_ix ix_tup (pv 5) (pv 6) (fun _ _ => rfl)) (pe_op op_mul pe_int (pv 7))) pe_int) pa_nil))) (pe_slice sl_tupA (pv 5) (po_some (pe_op op_add (pv 6) pe_int)) po_none)) pa_nil)))))) pss_nil)
      (pss_cons (ps_if (pt_cmpR op_eq (pv 7) pe_int (nomark _)) (pss_one (ps_ret (pe_tup (pa_cons (pv 3) (pa_cons (pv 4) (pa_cons (pe_op op_catA (pe_slice sl_tupA (pv 5) po_none (po_some (pv 6))) (pe_slice sl_tupA (pv 5) (po_some (pe_op op_add (pv 6) pe_int)) po_none)) pa_nil)))))) pss_nil)
      (pss_cons (ps_if (pt_cmpR op_eq (pv 7) pe_int (nomark _)) (pss_one (ps_ret (pe_tup (pa_cons (pv 3) (pa_cons (pe_op op_catA (pe_slice sl_tupA (pv 4) po_none (po_some (pv 6))) (pe_slice sl_tupA (pv 4) (po_some (pe_op op_add (pv 6) pe_int)) po_none)) (pa_cons (pe_op op_catA (pe_slice sl_tupA (pv 5) po_none (po_some (pv 6))) (pe_slice sl_tupA (pv 5) (po_some (pe_op op_add (pv 6) pe_int)) po_none)) pa_nil)))))) pss_nil)
      (pss_cons (ps_if (pt_cmpR op_eq (pv 7) pe_int (nomark _)) (pss_one (ps_ret (pe_tup (pa_cons (pv 3) (pa_cons (pe_op op_catA (pe_slice sl_tupA (pv 4) (po_some (pv 6)) po_none) (pe_slice sl_tupA (pv 4) po_none (po_some (pv 6)))) (pa_cons (pe_op op_catA (pe_slice sl_tupA (pv 5) (po_some (pv 6)) po_none) (pe_slice sl_tupA (pv 5) po_none (po_some (pv 6)))) pa_nil)))))) pss_nil)
      (pss_one (ps_ret (pe_tup (pa_cons (pv 3) (pa_cons (pe_tupRevT rfl (by rfl) T.n_tuple (by rfl) T.n_reversed (pv 4)) (pa_cons (pe_tupRevT rfl (by rfl) T.n_tuple (by rfl) T.n_reversed (pv 5)) pa_nil)))))))))))))))), ?_⟩
  obtain ⟨qb, qa, qc, rfl, eb, ea, ec⟩ := lx.bar
  have eb : H qb = some (.tup [.str w, .ref qa, .ref qc]) := eb
  have ea : H qa = some (.tup (ands.map V.int)) := ea
  have ec : H qc = some (.tup (counts.map V.int)) := ec
  have h1 : 1 ≤ ands.length := h1
  have h40 : ands.length ≤ 40 := h40
  have hcl : counts.length = ands.length := hcl
  refine ⟨_, rfl, qb, _, rfl, SqT.of eb, rfl, _, _, rfl, _, _, rfl, _, _, rfl, rfl, ?_⟩
  refine ⟨_, rfl, _, rfl, qa, _, rfl, .inr (SqT.of ea), d, c, _, rfl, hd, by rw [List.length_map]; omega, by rw [List.length_map]; omega, fun a0 H1 a1 a2 hd1 k1 => ?_⟩
  obtain ⟨a, rfl⟩ := Int.eq_ofNat_of_zero_le a1
  rw [List.length_map] at a2
  refine ⟨_, rfl, d, c, _, rfl, hd1, by decide, by decide, fun tu H2 u1 u2 hd2 k2 => ?_⟩
  have kt := k1.trans k2
  have ea2 := (kt.tup1 hd) _ _ ea
  have ec2 := (kt.tup1 hd) _ _ ec
  have fin : ∀ (H' : Hp) (w2 : Str) (qa2 qc2 t : Addr) (as cs : List Int), DS H' d c → Keep [d] H H' → H' qa2 = some (.tup (as.map V.int)) → H' qc2 = some (.tup (cs.map V.int)) → as.length ≤ 200 → cs.length ≤ 200 → H' t = none → Q (.ref t) (upd H' t (.tup [.str w2, .ref qa2, .ref qc2])) := fun H' w2 qa2 qc2 t as cs hd' k' e1 e2 l1 l2 ht => by
    have st := same_new ht (.tup [.str w2, .ref qa2, .ref qc2])
    exact q t (w2, as, cs) _ (.tup upd_same (.cons (.str _) (.cons (.tup (st _ _ e1) (zs_lay _)) (.cons (.tup (st _ _ e2) (zs_lay _)) .nil)))) l1 l2 (hd'.same st) (k'.trans (.of_same st))
  refine ⟨_, rfl, rfl, _, rfl, ite2 (fun z => ?_) (fun z => ?_)⟩
  · refine ⟨_, rfl, rfl, _, rfl, ite2 (fun z2 => ?_) (fun z2 => ?_)⟩
    · exact ⟨_, rfl, _, rfl, by show 3 ≤ sizeLine; decide, fun t ht => fin H2 _ qa qc t ands counts hd2 kt ea2 ec2 (by omega) (by omega) ht⟩
    · exact ⟨_, rfl, _, rfl, by show 3 ≤ sizeLine; decide, fun t ht => fin H2 _ qa qc t ands counts hd2 kt ea2 ec2 (by omega) (by omega) ht⟩
  clear z
  refine ⟨_, rfl, rfl, _, rfl, ite2 (fun z => ?_) (fun z => ?_)⟩
  · refine ⟨_, rfl, by show 4 ≤ sizeLine; decide, fun L hL => ?_⟩
    have sL := same_new hL (.lst [V.str "", V.str "ways", V.str "Ring", V.str "bar"])
    refine ⟨d, c, L, _, rfl, hd2.same sL, (hd2.new hL).1, .inl (SqL.of upd_same), by decide, by decide, fun k y H3 hy hd3 k3 => ?_⟩
    obtain ⟨z, rfl⟩ : ∃ z : Str, y = .str z := by
      have hm := List.mem_of_getElem? hy
      simp only [List.mem_cons, List.not_mem_nil, or_false] at hm
      rcases hm with h | h | h | h <;> exact ⟨_, h⟩
    have k23 : Keep [d] H2 H3 := (Keep.of_same sL).trans k3
    exact ⟨_, rfl, _, rfl, by show 3 ≤ sizeLine; decide, fun t ht => fin H3 _ qa qc t ands counts hd3 (kt.trans k23) ((k23.tup1 hd2) _ _ ea2) ((k23.tup1 hd2) _ _ ec2) (by omega) (by omega) ht⟩
  clear z
  refine ⟨_, rfl, _, _, rfl, rfl, _, rfl, ite2 (fun z => ?_) (fun z => ?_)⟩
  · refine ⟨_, rfl, _, rfl, ?_⟩
    try delta tNoPart
    refine ⟨_, rfl, _, rfl, rdSlZ ea2 fun t1 H3 z1 s3 e1 l1 => ?_⟩
    refine ⟨_, rfl, _, rfl, _, _, rfl, rfl, d, c, _, rfl, hd2.same s3, by omega, by omega, fun r H4 r0 r1 hd4 k4 => ⟨_, _, rfl, rfl, by show 1 ≤ sizeLine; decide, fun t2 ht2 => ?_⟩⟩
    have st2 := same_new ht2 (.tup [V.int (r - 1)])
    have k34 := k4.tup1 (hd2.same s3)
    refine rdCatZ (xs := z1) (ys := [r - 1]) (st2 _ _ (k34 _ _ e1)) upd_same (by show z1.length + 1 ≤ 1000; omega) fun t3 H5 s5 e3 => ?_
    refine ⟨_, rfl, _, rfl, _, _, rfl, rfl, _, rfl, ?_⟩
    try delta tNoPart
    refine rdSlZ (s5 _ _ (st2 _ _ (k34 _ _ (s3 _ _ ea2)))) fun t4 H6 z4 s6 e4 l4 => ?_
    refine rdCatZ (s6 _ _ e3) e4 (by show (z1 ++ [r - 1]).length + z4.length ≤ 1000; rw [List.length_append, List.length_singleton]; omega) fun t5 H7 s7 e5 => ?_
    have k27 : Keep [d] H2 H7 := (((((Keep.of_same s3).trans k4).trans (.of_same st2)).trans (.of_same s5)).trans (.of_same s6)).trans (.of_same s7)
    exact ⟨_, rfl, by show 3 ≤ sizeLine; decide, fun t ht => fin H7 w t5 qc t (z1 ++ [r - 1] ++ z4) counts ((((hd4.same st2).same s5).same s6).same s7) (kt.trans k27) e5 ((k27.tup1 hd2) _ _ ec2) (by rw [List.length_append, List.length_append, List.length_singleton]; omega) (by omega) ht⟩
  clear z
  refine ⟨_, rfl, _, _, rfl, rfl, _, rfl, ite2 (fun z => ?_) (fun z => ?_)⟩
  · obtain ⟨cv, hcv⟩ : ∃ cv, counts[a]? = some cv := ⟨_, List.getElem?_eq_getElem (by omega)⟩
    have hat : atI (counts.map V.int) (a : Int) = some (.int cv) := atI_nat (by rw [List.getElem?_map, hcv]; rfl)
    refine ⟨_, rfl, _, rfl, _, rfl, ?_⟩
    try delta tNoPart
    refine ⟨_, rfl, _, rfl, rdSlZ ec2 fun t1 H3 z1 s3 e1 l1 => ?_⟩
    refine ⟨_, rfl, _, rfl, qc, _, _, _, rfl, rfl, SqT.of (s3 _ _ ec2), hat, _, rfl, _, _, rfl, rfl, .inl ⟨by decide, by decide⟩, _, _, rfl, rfl, _, _, rfl, rfl, by show 1 ≤ sizeLine; decide, fun t2 ht2 => ?_⟩
    have st2 := same_new ht2 (.tup [V.int (cv + 2 * tu - 9)])
    refine rdCatZ (xs := z1) (ys := [cv + 2 * tu - 9]) (st2 _ _ e1) upd_same (by show z1.length + 1 ≤ 1000; omega) fun t3 H5 s5 e3 => ?_
    refine ⟨_, rfl, _, rfl, _, _, rfl, rfl, _, rfl, ?_⟩
    try delta tNoPart
    refine rdSlZ (s5 _ _ (st2 _ _ (s3 _ _ ec2))) fun t4 H6 z4 s6 e4 l4 => ?_
    refine rdCatZ (s6 _ _ e3) e4 (by show (z1 ++ [cv + 2 * tu - 9]).length + z4.length ≤ 1000; rw [List.length_append, List.length_singleton]; omega) fun t5 H7 s7 e5 => ?_
    have s27 := (((s3.trans st2).trans s5).trans s6).trans s7
    exact ⟨by show 3 ≤ sizeLine; decide, fun t ht => fin H7 w qa t5 t ands (z1 ++ [cv + 2 * tu - 9] ++ z4) (hd2.same s27) (kt.trans (.of_same s27)) (s27 _ _ ea2) e5 (by omega) (by rw [List.length_append, List.length_append, List.length_singleton]; omega) ht⟩
  clear z
  refine ⟨_, rfl, rfl, _, rfl, ite2 (fun z => ?_) (fun z => ?_)⟩
  · refine ⟨_, rfl, _, rfl, _, rfl, ?_⟩
    try delta tNoPart
    refine ⟨_, rfl, _, rfl, rdSlZ ec2 fun t1 H3 z1 s3 e1 l1 => ?_⟩
    refine ⟨_, rfl, _, rfl, _, _, rfl, rfl, _, rfl, ?_⟩
    try delta tNoPart
    refine rdSlZ (s3 _ _ ec2) fun t4 H6 z4 s6 e4 l4 => ?_
    refine rdCatZ (s6 _ _ e1) e4 (by omega) fun t5 H7 s7 e5 => ?_
    have s27 := (s3.trans s6).trans s7
    exact ⟨by show 3 ≤ sizeLine; decide, fun t ht => fin H7 w qa t5 t ands (z1 ++ z4) (hd2.same s27) (kt.trans (.of_same s27)) (s27 _ _ ea2) e5 (by omega) (by rw [List.length_append]; omega) ht⟩
  clear z
  refine ⟨_, rfl, rfl, _, rfl, ite2 (fun z => ?_) (fun z => ?_)⟩
  · refine ⟨_, rfl, _, rfl, ?_⟩
    try delta tNoPart
    refine ⟨_, rfl, _, rfl, rdSlZ ea2 fun t1 H3 z1 s3 e1 l1 => ?_⟩
    refine ⟨_, rfl, _, rfl, _, _, rfl, rfl, _, rfl, ?_⟩
    try delta tNoPart
    refine rdSlZ (s3 _ _ ea2) fun t4 H6 z4 s6 e4 l4 => ?_
    refine rdCatZ (s6 _ _ e1) e4 (by omega) fun t5 H7 s7 e5 => ?_
    have s27 := (s3.trans s6).trans s7
    refine ⟨_, rfl, ?_⟩
    try delta tNoPart
    refine ⟨_, rfl, _, rfl, rdSlZ (s27 _ _ ec2) fun t1' H3' z1' s3' e1' l1' => ?_⟩
    refine ⟨_, rfl, _, rfl, _, _, rfl, rfl, _, rfl, ?_⟩
    try delta tNoPart
    refine rdSlZ (s3' _ _ (s27 _ _ ec2)) fun t4' H6' z4' s6' e4' l4' => ?_
    refine rdCatZ (s6' _ _ e1') e4' (by omega) fun t5' H7' s7' e5' => ?_
    have s37 := (s3'.trans s6').trans s7'
    exact ⟨by show 3 ≤ sizeLine; decide, fun t ht => fin H7' w t5 t5' t (z1 ++ z4) (z1' ++ z4') (hd2.same (s27.trans s37)) (kt.trans (.of_same (s27.trans s37))) (s37 _ _ e5) e5' (by rw [List.length_append]; omega) (by rw [List.length_append]; omega) ht⟩
  clear z
  refine ⟨_, rfl, rfl, _, rfl, ite2 (fun z => ?_) (fun z => ?_)⟩
  · refine ⟨_, rfl, _, rfl, _, rfl, _, rfl, ?_⟩
    try delta tNoPart
    refine rdSlZ ea2 fun t1 H3 z1 s3 e1 l1 => ?_
    refine ⟨_, rfl, ?_⟩
    try delta tNoPart
    refine ⟨_, rfl, _, rfl, rdSlZ (s3 _ _ ea2) fun t4 H6 z4 s6 e4 l4 => ?_⟩
    refine rdCatZ (s6 _ _ e1) e4 (by omega) fun t5 H7 s7 e5 => ?_
    have s27 := (s3.trans s6).trans s7
    refine ⟨_, rfl, _, rfl, _, rfl, ?_⟩
    try delta tNoPart
    refine rdSlZ (s27 _ _ ec2) fun t1' H3' z1' s3' e1' l1' => ?_
    refine ⟨_, rfl, ?_⟩
    try delta tNoPart
    refine ⟨_, rfl, _, rfl, rdSlZ (s3' _ _ (s27 _ _ ec2)) fun t4' H6' z4' s6' e4' l4' => ?_⟩
    refine rdCatZ (s6' _ _ e1') e4' (by omega) fun t5' H7' s7' e5' => ?_
    have s37 := (s3'.trans s6').trans s7'
    exact ⟨by show 3 ≤ sizeLine; decide, fun t ht => fin H7' w t5 t5' t (z1 ++ z4) (z1' ++ z4') (hd2.same (s27.trans s37)) (kt.trans (.of_same (s27.trans s37))) (s37 _ _ e5) e5' (by rw [List.length_append]; omega) (by rw [List.length_append]; omega) ht⟩
  clear z
  refine ⟨_, rfl, _, rfl, qa, _, rfl, SqT.of ea2, fun t1 h1t => ?_⟩
  have s3 := same_new h1t (.tup (ands.map V.int).reverse)
  refine ⟨_, rfl, qc, _, rfl, SqT.of (s3 _ _ ec2), fun t2 h2t => ⟨by show 3 ≤ sizeLine; decide, fun t ht => ?_⟩⟩
  have s4 := same_new h2t (.tup (counts.map V.int).reverse)
  refine fin _ w t1 t2 t ands.reverse counts.reverse ((hd2.same s3).same s4) (kt.trans (.of_same (s3.trans s4))) ?_ ?_ (by rw [List.length_reverse]; omega) (by rw [List.length_reverse]; omega) ht
  · rw [List.map_reverse]
    exact s4 _ _ upd_same
  · rw [List.map_reverse]
    exact upd_same
end

end Bf

set_option Elab.async false
set_option linter.all false
set_option maxRecDepth 100000
set_option maxHeartbeats 4000000
namespace Bf
open PySem PySem.Spec PyProof.Rows L2
/-! ### nets with a held register -/
def spRinged : Sp := fun vs H Q _ => ∃ (d c : Addr) (v : V) (N : Net), vs = [.ref d, v] ∧ DS H d c ∧ Lay H v (netD N) ∧ 1 ≤ N.regs.length ∧ N.regs.length ≤ 60 ∧
  ∀ (v' : V) (N' : Net) (H' : Hp), Lay H' v' (netD N') → N'.regs.length = N.regs.length → N'.ands.length = N.ands.length → (∃ a, a < N'.regs.length ∧ ¬ Ends N' a) → DS H' d c → Keep [d] H H' → Q v' H'
section
variable {P : Program} {w : World} {K : PySem.W.Frag} {mg : Str → Option Value} {base : Heap} {f : Addr} {fd : FuncData}
theorem ok_ringed (F : Fun K "_law_ringed" "_law_ringed" s_law_ringed f fd) (T : Txt mg) (D_law_shuffled : Dn P w K mg base "_law_shuffled" ["_law_d", "_law_row"] 2 (spShuf K)) (D_law_draw : Dn P w K mg base "_law_draw" ["_law_d", "_law_many"] 1 spDraw) : FnOk P w K mg base CX0 3 f fd ["_law_d", "_law_net"] spRinged := by
  refine F.ok sc_law_ringed (fun vs H Q E h => ?_) (fun cdv A outer s H vs Q E hr h => ?_)
  · obtain ⟨d, c, v, N, rfl, _⟩ := h
    rfl
  obtain ⟨d, c, v, N, rfl, hd, lv, h1, h60, q⟩ := h
  refine ⟨_, (pss_cons (ps_set (i := 2) sc_law_ringed.nd rfl (Or.inl rfl) (pe_op op_add pe_int (pe_callB call_len_seq (by rfl) T.n_len (by decide +kernel) (pa_cons (pe_ix ix_tup (pv 1) pe_int (fun _ _ => rfl)) pa_nil))))
      (C8.pss_cut (ps_set (i := 3) sc_law_ringed.nd rfl (Or.inl rfl) (pe_slice sl_list (pe_dn D_law_shuffled (hr.mono (by omega)) (by rfl) (pa_cons (pv 0) (pa_cons (pe_listRg rfl (by rfl) T.n_list (prg_1 (by rfl) T.n_range (pe_callB call_len_seq (by rfl) T.n_len (by decide +kernel) (pa_cons (pe_ix ix_tup (pv 1) pe_int (fun _ _ => rfl)) pa_nil)))) pa_nil))) po_none (po_some (pe_op op_add pe_int (pe_dn D_law_draw (hr.mono (by omega)) (by rfl) (pa_cons (pv 0) (pa_cons pe_int pa_nil)))))))
      (pss_cons (ps_set (i := 4) sc_law_ringed.nd rfl (Or.inl rfl) (pe_callTy call_list_of (by rfl) T.n_list (by decide +kernel) (pa_cons (pe_ix ix_tup (pv 1) pe_int (fun _ _ => rfl)) pa_nil)))
      (pss_cons (ps_for PassesOwn.never rfl (pi_range1 rfl T.n_range (pa_cons (pe_callB call_len_seq (by rfl) T.n_len (by decide +kernel) (pa_cons (pv 3) pa_nil)) pa_nil)) (pg_name (i := 5) sc_law_ringed.nd rfl (Or.inl rfl)) (pss_cons (ps_set (i := 6) sc_law_ringed.nd rfl (Or.inl rfl) (pe_ix ix_list (pv 4) (pe_ix ix_list (pv 3) (pv 5) (fun _ _ => rfl)) (fun _ _ => rfl)))
      (pss_one (ps_asg (pe_tup (pa_cons (pe_ix ix_tup (pv 6) pe_int (fun _ _ => rfl)) (pa_cons (pe_ix ix_tup (pv 6) pe_int (fun _ _ => rfl)) (pa_cons (pe_op op_add (pe_op op_mul pe_int (pe_op op_add (pv 2) (pe_ix ix_list (pv 3) (pe_op op_sub (pv 5) pe_int) (fun _ _ => rfl)))) (pe_dn D_law_draw (hr.mono (by omega)) (by rfl) (pa_cons (pv 0) (pa_cons pe_int pa_nil)))) pa_nil)))) (pg_sub (pv 4) (pe_ix ix_list (pv 3) (pv 5) (fun _ _ => rfl)) set_list)))))
      (pss_one (ps_ret (pe_tup (pa_cons pe_str (pa_cons (pe_ix ix_tup (pv 1) pe_int (fun _ _ => rfl)) (pa_cons (pe_callTy call_tuple_of (by rfl) T.n_tuple (by decide +kernel) (pa_cons (pv 4) pa_nil)) (pa_cons (pe_ix ix_tup (pv 1) pe_int (fun _ _ => rfl)) (pa_cons (pe_ix ix_tup (pv 1) pe_int (fun _ _ => rfl)) (pa_cons (pe_ix ix_tup (pv 1) pe_int (fun _ _ => rfl)) pa_nil))))))))))))), ?_⟩
  obtain ⟨p, pi, pr, pa, po, pc, vr, va, vo, vc, rfl, hN⟩ := lv.net
  have hl := hN.lens
  refine ⟨_, rfl, p, _, _, _, rfl, rfl, SqT.of hN.top, atI_nat (j := 1) rfl, pi, _, rfl, .inr (SqT.of hN.hi), _, _, rfl, rfl, ?_⟩
  refine ⟨fun σ' H' => ∃ (R : Addr) (ring : List Nat), σ' = [some (.ref d), some (.ref p), some (V.int (1 + ((N.ins.map V.str).length : Nat))), some (.ref R), none, none, none] ∧ DS H' d c ∧ Keep [d] H H' ∧ H' R = some (.lst (ring.map vI)) ∧ R ≠ d ∧ H R = none ∧ 1 ≤ ring.length ∧ ring.length ≤ 60 ∧ ring.Nodup ∧ ∀ a ∈ ring, a < N.regs.length, ?_, ?_⟩
  · refine ⟨_, rfl, _, rfl, p, _, _, _, rfl, rfl, SqT.of hN.top, atI_nat (j := 2) rfl, pr, _, rfl, .inr (SqT.of hN.hr), _, rfl, .of_le (by decide) (by omega) (by decide) (by omega), fun L0 hL0 => ?_⟩
    have s0 := same_new hL0 (.lst (rgV 0 ((vr.length : Nat) : Int)))
    have e0 : rgV 0 ((vr.length : Nat) : Int) = (List.range N.regs.length).map vI := by
      rw [hl.1]
      refine (rgV_vI 0 N.regs.length).trans ?_
      simp
    rw [e0] at s0 ⊢
    refine ⟨d, c, L0, _, rfl, hd.same s0, (hd.new hL0).1, .inl (SqL.of upd_same), by rw [List.length_map, List.length_range]; omega, fun OR ys H1 hperm hOR eOR hd1 k1 => ?_⟩
    obtain ⟨order, rfl, hop⟩ := perm_vI hperm
    have kH1 : Keep [d] H H1 := (Keep.of_same s0).trans k1
    have hol : order.length = N.regs.length := by rw [hop.length_eq, List.length_range]
    have nOd : OR ≠ d := hd1.ne_ints (ps := order) eOR
    try delta tNoPart
    refine ⟨_, rfl, d, c, _, rfl, hd1, by decide, by decide, fun r H2 r0 r1 hd2 k2 => ?_⟩
    obtain ⟨rn, rfl⟩ := Int.eq_ofNat_of_zero_le r0
    refine ⟨_, _, rfl, rfl, _, rfl, OR, _, rfl, SqL.of (k2 _ _ (by simp [nOd]) eOR), fun R hR => ?_⟩
    have sR := same_new hR (.lst (cutV (order.map vI) none (some (1 + (rn : Int)))))
    have ecut : cutV (order.map vI) none (some (1 + (rn : Int))) = (order.take (rn + 1)).map vI := by rw [show (1 : Int) + (rn : Int) = ((rn + 1 : Nat) : Int) by omega, cutV_to, List.map_take]
    have nRd := (hd2.new hR).1
    refine ⟨R, order.take (rn + 1), rfl, hd2.same sR, (kH1.trans k2).trans (.of_same sR), by rw [upd_same, ecut], nRd, (kH1.trans k2).free hR (by simp [nRd]), by rw [List.length_take]; omega, by rw [List.length_take]; omega, (hop.nodup_iff.mpr List.nodup_range).sublist (List.take_sublist _ _), fun a ha => List.mem_range.mp (hop.mem_iff.mp (List.mem_of_mem_take ha))⟩
  rintro σ' H1 ⟨R, ring, rfl, hd1, k1, eR, nRd, hR0, hr1, hr60, hnd, hlt⟩
  have hN1 := hN.keep (k1.tup1 hd)
  refine ⟨_, rfl, p, _, _, _, rfl, rfl, SqT.of hN1.top, atI_nat (j := 2) rfl, pr, _, rfl, .inr (SqT.of hN1.hr), fun W hW => ?_⟩
  have sW := same_new hW (.lst vr)
  obtain ⟨nWd, nWc⟩ := hd1.new hW
  have nWR : W ≠ R := (ne_of_none eR hW).symm
  have hW0 : H W = none := k1.free hW (by simp [nWd])
  have eR1 := sW _ _ eR
  refine ⟨_, rfl, R, _, rfl, .inl (SqL.of eR1), (ring.length : Int), by rw [List.length_map], (i62 (by omega)).1, (i62 (by omega)).2, for_it walk_range (fun i σ' H' => ∃ (v5 v6 : Option V) (vs : List V) (rows : List (Str × Nat × Nat)), σ' = [some (.ref d), some (.ref p), some (V.int (1 + ((N.ins.map V.str).length : Nat))), some (.ref R), some (.ref W), v5, v6] ∧ DS H' d c ∧ Keep [d] H H' ∧ H' R = some (.lst (ring.map vI)) ∧ H' W = some (.lst vs) ∧ LayAll H' vs (rows.map regD) ∧ rows.length = N.regs.length ∧ ∀ j a, j < i → ring[j]? = some a → ∃ b l, b ∈ ring ∧ (rows.map fun r => r.2.2)[a]? = some l ∧ l / 2 = 1 + N.ins.length + b)
    ⟨_, _, vr, N.regs, rfl, hd1.same sW, k1.trans (.of_same sW), eR1, upd_same, hN1.lr.keep' (.same sW), rfl, fun j a hj => absurd hj (Nat.not_lt_zero _)⟩ (fun _ _ _ _ _ => trivial) (fun i x σ' H2 H3 hi pp y => ?_) (fun σ' H2 pp => ?_)⟩
  · obtain ⟨v5, v6, vs, rows, rfl, hd2, k2, eR2, eW2, lW, hrl, hok⟩ := pp
    obtain ⟨rfl, rfl⟩ := y
    have hi' : i < ring.length := by omega
    obtain ⟨a, ha⟩ : ∃ a, ring[i]? = some a := ⟨_, List.getElem?_eq_getElem hi'⟩
    have hal := hlt a (List.mem_of_getElem? ha)
    have hata : atI (ring.map vI) (0 + (i : Int)) = some (vI a) := by
      rw [Int.zero_add]
      exact atI_nat (by rw [List.getElem?_map, ha]; rfl)
    obtain ⟨b, hb, hatb⟩ : ∃ b, b ∈ ring ∧ atI (ring.map vI) (0 + (i : Int) - 1) = some (vI b) := by
      by_cases hi0 : i = 0
      · have e : ring[ring.length - 1]? = some ring[ring.length - 1] := List.getElem?_eq_getElem (by omega)
        refine ⟨_, List.mem_of_getElem? e, ?_⟩
        rw [hi0, show (0 : Int) + ((0 : Nat) : Int) - 1 = -1 by omega]
        exact atI_end (by rw [List.length_map, List.getElem?_map, e]; rfl)
      · have e : ring[i - 1]? = some ring[i - 1] := List.getElem?_eq_getElem (by omega)
        refine ⟨_, List.mem_of_getElem? e, ?_⟩
        rw [show (0 : Int) + (i : Int) - 1 = ((i - 1 : Nat) : Int) by omega]
        exact atI_nat (by rw [List.getElem?_map, e]; rfl)
    have gr : rows[a]? = some rows[a] := List.getElem?_eq_getElem (by omega)
    obtain ⟨y, hy, ly⟩ := lW.at_ (d := regD rows[a]) a (by rw [List.getElem?_map, gr]; rfl)
    obtain ⟨q0, rfl, eq0⟩ := ly.reg
    generalize rows[a] = row at gr ly eq0
    refine ⟨_, rfl, _, rfl, _, rfl, R, _, _, _, rfl, rfl, SqL.of eR2, hata, W, _, _, _, rfl, rfl, SqL.of eW2, atI_nat hy, ?_⟩
    refine ⟨_, rfl, q0, _, _, _, rfl, rfl, SqT.of eq0, atI_nat (j := 0) rfl, _, rfl, q0, _, _, _, rfl, rfl, SqT.of eq0, atI_nat (j := 1) rfl, ?_⟩
    refine ⟨_, rfl, _, rfl, _, rfl, _, _, rfl, rfl, R, _, _, _, rfl, rfl, SqL.of eR2, hatb, _, _, rfl, rfl, _, _, rfl, rfl, .inl ⟨by decide, by decide⟩, _, rfl, d, c, _, rfl, hd2, by decide, by decide, fun r H4 r0 r1 hd4 k4 => ⟨_, _, rfl, rfl, by show 3 ≤ sizeLine; decide, fun t ht => ?_⟩⟩
    obtain ⟨rn, rfl⟩ := Int.eq_ofNat_of_zero_le r0
    have ei : ((N.ins.map V.str).length : Nat) = N.ins.length := List.length_map ..
    have ev : V.int (2 * (1 + ((N.ins.map V.str).length : Nat) + (b : Int)) + (rn : Int)) = vI (2 * (1 + N.ins.length + b) + rn) := by
      rw [ei]
      exact congrArg V.int (by omega)
    have st := same_new ht (.tup [.str row.1, vI row.2.1, V.int (2 * (1 + ((N.ins.map V.str).length : Nat) + (b : Int)) + (rn : Int))])
    have et : (upd H4 t (.tup [.str row.1, vI row.2.1, V.int (2 * (1 + ((N.ins.map V.str).length : Nat) + (b : Int)) + (rn : Int))])) t = some (.tup [.str row.1, vI row.2.1, vI (2 * (1 + N.ins.length + b) + rn)]) := by rw [upd_same, ev]
    have eR4 := st _ _ (k4 _ _ (by simp [nRd]) eR2)
    have eW4 := st _ _ (k4 _ _ (by simp [nWd]) eW2)
    have lW4 := (lW.keep' (k4.tup1 hd2)).keep' (.same st)
    have hd5 := hd4.same st
    have k5 := (k2.trans k4).trans (.of_same st)
    have hvl : vs.length = rows.length := by simpa using lW.len
    refine ⟨_, rfl, _, rfl, _, rfl, R, _, _, _, rfl, rfl, SqL.of eR4, hata, W, _, _, a, rfl, rfl, eW4, ixN_nat (by omega), ?_⟩
    have kt : KeepT (upd H4 t (.tup [.str row.1, vI row.2.1, V.int (2 * (1 + ((N.ins.map V.str).length : Nat) + (b : Int)) + (rn : Int))])) (upd (upd H4 t (.tup [.str row.1, vI row.2.1, V.int (2 * (1 + ((N.ins.map V.str).length : Nat) + (b : Int)) + (rn : Int))])) W (.lst (vs.set a (.ref t)))) := .lst eW4
    refine ⟨_, _, vs.set a (.ref t), rows.set a (row.1, row.2.1, 2 * (1 + N.ins.length + b) + rn), rfl, hd5.keep (S := [W]) Keep.at1 (by simp [nWd.symm]) (by simp [nWc.symm]), (k5.cat (Keep.at1 (a := W))).thin (by simp [hW0]), by rw [upd_ne nWR.symm]; exact eR4, upd_same, ?_, by rw [List.length_set]; exact hrl, fun j a2 hj hja => ?_⟩
    · rw [List.map_set]
      exact (layAt (Lay.mkReg et) _ _ a lW4).keep' kt
    · have hal2 := hlt a2 (List.mem_of_getElem? hja)
      rw [List.getElem?_map]
      by_cases ea : a2 = a
      · rw [ea, List.getElem?_set_self (by omega)]
        exact ⟨b, _, hb, rfl, by show (2 * (1 + N.ins.length + b) + rn) / 2 = _; omega⟩
      · rw [List.getElem?_set_ne (fun e => ea e.symm), ← List.getElem?_map]
        refine hok j a2 ?_ hja
        rcases Nat.lt_or_ge j i with h | h
        · exact h
        · have : j = i := by omega
          rw [this, ha] at hja
          exact absurd (Option.some.inj hja).symm ea
  · obtain ⟨v5, v6, vs, rows, rfl, hd2, k2, eR2, eW2, lW, hrl, hok⟩ := pp
    have hN2 := hN.keep (k2.tup1 hd)
    refine ⟨_, rfl, p, _, _, _, rfl, rfl, SqT.of hN2.top, atI_nat (j := 1) rfl, _, rfl, W, _, rfl, .inl ⟨SqL.of eW2, fun pr' hpr => ?_⟩⟩
    have s1 := same_new hpr (.tup vs)
    have hN3 := hN2.keep (.same s1)
    refine ⟨_, rfl, p, _, _, _, rfl, rfl, SqT.of hN3.top, atI_nat (j := 3) rfl, _, rfl, p, _, _, _, rfl, rfl, SqT.of hN3.top, atI_nat (j := 4) rfl, _, rfl, p, _, _, _, rfl, rfl, SqT.of hN3.top, atI_nat (j := 5) rfl, by show 6 ≤ sizeLine; decide, fun t ht => ?_⟩
    have st := same_new ht (.tup [.str "net", .ref pi, .ref pr', .ref pa, .ref po, .ref pc])
    have hN4 := hN3.keep (.same st)
    have hN' : NetAt _ t pi pr' pa po pc vs va vo vc ⟨N.ins, rows, N.ands, N.outs, N.cls⟩ := ⟨upd_same, hN4.hi, st _ _ upd_same, (lW.keep' (.same s1)).keep' (.same st), hN4.ha, hN4.la, hN4.ho, hN4.lo, hN4.hc, hN4.lc⟩
    refine q _ ⟨N.ins, rows, N.ands, N.outs, N.cls⟩ _ hN'.lay hrl rfl ?_ ((hd2.same s1).same st) ((k2.trans (.of_same s1)).trans (.of_same st))
    have e0 : ring[0]? = some ring[0] := List.getElem?_eq_getElem (by omega)
    refine ⟨ring[0], by show _ < rows.length; rw [hrl]; exact hlt _ (List.getElem_mem _), fun e => ends_closed (S := fun x => x ∈ ring) (fun a ha => ?_) e (List.getElem_mem _)⟩
    obtain ⟨j, hj⟩ := List.mem_iff_getElem?.mp ha
    have hjl := (List.getElem?_eq_some_iff.mp hj).1
    obtain ⟨b, l, hb, hl1, hl2⟩ := hok j a (by omega) hj
    refine ⟨b, ?_, hb⟩
    have hbl := hlt b hb
    unfold Net.nxt Net.flw
    rw [List.getElem?_map] at hl1
    obtain ⟨rr, hrr, rfl⟩ := Option.map_eq_some_iff.mp hl1
    rw [List.getD_eq_getElem?_getD]
    show Net.regAt _ ((rows[a]?).getD ("", 0, 0)).2.2 = _
    rw [hrr]
    show (if 1 + N.ins.length ≤ rr.2.2 / 2 ∧ rr.2.2 / 2 < 1 + N.ins.length + rows.length then some (rr.2.2 / 2 - 1 - N.ins.length) else none) = some b
    rw [if_pos (by omega)]
    exact congrArg some (by omega)
end

end Bf

set_option Elab.async false
set_option linter.all false
set_option maxRecDepth 100000
set_option maxHeartbeats 4000000
namespace Bf
open PySem PySem.Spec PyProof.Rows L2
/-! ### the law -/
def optD : Option (Str × List Int × List Int) → PyData
  | none => .none
  | some b => barD b
theorem optAt {H : Hp} {x : V} : ∀ {bar : Option (Str × List Int × List Int)}, Lay H x (optD bar) → BarAt H x bar
  | none, h => by cases h; rfl
  | some _, h => h
theorem optLay {H : Hp} {x : V} : ∀ {bar : Option (Str × List Int × List Int)}, BarAt H x bar → Lay H x (optD bar)
  | none, h => by rw [show x = .non from h]; exact .non
  | some _, h => h
abbrev Ask := Int × Option (Str × List Int × List Int)
def askD (q : Ask) : PyData := .tuple [.int q.1, optD q.2]
def AskOk (q : Ask) : Prop := q.1 ≤ 1000000 ∧ ∀ b, q.2 = some b → b.2.1.length ≤ 200 ∧ b.2.2.length ≤ 200
theorem Lay.ask {H : Hp} {v : V} {q : Ask} (h : Lay H v (askD q)) : ∃ t x, v = .ref t ∧ H t = some (.tup [.int q.1, x]) ∧ BarAt H x q.2 := by
  obtain ⟨t, vs, rfl, e, l⟩ := h.tup_inv
  obtain ⟨v0, u0, rfl, l0, l⟩ := l.cons_inv
  obtain ⟨v1, u1, rfl, l1, l⟩ := l.cons_inv
  obtain rfl := l.nil_inv
  obtain rfl := l0.int_inv
  exact ⟨t, v1, rfl, e, optAt l1⟩
structure LawSt (H : Hp) (d c : Addr) (v : V) (N : Net) (r : Addr) (qs : List Addr) (BL : Addr) (bvs : List V) (bars : List (Option (Str × List Int × List Int))) : Prop where
  ds : DS H d c
  lv : Lay H v (netD N)
  hF : FeedsAt H r (srcs N) qs
  nB : BL ≠ d
  eB : H BL = some (.lst bvs)
  lB : LayAll H bvs (bars.map optD)
theorem LawSt.keep {H H' : Hp} {d c : Addr} {v : V} {N : Net} {r : Addr} {qs : List Addr} {BL : Addr} {bvs : List V} {bars : List (Option (Str × List Int × List Int))} (h : LawSt H d c v N r qs BL bvs bars) (k : Keep [d] H H') (hd : DS H' d c) : LawSt H' d c v N r qs BL bvs bars :=
  ⟨hd, h.lv.keep' (k.tup1 h.ds), h.hF.keepD k h.ds, h.nB, k _ _ (by simp [h.nB]) h.eB, h.lB.keep' (k.tup1 h.ds)⟩
theorem LawSt.same {H H' : Hp} {d c : Addr} {v : V} {N : Net} {r : Addr} {qs : List Addr} {BL : Addr} {bvs : List V} {bars : List (Option (Str × List Int × List Int))} (h : LawSt H d c v N r qs BL bvs bars) (s : Same H H') : LawSt H' d c v N r qs BL bvs bars := h.keep (.of_same s) (h.ds.same s)
structure AskSt (H : Hp) (d AL : Addr) (vs : List V) (asks : List Ask) (n : Nat) : Prop where
  ne : AL ≠ d
  e : H AL = some (.lst vs)
  l : LayAll H vs (asks.map askD)
  len : asks.length ≤ n
  ok : ∀ q ∈ asks, AskOk q
  nn : asks ≠ []
theorem AskSt.keep {H H' : Hp} {d c AL : Addr} {vs : List V} {asks : List Ask} {n : Nat} (h : AskSt H d AL vs asks n) (k : Keep [d] H H') (hd : DS H d c) : AskSt H' d AL vs asks n :=
  ⟨h.ne, k _ _ (by simp [h.ne]) h.e, h.l.keep' (k.tup1 hd), h.len, h.ok, h.nn⟩
theorem AskSt.same {H H' : Hp} {d AL : Addr} {vs : List V} {asks : List Ask} {n : Nat} (h : AskSt H d AL vs asks n) (s : Same H H') : AskSt H' d AL vs asks n :=
  ⟨h.ne, s _ _ h.e, h.l.keep' (.same s), h.len, h.ok, h.nn⟩
theorem AskSt.more {H : Hp} {d AL : Addr} {vs : List V} {asks : List Ask} {n m : Nat} (h : AskSt H d AL vs asks n) (e : n ≤ m) : AskSt H d AL vs asks m := ⟨h.ne, h.e, h.l, Nat.le_trans h.len e, h.ok, h.nn⟩
theorem AskSt.cat {H : Hp} {d c AL CL : Addr} {vs us : List V} {asks bsks : List Ask} {n m : Nat} (h : AskSt H d AL vs asks n) (hd : DS H d c) (hC : H CL = none) (lb : LayAll H us (bsks.map askD)) (hm : bsks.length ≤ m) (ho : ∀ q ∈ bsks, AskOk q) : AskSt (upd H CL (.lst (vs ++ us))) d CL (vs ++ us) (asks ++ bsks) (n + m) := by
  have s := same_new hC (.lst (vs ++ us))
  refine ⟨(hd.new hC).1, upd_same, ?_, by rw [List.length_append]; have := h.len; omega, fun q hq => ?_, fun e => h.nn (List.append_eq_nil_iff.mp e).1⟩
  · rw [List.map_append]
    exact (h.l.keep' (.same s)).app (lb.keep' (.same s))
  · rcases List.mem_append.mp hq with e | e
    · exact h.ok q e
    · exact ho q e
section
variable {P : Program} {w : World} {K : PySem.W.Frag} {mg : Str → Option Value} {base : Heap} {f : Addr} {fd : FuncData}
def spLaw (K : PySem.W.Frag) : Sp := fun vs H Q _ => ∃ (a : Addr) (ns : List Int), vs = [.ref a] ∧ SqL K H a (ns.map V.int) ∧ ns.length ≤ 63 ∧ ∀ H', Q (.bl true) H'
theorem ok_law (F : Fun K "law" "law" s_law f fd) (T : Txt mg) (D_law_begin : Dn P w K mg base "_law_begin" ["_law_script"] 1 (spBegin K)) (D_law_draw : Dn P w K mg base "_law_draw" ["_law_d", "_law_many"] 1 spDraw)
    (D_law_open_net : Dn P w K mg base "_law_open_net" ["_law_d", "_law_inputs", "_law_regs", "_law_ands", "_law_outputs", "_law_claims"] 4 spNetO) (D_law_feeds : Dn P w K mg base "_law_feeds" ["_law_net"] 2 spFeeds)
    (D_law_way : Dn P w K mg base "_law_way" ["_law_d", "_law_net", "_law_feeds_here"] 4 spBarD) (D_law_ring : Dn P w K mg base "_law_ring" ["_law_d", "_law_net", "_law_feeds_here"] 4 spBarD)
    (D_law_spoilt : Dn P w K mg base "_law_spoilt" ["_law_d", "_law_bar", "_law_size"] 3 spSpoil) (D_law_is_judged : Dn P w K mg base "_law_is_judged" ["_law_net", "_law_feeds_here", "_law_clock", "_law_bar"] 5 spIsJudged)
    (D_law_ringed : Dn P w K mg base "_law_ringed" ["_law_d", "_law_net"] 3 spRinged) (D_judge_bar : Dn P w K mg base "judge_bar" ["net", "clock", "bar"] 4 spJudge) :
    FnOk P w K mg base CX0 6 f fd ["_law_script"] (spLaw K) := by
  refine F.ok sc_law (fun vs H Q E h => ?_) (fun cdv A outer s H vs Q E hr h => ?_)
  · obtain ⟨a, ns, rfl, _⟩ := h
    rfl
  obtain ⟨a, ns, rfl, hS, h63, q⟩ := h
  refine ⟨_, (pss_cons (ps_set (i := 1) sc_law.nd rfl (Or.inr rfl) (pe_dn D_law_begin (hr.mono (by omega)) (by rfl) (pa_cons (pv 0) pa_nil)))
      (pss_cons (ps_asg (pe_tup (pa_cons (pe_dn D_law_draw (hr.mono (by omega)) (by rfl) (pa_cons (pv 1) (pa_cons pe_int pa_nil))) (pa_cons (pe_dn D_law_draw (hr.mono (by omega)) (by rfl) (pa_cons (pv 1) (pa_cons pe_int pa_nil))) (pa_cons (pe_dn D_law_draw (hr.mono (by omega)) (by rfl) (pa_cons (pv 1) (pa_cons pe_int pa_nil))) pa_nil)))) (pg_tup rfl (pgs_cons (pg_name (i := 2) sc_law.nd rfl (Or.inr rfl)) (pgs_cons (pg_name (i := 3) sc_law.nd rfl (Or.inr rfl)) (pgs_cons (pg_name (i := 4) sc_law.nd rfl (Or.inr rfl)) pgs_nil)))))
      (pss_cons (ps_set (i := 5) sc_law.nd rfl (Or.inl rfl) (pe_dn D_law_open_net (hr.mono (by omega)) (by rfl) (pa_cons (pv 1) (pa_cons (pv 2) (pa_cons (pv 3) (pa_cons (pv 4) (pa_cons pe_int (pa_cons (pe_dn D_law_draw (hr.mono (by omega)) (by rfl) (pa_cons (pv 1) (pa_cons pe_int pa_nil))) pa_nil))))))))
      (C8.pss_cut (ps_set (i := 6) sc_law.nd rfl (Or.inl rfl) (pe_dn D_law_feeds (hr.mono (by omega)) (by rfl) (pa_cons (pv 5) pa_nil)))
      (C8.pss_cut (ps_set (i := 7) sc_law.nd rfl (Or.inl rfl) (pe_ifExp (pt_cmpR op_eq (pv 4) pe_int (nomark _)) (pe_lst pa_nil) (pe_lst (pa_cons (pe_dn D_law_way (hr.mono (by omega)) (by rfl) (pa_cons (pv 1) (pa_cons (pv 5) (pa_cons (pv 6) pa_nil)))) (pa_cons (pe_dn D_law_ring (hr.mono (by omega)) (by rfl) (pa_cons (pv 1) (pa_cons (pv 5) (pa_cons (pv 6) pa_nil)))) pa_nil)))))
      (C8.pss_cut (ps_set (i := 8) sc_law.nd rfl (Or.inl rfl) (pe_lst (pa_cons (pe_tup (pa_cons pe_int (pa_cons pe_non pa_nil))) (pa_cons (pe_tup (pa_cons pe_int (pa_cons pe_non pa_nil))) (pa_cons (pe_tup (pa_cons (pe_un un_neg pe_int) (pa_cons pe_non pa_nil))) (pa_cons (pe_tup (pa_cons pe_int (pa_cons (pe_tup (pa_cons pe_str (pa_cons (pe_tup pa_nil) (pa_cons (pe_tup pa_nil) pa_nil)))) pa_nil))) (pa_cons (pe_tup (pa_cons pe_int (pa_cons (pe_tup (pa_cons pe_str (pa_cons (pe_tup pa_nil) (pa_cons (pe_tup pa_nil) pa_nil)))) pa_nil))) pa_nil)))))))
      (C8.pss_cut (ps_for PassesOwn.never rfl (pi_list (pv 7)) (pg_name (i := 9) sc_law.nd rfl (Or.inr rfl)) (pss_one (ps_if (pt_cmpR op_notN (pv 9) pe_non (nomark _)) (C8.pss_cut (ps_set (i := 10) sc_law.nd rfl (Or.inl rfl) (pe_op op_add (pe_callB (cr_sumT rfl) (by rfl) T.n_sum (by decide +kernel) (pa_cons (pe_ix ix_tup (pv 9) pe_int (fun _ _ => rfl)) pa_nil)) (pe_ifExp (pt_cmpR op_eq (pe_ix ix_tup (pv 9) pe_int (fun _ _ => rfl)) pe_str (nomark _)) pe_int pe_int)))
      (C8.pss_cut (ps_set (i := 11) sc_law.nd rfl (Or.inr rfl) (pe_op op_add pe_int (pe_op op_fdiv (pe_op op_sub (pe_callB call_len_seq (by rfl) T.n_len (by decide +kernel) (pa_cons (pe_ix ix_tup (pv 9) pe_int (fun _ _ => rfl)) pa_nil)) pe_int) (pv 10))))
      (C8.pss_cut (ps_set (i := 8) sc_law.nd rfl (Or.inl rfl) (pe_op op_cat (pv 8) (pe_lc (own := [("_law_clock", 12)]) (g := (gName 12)) (tt := tYes) rfl sc_law.nd (pi_tup (pe_tup (pa_cons (pv 11) (pa_cons (pe_op op_add (pv 11) pe_int) (pa_cons pe_int (pa_cons pe_int (pa_cons (pe_un un_neg pe_int) pa_nil))))))) (blkOk_by (N := ["_law_script", "_law_d", "_law_inputs", "_law_regs", "_law_ands", "_law_net", "_law_feeds_here", "_law_bars", "_law_asked", "_law_bar", "_law_whole", "_law_most", "_law_clock", "_law_spoilt_here", "_law_other", "_law_k"]) (sc := defScope s_law) (by decide +kernel)) (fun _ _ _ _ _ => (pg_name (i := 12) sc_law.nd rfl (Or.inl rfl))) (fun _ _ _ _ _ => pts_nil) (fun _ _ _ _ _ => (pe_tup (pa_cons (pv 12) (pa_cons (pv 9) pa_nil)))))))
      (C8.pss_cut (ps_setLc (i := 13) (own := [("_law_k", 15)]) (g := (gName 15)) (tt := tYes) rfl sc_law.nd rfl rfl (sw_true rfl rfl rfl (by decide +kernel)) (pi_range1 rfl T.n_range (pa_cons pe_int pa_nil)) (blkOk_by (N := ["_law_script", "_law_d", "_law_inputs", "_law_regs", "_law_ands", "_law_net", "_law_feeds_here", "_law_bars", "_law_asked", "_law_bar", "_law_whole", "_law_most", "_law_clock", "_law_spoilt_here", "_law_other", "_law_k"]) (sc := defScope s_law) (by decide +kernel)) (fun _ _ _ _ _ => (pg_name (i := 15) sc_law.nd rfl (Or.inl rfl))) (fun _ _ _ _ _ => pts_nil) (fun _ _ _ _ _ => (pe_dn D_law_spoilt (hr.mono (by omega)) (by rfl) (pa_cons (pv 1) (pa_cons (pv 9) (pa_cons (pe_op op_add (pe_op op_add (pe_op op_add pe_int (pv 2)) (pv 3)) (pv 4)) pa_nil))))))
      (pss_one (ps_set (i := 8) sc_law.nd rfl (Or.inl rfl) (pe_op op_cat (pv 8) (pe_lc (own := [("_law_other", 14)]) (g := (gName 14)) (tt := tYes) rfl sc_law.nd (pi_list (pv 13)) (blkOk_by (N := ["_law_script", "_law_d", "_law_inputs", "_law_regs", "_law_ands", "_law_net", "_law_feeds_here", "_law_bars", "_law_asked", "_law_bar", "_law_whole", "_law_most", "_law_clock", "_law_spoilt_here", "_law_other", "_law_k"]) (sc := defScope s_law) (by decide +kernel)) (fun _ _ _ _ _ => (pg_name (i := 14) sc_law.nd rfl (Or.inl rfl))) (fun _ _ _ _ _ => pts_nil) (fun _ _ _ _ _ => (pe_tup (pa_cons (pe_op op_add pe_int (pe_dn D_law_draw (hr.mono (by omega)) (by rfl) (pa_cons (pv 1) (pa_cons (pv 11) pa_nil)))) (pa_cons (pv 14) pa_nil)))))))))))) pss_nil)))
      (C8.pss_cut (ps_for PassesOwn.never rfl (pi_list (pv 8)) (pg_tup rfl (pgs_cons (pg_name (i := 12) sc_law.nd rfl (Or.inl rfl)) (pgs_cons (pg_name (i := 9) sc_law.nd rfl (Or.inr rfl)) pgs_nil))) (pss_one (ps_if (pt_not (pt_val (pe_dn D_law_is_judged (hr.mono (by omega)) (by rfl) (pa_cons (pv 5) (pa_cons (pv 6) (pa_cons (pv 12) (pa_cons (pv 9) pa_nil))))))) (pss_one (ps_ret pe_bl)) pss_nil)))
      (pss_cons (ps_if (pt_cmpR op_eq (pv 3) pe_int (nomark _)) (pss_one (ps_ret pe_bl)) pss_nil)
      (pss_cons (ps_set (i := 14) sc_law.nd rfl (Or.inl rfl) (pe_dn D_law_ringed (hr.mono (by omega)) (by rfl) (pa_cons (pv 1) (pa_cons (pv 5) pa_nil))))
      (pss_cons (ps_for PassesOwn.never rfl (pi_list (pv 8)) (pg_tup rfl (pgs_cons (pg_name (i := 12) sc_law.nd rfl (Or.inl rfl)) (pgs_cons (pg_name (i := 9) sc_law.nd rfl (Or.inr rfl)) pgs_nil))) (pss_one (ps_if (pt_cmpR op_notBl (pe_dn D_judge_bar (hr.mono (by omega)) (by rfl) (pa_cons (pv 14) (pa_cons (pv 12) (pa_cons (pv 9) pa_nil)))) pe_bl (nomark _)) (pss_one (ps_ret pe_bl)) pss_nil)))
      (pss_one (ps_ret (pe_dn D_law_is_judged (hr.mono (by omega)) (by rfl) (pa_cons (pv 5) (pa_cons (pv 6) (pa_cons (pe_ix ix_tup (pe_ix ix_list (pv 8) (pe_un un_neg pe_int) (fun _ _ => rfl)) pe_int (fun _ _ => rfl)) (pa_cons (pe_ix ix_tup (pe_ix ix_list (pv 8) (pe_un un_neg pe_int) (fun _ _ => rfl)) pe_int (fun _ _ => rfl)) pa_nil)))))))))))))))))), ?_⟩
  refine ⟨_, rfl, a, ns, rfl, hS, h63, fun d c H1 nd nc hd1 s1 => ?_⟩
  refine ⟨_, rfl, d, c, 4, rfl, hd1, by decide, by decide, fun a0 H2 a1 a2 hd2 k2 => ?_⟩
  refine ⟨_, rfl, d, c, 7, rfl, hd2, by decide, by decide, fun b0 H3 b1 b2 hd3 k3 => ?_⟩
  refine ⟨_, rfl, d, c, 13, rfl, hd3, by decide, by decide, fun m0 H4 m1 m2 hd4 k4 => ⟨by show 3 ≤ sizeLine; decide, fun t0 ht0 => ⟨t0, _, rfl, SqT.of upd_same, rfl, _, _, rfl, _, _, rfl, _, _, rfl, rfl, ?_⟩⟩⟩
  have hd5 := hd4.same (same_new ht0 (.tup [V.int a0, V.int b0, V.int m0]))
  generalize upd H4 t0 (.tup [V.int a0, V.int b0, V.int m0]) = H5 at hd5 ⊢
  clear k2 k3 k4 hd1 hd2 hd3 hd4 s1 ht0
  obtain ⟨ni, rfl⟩ := Int.eq_ofNat_of_zero_le a1
  obtain ⟨nr, rfl⟩ := Int.eq_ofNat_of_zero_le b1
  obtain ⟨na, rfl⟩ := Int.eq_ofNat_of_zero_le m1
  refine ⟨_, rfl, _, rfl, _, rfl, _, rfl, _, rfl, d, c, 2, rfl, hd5, by decide, by decide, fun k0 H6 k1 k2 hd6 k6 => ?_⟩
  obtain ⟨nk, rfl⟩ := Int.eq_ofNat_of_zero_le k1
  refine ⟨d, c, ni, nr, na, 1, nk, rfl, hd6, by omega, by omega, fun v N ρ H7 lv O low eni enr ena _ _ hd7 k7 => ?_⟩
  have r60 : N.regs.length ≤ 60 := by omega
  have a60 : N.ands.length ≤ 60 := by omega
  refine ⟨fun σ' H' => ∃ (r : Addr) (qs : List Addr), σ' = [some (.ref a), some (.ref d), some (vI ni), some (vI nr), some (vI na), some v, some (.ref r), none, none, none, none, none, none, none, none, none] ∧ DS H' d c ∧ Lay H' v (netD N) ∧ FeedsAt H' r (srcs N) qs, ?_, ?_⟩
  · refine ⟨_, rfl, v, N, ρ, rfl, lv, O, r60, a60, fun r qs H8 s8 hF => ?_⟩
    exact ⟨r, qs, rfl, hd7.same s8, lv.keep' (.same s8), hF⟩
  rintro σ' H8 ⟨r, qs, rfl, hd8, lv8, hF8⟩
  clear hd7 lv k7 hd6 k6 hd5
  refine ⟨fun σ' H' => ∃ (BL : Addr) (vs : List V) (bars : List (Option (Str × List Int × List Int))), σ' = [some (.ref a), some (.ref d), some (vI ni), some (vI nr), some (vI na), some v, some (.ref r), some (.ref BL), none, none, none, none, none, none, none, none] ∧ DS H' d c ∧ Lay H' v (netD N) ∧ FeedsAt H' r (srcs N) qs ∧ BL ≠ d ∧ H' BL = some (.lst vs) ∧ LayAll H' vs (bars.map optD) ∧ bars.length ≤ 2 ∧ ∀ bar ∈ bars, ∀ b, bar = some b → BarG b, ?_, ?_⟩
  · refine ⟨_, rfl, rfl, _, rfl, ite2 (fun z => ?_) (fun z => ?_)⟩
    · refine ⟨Nat.zero_le _, fun L hL => ?_⟩
      have sL := same_new hL (.lst [])
      exact ⟨L, [], [], rfl, hd8.same sL, lv8.keep' (.same sL), hF8.same sL, (hd8.new hL).1, upd_same, .nil, by decide, fun b h => by cases h⟩
    · have z : (na : Int) ≠ 0 := fun e => z (decide_eq_true (show V.int (na : Int) = V.int 0 from congrArg V.int e))
      refine ⟨_, rfl, _, rfl, _, rfl, d, c, r, v, qs, N, rfl, hd8, lv8, hF8, low, r60, a60, by omega, fun x1 bar1 H9 hx1 hg1 hd9 k9 => ?_⟩
      have kt9 := k9.tup1 hd8
      have hF9 := hF8.keepD k9 hd8
      refine ⟨_, rfl, _, rfl, _, rfl, d, c, r, v, qs, N, rfl, hd9, lv8.keep' kt9, hF9, low, r60, a60, by omega, fun x2 bar2 H10 hx2 hg2 hd10 k10 => ⟨by show 2 ≤ sizeLine; decide, fun L hL => ?_⟩⟩
      have kt10 := k10.tup1 hd9
      have sL := same_new hL (.lst [x1, x2])
      refine ⟨L, [x1, x2], [bar1, bar2], rfl, hd10.same sL, ((lv8.keep' kt9).keep' kt10).keep' (.same sL), (hF9.keepD k10 hd9).same sL, (hd10.new hL).1, upd_same, .cons (((optLay hx1).keep' kt10).keep' (.same sL)) (.cons ((optLay hx2).keep' (.same sL)) .nil), Nat.le_refl _, fun bar hb b e => ?_⟩
      rcases List.mem_cons.mp hb with h | h
      · exact hg1 b (by rw [← h]; exact e)
      · exact hg2 b (by rw [← List.mem_singleton.mp h]; exact e)
  rintro σ' H9 ⟨BL, bvs, bars, rfl, hd9, lv9, hF9, nBd, eB, lB, hbl, hbg⟩
  have L9 : LawSt H9 d c v N r qs BL bvs bars := ⟨hd9, lv9, hF9, nBd, eB, lB⟩
  clear hd8 lv8 hF8 hd9 lv9 hF9 eB lB
  refine ⟨fun σ' H' => ∃ (AL : Addr) (vs : List V) (asks : List Ask), σ' = [some (.ref a), some (.ref d), some (vI ni), some (vI nr), some (vI na), some v, some (.ref r), some (.ref BL), some (.ref AL), none, none, none, none, none, none, none] ∧ LawSt H' d c v N r qs BL bvs bars ∧ AskSt H' d AL vs asks 5, ?_, ?_⟩
  · refine ⟨by show 2 ≤ sizeLine; decide, fun t1 ht1 => ?_⟩
    have s1 := same_new ht1 (.tup [V.int 0, V.non])
    have l1 : Lay (upd H9 t1 (.tup [V.int 0, V.non])) (.ref t1) (askD (0, none)) := .tup upd_same (.cons (.int _) (.cons .non .nil))
    generalize upd H9 t1 (.tup [V.int 0, V.non]) = G1 at s1 l1 ⊢
    refine ⟨by show 2 ≤ sizeLine; decide, fun t2 ht2 => ?_⟩
    have s2 := same_new ht2 (.tup [V.int 1, V.non])
    have l2 : Lay (upd G1 t2 (.tup [V.int 1, V.non])) (.ref t2) (askD (1, none)) := .tup upd_same (.cons (.int _) (.cons .non .nil))
    generalize upd G1 t2 (.tup [V.int 1, V.non]) = G2 at s2 l2 ⊢
    refine ⟨_, rfl, by show 2 ≤ sizeLine; decide, fun t3 ht3 => ?_⟩
    have s3 := same_new ht3 (.tup [V.int (-1), V.non])
    have l3 : Lay (upd G2 t3 (.tup [V.int (-1), V.non])) (.ref t3) (askD (-1, none)) := .tup upd_same (.cons (.int _) (.cons .non .nil))
    generalize upd G2 t3 (.tup [V.int (-1), V.non]) = G3 at s3 l3 ⊢
    refine ⟨Nat.zero_le _, fun e1 he1 => ⟨Nat.zero_le _, fun e2 he2 => ⟨by show 3 ≤ sizeLine; decide, fun w1 hw1 => ⟨by show 2 ≤ sizeLine; decide, fun t4 ht4 => ?_⟩⟩⟩⟩
    have sa := same_new he2 (.tup [])
    have sb := same_new hw1 (.tup [.str "way", .ref e1, .ref e2])
    have sc := same_new ht4 (.tup [V.int 1, .ref w1])
    have s4 := (((same_new he1 (.tup [])).trans sa).trans sb).trans sc
    have l4 : Lay (upd (upd (upd (upd G3 e1 (.tup [])) e2 (.tup [])) w1 (.tup [.str "way", .ref e1, .ref e2])) t4 (.tup [V.int 1, .ref w1])) (.ref t4) (askD (1, some ("way", [], []))) :=
      .tup upd_same (.cons (.int _) (.cons (.tup (sc _ _ upd_same) (.cons (.str _) (.cons (.tup (sc _ _ (sb _ _ (sa _ _ upd_same))) .nil) (.cons (.tup (sc _ _ (sb _ _ upd_same)) .nil) .nil)))) .nil))
    generalize upd (upd (upd (upd G3 e1 (.tup [])) e2 (.tup [])) w1 (.tup [.str "way", .ref e1, .ref e2])) t4 (.tup [V.int 1, .ref w1]) = G4 at s4 l4 ⊢
    refine ⟨Nat.zero_le _, fun f1 hf1 => ⟨Nat.zero_le _, fun f2 hf2 => ⟨by show 3 ≤ sizeLine; decide, fun w2 hw2 => ⟨by show 2 ≤ sizeLine; decide, fun t5 ht5 => ?_⟩⟩⟩⟩
    have sa' := same_new hf2 (.tup [])
    have sb' := same_new hw2 (.tup [.str "ring", .ref f1, .ref f2])
    have sc' := same_new ht5 (.tup [V.int 2, .ref w2])
    have s5 := (((same_new hf1 (.tup [])).trans sa').trans sb').trans sc'
    have l5 : Lay (upd (upd (upd (upd G4 f1 (.tup [])) f2 (.tup [])) w2 (.tup [.str "ring", .ref f1, .ref f2])) t5 (.tup [V.int 2, .ref w2])) (.ref t5) (askD (2, some ("ring", [], []))) :=
      .tup upd_same (.cons (.int _) (.cons (.tup (sc' _ _ upd_same) (.cons (.str _) (.cons (.tup (sc' _ _ (sb' _ _ (sa' _ _ upd_same))) .nil) (.cons (.tup (sc' _ _ (sb' _ _ upd_same)) .nil) .nil)))) .nil))
    generalize upd (upd (upd (upd G4 f1 (.tup [])) f2 (.tup [])) w2 (.tup [.str "ring", .ref f1, .ref f2])) t5 (.tup [V.int 2, .ref w2]) = G5 at s5 l5 ⊢
    refine ⟨by show 5 ≤ sizeLine; decide, fun AL hAL => ?_⟩
    have s6 := same_new hAL (.lst [.ref t1, .ref t2, .ref t3, .ref t4, .ref t5])
    have sAll := ((((s1.trans s2).trans s3).trans s4).trans s5).trans s6
    have L10 := L9.same sAll
    refine ⟨AL, [.ref t1, .ref t2, .ref t3, .ref t4, .ref t5], [(0, none), (1, none), (-1, none), (1, some ("way", [], [])), (2, some ("ring", [], []))], rfl, L10, ?_, upd_same, ?_, Nat.le_refl _, ?_, by simp⟩
    · exact ((L9.same (((s1.trans s2).trans s3).trans (s4.trans s5))).ds.new hAL).1
    · exact .cons ((((((l1.keep' (.same s2)).keep' (.same s3)).keep' (.same s4)).keep' (.same s5))).keep' (.same s6)) (.cons ((((l2.keep' (.same s3)).keep' (.same s4)).keep' (.same s5)).keep' (.same s6)) (.cons (((l3.keep' (.same s4)).keep' (.same s5)).keep' (.same s6)) (.cons ((l4.keep' (.same s5)).keep' (.same s6)) (.cons (l5.keep' (.same s6)) .nil))))
    · intro q' hq'
      simp only [List.mem_cons, List.not_mem_nil, or_false] at hq'
      rcases hq' with h | h | h | h | h <;> subst h <;> refine ⟨by decide, fun b e => ?_⟩ <;> cases e <;> exact ⟨by decide, by decide⟩
  rintro σ' H10 ⟨AL, avs, asks, rfl, L10, A10⟩
  clear L9
  refine ⟨fun σ' H' => ∃ (AL : Addr) (vs : List V) (asks : List Ask) (v9 v10 v11 v12 v13 v14 v15 : Option V), σ' = [some (.ref a), some (.ref d), some (vI ni), some (vI nr), some (vI na), some v, some (.ref r), some (.ref BL), some (.ref AL), v9, v10, v11, v12, v13, v14, v15] ∧ LawSt H' d c v N r qs BL bvs bars ∧ AskSt H' d AL vs asks 21, ?_, ?_⟩
  · refine ⟨_, rfl, BL, rfl, ⟨_, SqL.of L10.eB⟩, for_it (walk_list (xs := bvs)) (fun i σ' H' => ∃ (AL : Addr) (vs : List V) (asks : List Ask) (v9 v10 v11 v12 v13 v14 v15 : Option V), σ' = [some (.ref a), some (.ref d), some (vI ni), some (vI nr), some (vI na), some v, some (.ref r), some (.ref BL), some (.ref AL), v9, v10, v11, v12, v13, v14, v15] ∧ LawSt H' d c v N r qs BL bvs bars ∧ AskSt H' d AL vs asks (5 + 8 * i)) ⟨AL, avs, asks, _, _, _, _, _, _, _, rfl, L10, A10⟩ (fun i σ' H' _ pp => ?_) (fun i x σ' H11 H12 hi pp y => ?_) (fun σ' H11 pp => ?_)⟩
    · obtain ⟨_, _, _, _, _, _, _, _, _, _, _, L, _⟩ := pp
      exact SqL.of L.eB
    · obtain ⟨AL, vs, asks, v9, v10, v11, v12, v13, v14, v15, rfl, L, A⟩ := pp
      obtain ⟨rfl, hx⟩ := y
      have hbv : bvs.length = bars.length := by simpa using L.lB.len
      obtain ⟨dd, hd1, hd2⟩ := L.lB.get i hx
      obtain ⟨bar, hbar, rfl⟩ := mapAtD hd1
      cases bar with
      | none =>
        obtain rfl : x = .non := optAt hd2
        refine ⟨_, rfl, rfl, _, rfl, ifN rfl ?_⟩
        exact ⟨AL, vs, asks, _, _, _, _, _, _, _, rfl, L, A.more (by omega)⟩
      | some b =>
        obtain ⟨w, ands, counts⟩ := b
        obtain ⟨g0, g1, g2, g3, g4, g5⟩ := hbg _ (List.mem_of_getElem? hbar) _ rfl
        have g1 : 1 ≤ ands.length := g1
        have g2 : ands.length ≤ 40 := g2
        have g3 : counts.length = ands.length := g3
        have g4 : 1 ≤ counts.sum + (if w = "way" then 1 else 0) := g4
        have g5 : counts.sum ≤ 2400 := g5
        have lx : Lay H12 x (barD (w, ands, counts)) := hd2
        obtain ⟨qb, qa, qc, rfl, eb, ea, ec⟩ := lx.bar
        have eb : H12 qb = some (.tup [.str w, .ref qa, .ref qc]) := eb
        have ea : H12 qa = some (.tup (ands.map V.int)) := ea
        have ec : H12 qc = some (.tup (counts.map V.int)) := ec
        refine ⟨_, rfl, rfl, _, rfl, ifY rfl ?_⟩
        refine ⟨fun σ' H' => ∃ wh : Int, 1 ≤ wh ∧ wh ≤ 2401 ∧ σ' = [some (.ref a), some (.ref d), some (vI ni), some (vI nr), some (vI na), some v, some (.ref r), some (.ref BL), some (.ref AL), some (.ref qb), some (.int wh), v11, v12, v13, v14, v15] ∧ H' = H12, ?_, ?_⟩
        · refine ⟨_, rfl, qb, _, _, _, rfl, rfl, SqT.of eb, atI_nat (j := 2) rfl, qc, counts, rfl, SqT.of ec, ?_⟩
          refine ⟨_, rfl, qb, _, _, _, rfl, rfl, SqT.of eb, atI_nat (j := 0) rfl, rfl, _, rfl, ite2 (fun z => ?_) (fun z => ?_)⟩
          · have z : w = "way" := V.str.inj (of_decide_eq_true z)
            rw [if_pos z] at g4
            exact ⟨_, _, rfl, rfl, counts.sum + 1, g4, by omega, rfl, rfl⟩
          · have z : ¬ w = "way" := fun e => z (decide_eq_true (congrArg V.str e))
            rw [if_neg z] at g4
            exact ⟨_, _, rfl, rfl, counts.sum + 0, g4, by omega, rfl, rfl⟩
        rintro σ' H13 ⟨wh, wh1, wh2, rfl, rfl⟩
        have hM1 : 1 ≤ 1 + (((ands.map V.int).length : Nat) - 1 : Int) / wh := by
          have : 0 ≤ ((((ands.map V.int).length : Nat) : Int) - 1) / wh := Int.ediv_nonneg (by rw [List.length_map]; omega) (by omega)
          omega
        have hM2 : 1 + (((ands.map V.int).length : Nat) - 1 : Int) / wh ≤ 40 := by
          have : ((((ands.map V.int).length : Nat) : Int) - 1) / wh ≤ (((ands.map V.int).length : Nat) : Int) - 1 := Int.ediv_le_self _ (by rw [List.length_map]; omega)
          rw [List.length_map] at this ⊢
          omega
        refine ⟨fun σ' H' => ∃ M : Int, 1 ≤ M ∧ M ≤ 40 ∧ σ' = [some (.ref a), some (.ref d), some (vI ni), some (vI nr), some (vI na), some v, some (.ref r), some (.ref BL), some (.ref AL), some (.ref qb), some (.int wh), some (.int M), v12, v13, v14, v15] ∧ Same H13 H', ?_, ?_⟩
        · exact ⟨_, rfl, qb, _, _, _, rfl, rfl, SqT.of eb, atI_nat (j := 1) rfl, qa, _, rfl, .inr (SqT.of ea), _, _, rfl, rfl, _, rfl, _, _, rfl, rfl, ⟨by omega, by omega⟩, _, _, rfl, rfl, _, hM1, hM2, rfl, .refl _⟩
        rintro σ' H12 ⟨M, hM1, hM2, rfl, s13⟩
        replace L := L.same s13
        replace A := A.same s13
        replace lx := lx.keep' (.same s13)
        clear eb ea ec
        refine ⟨fun σ' H' => ∃ (AL : Addr) (vs : List V) (asks : List Ask) (v12 v14 v15 : Option V), σ' = [some (.ref a), some (.ref d), some (vI ni), some (vI nr), some (vI na), some v, some (.ref r), some (.ref BL), some (.ref AL), some (.ref qb), some (.int wh), some (.int M), v12, v13, v14, v15] ∧ LawSt H' d c v N r qs BL bvs bars ∧ AskSt H' d AL vs asks (5 + 8 * i + 5) ∧ Lay H' (.ref qb) (barD (w, ands, counts)), ?_, ?_⟩
        · refine ⟨_, rfl, _, rfl, _, rfl, _, _, rfl, rfl, _, rfl, by show 5 ≤ sizeLine; decide, fun T hT => ?_⟩
          have sT := same_new hT (.tup [.int M, .int (M + 1), .int 1, .int 0, .int (-1)])
          have eT := upd_same (H := H12) (a := T) (o := .tup [.int M, .int (M + 1), .int 1, .int 0, .int (-1)])
          refine ⟨T, rfl, ⟨_, SqT.of eT⟩, fun D hD => ?_⟩
          have lx14 := lx.keep' (.same sT)
          have A14 := A.same sT
          have L14 := L.same sT
          refine lc_rows (walk_tup (xs := [.int M, .int (M + 1), .int 1, .int 0, .int (-1)])) (rows := [M, M + 1, 1, 0, -1]) (f := zD) (g := fun k => ((k, some (w, ands, counts)) : Ask)) (h := askD) (fun H' s => SqT.of (s _ _ eT)) hD (zs_lay [M, M + 1, 1, 0, -1]) (by show 5 ≤ 1000; decide) (fun j y t H' R' Z hn s ly kk => ?_) (fun us2 H15 s15 eD lus2 => ?_)
          · obtain rfl := ly.int_inv
            exact ⟨rfl, _, rfl, _, rfl, by show 2 ≤ sizeLine; decide, fun u hu => kk _ _ (same_new hu _) (.tup upd_same (.cons (.int _) (.cons (((lx14.keep' (.same s)).keep' (.same (same_new hu _))) : Lay _ (.ref qb) (optD (some (w, ands, counts)))) .nil)))⟩
          · have A15 := A14.same s15
            have L15 := L14.same s15
            have hal : vs.length = asks.length := by simpa using A.l.len
            have hul : us2.length = 5 := by simpa using lus2.len
            have hbl2 := A.len
            refine ⟨AL, D, _, _, rfl, rfl, A15.e, eD, le1000 (by omega), fun C hC => ?_⟩
            have sC := same_new hC (.lst (vs ++ us2))
            exact ⟨C, vs ++ us2, _, _, _, _, rfl, L15.same sC, A15.cat L15.ds hC lus2 (Nat.le_refl _) (fun q' hq' => by
              simp only [List.map_cons, List.map_nil, List.mem_cons, List.not_mem_nil, or_false] at hq'
              refine ⟨?_, fun b e => ?_⟩
              · rcases hq' with h | h | h | h | h <;> subst h <;> dsimp only <;> omega
              · have : b = (w, ands, counts) := by rcases hq' with h | h | h | h | h <;> subst h <;> exact (Option.some.inj e).symm
                rw [this]
                exact ⟨by show ands.length ≤ 200; omega, by show counts.length ≤ 200; omega⟩), (lx14.keep' (.same s15)).keep' (.same sC)⟩
        rintro σ' H14 ⟨AL, vs, asks, v12, v14, v15, rfl, L14, A14, lx14⟩
        clear L A lx hd2
        refine ⟨fun σ' H' => ∃ (SL : Addr) (us : List V) (sb : List (Str × List Int × List Int)) (v12 v14 v15 : Option V), σ' = [some (.ref a), some (.ref d), some (vI ni), some (vI nr), some (vI na), some v, some (.ref r), some (.ref BL), some (.ref AL), some (.ref qb), some (.int wh), some (.int M), v12, some (.ref SL), v14, v15] ∧ LawSt H' d c v N r qs BL bvs bars ∧ AskSt H' d AL vs asks (5 + 8 * i + 5) ∧ SL ≠ d ∧ H' SL = some (.lst us) ∧ LayAll H' us (sb.map barD) ∧ sb.length = 3 ∧ ∀ b ∈ sb, b.2.1.length ≤ 200 ∧ b.2.2.length ≤ 200, ?_, ?_⟩
        · refine ⟨3, rfl, by decide, by decide, fun D hD => ?_⟩
          obtain ⟨nDd, nDc⟩ := L14.ds.new hD
          have sD := same_new hD (.lst [])
          refine lc_it walk_range (fun j H' => ∃ acc : List (Str × List Int × List Int), Acc D barD acc H' ∧ acc.length = j ∧ (∀ b ∈ acc, b.2.1.length ≤ 200 ∧ b.2.2.length ≤ 200) ∧ DS H' d c ∧ Keep [d] H14 H') ⟨[], .nil, rfl, fun b h => (by cases h), L14.ds.same sD, .of_same sD⟩ (fun _ _ _ _ => trivial) (fun j x H15 H16 hj pp y => ?_) (fun H15 pp => ?_)
          · obtain ⟨acc, hA, hal, hok, hd15, k15⟩ := pp
            obtain ⟨rfl, rfl⟩ := y
            have esz : V.int (1 + (ni : Int) + (nr : Int) + (na : Int)) = vI (1 + ni + nr + na) := congrArg V.int (by omega)
            refine ⟨rfl, _, rfl, _, rfl, _, rfl, _, _, rfl, rfl, _, rfl, _, _, rfl, rfl, _, rfl, _, _, rfl, rfl, ?_⟩
            refine ⟨d, c, .ref qb, (w, ands, counts), 1 + ni + nr + na, (show [V.ref d, V.ref qb, V.int (1 + (ni : Int) + (nr : Int) + (na : Int))] = _ by rw [esz]), hd15, lx14.keep' (k15.tup1 L14.ds), g1, g2, g3, by omega, fun t b' H17 lt l1 l2 hd17 k17 => ?_⟩
            obtain ⟨us, eu, hlen, hA2, kt2⟩ := (hA.keep k17 (k17.tup1 hd15) (by simp [nDd])).push lt (by omega)
            refine ⟨us, eu, hlen, acc ++ [b'], hA2, by rw [List.length_append, hal]; rfl, fun b hb => ?_, hd17.keep (S := [D]) Keep.at1 (by simp [nDd.symm]) (by simp [nDc.symm]), ((k15.trans k17).cat (Keep.at1 (a := D))).thin (by simp [hD])⟩
            rcases List.mem_append.mp hb with h | h
            · exact hok b h
            · rw [List.mem_singleton.mp h]
              exact ⟨l1, l2⟩
          · obtain ⟨acc, ⟨us, eu, lu⟩, hal, hok, hd15, k15⟩ := pp
            exact ⟨D, us, acc, _, _, _, rfl, L14.keep k15 hd15, A14.keep k15 L14.ds, nDd, eu, lu, hal, hok⟩
        rintro σ' H15 ⟨SL, us, sb, v12, v14, v15, rfl, L15, A15, nSd, eS, lS, hsb, hsok⟩
        clear L14 A14 lx14
        have hul : us.length = sb.length := by simpa using lS.len
        refine ⟨_, rfl, _, rfl, SL, rfl, ⟨_, SqL.of eS⟩, fun D hD => ?_⟩
        obtain ⟨nDd, nDc⟩ := L15.ds.new hD
        have nSD : SL ≠ D := ne_of_none eS hD
        have sD := same_new hD (.lst [])
        refine lc_it (walk_list (xs := us)) (fun j H' => ∃ acc : List Ask, Acc D askD acc H' ∧ acc.length = j ∧ (∀ q ∈ acc, AskOk q) ∧ DS H' d c ∧ Keep [d] H15 H') ⟨[], .nil, rfl, fun b h => (by cases h), L15.ds.same sD, .of_same sD⟩ (fun j H' _ pp => ?_) (fun j x H16 H17 hj pp y => ?_) (fun H16 pp => ?_)
        · obtain ⟨_, _, _, _, _, k⟩ := pp
          exact SqL.of (k _ _ (by simp [nSd]) eS)
        · obtain ⟨acc, hA, hal, hok, hd16, k16⟩ := pp
          obtain ⟨rfl, hx⟩ := y
          obtain ⟨dd, hd1, hd2⟩ := (lS.keep' (k16.tup1 L15.ds)).get j hx
          obtain ⟨b, hb, rfl⟩ := mapAtD hd1
          refine ⟨rfl, _, rfl, _, rfl, d, c, M, rfl, hd16, hM1, by omega, fun rr H18 r0 r1 hd18 k18 => ⟨_, _, rfl, rfl, _, rfl, by show 2 ≤ sizeLine; decide, fun t ht => ?_⟩⟩
          have st := same_new ht (.tup [V.int (1 + rr), x])
          have lt : Lay (upd H18 t (.tup [V.int (1 + rr), x])) (.ref t) (askD (1 + rr, some b)) := .tup upd_same (.cons (.int _) (.cons ((hd2.keep' (k18.tup1 hd16)).keep' (.same st)) .nil))
          have k19 : Keep [d] H17 (upd H18 t (.tup [V.int (1 + rr), x])) := k18.trans (.of_same st)
          obtain ⟨us, eu, hlen, hA2, kt2⟩ := (hA.keep k19 (k19.tup1 hd16) (by simp [nDd])).push lt (by omega)
          refine ⟨us, eu, hlen, acc ++ [(1 + rr, some b)], hA2, by rw [List.length_append, hal]; rfl, fun q' hq' => ?_, (hd18.same st).keep (S := [D]) Keep.at1 (by simp [nDd.symm]) (by simp [nDc.symm]), ((k16.trans k19).cat (Keep.at1 (a := D))).thin (by simp [hD])⟩
          rcases List.mem_append.mp hq' with h | h
          · exact hok q' h
          · rw [List.mem_singleton.mp h]
            refine ⟨by show 1 + rr ≤ 1000000; omega, fun b2 e => ?_⟩
            rw [← Option.some.inj e]
            exact hsok b (List.mem_of_getElem? hb)
        · obtain ⟨acc, ⟨ws, ew, lw⟩, hal, hok, hd16, k16⟩ := pp
          have A16 := A15.keep k16 L15.ds
          have L16 := L15.keep k16 hd16
          have hvl : vs.length = asks.length := by simpa using A15.l.len
          have hwl : ws.length = acc.length := by simpa using lw.len
          have hbl2 := A15.len
          refine ⟨AL, D, _, _, rfl, rfl, A16.e, ew, le1000 (by omega), fun C hC => ?_⟩
          have sC := same_new hC (.lst (vs ++ ws))
          exact ⟨C, vs ++ ws, _, _, _, _, _, _, _, _, rfl, L16.same sC, (A16.cat L16.ds hC lw (show acc.length ≤ 3 by omega) hok).more (by omega)⟩
    · obtain ⟨AL, vs, asks, v9, v10, v11, v12, v13, v14, v15, rfl, L, A⟩ := pp
      have hbv : bvs.length = bars.length := by simpa using L.lB.len
      exact ⟨AL, vs, asks, _, _, _, _, _, _, _, rfl, L, A.more (by omega)⟩
  rintro σ' H11 ⟨AL, avs, asks, v9, v10, v11, v12, v13, v14, v15, rfl, L11, A11⟩
  clear L10 A10
  refine ⟨fun σ' H' => ∃ (v9 v12 : Option V), σ' = [some (.ref a), some (.ref d), some (vI ni), some (vI nr), some (vI na), some v, some (.ref r), some (.ref BL), some (.ref AL), v9, v10, v11, v12, v13, v14, v15] ∧ Same H11 H', ?_, ?_⟩
  · refine ⟨_, rfl, AL, rfl, ⟨_, SqL.of A11.e⟩, for_it (walk_list (xs := avs)) (fun i σ' H' => ∃ (v9 v12 : Option V), σ' = [some (.ref a), some (.ref d), some (vI ni), some (vI nr), some (vI na), some v, some (.ref r), some (.ref BL), some (.ref AL), v9, v10, v11, v12, v13, v14, v15] ∧ Same H11 H') ⟨_, _, rfl, .refl _⟩ (fun i σ' H' _ pp => ?_) (fun i x σ' H12 H13 hi pp y => ?_) (fun σ' H12 pp => ?_)⟩
    · obtain ⟨_, _, _, s⟩ := pp
      exact SqL.of (s _ _ A11.e)
    · obtain ⟨v9, v12, rfl, s12⟩ := pp
      obtain ⟨rfl, hx⟩ := y
      obtain ⟨dd, hd1, hd2⟩ := (A11.same s12).l.get i hx
      obtain ⟨ask, hask, rfl⟩ := mapAtD hd1
      obtain ⟨t, x, rfl, et, hbar⟩ := hd2.ask
      refine ⟨t, _, rfl, SqT.of et, rfl, _, _, rfl, _, _, rfl, rfl, ?_⟩
      have hk := A11.ok ask (List.mem_of_getElem? hask)
      have L12 := L11.same s12
      refine ⟨_, rfl, _, rfl, _, rfl, _, rfl, v, x, r, qs, N, ρ, ask.1, ask.2, rfl, L12.lv, O, L12.hF, r60, a60, hk.1, hbar, hk.2, fun H14 s14 => ?_⟩
      exact ⟨_, rfl, iteF ⟨_, _, rfl, s12.trans s14⟩⟩
    · exact pp
  rintro σ' H12 ⟨v9, v12, rfl, s12⟩
  replace L11 := L11.same s12
  replace A11 := A11.same s12
  refine ⟨_, rfl, rfl, _, rfl, ite2 (fun z => q _) (fun z => ?_)⟩
  have z : (nr : Int) ≠ 0 := fun e => z (decide_eq_true (show V.int (nr : Int) = V.int 0 from congrArg V.int e))
  refine ⟨_, rfl, _, rfl, d, c, v, N, rfl, L11.ds, L11.lv, by omega, r60, fun v' N' H13 lv' er' ea' held hd13 k13 => ?_⟩
  have A13 := A11.keep k13 L11.ds
  have L13 := L11.keep k13 hd13
  refine ⟨_, rfl, AL, rfl, ⟨_, SqL.of A13.e⟩, for_it (walk_list (xs := avs)) (fun i σ' H' => ∃ (v9 v12 : Option V), σ' = [some (.ref a), some (.ref d), some (vI ni), some (vI nr), some (vI na), some v, some (.ref r), some (.ref BL), some (.ref AL), v9, v10, v11, v12, v13, some v', v15] ∧ Same H13 H') ⟨_, _, rfl, .refl _⟩ (fun i σ' H' _ pp => ?_) (fun i x σ' H14 H15 hi pp y => ?_) (fun σ' H14 pp => ?_)⟩
  · obtain ⟨_, _, _, s⟩ := pp
    exact SqL.of (s _ _ A13.e)
  · obtain ⟨v9, v12, rfl, s14⟩ := pp
    obtain ⟨rfl, hx⟩ := y
    obtain ⟨dd, hd1, hd2⟩ := (A13.same s14).l.get i hx
    obtain ⟨ask, hask, rfl⟩ := mapAtD hd1
    obtain ⟨t, x, rfl, et, hbar⟩ := hd2.ask
    have hk := A13.ok ask (List.mem_of_getElem? hask)
    refine ⟨t, _, rfl, SqT.of et, rfl, _, _, rfl, _, _, rfl, rfl, ?_⟩
    refine ⟨_, rfl, _, rfl, _, rfl, v', x, N', ask.1, ask.2, rfl, lv'.keep' (.same s14), by omega, by omega, hk.1, .inr held, hbar, hk.2, fun b H16 s16 hb => ?_⟩
    obtain rfl : b = false := by
      cases b with
      | false => rfl
      | true =>
        obtain ⟨a, ha, hn⟩ := held
        exact absurd ((hb.mp rfl).1 a ha) hn
    exact ⟨_, _, rfl, rfl, _, rfl, ifN rfl ⟨_, _, rfl, s14.trans s16⟩⟩
  · obtain ⟨v9, v12, rfl, s14⟩ := pp
    replace A13 := A13.same s14
    have L14 := L13.same s14
    have hne : 0 < asks.length := List.length_pos_iff.mpr A13.nn
    have hal : avs.length = asks.length := by simpa using A13.l.len
    have e1 : avs[avs.length - 1]? = some avs[avs.length - 1] := List.getElem?_eq_getElem (by omega)
    obtain ⟨dd, hd1, hd2⟩ := A13.l.get _ e1
    obtain ⟨ask, hask, rfl⟩ := mapAtD hd1
    obtain ⟨t, x, et0, et, hbar⟩ := hd2.ask
    rw [et0] at e1
    have hk := A13.ok ask (List.mem_of_getElem? hask)
    refine ⟨_, rfl, _, rfl, _, rfl, _, rfl, AL, _, _, _, rfl, rfl, SqL.of A13.e, atI_end e1, t, _, _, _, rfl, rfl, SqT.of et, atI_nat (j := 0) rfl, _, rfl, _, rfl, AL, _, _, _, rfl, rfl, SqL.of A13.e, atI_end e1, t, _, _, _, rfl, rfl, SqT.of et, atI_nat (j := 1) rfl, v, x, r, qs, N, ρ, ask.1, ask.2, rfl, L14.lv, O, L14.hF, r60, a60, hk.1, hbar, hk.2, fun H15 s15 => q _⟩
end

end Bf

set_option Elab.async false
set_option linter.all false
set_option maxRecDepth 100000
set_option maxHeartbeats 4000000
namespace Bf
open PySem PySem.Spec PyProof.Rows L2
/-! ### what the top has written -/
theorem all_mk {l : PySem.W.OpenLaw} {w : World} {K : PySem.W.Frag} {h : Heap} {mg : Str → Option Value} {fa f_is_thing f_first_and f_reg_of f_follows f__law_begin f__law_draw f__law_pool f__law_trace f__law_takes_bar f__law_next_ands f_ends_from f_trace_of f__law_pick f__law_pop f__law_shuffled f__law_drawn_literal f__law_open_pair f__law_feeds f_held_of f_sources_of f__law_open_nexts f__law_ringed f__law_walk f__law_spoilt f_judge_bar f__law_open_net f__law_way f__law_ring f__law_is_judged f_law : Addr} (X : K.In h) (G : h.Ns mainGlobals mg) (hfa : mg "law" = some (.ref fa))
    {od2 an2 : Option Addr} {sl2 : Array (Option Value)} {oc2 kV2 dc2 pm2 cd2 ct2 : Value}
    {od4 an4 : Option Addr} {sl4 : Array (Option Value)} {oc4 kV4 dc4 pm4 cd4 ct4 : Value}
    {od6 an6 : Option Addr} {sl6 : Array (Option Value)} {oc6 kV6 dc6 pm6 cd6 ct6 : Value}
    {od8 an8 : Option Addr} {sl8 : Array (Option Value)} {oc8 kV8 dc8 pm8 cd8 ct8 : Value}
    {od10 an10 : Option Addr} {sl10 : Array (Option Value)} {oc10 kV10 dc10 pm10 cd10 ct10 : Value}
    {od12 an12 : Option Addr} {sl12 : Array (Option Value)} {oc12 kV12 dc12 pm12 cd12 ct12 : Value}
    {od14 an14 : Option Addr} {sl14 : Array (Option Value)} {oc14 kV14 dc14 pm14 cd14 ct14 : Value}
    {od16 an16 : Option Addr} {sl16 : Array (Option Value)} {oc16 kV16 dc16 pm16 cd16 ct16 : Value}
    {od18 an18 : Option Addr} {sl18 : Array (Option Value)} {oc18 kV18 dc18 pm18 cd18 ct18 : Value}
    {od20 an20 : Option Addr} {sl20 : Array (Option Value)} {oc20 kV20 dc20 pm20 cd20 ct20 : Value}
    {od22 an22 : Option Addr} {sl22 : Array (Option Value)} {oc22 kV22 dc22 pm22 cd22 ct22 : Value}
    {od24 an24 : Option Addr} {sl24 : Array (Option Value)} {oc24 kV24 dc24 pm24 cd24 ct24 : Value}
    {od26 an26 : Option Addr} {sl26 : Array (Option Value)} {oc26 kV26 dc26 pm26 cd26 ct26 : Value}
    {od28 an28 : Option Addr} {sl28 : Array (Option Value)} {oc28 kV28 dc28 pm28 cd28 ct28 : Value}
    {od30 an30 : Option Addr} {sl30 : Array (Option Value)} {oc30 kV30 dc30 pm30 cd30 ct30 : Value}
    {od32 an32 : Option Addr} {sl32 : Array (Option Value)} {oc32 kV32 dc32 pm32 cd32 ct32 : Value}
    {od34 an34 : Option Addr} {sl34 : Array (Option Value)} {oc34 kV34 dc34 pm34 cd34 ct34 : Value}
    {od36 an36 : Option Addr} {sl36 : Array (Option Value)} {oc36 kV36 dc36 pm36 cd36 ct36 : Value}
    {od38 an38 : Option Addr} {sl38 : Array (Option Value)} {oc38 kV38 dc38 pm38 cd38 ct38 : Value}
    {od40 an40 : Option Addr} {sl40 : Array (Option Value)} {oc40 kV40 dc40 pm40 cd40 ct40 : Value}
    {od42 an42 : Option Addr} {sl42 : Array (Option Value)} {oc42 kV42 dc42 pm42 cd42 ct42 : Value}
    {od44 an44 : Option Addr} {sl44 : Array (Option Value)} {oc44 kV44 dc44 pm44 cd44 ct44 : Value}
    {od46 an46 : Option Addr} {sl46 : Array (Option Value)} {oc46 kV46 dc46 pm46 cd46 ct46 : Value}
    {od48 an48 : Option Addr} {sl48 : Array (Option Value)} {oc48 kV48 dc48 pm48 cd48 ct48 : Value}
    {od50 an50 : Option Addr} {sl50 : Array (Option Value)} {oc50 kV50 dc50 pm50 cd50 ct50 : Value}
    {od52 an52 : Option Addr} {sl52 : Array (Option Value)} {oc52 kV52 dc52 pm52 cd52 ct52 : Value}
    {od54 an54 : Option Addr} {sl54 : Array (Option Value)} {oc54 kV54 dc54 pm54 cd54 ct54 : Value}
    {od56 an56 : Option Addr} {sl56 : Array (Option Value)} {oc56 kV56 dc56 pm56 cd56 ct56 : Value}
    {od58 an58 : Option Addr} {sl58 : Array (Option Value)} {oc58 kV58 dc58 pm58 cd58 ct58 : Value}
    {od60 an60 : Option Addr} {sl60 : Array (Option Value)} {oc60 kV60 dc60 pm60 cd60 ct60 : Value}
    (a1 : PySem.W.nsIn K mainGlobals "is_thing" = some (some (.ref f_is_thing)))
    (l2 : K.lookup f_is_thing = some ⟨oc2, od2, .func (PySem.W.fnOf "is_thing" "is_thing" (defArgs s_is_thing) (defBody s_is_thing) (defScope s_is_thing) .none kV2 dc2 pm2 an2 cd2 ct2), sl2⟩) (c2 : PySem.W.codeIn K cd2 "is_thing" = true) (k2 : PySem.W.keepIn K (.ref f_is_thing) = true)
    (a3 : PySem.W.nsIn K mainGlobals "first_and" = some (some (.ref f_first_and)))
    (l4 : K.lookup f_first_and = some ⟨oc4, od4, .func (PySem.W.fnOf "first_and" "first_and" (defArgs s_first_and) (defBody s_first_and) (defScope s_first_and) .none kV4 dc4 pm4 an4 cd4 ct4), sl4⟩) (c4 : PySem.W.codeIn K cd4 "first_and" = true) (k4 : PySem.W.keepIn K (.ref f_first_and) = true)
    (a5 : PySem.W.nsIn K mainGlobals "reg_of" = some (some (.ref f_reg_of)))
    (l6 : K.lookup f_reg_of = some ⟨oc6, od6, .func (PySem.W.fnOf "reg_of" "reg_of" (defArgs s_reg_of) (defBody s_reg_of) (defScope s_reg_of) .none kV6 dc6 pm6 an6 cd6 ct6), sl6⟩) (c6 : PySem.W.codeIn K cd6 "reg_of" = true) (k6 : PySem.W.keepIn K (.ref f_reg_of) = true)
    (a7 : PySem.W.nsIn K mainGlobals "follows" = some (some (.ref f_follows)))
    (l8 : K.lookup f_follows = some ⟨oc8, od8, .func (PySem.W.fnOf "follows" "follows" (defArgs s_follows) (defBody s_follows) (defScope s_follows) .none kV8 dc8 pm8 an8 cd8 ct8), sl8⟩) (c8 : PySem.W.codeIn K cd8 "follows" = true) (k8 : PySem.W.keepIn K (.ref f_follows) = true)
    (a9 : PySem.W.nsIn K mainGlobals "_law_begin" = some (some (.ref f__law_begin)))
    (l10 : K.lookup f__law_begin = some ⟨oc10, od10, .func (PySem.W.fnOf "_law_begin" "_law_begin" (defArgs s_law_begin) (defBody s_law_begin) (defScope s_law_begin) .none kV10 dc10 pm10 an10 cd10 ct10), sl10⟩) (c10 : PySem.W.codeIn K cd10 "_law_begin" = true) (k10 : PySem.W.keepIn K (.ref f__law_begin) = true)
    (a11 : PySem.W.nsIn K mainGlobals "_law_draw" = some (some (.ref f__law_draw)))
    (l12 : K.lookup f__law_draw = some ⟨oc12, od12, .func (PySem.W.fnOf "_law_draw" "_law_draw" (defArgs s_law_draw) (defBody s_law_draw) (defScope s_law_draw) .none kV12 dc12 pm12 an12 cd12 ct12), sl12⟩) (c12 : PySem.W.codeIn K cd12 "_law_draw" = true) (k12 : PySem.W.keepIn K (.ref f__law_draw) = true)
    (a13 : PySem.W.nsIn K mainGlobals "_law_pool" = some (some (.ref f__law_pool)))
    (l14 : K.lookup f__law_pool = some ⟨oc14, od14, .func (PySem.W.fnOf "_law_pool" "_law_pool" (defArgs s_law_pool) (defBody s_law_pool) (defScope s_law_pool) .none kV14 dc14 pm14 an14 cd14 ct14), sl14⟩) (c14 : PySem.W.codeIn K cd14 "_law_pool" = true) (k14 : PySem.W.keepIn K (.ref f__law_pool) = true)
    (a15 : PySem.W.nsIn K mainGlobals "_law_trace" = some (some (.ref f__law_trace)))
    (l16 : K.lookup f__law_trace = some ⟨oc16, od16, .func (PySem.W.fnOf "_law_trace" "_law_trace" (defArgs s_law_trace) (defBody s_law_trace) (defScope s_law_trace) .none kV16 dc16 pm16 an16 cd16 ct16), sl16⟩) (c16 : PySem.W.codeIn K cd16 "_law_trace" = true) (k16 : PySem.W.keepIn K (.ref f__law_trace) = true)
    (a17 : PySem.W.nsIn K mainGlobals "_law_takes_bar" = some (some (.ref f__law_takes_bar)))
    (l18 : K.lookup f__law_takes_bar = some ⟨oc18, od18, .func (PySem.W.fnOf "_law_takes_bar" "_law_takes_bar" (defArgs s_law_takes_bar) (defBody s_law_takes_bar) (defScope s_law_takes_bar) .none kV18 dc18 pm18 an18 cd18 ct18), sl18⟩) (c18 : PySem.W.codeIn K cd18 "_law_takes_bar" = true) (k18 : PySem.W.keepIn K (.ref f__law_takes_bar) = true)
    (a19 : PySem.W.nsIn K mainGlobals "_law_next_ands" = some (some (.ref f__law_next_ands)))
    (l20 : K.lookup f__law_next_ands = some ⟨oc20, od20, .func (PySem.W.fnOf "_law_next_ands" "_law_next_ands" (defArgs s_law_next_ands) (defBody s_law_next_ands) (defScope s_law_next_ands) .none kV20 dc20 pm20 an20 cd20 ct20), sl20⟩) (c20 : PySem.W.codeIn K cd20 "_law_next_ands" = true) (k20 : PySem.W.keepIn K (.ref f__law_next_ands) = true)
    (a21 : PySem.W.nsIn K mainGlobals "ends_from" = some (some (.ref f_ends_from)))
    (l22 : K.lookup f_ends_from = some ⟨oc22, od22, .func (PySem.W.fnOf "ends_from" "ends_from" (defArgs s_ends_from) (defBody s_ends_from) (defScope s_ends_from) .none kV22 dc22 pm22 an22 cd22 ct22), sl22⟩) (c22 : PySem.W.codeIn K cd22 "ends_from" = true) (k22 : PySem.W.keepIn K (.ref f_ends_from) = true)
    (a23 : PySem.W.nsIn K mainGlobals "trace_of" = some (some (.ref f_trace_of)))
    (l24 : K.lookup f_trace_of = some ⟨oc24, od24, .func (PySem.W.fnOf "trace_of" "trace_of" (defArgs s_trace_of) (defBody s_trace_of) (defScope s_trace_of) .none kV24 dc24 pm24 an24 cd24 ct24), sl24⟩) (c24 : PySem.W.codeIn K cd24 "trace_of" = true) (k24 : PySem.W.keepIn K (.ref f_trace_of) = true)
    (a25 : PySem.W.nsIn K mainGlobals "_law_pick" = some (some (.ref f__law_pick)))
    (l26 : K.lookup f__law_pick = some ⟨oc26, od26, .func (PySem.W.fnOf "_law_pick" "_law_pick" (defArgs s_law_pick) (defBody s_law_pick) (defScope s_law_pick) .none kV26 dc26 pm26 an26 cd26 ct26), sl26⟩) (c26 : PySem.W.codeIn K cd26 "_law_pick" = true) (k26 : PySem.W.keepIn K (.ref f__law_pick) = true)
    (a27 : PySem.W.nsIn K mainGlobals "_law_pop" = some (some (.ref f__law_pop)))
    (l28 : K.lookup f__law_pop = some ⟨oc28, od28, .func (PySem.W.fnOf "_law_pop" "_law_pop" (defArgs s_law_pop) (defBody s_law_pop) (defScope s_law_pop) .none kV28 dc28 pm28 an28 cd28 ct28), sl28⟩) (c28 : PySem.W.codeIn K cd28 "_law_pop" = true) (k28 : PySem.W.keepIn K (.ref f__law_pop) = true)
    (a29 : PySem.W.nsIn K mainGlobals "_law_shuffled" = some (some (.ref f__law_shuffled)))
    (l30 : K.lookup f__law_shuffled = some ⟨oc30, od30, .func (PySem.W.fnOf "_law_shuffled" "_law_shuffled" (defArgs s_law_shuffled) (defBody s_law_shuffled) (defScope s_law_shuffled) .none kV30 dc30 pm30 an30 cd30 ct30), sl30⟩) (c30 : PySem.W.codeIn K cd30 "_law_shuffled" = true) (k30 : PySem.W.keepIn K (.ref f__law_shuffled) = true)
    (a31 : PySem.W.nsIn K mainGlobals "_law_drawn_literal" = some (some (.ref f__law_drawn_literal)))
    (l32 : K.lookup f__law_drawn_literal = some ⟨oc32, od32, .func (PySem.W.fnOf "_law_drawn_literal" "_law_drawn_literal" (defArgs s_law_drawn_literal) (defBody s_law_drawn_literal) (defScope s_law_drawn_literal) .none kV32 dc32 pm32 an32 cd32 ct32), sl32⟩) (c32 : PySem.W.codeIn K cd32 "_law_drawn_literal" = true) (k32 : PySem.W.keepIn K (.ref f__law_drawn_literal) = true)
    (a33 : PySem.W.nsIn K mainGlobals "_law_open_pair" = some (some (.ref f__law_open_pair)))
    (l34 : K.lookup f__law_open_pair = some ⟨oc34, od34, .func (PySem.W.fnOf "_law_open_pair" "_law_open_pair" (defArgs s_law_open_pair) (defBody s_law_open_pair) (defScope s_law_open_pair) .none kV34 dc34 pm34 an34 cd34 ct34), sl34⟩) (c34 : PySem.W.codeIn K cd34 "_law_open_pair" = true) (k34 : PySem.W.keepIn K (.ref f__law_open_pair) = true)
    (a35 : PySem.W.nsIn K mainGlobals "_law_feeds" = some (some (.ref f__law_feeds)))
    (l36 : K.lookup f__law_feeds = some ⟨oc36, od36, .func (PySem.W.fnOf "_law_feeds" "_law_feeds" (defArgs s_law_feeds) (defBody s_law_feeds) (defScope s_law_feeds) .none kV36 dc36 pm36 an36 cd36 ct36), sl36⟩) (c36 : PySem.W.codeIn K cd36 "_law_feeds" = true) (k36 : PySem.W.keepIn K (.ref f__law_feeds) = true)
    (a37 : PySem.W.nsIn K mainGlobals "held_of" = some (some (.ref f_held_of)))
    (l38 : K.lookup f_held_of = some ⟨oc38, od38, .func (PySem.W.fnOf "held_of" "held_of" (defArgs s_held_of) (defBody s_held_of) (defScope s_held_of) .none kV38 dc38 pm38 an38 cd38 ct38), sl38⟩) (c38 : PySem.W.codeIn K cd38 "held_of" = true) (k38 : PySem.W.keepIn K (.ref f_held_of) = true)
    (a39 : PySem.W.nsIn K mainGlobals "sources_of" = some (some (.ref f_sources_of)))
    (l40 : K.lookup f_sources_of = some ⟨oc40, od40, .func (PySem.W.fnOf "sources_of" "sources_of" (defArgs s_sources_of) (defBody s_sources_of) (defScope s_sources_of) .none kV40 dc40 pm40 an40 cd40 ct40), sl40⟩) (c40 : PySem.W.codeIn K cd40 "sources_of" = true) (k40 : PySem.W.keepIn K (.ref f_sources_of) = true)
    (a41 : PySem.W.nsIn K mainGlobals "_law_open_nexts" = some (some (.ref f__law_open_nexts)))
    (l42 : K.lookup f__law_open_nexts = some ⟨oc42, od42, .func (PySem.W.fnOf "_law_open_nexts" "_law_open_nexts" (defArgs s_law_open_nexts) (defBody s_law_open_nexts) (defScope s_law_open_nexts) .none kV42 dc42 pm42 an42 cd42 ct42), sl42⟩) (c42 : PySem.W.codeIn K cd42 "_law_open_nexts" = true) (k42 : PySem.W.keepIn K (.ref f__law_open_nexts) = true)
    (a43 : PySem.W.nsIn K mainGlobals "_law_ringed" = some (some (.ref f__law_ringed)))
    (l44 : K.lookup f__law_ringed = some ⟨oc44, od44, .func (PySem.W.fnOf "_law_ringed" "_law_ringed" (defArgs s_law_ringed) (defBody s_law_ringed) (defScope s_law_ringed) .none kV44 dc44 pm44 an44 cd44 ct44), sl44⟩) (c44 : PySem.W.codeIn K cd44 "_law_ringed" = true) (k44 : PySem.W.keepIn K (.ref f__law_ringed) = true)
    (a45 : PySem.W.nsIn K mainGlobals "_law_walk" = some (some (.ref f__law_walk)))
    (l46 : K.lookup f__law_walk = some ⟨oc46, od46, .func (PySem.W.fnOf "_law_walk" "_law_walk" (defArgs s_law_walk) (defBody s_law_walk) (defScope s_law_walk) .none kV46 dc46 pm46 an46 cd46 ct46), sl46⟩) (c46 : PySem.W.codeIn K cd46 "_law_walk" = true) (k46 : PySem.W.keepIn K (.ref f__law_walk) = true)
    (a47 : PySem.W.nsIn K mainGlobals "_law_spoilt" = some (some (.ref f__law_spoilt)))
    (l48 : K.lookup f__law_spoilt = some ⟨oc48, od48, .func (PySem.W.fnOf "_law_spoilt" "_law_spoilt" (defArgs s_law_spoilt) (defBody s_law_spoilt) (defScope s_law_spoilt) .none kV48 dc48 pm48 an48 cd48 ct48), sl48⟩) (c48 : PySem.W.codeIn K cd48 "_law_spoilt" = true) (k48 : PySem.W.keepIn K (.ref f__law_spoilt) = true)
    (a49 : PySem.W.nsIn K mainGlobals "judge_bar" = some (some (.ref f_judge_bar)))
    (l50 : K.lookup f_judge_bar = some ⟨oc50, od50, .func (PySem.W.fnOf "judge_bar" "judge_bar" (defArgs s_judge_bar) (defBody s_judge_bar) (defScope s_judge_bar) .none kV50 dc50 pm50 an50 cd50 ct50), sl50⟩) (c50 : PySem.W.codeIn K cd50 "judge_bar" = true) (k50 : PySem.W.keepIn K (.ref f_judge_bar) = true)
    (a51 : PySem.W.nsIn K mainGlobals "_law_open_net" = some (some (.ref f__law_open_net)))
    (l52 : K.lookup f__law_open_net = some ⟨oc52, od52, .func (PySem.W.fnOf "_law_open_net" "_law_open_net" (defArgs s_law_open_net) (defBody s_law_open_net) (defScope s_law_open_net) .none kV52 dc52 pm52 an52 cd52 ct52), sl52⟩) (c52 : PySem.W.codeIn K cd52 "_law_open_net" = true) (k52 : PySem.W.keepIn K (.ref f__law_open_net) = true)
    (a53 : PySem.W.nsIn K mainGlobals "_law_way" = some (some (.ref f__law_way)))
    (l54 : K.lookup f__law_way = some ⟨oc54, od54, .func (PySem.W.fnOf "_law_way" "_law_way" (defArgs s_law_way) (defBody s_law_way) (defScope s_law_way) .none kV54 dc54 pm54 an54 cd54 ct54), sl54⟩) (c54 : PySem.W.codeIn K cd54 "_law_way" = true) (k54 : PySem.W.keepIn K (.ref f__law_way) = true)
    (a55 : PySem.W.nsIn K mainGlobals "_law_ring" = some (some (.ref f__law_ring)))
    (l56 : K.lookup f__law_ring = some ⟨oc56, od56, .func (PySem.W.fnOf "_law_ring" "_law_ring" (defArgs s_law_ring) (defBody s_law_ring) (defScope s_law_ring) .none kV56 dc56 pm56 an56 cd56 ct56), sl56⟩) (c56 : PySem.W.codeIn K cd56 "_law_ring" = true) (k56 : PySem.W.keepIn K (.ref f__law_ring) = true)
    (a57 : PySem.W.nsIn K mainGlobals "_law_is_judged" = some (some (.ref f__law_is_judged)))
    (l58 : K.lookup f__law_is_judged = some ⟨oc58, od58, .func (PySem.W.fnOf "_law_is_judged" "_law_is_judged" (defArgs s_law_is_judged) (defBody s_law_is_judged) (defScope s_law_is_judged) .none kV58 dc58 pm58 an58 cd58 ct58), sl58⟩) (c58 : PySem.W.codeIn K cd58 "_law_is_judged" = true) (k58 : PySem.W.keepIn K (.ref f__law_is_judged) = true)
    (a59 : PySem.W.nsIn K mainGlobals "law" = some (some (.ref f_law)))
    (l60 : K.lookup f_law = some ⟨oc60, od60, .func (PySem.W.fnOf "law" "law" (defArgs s_law) (defBody s_law) (defScope s_law) .none kV60 dc60 pm60 an60 cd60 ct60), sl60⟩) (c60 : PySem.W.codeIn K cd60 "law" = true) (k60 : PySem.W.keepIn K (.ref f_law) = true)
    (z61 : PySem.W.nsIn K mainGlobals "int" = some none)
    (z62 : PySem.W.nsIn K mainGlobals "len" = some none)
    (z63 : PySem.W.nsIn K mainGlobals "abs" = some none)
    (z64 : PySem.W.nsIn K mainGlobals "isinstance" = some none)
    (z65 : PySem.W.nsIn K mainGlobals "range" = some none)
    (z66 : PySem.W.nsIn K mainGlobals "tuple" = some none)
    (z67 : PySem.W.nsIn K mainGlobals "all" = some none)
    (z68 : PySem.W.nsIn K mainGlobals "list" = some none)
    (z69 : PySem.W.nsIn K mainGlobals "max" = some none)
    (z70 : PySem.W.nsIn K mainGlobals "min" = some none)
    (z71 : PySem.W.nsIn K mainGlobals "sorted" = some none)
    (z72 : PySem.W.nsIn K mainGlobals "set" = some none)
    (z73 : PySem.W.nsIn K mainGlobals "reversed" = some none)
    (z74 : PySem.W.nsIn K mainGlobals "bool" = some none)
    (z75 : PySem.W.nsIn K mainGlobals "zip" = some none)
    (z76 : PySem.W.nsIn K mainGlobals "enumerate" = some none)
    (z77 : PySem.W.nsIn K mainGlobals "any" = some none)
    (z78 : PySem.W.nsIn K mainGlobals "sum" = some none) :
    ∃ fd : FuncData, (∀ (s : Shared) (v : Value), BindsTo s fd ⟨[v], []⟩ [("_law_script", v)]) ∧ ∀ base : Heap, K.In base → base.Ns mainGlobals mg → FnOk l.prog w K mg base CX0 6 fa fd ["_law_script"] (spLaw K) := by
  have e := hfa.symm.trans (PySem.W.mg_of X G a59)
  cases e
  have T : Txt mg := ⟨PySem.W.mg_none_of X G z61, PySem.W.mg_none_of X G z62, PySem.W.mg_none_of X G z63, PySem.W.mg_none_of X G z64, PySem.W.mg_none_of X G z65, PySem.W.mg_none_of X G z66, PySem.W.mg_none_of X G z67, PySem.W.mg_none_of X G z68, PySem.W.mg_none_of X G z69, PySem.W.mg_none_of X G z70, PySem.W.mg_none_of X G z71, PySem.W.mg_none_of X G z72, PySem.W.mg_none_of X G z73, PySem.W.mg_none_of X G z74, PySem.W.mg_none_of X G z75, PySem.W.mg_none_of X G z76, PySem.W.mg_none_of X G z77, PySem.W.mg_none_of X G z78⟩
  have F_is_thing := fun_mk (st := s_is_thing) l2 c2 k2
  have F_first_and := fun_mk (st := s_first_and) l4 c4 k4
  have F_reg_of := fun_mk (st := s_reg_of) l6 c6 k6
  have F_follows := fun_mk (st := s_follows) l8 c8 k8
  have F_law_begin := fun_mk (st := s_law_begin) l10 c10 k10
  have F_law_draw := fun_mk (st := s_law_draw) l12 c12 k12
  have F_law_pool := fun_mk (st := s_law_pool) l14 c14 k14
  have F_law_trace := fun_mk (st := s_law_trace) l16 c16 k16
  have F_law_takes_bar := fun_mk (st := s_law_takes_bar) l18 c18 k18
  have F_law_next_ands := fun_mk (st := s_law_next_ands) l20 c20 k20
  have F_ends_from := fun_mk (st := s_ends_from) l22 c22 k22
  have F_trace_of := fun_mk (st := s_trace_of) l24 c24 k24
  have F_law_pick := fun_mk (st := s_law_pick) l26 c26 k26
  have F_law_pop := fun_mk (st := s_law_pop) l28 c28 k28
  have F_law_shuffled := fun_mk (st := s_law_shuffled) l30 c30 k30
  have F_law_drawn_literal := fun_mk (st := s_law_drawn_literal) l32 c32 k32
  have F_law_open_pair := fun_mk (st := s_law_open_pair) l34 c34 k34
  have F_law_feeds := fun_mk (st := s_law_feeds) l36 c36 k36
  have F_held_of := fun_mk (st := s_held_of) l38 c38 k38
  have F_sources_of := fun_mk (st := s_sources_of) l40 c40 k40
  have F_law_open_nexts := fun_mk (st := s_law_open_nexts) l42 c42 k42
  have F_law_ringed := fun_mk (st := s_law_ringed) l44 c44 k44
  have F_law_walk := fun_mk (st := s_law_walk) l46 c46 k46
  have F_law_spoilt := fun_mk (st := s_law_spoilt) l48 c48 k48
  have F_judge_bar := fun_mk (st := s_judge_bar) l50 c50 k50
  have F_law_open_net := fun_mk (st := s_law_open_net) l52 c52 k52
  have F_law_way := fun_mk (st := s_law_way) l54 c54 k54
  have F_law_ring := fun_mk (st := s_law_ring) l56 c56 k56
  have F_law_is_judged := fun_mk (st := s_law_is_judged) l58 c58 k58
  have F_law := fun_mk (st := s_law) l60 c60 k60
  refine ⟨PySem.W.fnOf "law" "law" (defArgs s_law) (defBody s_law) (defScope s_law) .none kV60 dc60 pm60 an60 cd60 ct60, fun s v => .of_eq rfl, fun base _ _ => ?_⟩
  have D_is_thing : Dn l.prog w K mg base "is_thing" ["number", "many"] 1 spThing := ⟨f_is_thing, _, ok_thing F_is_thing T, PySem.W.mg_of X G a1, k2, (F_is_thing.binds (ps := ["number", "many"]) fun _ _ _ _ _ _ us hl => match us, hl with | [_, _], _ => rfl)⟩
  have D_first_and : Dn l.prog w K mg base "first_and" ["net"] 1 spFirst := ⟨f_first_and, _, ok_first F_first_and T, PySem.W.mg_of X G a3, k4, (F_first_and.binds (ps := ["net"]) fun _ _ _ _ _ _ us hl => match us, hl with | [_], _ => rfl)⟩
  have D_reg_of : Dn l.prog w K mg base "reg_of" ["net", "literal"] 1 spRegOf := ⟨f_reg_of, _, ok_regOf F_reg_of T, PySem.W.mg_of X G a5, k6, (F_reg_of.binds (ps := ["net", "literal"]) fun _ _ _ _ _ _ us hl => match us, hl with | [_, _], _ => rfl)⟩
  have D_follows : Dn l.prog w K mg base "follows" ["sources", "first", "node", "other", "count"] 1 spFollows := ⟨f_follows, _, ok_follows F_follows T, PySem.W.mg_of X G a7, k8, (F_follows.binds (ps := ["sources", "first", "node", "other", "count"]) fun _ _ _ _ _ _ us hl => match us, hl with | [_, _, _, _, _], _ => rfl)⟩
  have D_law_begin : Dn l.prog w K mg base "_law_begin" ["_law_script"] 1 (spBegin K) := ⟨f__law_begin, _, ok_begin F_law_begin T, PySem.W.mg_of X G a9, k10, (F_law_begin.binds (ps := ["_law_script"]) fun _ _ _ _ _ _ us hl => match us, hl with | [_], _ => rfl)⟩
  have D_law_draw : Dn l.prog w K mg base "_law_draw" ["_law_d", "_law_many"] 1 spDraw := ⟨f__law_draw, _, ok_draw F_law_draw T, PySem.W.mg_of X G a11, k12, (F_law_draw.binds (ps := ["_law_d", "_law_many"]) fun _ _ _ _ _ _ us hl => match us, hl with | [_, _], _ => rfl)⟩
  have D_law_pool : Dn l.prog w K mg base "_law_pool" [] 1 spPool := ⟨f__law_pool, _, ok_pool F_law_pool , PySem.W.mg_of X G a13, k14, (F_law_pool.binds (ps := []) fun _ _ _ _ _ _ us hl => match us, hl with | [], _ => rfl)⟩
  have D_law_trace : Dn l.prog w K mg base "_law_trace" ["_law_net", "_law_literal"] 1 spTrace := ⟨f__law_trace, _, ok_ltrace F_law_trace T, PySem.W.mg_of X G a15, k16, (F_law_trace.binds (ps := ["_law_net", "_law_literal"]) fun _ _ _ _ _ _ us hl => match us, hl with | [_, _], _ => rfl)⟩
  have D_law_takes_bar : Dn l.prog w K mg base "_law_takes_bar" ["_law_net", "_law_feeds_here", "_law_clock", "_law_bar"] 1 spTakes := ⟨f__law_takes_bar, _, ok_takesBar F_law_takes_bar T, PySem.W.mg_of X G a17, k18, (F_law_takes_bar.binds (ps := ["_law_net", "_law_feeds_here", "_law_clock", "_law_bar"]) fun _ _ _ _ _ _ us hl => match us, hl with | [_, _, _, _], _ => rfl)⟩
  have D_law_next_ands : Dn l.prog w K mg base "_law_next_ands" ["_law_feeds_here", "_law_first", "_law_at"] 1 spNextA := ⟨f__law_next_ands, _, ok_nextA F_law_next_ands T, PySem.W.mg_of X G a19, k20, (F_law_next_ands.binds (ps := ["_law_feeds_here", "_law_first", "_law_at"]) fun _ _ _ _ _ _ us hl => match us, hl with | [_, _, _], _ => rfl)⟩
  have D_ends_from : Dn l.prog w K mg base "ends_from" ["net", "start", "known"] 2 spEnds := ⟨f_ends_from, _, ok_endsFrom F_ends_from T D_reg_of, PySem.W.mg_of X G a21, k22, (F_ends_from.binds (ps := ["net", "start", "known"]) fun _ _ _ _ _ _ us hl => match us, hl with | [_, _, _], _ => rfl)⟩
  have D_trace_of : Dn l.prog w K mg base "trace_of" ["net", "literal"] 2 spTrace := ⟨f_trace_of, _, ok_traceOf F_trace_of T D_reg_of, PySem.W.mg_of X G a23, k24, (F_trace_of.binds (ps := ["net", "literal"]) fun _ _ _ _ _ _ us hl => match us, hl with | [_, _], _ => rfl)⟩
  have D_law_pick : Dn l.prog w K mg base "_law_pick" ["_law_d", "_law_row"] 2 (spPickA K) := ⟨f__law_pick, _, ok_pickA F_law_pick T D_law_draw, PySem.W.mg_of X G a25, k26, (F_law_pick.binds (ps := ["_law_d", "_law_row"]) fun _ _ _ _ _ _ us hl => match us, hl with | [_, _], _ => rfl)⟩
  have D_law_pop : Dn l.prog w K mg base "_law_pop" ["_law_d", "_law_row"] 2 spPop := ⟨f__law_pop, _, ok_pop F_law_pop T D_law_draw, PySem.W.mg_of X G a27, k28, (F_law_pop.binds (ps := ["_law_d", "_law_row"]) fun _ _ _ _ _ _ us hl => match us, hl with | [_, _], _ => rfl)⟩
  have D_law_shuffled : Dn l.prog w K mg base "_law_shuffled" ["_law_d", "_law_row"] 2 (spShuf K) := ⟨f__law_shuffled, _, ok_shuf F_law_shuffled T D_law_draw, PySem.W.mg_of X G a29, k30, (F_law_shuffled.binds (ps := ["_law_d", "_law_row"]) fun _ _ _ _ _ _ us hl => match us, hl with | [_, _], _ => rfl)⟩
  have D_law_drawn_literal : Dn l.prog w K mg base "_law_drawn_literal" ["_law_d", "_law_size"] 2 spLit := ⟨f__law_drawn_literal, _, ok_lit F_law_drawn_literal T D_law_draw, PySem.W.mg_of X G a31, k32, (F_law_drawn_literal.binds (ps := ["_law_d", "_law_size"]) fun _ _ _ _ _ _ us hl => match us, hl with | [_, _], _ => rfl)⟩
  have D_law_open_pair : Dn l.prog w K mg base "_law_open_pair" ["_law_d", "_law_begin_here", "_law_size", "_law_mode"] 2 spPairO := ⟨f__law_open_pair, _, ok_pairO F_law_open_pair T D_law_draw, PySem.W.mg_of X G a33, k34, (F_law_open_pair.binds (ps := ["_law_d", "_law_begin_here", "_law_size", "_law_mode"]) fun _ _ _ _ _ _ us hl => match us, hl with | [_, _, _, _], _ => rfl)⟩
  have D_law_feeds : Dn l.prog w K mg base "_law_feeds" ["_law_net"] 2 spFeeds := ⟨f__law_feeds, _, ok_feeds F_law_feeds T D_law_trace, PySem.W.mg_of X G a35, k36, (F_law_feeds.binds (ps := ["_law_net"]) fun _ _ _ _ _ _ us hl => match us, hl with | [_], _ => rfl)⟩
  have D_held_of : Dn l.prog w K mg base "held_of" ["net"] 3 spHeld := ⟨f_held_of, _, ok_heldOf F_held_of T D_ends_from, PySem.W.mg_of X G a37, k38, (F_held_of.binds (ps := ["net"]) fun _ _ _ _ _ _ us hl => match us, hl with | [_], _ => rfl)⟩
  have D_sources_of : Dn l.prog w K mg base "sources_of" ["net"] 3 spSources := ⟨f_sources_of, _, ok_sources F_sources_of T D_trace_of, PySem.W.mg_of X G a39, k40, (F_sources_of.binds (ps := ["net"]) fun _ _ _ _ _ _ us hl => match us, hl with | [_], _ => rfl)⟩
  have D_law_open_nexts : Dn l.prog w K mg base "_law_open_nexts" ["_law_d", "_law_begin_here", "_law_first", "_law_size"] 3 spNexts := ⟨f__law_open_nexts, _, ok_nexts F_law_open_nexts T D_law_draw D_law_shuffled D_law_pick, PySem.W.mg_of X G a41, k42, (F_law_open_nexts.binds (ps := ["_law_d", "_law_begin_here", "_law_first", "_law_size"]) fun _ _ _ _ _ _ us hl => match us, hl with | [_, _, _, _], _ => rfl)⟩
  have D_law_ringed : Dn l.prog w K mg base "_law_ringed" ["_law_d", "_law_net"] 3 spRinged := ⟨f__law_ringed, _, ok_ringed F_law_ringed T D_law_shuffled D_law_draw, PySem.W.mg_of X G a43, k44, (F_law_ringed.binds (ps := ["_law_d", "_law_net"]) fun _ _ _ _ _ _ us hl => match us, hl with | [_, _], _ => rfl)⟩
  have D_law_walk : Dn l.prog w K mg base "_law_walk" ["_law_d", "_law_feeds_here", "_law_first", "_law_count", "_law_at", "_law_most"] 3 spWalk := ⟨f__law_walk, _, ok_walk F_law_walk T D_law_next_ands D_law_pick, PySem.W.mg_of X G a45, k46, (F_law_walk.binds (ps := ["_law_d", "_law_feeds_here", "_law_first", "_law_count", "_law_at", "_law_most"]) fun _ _ _ _ _ _ us hl => match us, hl with | [_, _, _, _, _, _], _ => rfl)⟩
  have D_law_spoilt : Dn l.prog w K mg base "_law_spoilt" ["_law_d", "_law_bar", "_law_size"] 3 spSpoil := ⟨f__law_spoilt, _, ok_spoilt F_law_spoilt T D_law_draw D_law_pick, PySem.W.mg_of X G a47, k48, (F_law_spoilt.binds (ps := ["_law_d", "_law_bar", "_law_size"]) fun _ _ _ _ _ _ us hl => match us, hl with | [_, _, _], _ => rfl)⟩
  have D_judge_bar : Dn l.prog w K mg base "judge_bar" ["net", "clock", "bar"] 4 spJudge := ⟨f_judge_bar, _, ok_judgeBar F_judge_bar T D_held_of D_first_and D_is_thing D_sources_of D_follows, PySem.W.mg_of X G a49, k50, (F_judge_bar.binds (ps := ["net", "clock", "bar"]) fun _ _ _ _ _ _ us hl => match us, hl with | [_, _, _], _ => rfl)⟩
  have D_law_open_net : Dn l.prog w K mg base "_law_open_net" ["_law_d", "_law_inputs", "_law_regs", "_law_ands", "_law_outputs", "_law_claims"] 4 spNetO := ⟨f__law_open_net, _, ok_netO F_law_open_net T D_law_draw D_law_pop D_law_pool D_law_drawn_literal D_law_open_pair D_law_open_nexts, PySem.W.mg_of X G a51, k52, (F_law_open_net.binds (ps := ["_law_d", "_law_inputs", "_law_regs", "_law_ands", "_law_outputs", "_law_claims"]) fun _ _ _ _ _ _ us hl => match us, hl with | [_, _, _, _, _, _], _ => rfl)⟩
  have D_law_way : Dn l.prog w K mg base "_law_way" ["_law_d", "_law_net", "_law_feeds_here"] 4 spBarD := ⟨f__law_way, _, ok_way F_law_way T D_law_draw D_law_pick D_law_walk, PySem.W.mg_of X G a53, k54, (F_law_way.binds (ps := ["_law_d", "_law_net", "_law_feeds_here"]) fun _ _ _ _ _ _ us hl => match us, hl with | [_, _, _], _ => rfl)⟩
  have D_law_ring : Dn l.prog w K mg base "_law_ring" ["_law_d", "_law_net", "_law_feeds_here"] 4 spBarD := ⟨f__law_ring, _, ok_ring F_law_ring T D_law_walk D_law_draw, PySem.W.mg_of X G a55, k56, (F_law_ring.binds (ps := ["_law_d", "_law_net", "_law_feeds_here"]) fun _ _ _ _ _ _ us hl => match us, hl with | [_, _, _], _ => rfl)⟩
  have D_law_is_judged : Dn l.prog w K mg base "_law_is_judged" ["_law_net", "_law_feeds_here", "_law_clock", "_law_bar"] 5 spIsJudged := ⟨f__law_is_judged, _, ok_isJudged F_law_is_judged T D_judge_bar D_law_takes_bar, PySem.W.mg_of X G a57, k58, (F_law_is_judged.binds (ps := ["_law_net", "_law_feeds_here", "_law_clock", "_law_bar"]) fun _ _ _ _ _ _ us hl => match us, hl with | [_, _, _, _], _ => rfl)⟩
  exact ok_law F_law T D_law_begin D_law_draw D_law_open_net D_law_feeds D_law_way D_law_ring D_law_spoilt D_law_is_judged D_law_ringed D_judge_bar
end Bf
open PySem PySem.W PyProof.Rows
set_option maxRecDepth 100000 in
set_option maxHeartbeats 0 in
theorem PySem.Challenge.cw_beatfabric_k59_bars_judged_holds : PySem.Challenge.rw_beatfabric_k59_bars_judged.Holds := by
  w_on; o_law; k_head; (case hw => w_witness2)
  k_fill
  refine L2.walk_of (l := PySem.Challenge.rw_beatfabric_k59_bars_judged) (n := 63) (k := 6) (x := "_law_script") (CX := fun _ => L2.CX0) (sp := fun w => Bf.spLaw _) rfl (by decide) rfl ⟨rfl, by decide, by decide⟩ (fun w h Y => PySem.W.kIn_of Y) ?F (fun _ _ a ns hl _ hS => ⟨a, ns, rfl, hS, hl, fun _ => rfl⟩) (fun _ _ _ _ _ h => h)
  case F =>
    intro w mg fa h KX G hmg
    refine' Bf.all_mk KX G hmg ?a1 ?l2 ?c2 ?k2 ?a3 ?l4 ?c4 ?k4 ?a5 ?l6 ?c6 ?k6 ?a7 ?l8 ?c8 ?k8 ?a9 ?l10 ?c10 ?k10 ?a11 ?l12 ?c12 ?k12 ?a13 ?l14 ?c14 ?k14 ?a15 ?l16 ?c16 ?k16 ?a17 ?l18 ?c18 ?k18 ?a19 ?l20 ?c20 ?k20 ?a21 ?l22 ?c22 ?k22 ?a23 ?l24 ?c24 ?k24 ?a25 ?l26 ?c26 ?k26 ?a27 ?l28 ?c28 ?k28 ?a29 ?l30 ?c30 ?k30 ?a31 ?l32 ?c32 ?k32 ?a33 ?l34 ?c34 ?k34 ?a35 ?l36 ?c36 ?k36 ?a37 ?l38 ?c38 ?k38 ?a39 ?l40 ?c40 ?k40 ?a41 ?l42 ?c42 ?k42 ?a43 ?l44 ?c44 ?k44 ?a45 ?l46 ?c46 ?k46 ?a47 ?l48 ?c48 ?k48 ?a49 ?l50 ?c50 ?k50 ?a51 ?l52 ?c52 ?k52 ?a53 ?l54 ?c54 ?k54 ?a55 ?l56 ?c56 ?k56 ?a57 ?l58 ?c58 ?k58 ?a59 ?l60 ?c60 ?k60 ?z61 ?z62 ?z63 ?z64 ?z65 ?z66 ?z67 ?z68 ?z69 ?z70 ?z71 ?z72 ?z73 ?z74 ?z75 ?z76 ?z77 ?z78
    (case a1 => k_is)
    (case l2 => k_is)
    (case c2 => k_is)
    (case k2 => k_is)
    (case a3 => k_is)
    (case l4 => k_is)
    (case c4 => k_is)
    (case k4 => k_is)
    (case a5 => k_is)
    (case l6 => k_is)
    (case c6 => k_is)
    (case k6 => k_is)
    (case a7 => k_is)
    (case l8 => k_is)
    (case c8 => k_is)
    (case k8 => k_is)
    (case a9 => k_is)
    (case l10 => k_is)
    (case c10 => k_is)
    (case k10 => k_is)
    (case a11 => k_is)
    (case l12 => k_is)
    (case c12 => k_is)
    (case k12 => k_is)
    (case a13 => k_is)
    (case l14 => k_is)
    (case c14 => k_is)
    (case k14 => k_is)
    (case a15 => k_is)
    (case l16 => k_is)
    (case c16 => k_is)
    (case k16 => k_is)
    (case a17 => k_is)
    (case l18 => k_is)
    (case c18 => k_is)
    (case k18 => k_is)
    (case a19 => k_is)
    (case l20 => k_is)
    (case c20 => k_is)
    (case k20 => k_is)
    (case a21 => k_is)
    (case l22 => k_is)
    (case c22 => k_is)
    (case k22 => k_is)
    (case a23 => k_is)
    (case l24 => k_is)
    (case c24 => k_is)
    (case k24 => k_is)
    (case a25 => k_is)
    (case l26 => k_is)
    (case c26 => k_is)
    (case k26 => k_is)
    (case a27 => k_is)
    (case l28 => k_is)
    (case c28 => k_is)
    (case k28 => k_is)
    (case a29 => k_is)
    (case l30 => k_is)
    (case c30 => k_is)
    (case k30 => k_is)
    (case a31 => k_is)
    (case l32 => k_is)
    (case c32 => k_is)
    (case k32 => k_is)
    (case a33 => k_is)
    (case l34 => k_is)
    (case c34 => k_is)
    (case k34 => k_is)
    (case a35 => k_is)
    (case l36 => k_is)
    (case c36 => k_is)
    (case k36 => k_is)
    (case a37 => k_is)
    (case l38 => k_is)
    (case c38 => k_is)
    (case k38 => k_is)
    (case a39 => k_is)
    (case l40 => k_is)
    (case c40 => k_is)
    (case k40 => k_is)
    (case a41 => k_is)
    (case l42 => k_is)
    (case c42 => k_is)
    (case k42 => k_is)
    (case a43 => k_is)
    (case l44 => k_is)
    (case c44 => k_is)
    (case k44 => k_is)
    (case a45 => k_is)
    (case l46 => k_is)
    (case c46 => k_is)
    (case k46 => k_is)
    (case a47 => k_is)
    (case l48 => k_is)
    (case c48 => k_is)
    (case k48 => k_is)
    (case a49 => k_is)
    (case l50 => k_is)
    (case c50 => k_is)
    (case k50 => k_is)
    (case a51 => k_is)
    (case l52 => k_is)
    (case c52 => k_is)
    (case k52 => k_is)
    (case a53 => k_is)
    (case l54 => k_is)
    (case c54 => k_is)
    (case k54 => k_is)
    (case a55 => k_is)
    (case l56 => k_is)
    (case c56 => k_is)
    (case k56 => k_is)
    (case a57 => k_is)
    (case l58 => k_is)
    (case c58 => k_is)
    (case k58 => k_is)
    (case a59 => k_is)
    (case l60 => k_is)
    (case c60 => k_is)
    (case k60 => k_is)
    (case z61 => k_is)
    (case z62 => k_is)
    (case z63 => k_is)
    (case z64 => k_is)
    (case z65 => k_is)
    (case z66 => k_is)
    (case z67 => k_is)
    (case z68 => k_is)
    (case z69 => k_is)
    (case z70 => k_is)
    (case z71 => k_is)
    (case z72 => k_is)
    (case z73 => k_is)
    (case z74 => k_is)
    (case z75 => k_is)
    (case z76 => k_is)
    (case z77 => k_is)
    (case z78 => k_is)
