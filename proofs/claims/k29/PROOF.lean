import PyProof.Rows.All
import Wide.All
import OpenK.AllK
import Wide.FinOn
import HandS.Base
import HandS.Call
import HandS.List
import HandS.Comp
import HandS.Ends
import HandS.Words
import HandS.Wide
import HandS.WideBits
import HandS.More
import HandS.IsInst
import HandS.CallLocal
import HandS.Text
import HandS.Iter
import HandS.Dict
import HandS.Defaults
import HandS.DeepEq
import HandS.Codes
import HandS.Zip
import HandS.Walk
import HandS.TupAny
import KE.GoesEnum
import KE.GoesMore
import HandS.Style
import HandS.SortInts
import HandS.SortRule
import KE.SortData
import HandS.Strs
import HandS.Conv
import PyProof.SetRoads
import HandS.Rev
import HandS.DictComp
import PyProof.DictUpdate
import KE.BitLaws
import PySem.PyData
import PyProof.TupleOfSeq
import KE.KDictZip
import PySem.Challenge.RW_beatfabric_k29_codes_judged
set_option Elab.async false
set_option linter.all false
set_option maxRecDepth 100000
set_option maxHeartbeats 4000000
namespace Bf
open PySem PySem.Spec PyProof.Rows L2

/-! ### rules that the layer lacks -/
section
variable {X : Cx}
def rGetL : V → V → Hp → VK → Prop := fun o i H Q => ∃ p xs k v, o = .ref p ∧ i = .int k ∧ H p = some (.lst xs) ∧ atI xs k = some v ∧ Q v H
theorem get_list : PGet X rGetL := by
  intro pins s σ H o i ov iv Q I ro ri h
  obtain ⟨p, xs, k, z, rfl, rfl, hp, he, q⟩ := h
  cases ro
  obtain ⟨t, rfl⟩ := ri
  obtain ⟨its, r, pl, hz⟩ := I.list (SqL.of hp)
  obtain ⟨j, h1, h2, h3, h4, h5⟩ := atI_get he
  obtain ⟨w, ew, rw'⟩ := r.get h2
  have hl := r.length
  have hn := line63
  have fin : EP X pins σ Q w s := ⟨z, H, I, rw', q⟩
  by_cases h0 : 0 ≤ k
  · have hj : k.toNat = j := by
      rw [seqIndex_of h0 h5] at h1
      exact Option.some.inj h1
    refine PySem.wpAny_getItem_list pl.isList h0 (by omega) (by rw [hj]; simpa using ew) fin
  · have hj : (k + (its.toArray.size : Int)).toNat = j := by
      rw [seqIndex_neg (by omega) h4] at h1
      rw [List.size_toArray, ← hl]
      exact Option.some.inj h1
    exact wpAny_getItem_list_neg pl.isList (by omega) (by rw [List.size_toArray] <;> omega) (by omega) (by rw [hj]; simpa using ew) fin

/-- max, min of two numbers that are not negative -/
theorem cr_maxN (hc : X.calm = true) : CallR X (.builtin "max") (fun xs H Q => ∃ i j : Nat, xs = [V.int i, V.int j] ∧ Q (V.int ((max i j : Nat) : Int)) H) := by
  intro pins s σ H vs us Q I r h
  obtain ⟨i, j, rfl, q⟩ := h
  refine call_max2 hc pins s σ H _ us Q I r ⟨i, j, rfl, ?_⟩
  have e : (if (j : Int) > (i : Int) then (j : Int) else (i : Int)) = ((max i j : Nat) : Int) := by
    by_cases h : (j : Int) > i
    · rw [if_pos h, Nat.max_eq_right (by omega)]
    · rw [if_neg h, Nat.max_eq_left (by omega)]
  rw [e]
  exact q
theorem cr_minN (hc : X.calm = true) : CallR X (.builtin "min") (fun xs H Q => ∃ i j : Nat, xs = [V.int i, V.int j] ∧ Q (V.int ((min i j : Nat) : Int)) H) := by
  intro pins s σ H vs us Q I r h
  obtain ⟨i, j, rfl, q⟩ := h
  refine call_min2 hc pins s σ H _ us Q I r ⟨i, j, rfl, ?_⟩
  have e : (if (j : Int) < (i : Int) then (j : Int) else (i : Int)) = ((min i j : Nat) : Int) := by
    by_cases h : (j : Int) < i
    · rw [if_pos h, Nat.min_eq_right (by omega)]
    · rw [if_neg h, Nat.min_eq_left (by omega)]
  rw [e]
  exact q
/-- sum of a tuple of ints -/
def rSumT (K : PySem.W.Frag) : List V → Hp → VK → Prop := fun vs H Q => ∃ (a : Addr) (ns : List Int), vs = [V.ref a] ∧ SqT K H a (ns.map V.int) ∧ Q (.int ns.sum) H
theorem cr_sumT (hc : X.calm = true) : CallR X (.builtin "sum") (rSumT X.K) := by
  intro pins s σ H vs us Q I r h
  obtain ⟨a, ns, rfl, hs, q⟩ := h
  obtain ⟨its, rv, hl, _⟩ := I.tuple hs
  rw [Vals.ref1 r]
  obtain ⟨xs, e⟩ := rv.ints.allInts.items
  have hn : numsOf (intItems xs).toList = ns := by rw [← e]; exact rv.ints.numsOf
  rw [nums_intItems] at hn
  have hl' : s.heap.IsTuple a (intItems xs) := by
    rw [← e]
    exact hl
  refine PySem.W.ktm_sumG (I.ok.hd hc) hl' fun h' tk t' hk => ?_
  rw [preSum_eq, List.take_of_length_le (by simp), hn]
  exact ⟨.int _, H, I.kept hk, ⟨_, rfl⟩, q⟩
end

/-- a def that stands, with its promise -/
def vI (n : Nat) : V := .int (n : Int)
structure Dn (P : Program) (w : World) (K : PySem.W.Frag) (mg : Str → Option Value) (base : Heap) (x : Str) (ps : List Str) (k : Nat) (sp : Sp) : Prop where
  ex : ∃ (f : Addr) (fd : FuncData), FnOk P w K mg base CX0 k f fd ps sp ∧ mg x = some (.ref f) ∧ PySem.W.keepIn K (.ref f) = true ∧ Binds K fd ps []
def tCallD (sp : Sp) (t : TA) : TE := fun σ H Q => t σ H fun vs H1 => sp vs H1 Q E0
section
variable {X : Cx} {x : Str} {ps : List Str} {k : Nat} {sp : Sp} {e : Expr} {es : List Expr} {t : TA} {p pos : Pos}
theorem pe_dn (D : Dn X.prog X.w X.K X.mg X.base x ps k sp) (hr : Room k X.A) (hg : Gl X x) (ha : PA X (e :: es) t) (hdb : (x == ("__debug__" : Str)) = false := by decide)
    (he : starEach (e :: es) X.env = (false, eval e X.env) :: starEach es X.env := by rfl) (hpl : (backTo pos (starEach es X.env)).any (·.1) = false := by rfl) :
    PE X (.Call (.Name x p) (e :: es) [] pos) (tCallD sp t) := by
  obtain ⟨f, fd, F, hm, hk, hb⟩ := D.ex
  refine ⟨fun pins s σ H Q I h => (pe_call (E := E0) F hr hg hm hk hb .nil pass0 ha hdb he hpl).run pins s σ H Q I ?_⟩
  have e0 : (fun (vs : List V) (H1 : Hp) => sp (vs ++ []) H1 Q E0) = fun vs H1 => sp vs H1 Q E0 := by
    funext vs H1
    rw [List.append_nil]
  show t σ H (fun vs H1 => sp (vs ++ []) H1 Q E0)
  rw [e0]
  exact h
theorem pe_dn0 (D : Dn X.prog X.w X.K X.mg X.base x ps k sp) (hr : Room k X.A) (hg : Gl X x) (hdb : (x == ("__debug__" : Str)) = false := by decide) :
    PE X (.Call (.Name x p) [] [] pos) (tCallD sp tNil) := by
  obtain ⟨f, fd, F, hm, hk, hb⟩ := D.ex
  exact ⟨fun pins s σ H Q I h => (pe_call0 (E := E0) F hr hg hm hk hb .nil pass0 hdb).run pins s σ H Q I h⟩
end
/-- the same where the last arguments are defaults -/
structure DnD (P : Program) (w : World) (K : PySem.W.Frag) (mg : Str → Option Value) (base : Heap) (x : Str) (ps : List Str) (dvs : List V) (k : Nat) (sp : Sp) : Prop where
  ex : ∃ (f : Addr) (fd : FuncData) (ds : List Value), FnOk P w K mg base CX0 k f fd ps sp ∧ mg x = some (.ref f) ∧ PySem.W.keepIn K (.ref f) = true ∧ Binds K fd ps ds ∧ Vals dvs ds
theorem pe_dnD {X : Cx} {x : Str} {ps : List Str} {dvs : List V} {k : Nat} {sp : Sp} {e : Expr} {es : List Expr} {t : TA} {p pos : Pos} (D : DnD X.prog X.w X.K X.mg X.base x ps dvs k sp) (hr : Room k X.A) (hg : Gl X x) (ha : PA X (e :: es) t) (hdb : (x == ("__debug__" : Str)) = false := by decide)
    (he : starEach (e :: es) X.env = (false, eval e X.env) :: starEach es X.env := by rfl) (hpl : (backTo pos (starEach es X.env)).any (·.1) = false := by rfl) :
    PE X (.Call (.Name x p) (e :: es) [] pos) (tCall sp dvs E0 t) := by
  obtain ⟨f, fd, ds, F, hm, hk, hb, hv⟩ := D.ex
  exact pe_call (E := E0) F hr hg hm hk hb hv pass0 ha hdb he hpl
/-- a def of the text, its promise: the level a letter -/
theorem Dn.mk' {P : Program} {w : World} {K : PySem.W.Frag} {mg : Str → Option Value} {base : Heap} {x : Str} {st : Stmt} {ps : List Str} {k : Nat} {sp : Sp} {f : Addr} {fd : FuncData}
    (F : Fun K x x st f fd) (hm : mg x = some (.ref f)) (hb : Binds K fd ps []) (ok : FnOk P w K mg base CX0 k f fd ps sp) : Dn P w K mg base x ps k sp :=
  ⟨f, fd, ok, hm, F.kp, hb⟩
end Bf
namespace Bf
open PySem PySem.Spec PyProof.Rows L2
section
variable {X : Cx} {d : Addr} {es : Array DictEntry} {n : Nat}
/-- d[k], d a dict of the module with text keys -/
theorem ix_kd (D : KDict X.K X.w d es n) : IxR X (fun x y H Q => ∃ (z : Str) (u0 : Value) (v0 : V), x = .ref d ∧ y = .str z ∧ PySem.W.nsIn X.K d z = some (some u0) ∧ RelV v0 u0 ∧ Q v0 H) := by
  intro value slice pins s σ H x y v u Q I rx ry h hs
  have h0 := h
  obtain ⟨z, u0, v0, rfl, rfl, e, r, q⟩ := h
  cases rx
  exact tail_any (kd_type D I) PySem.slot_dict_getitem.lookup (op_item_kd D pins s σ H (V.ref d) (V.str z) _ u Q I (show RelV (V.ref d) (Value.ref d) from rfl) ry h0) hs
/-- of several defs that the slot may hold: the def and its promise are told in the reading -/
def tCallH (P : Program) (w : World) (K : PySem.W.Frag) (mg : Str → Option Value) (base : Heap) (k i : Nat) (t : TA) : TE := fun σ H Q => ∃ f sp fd ps, σ[i]? = some (some (.ref f)) ∧ FnOk P w K mg base CX0 k f fd ps sp ∧ PySem.W.keepIn K (.ref f) = true ∧ Binds K fd ps [] ∧ t σ H fun vs H1 => sp vs H1 Q E0
theorem pe_held {i k : Nat} {x : Str} {p pos : Pos} {e : Expr} {es : List Expr} {t : TA} (hr : Room k X.A) (hN : X.N[i]? = some x) (hv : Vis X.env.scope x) (ha : PA X (e :: es) t)
    (hdb : (x == ("__debug__" : Str)) = false := by decide) (hcd : (x == ("__classdict__" : Str)) = false := by decide)
    (he : starEach (e :: es) X.env = (false, eval e X.env) :: starEach es X.env := by rfl) (hpl : (backTo pos (starEach es X.env)).any (·.1) = false := by rfl) : PE X (.Call (.Name x p) (e :: es) [] pos) (tCallH X.prog X.w X.K X.mg X.base k i t) := by
  refine ⟨fun pins s σ H Q I h => ?_⟩
  obtain ⟨f, sp, fd, ps, hs, F, hk, hb, ht⟩ := h
  refine (pe_callL (i := i) (f := f) (sp := sp) (dvs := []) (E := E0) F hr hN hv hk hb .nil pass0 ha hdb hcd he hpl).run pins s σ H Q I ⟨hs, ?_⟩
  have e0 : (fun (vs : List V) (H1 : Hp) => sp (vs ++ []) H1 Q E0) = fun vs H1 => sp vs H1 Q E0 := by
    funext vs H1
    rw [List.append_nil]
  show t σ H (fun vs H1 => sp (vs ++ []) H1 Q E0)
  rw [e0]
  exact ht
end
end Bf

set_option Elab.async false
set_option linter.all false
set_option maxRecDepth 100000
set_option maxHeartbeats 4000000
namespace Bf
open PySem PySem.Spec PyProof.Rows L2
/-! ### small steps of a reading -/
theorem ifY {c : Bool} {A B : Prop} (e : c = true) (h : A) : if c = true then A else B := by
  rw [if_pos e]
  exact h
theorem ifN {c : Bool} {A B : Prop} (e : c = false) (h : B) : if c = true then A else B := by
  rw [e]
  exact iteF h
theorem rdL {K : PySem.W.Frag} {H : Hp} {a : Addr} {xs : List V} {i : Int} {v : V} {Q : VK} (h : SqL K H a xs) (e : atI xs i = some v) (k : Q v H) : rIxL K (.ref a) (.int i) H Q := ⟨a, xs, _, v, rfl, rfl, h, e, k⟩
theorem rdC {v : V} {σ : L2.St} {H : Hp} {Q : VK} (k : Q v H) : tC v σ H Q := k
theorem seqNew {K : PySem.W.Frag} {H : Hp} {a p : Addr} {o : HO} {xs : List V} (hp : H p = none) (h : SqL K H a xs) : SqL K (upd H p o) a xs := by
  rcases h with (h | ⟨u, h⟩) | h
  · exact .inl (.inl (by rw [upd_ne (ne_of_none h hp)]; exact h))
  · exact .inl (.inr ⟨u, by rw [upd_ne (ne_of_none h hp)]; exact h⟩)
  · exact .inr h
theorem le1000 {n : Nat} (h : n ≤ 1000) : n ≤ sizeLine := Nat.le_of_lt (small1000 h)
end Bf

set_option Elab.async false
set_option linter.all false
set_option maxRecDepth 100000
set_option maxHeartbeats 4000000
namespace Bf
open PySem PySem.Spec PyProof.Rows L2

/-! ### what enumerate and zip walk: a list or a tuple -/
structure Src where
  sq : PySem.W.Frag → Hp → Addr → List V → Prop
  itr : Heap → Addr → Addr → Nat → Prop
  isS : Heap → Addr → Array Value → Prop
  ob : Addr → Obj
  inv : ∀ {X : Cx} {pins : List (Addr × Obj)} {σ : L2.St} {H : Hp} {s : Shared} {a : Addr} {xs : List V}, Inv X pins σ H s → sq X.K H a xs → ∃ its : List Value, Vals xs its ∧ isS s.heap a its.toArray
  inj : ∀ {X : Cx} {pins : List (Addr × Obj)} {σ : L2.St} {H : Hp} {s : Shared} {a : Addr} {xs ys : List V}, Inv X pins σ H s → sq X.K H a xs → sq X.K H a ys → xs = ys
  draws : ∀ {prog : Program} {w : World} {A : Around}, A.handled = none → ∀ (it l : Addr), l ≠ it → ∀ (items : Array Value), Draws prog w A it [it, l] items.size (fun i v => items[i]? = some v) (fun i h => itr h it l i ∧ isS h l items)
  obj : ∀ {h : Heap} {it a : Addr} {i : Nat}, itr h it a i → ∃ o, h.get? it = some o ∧ ∀ v, o.data ≠ .cell v
  at_ : ∀ {h h' : Heap} {it a : Addr} {i : Nat}, itr h it a i → (∀ o, h.get? it = some o → h'.get? it = some o) → itr h' it a i
  beg : ∀ (a : Addr) (items : Array Value), Begins (.ref a) (ob a) (fun h => isS h a items)
  start : ∀ {h : Heap} {it a : Addr}, h.get? it = some (ob a) → itr h it a 0
  lt : ∀ {h : Heap} {a : Addr} {items : Array Value}, isS h a items → a < h.objs.size
  keep : ∀ {K : PySem.W.Frag} {H H' : Hp} {a : Addr} {xs : List V}, Same H H' → sq K H a xs → sq K H' a xs
theorem seqT_same {K : PySem.W.Frag} {H H' : Hp} {a : Addr} {xs : List V} (k : Same H H') (h : SqT K H a xs) : SqT K H' a xs := by
  rcases h with (h | ⟨u, h⟩) | h
  · exact .inl (.inl (k _ _ h))
  · exact .inl (.inr ⟨u, k _ _ h⟩)
  · exact .inr h

def srcL : Src where
  sq := fun K H a xs => SqL K H a xs
  itr := fun h it a i => h.IsListIter it a i
  isS := fun h a items => h.IsList a items
  ob := fun a => { cls := .type "list_iterator", data := .fields #[.ref a, .int 0 0] }
  inv := fun I h => let ⟨its, r, p, _⟩ := I.list h; ⟨its, r, p.isList⟩
  inj := fun I h h' => I.list_inj h h'
  draws := fun hh it l hne items => Draws.list hh it l hne items
  obj := fun ⟨o, e, c, d⟩ => ⟨o, e, fun v z => by rw [d] at z; cases z⟩
  at_ := fun x k => x.at k
  beg := fun a items => begins_list a items
  start := fun e => ⟨_, e, rfl, rfl⟩
  lt := fun ⟨o, e, _⟩ => Heap.lt_size e
  keep := fun k h => k.seq h

def srcT : Src where
  sq := fun K H a xs => SqT K H a xs
  itr := fun h it a i => h.IsTupleIter it a i
  isS := fun h a items => h.IsTuple a items
  ob := fun a => { cls := .type "tuple_iterator", data := .fields #[.ref a, .int 0 0] }
  inv := fun I h => let ⟨its, r, p, _⟩ := I.tuple h; ⟨its, r, p⟩
  inj := fun I h h' => I.tuple_inj h h'
  draws := fun hh it l hne items => Draws.tuple hh it l hne items
  obj := fun ⟨o, e, c, d⟩ => ⟨o, e, fun v z => by rw [d] at z; cases z⟩
  at_ := fun x k => x.at k
  beg := fun a items => begins_tuple a items
  start := fun e => ⟨_, e, rfl, rfl⟩
  lt := fun ⟨o, e, _⟩ => Heap.lt_size e
  keep := fun k h => seqT_same k h

/-! ### enumerate -/
def ItE (S : Src) (K : PySem.W.Frag) (a : Addr) : It :=
  ⟨fun i H => ∃ (xs : List V) (x : V), S.sq K H a xs ∧ xs[i]? = some x, fun i H v H' => ∃ T x, v = .ref T ∧ H T = none ∧ H' = upd H T (.tup [.int (i : Nat), x]) ∧ ∀ xs, S.sq K H a xs → xs[i]? = some x, fun i H => ∃ xs : List V, S.sq K H a xs ∧ xs.length = i⟩

theorem turn_enumG (S : Src) {P : Program} {w : World} {K : PySem.W.Frag} {elts : List Expr} {kk : Nat} {tpos : Pos} (a e it : Addr) :
    Turn P w K (.Tuple elts kk tpos) (ItE S K a) [e, it] e (fun i h => (∃ old, IsEnum h e it ((i : Nat) : Int) old) ∧ S.itr h it a i ∧ e ≠ it ∧ e ≠ a ∧ a ≠ it) where
  mem := by simp
  obj := fun i h st b hb => by
    obtain ⟨⟨old, he⟩, hi, _⟩ := st
    have e' : b = e ∨ b = it := by simpa using hb
    rcases e' with z | z
    · rw [z]; exact ⟨_, he, fun v q => nomatch q⟩
    · rw [z]; exact S.obj hi
  keep := fun i h h' st k => let ⟨⟨old, he⟩, hi, r⟩ := st; ⟨⟨old, k e (by simp) _ he⟩, S.at_ hi fun o q => k it (by simp) o q, r⟩
  item := by
    intro X hP hw hK hc i pins s σ H E I hf st hg
    subst hP hw hK
    obtain ⟨⟨old, he⟩, hit, hne, hea, hai⟩ := st
    obtain ⟨xs, x, hq, hx⟩ := hg
    obtain ⟨its, rv, p⟩ := S.inv I hq
    obtain ⟨u, hu, ru⟩ := rv.get hx
    have hel : e < s.heap.objs.size := Heap.lt_size he
    have hil : it < s.heap.objs.size := by obtain ⟨_, q, _⟩ := S.obj hit; exact Heap.lt_size q
    have hlt : i < its.toArray.size := by
      have q := (List.getElem?_eq_some_iff.mp hu).1
      simpa using q
    refine wpAny_pyNext_enum_itemD (S.draws (show X.A.in1.handled = none from I.ok.hd hc) it a hai its.toArray) he ⟨hit, p⟩ hlt hne (by simp [hne, hea]) fun v h' tk hv ho hst hT hsz hk => ?_
    have ev : u = v := by
      have q : its[i]? = some v := by simpa using hv
      rw [hu] at q; cases q; rfl
    subst ev
    refine ⟨_, rfl, wpAny_letOwnedTupleGo_enum (s := { s with heap := h', toks := tk + 1 }) ho fun h'' he' sb => ?_⟩
    have hT2 : h''.get? s.heap.objs.size = some { cls := .type "tuple", data := .seq #[.int i tk, u] } := (sb.2 _ (Nat.ne_of_gt hel)).trans hT
    have new : ObjOk X.prog X.w (upd H s.heap.objs.size (.tup [.int (i : Nat), x])) h'' s.heap.objs.size (.tup [.int (i : Nat), x]) :=
      ⟨by show 2 ≤ sizeLine; decide, [.int i tk, u], .cons ⟨_, rfl⟩ (.cons ru .nil), ⟨_, hT2, rfl, _, rfl⟩⟩
    have I1 : Inv X pins σ (upd H s.heap.objs.size (.tup [.int (i : Nat), x])) { s with heap := h'', toks := tk + 1 } :=
      I.turnedNew (ch := [e, it]) (fun b ob hb q => (sb.2 b (fun z => hb (by simp [z]))).trans (hk b ob (fun z => hb (by simp [z])) (fun z => hb (by simp [z])) q)) hf (Nat.le_refl _) new
    refine ⟨.ref s.heap.objs.size, _, I1, rfl, ⟨_, x, rfl, I.hok.fresh (Nat.le_refl _), rfl, fun ys hy => by rw [S.inj I hy hq]; exact hx⟩, ⟨⟨u, ?_⟩, S.at_ hst.1 fun o q => (sb.2 it (Ne.symm hne)).trans q, hne, hea, hai⟩, fun b hb => ?_⟩
    · have e1 : ((i + 1 : Nat) : Int) = (i : Int) + 1 := by omega
      rw [e1]; exact he'
    · have hb' : b < s.heap.objs.size := by
        have e' : b = e ∨ b = it := by simpa using hb
        rcases e' with z | z
        · rw [z]; exact hel
        · rw [z]; exact hil
      rw [upd_ne (Nat.ne_of_lt hb')]
      exact (hf b hb).1
  done := by
    intro X hP hw hK hc i pins s σ H E I hf st hg
    subst hP hw hK
    obtain ⟨⟨old, he⟩, hit, hne, hea, hai⟩ := st
    obtain ⟨xs, hq, hx⟩ := hg
    obtain ⟨its, rv, p⟩ := S.inv I hq
    obtain ⟨f0, f1, f2, f3, f4, f5⟩ := hf it (by simp)
    have hl := rv.length
    have hn : its.toArray.size = i := by rw [List.size_toArray]; omega
    subst hn
    exact wpAny_pyNext_enum_endD (S.draws (show X.A.in1.handled = none from I.ok.hd hc) it a hai its.toArray) he ⟨hit, p⟩ fun h' eb => ⟨rfl, I.turned (t' := s.toks) (fun b o hb q => eb b o hb q) f0 f1 f3 f4 f5⟩
  self := fun A i s Q E st h => let ⟨⟨_, he⟩, _⟩ := st; wpAny_pyIter_enum he h

theorem meets_enum_new0 {v : Value} {o : Obj} {H : Heap → Prop} (B : Begins v o H) :
    Meets (Builtin.«enumerate.__new__» ⟨[.type "enumerate", v], []⟩) (fun _ R s => H s.heap ∧
      R (.ok (.ret (.ref (s.heap.push o).objs.size))) { s with heap := (s.heap.push o).push { cls := .type "enumerate", data := .fields #[.none, .bool false, .ref s.heap.objs.size, rawInt 0, .none, .none] } }) :=
  .of_wp fun prog w A R s h => by
    obtain ⟨hp, g, d, tk, os⟩ := s; obtain ⟨h1, h⟩ := h
    have hsub := sub_enumerate
    have q1 : ∀ {A' : Around} {E : Value → Shared → Prop} {Q : Value → Shared → Prop}, Q (.ref hp.objs.size) ⟨hp.push o, g, d, tk, os⟩ → wpAny (model prog w) A' (pyIter v) Q E ⟨hp, g, d, tk, os⟩ :=
      fun q => B.iter prog w _ _ ⟨hp, g, d, tk, os⟩ _ h1 q
    wp_walk using q1
    refine wpAny_stack_any fun st => wpAny_pure ?_
    split
    · rename_i c _ _ _ _ _
      cases (c == Value.type "enumerate")
      · wp_walk using q1
        exact ⟨_, rfl, h⟩
      · wp_walk using q1
        exact ⟨_, rfl, h⟩
    · wp_walk using q1
      exact ⟨_, rfl, h⟩
section
variable {prog : Program} {w : World} {A : Around} {E : Value → Shared → Prop} {s : Shared}
theorem enum_begins0 {v : Value} {o : Obj} {H : Heap → Prop} {Q : Value → Shared → Prop} (B : Begins v o H) (h1 : H s.heap)
    (h : ∀ h', IsEnum h' (s.heap.objs.size + 1) s.heap.objs.size 0 .none → h'.get? s.heap.objs.size = some o → h'.objs.size = s.heap.objs.size + 2 →
      (∀ b o, s.heap.get? b = some o → h'.get? b = some o) → Q (.ref (s.heap.objs.size + 1)) { s with heap := h' }) :
    wpAny (model prog w) A (call (.type "enumerate") [v]) Q E s := by
  refine callType_new F.called_enumerate (by decide) (F.typeCall_enumerate_1 _) (F.newCall_enumerate_1 _) (fun obj => F.args_object_init_2 obj _) F.entry_enumerate_new
    (meets_enum_new0 B) ⟨h1, ?_⟩
  have hz : (s.heap.push o).objs.size = s.heap.objs.size + 1 := Heap.size_push ..
  show _ ∧ _
  rw [hz]
  have he : IsEnum ((s.heap.push o).push { cls := .type "enumerate", data := .fields #[.none, .bool false, .ref s.heap.objs.size, rawInt 0, .none, .none] }) (s.heap.objs.size + 1) s.heap.objs.size 0 .none := by
    have := Heap.get?_push_size (s.heap.push o) (o := { cls := .type "enumerate", data := .fields #[.none, .bool false, .ref s.heap.objs.size, rawInt 0, .none, .none] }) rfl
    rw [hz] at this; exact this
  exact ⟨⟨_, he, rfl⟩, h _ he (Heap.get?_push_of_some _ (Heap.get?_push_size _ B.free)) (by rw [Heap.size_push, hz]) fun b o x => Heap.get?_push_of_some _ (Heap.get?_push_of_some _ x)⟩
end
def iEnG (S : Src) (K : PySem.W.Frag) (ta : TA) : TI := fun σ H R => ta σ H fun vs H1 => ∃ a xs, vs = [.ref a] ∧ S.sq K H1 a xs ∧ R (ItE S K a) H1
theorem enumG_run (S : Src) {X : Cx} {pins : List (Addr × Obj)} {σ : L2.St} {H1 : Hp} {s1 : Shared} {us : List Value} {vs : List V} {elts : List Expr} {kk : Nat} {tpos : Pos} {R : It → Hp → Prop} (I1 : Inv X pins σ H1 s1) (r1 : Vals vs us)
    (q1 : ∃ (a : Addr) (xs : List V), vs = [.ref a] ∧ S.sq X.K H1 a xs ∧ R (ItE S X.K a) H1) :
    wpAny (model X.prog X.w) X.A (call (.type "enumerate") us) (fun v s1 => wpAny (model X.prog X.w) X.A (pyIter v) (PIE X pins σ (.Tuple elts kk tpos) R) X.xe s1) X.xe s1 := by
  obtain ⟨a, xs, ex, hq, q⟩ := q1
  subst ex
  cases r1 with
  | cons r rr =>
    cases rr
    cases r
    obtain ⟨its, rv, p'⟩ := S.inv I1 hq
    have la := S.lt p'
    refine enum_begins0 (S.beg a its.toArray) p' fun h' he hit hsz hk => wpAny_pyIter_enum he ?_
    have I2 : Inv X pins σ H1 { s1 with heap := h' } := I1.kept (t' := s1.toks) hk
    refine ⟨s1.heap.objs.size + 1, [s1.heap.objs.size + 1, s1.heap.objs.size], _, _, H1, rfl, I2, turn_enumG S a (s1.heap.objs.size + 1) s1.heap.objs.size, ⟨⟨.none, he⟩, S.start hit, Nat.succ_ne_self _, Nat.ne_of_gt (Nat.lt_succ_of_lt la), Nat.ne_of_lt la⟩, fun b hb => ?_, q⟩
    have e' : b = s1.heap.objs.size + 1 ∨ b = s1.heap.objs.size := by simpa using hb
    have hle : s1.heap.objs.size ≤ b := by
      rcases e' with z | z
      · rw [z]; exact Nat.le_add_right _ _
      · rw [z]; exact Nat.le_refl _
    exact I1.fpOk hle (I1.hok.fresh hle)

/-! ### zip of two -/
def ItZ (S1 S2 : Src) (K : PySem.W.Frag) (a b : Addr) : It :=
  ⟨fun i H => ∃ (xs ys : List V) (x y : V), S1.sq K H a xs ∧ S2.sq K H b ys ∧ xs[i]? = some x ∧ ys[i]? = some y,
    fun i H v H' => ∃ T x y, v = .ref T ∧ H T = none ∧ H' = upd H T (.tup [x, y]) ∧ (∀ xs, S1.sq K H a xs → xs[i]? = some x) ∧ ∀ ys, S2.sq K H b ys → ys[i]? = some y,
    fun i H => ∃ xs ys : List V, S1.sq K H a xs ∧ S2.sq K H b ys ∧ i ≤ xs.length ∧ i ≤ ys.length ∧ (i = xs.length ∨ i = ys.length)⟩
theorem turn_zipG (S1 S2 : Src) {P : Program} {w : World} {K : PySem.W.Frag} {elts : List Expr} {kk : Nat} {tpos : Pos} {a b z TI TO i1 i2 : Addr} (D : ZipSep2 z TI TO i1 i2 [i1, a] [i2, b]) (ha1 : a ≠ i1) (hb2 : b ≠ i2) :
    Turn P w K (.Tuple elts kk tpos) (ItZ S1 S2 K a b) [z, TI, TO, i1, i2] z (fun i h => IsZip h z TI TO .none ∧ IsTupOf2 h TI (.ref i1) (.ref i2) ∧ (∃ x y, IsTupOf2 h TO x y) ∧ S1.itr h i1 a i ∧ S2.itr h i2 b i) where
  mem := by simp
  obj := fun i h st c hc => by
    obtain ⟨hz, hTI, ⟨x, y, hTO⟩, h1, h2⟩ := st
    have e' : c = z ∨ c = TI ∨ c = TO ∨ c = i1 ∨ c = i2 := by simpa using hc
    rcases e' with q | q | q | q | q
    · rw [q]; exact ⟨_, hz, fun v q => nomatch q⟩
    · rw [q]; exact ⟨_, hTI, fun v q => nomatch q⟩
    · rw [q]; exact ⟨_, hTO, fun v q => nomatch q⟩
    · rw [q]; exact S1.obj h1
    · rw [q]; exact S2.obj h2
  keep := fun i h h' st k => by
    obtain ⟨hz, hTI, ⟨x, y, hTO⟩, h1, h2⟩ := st
    exact ⟨k z (by simp) _ hz, k TI (by simp) _ hTI, ⟨x, y, k TO (by simp) _ hTO⟩, S1.at_ h1 fun o q => k i1 (by simp) o q, S2.at_ h2 fun o q => k i2 (by simp) o q⟩
  item := by
    intro X hP hw hK hc i pins s σ H E I hf st hg
    subst hP hw hK
    obtain ⟨hz, hTI, ⟨x0, y0, hTO⟩, h1, h2⟩ := st
    obtain ⟨xs, ys, x, y, hqx, hqy, hx, hy⟩ := hg
    obtain ⟨its, rv, p⟩ := S1.inv I hqx
    obtain ⟨its2, rv2, p2⟩ := S2.inv I hqy
    obtain ⟨u, hu, ru⟩ := rv.get hx
    obtain ⟨u2, hu2, ru2⟩ := rv2.get hy
    have hzl : z < s.heap.objs.size := Heap.lt_size hz
    have hlt : i < its.toArray.size := by
      have q := (List.getElem?_eq_some_iff.mp hu).1
      simpa using q
    have hlt2 : i < its2.toArray.size := by
      have q := (List.getElem?_eq_some_iff.mp hu2).1
      simpa using q
    have hh : X.A.in1.handled = none := I.ok.hd hc
    refine wpAny_pyNext_zipD2_item D (S1.draws hh i1 a ha1 its.toArray) (S2.draws hh i2 b hb2 its2.toArray) hz hTI hTO ⟨h1, p⟩ ⟨h2, p2⟩ hlt hlt2 fun v v2 h' tk hv hv2 z' TO' st1 st2 hT hsz hk => ?_
    have ev : u = v := by
      have q : its[i]? = some v := by simpa using hv
      rw [hu] at q; cases q; rfl
    have ev2 : u2 = v2 := by
      have q : its2[i]? = some v2 := by simpa using hv2
      rw [hu2] at q; cases q; rfl
    subst ev ev2
    refine ⟨_, rfl, wpAny_letOwnedTupleGo_zip (s := { s with heap := h', toks := tk }) z' fun h'' z'' sb => ?_⟩
    have hT2 : h''.get? s.heap.objs.size = some { cls := .type "tuple", data := .seq #[u, u2] } := (sb.2 _ (Nat.ne_of_gt hzl)).trans hT
    have new : ObjOk X.prog X.w (upd H s.heap.objs.size (.tup [x, y])) h'' s.heap.objs.size (.tup [x, y]) :=
      ⟨by show 2 ≤ sizeLine; decide, [u, u2], .cons ru (.cons ru2 .nil), ⟨_, hT2, rfl, _, rfl⟩⟩
    have I1 : Inv X pins σ (upd H s.heap.objs.size (.tup [x, y])) { s with heap := h'', toks := tk } :=
      I.turnedNew (ch := [z, TI, TO, i1, i2]) (fun c o hb q => (sb.2 c (fun q' => hb (by simp [q']))).trans (hk c o (fun q' => hb (by simp [q'])) (fun q' => hb (by simp [q'])) (fun q' => hb (by simp [q'])) (fun q' => hb (by simp [q'])) q)) hf (Nat.le_refl _) new
    have zi1 : i1 ≠ z := fun q => D.zf1 (by simp [q])
    have zi2 : i2 ≠ z := fun q => D.zf2 (by simp [q])
    refine ⟨.ref s.heap.objs.size, _, I1, rfl, ⟨_, x, y, rfl, I.hok.fresh (Nat.le_refl _), rfl, fun l hl => by rw [S1.inj I hl hqx]; exact hx, fun l hl => by rw [S2.inj I hl hqy]; exact hy⟩, ⟨z'', ?_, ⟨u, u2, ?_⟩, ?_, ?_⟩, fun c hcm => ?_⟩
    · exact (sb.2 _ D.TIz).trans (hk _ _ D.TIz D.TITO D.TIi1 D.TIi2 hTI)
    · exact (sb.2 _ D.TOz).trans TO'
    · exact S1.at_ st1.1 fun o q => (sb.2 _ zi1).trans q
    · exact S2.at_ st2.1 fun o q => (sb.2 _ zi2).trans q
    · have hlt : c < s.heap.objs.size := by
        have e' : c = z ∨ c = TI ∨ c = TO ∨ c = i1 ∨ c = i2 := by simpa using hcm
        rcases e' with q | q | q | q | q
        · rw [q]; exact hzl
        · rw [q]; exact Heap.lt_size hTI
        · rw [q]; exact Heap.lt_size hTO
        · rw [q]; obtain ⟨_, e1, _⟩ := S1.obj h1; exact Heap.lt_size e1
        · rw [q]; obtain ⟨_, e2, _⟩ := S2.obj h2; exact Heap.lt_size e2
      rw [upd_ne (Nat.ne_of_lt hlt)]
      exact (hf c hcm).1
  done := by
    intro X hP hw hK hc i pins s σ H E I hf st hg
    subst hP hw hK
    obtain ⟨hz, hTI, ⟨x0, y0, hTO⟩, h1, h2⟩ := st
    obtain ⟨xs, ys, hqx, hqy, le1, le2, hend⟩ := hg
    obtain ⟨its, rv, p⟩ := S1.inv I hqx
    obtain ⟨its2, rv2, p2⟩ := S2.inv I hqy
    have l1 := rv.length
    have l2 := rv2.length
    have hh : X.A.in1.handled = none := I.ok.hd hc
    exact wpAny_pyNext_zipD2_end D (S1.draws hh i1 a ha1 its.toArray) (S2.draws hh i2 b hb2 its2.toArray) hz hTI hTO ⟨h1, p⟩ ⟨h2, p2⟩ (by rw [List.size_toArray]; omega) (by rw [List.size_toArray]; omega)
      (by rw [List.size_toArray, List.size_toArray]; omega) fun h' tk hk => ⟨rfl, I.turnedL (t' := tk) (ch := [z, TI, TO, i1, i2]) (fun c o hb q =>
      hk c o (fun q' => hb (by simp [q'])) (fun q' => hb (by simp [q'])) (fun q' => hb (by simp [q'])) (fun q' => hb (by simp [q'])) q) hf⟩
  self := fun A i s Q E st h => wpAny_pyIter_zip st.1 h
def iZpG (S1 S2 : Src) (K : PySem.W.Frag) (ta : TA) : TI := fun σ H R => ta σ H fun vs H1 => ∃ a b xs ys, vs = [.ref a, .ref b] ∧ S1.sq K H1 a xs ∧ S2.sq K H1 b ys ∧ R (ItZ S1 S2 K a b) H1
theorem zipG_run (S1 S2 : Src) {X : Cx} {pins : List (Addr × Obj)} {σ : L2.St} {H1 : Hp} {s1 : Shared} {us : List Value} {vs : List V} {elts : List Expr} {kk : Nat} {tpos : Pos} {R : It → Hp → Prop} (I1 : Inv X pins σ H1 s1) (r1 : Vals vs us)
    (q1 : ∃ (a b : Addr) (xs ys : List V), vs = [.ref a, .ref b] ∧ S1.sq X.K H1 a xs ∧ S2.sq X.K H1 b ys ∧ R (ItZ S1 S2 X.K a b) H1) :
    wpAny (model X.prog X.w) X.A (call (.type "zip") us) (fun v s1 => wpAny (model X.prog X.w) X.A (pyIter v) (PIE X pins σ (.Tuple elts kk tpos) R) X.xe s1) X.xe s1 := by
  obtain ⟨a, b, xs, ys, ex, hqx, hqy, q⟩ := q1
  subst ex
  cases r1 with
  | cons r rr =>
    cases rr with
    | cons r' rr =>
      cases rr
      cases r
      cases r'
      obtain ⟨its, rv, p1⟩ := S1.inv I1 hqx
      obtain ⟨its2, rv2, p2⟩ := S2.inv I1 hqy
      have la := S1.lt p1
      have lb := S2.lt p2
      refine zip_begins2 (S1.beg a its.toArray) (S2.beg b its2.toArray) p1 p2 fun h' hz hTI hTO h1 h2 hsz hk => wpAny_pyIter_zip hz ?_
      have I2 : Inv X pins σ H1 { s1 with heap := h' } := I1.kept (t' := s1.toks) hk
      refine ⟨s1.heap.objs.size + 4, [s1.heap.objs.size + 4, s1.heap.objs.size + 2, s1.heap.objs.size + 3, s1.heap.objs.size, s1.heap.objs.size + 1], _, _, H1, rfl, I2,
        turn_zipG S1 S2 (zip_sep2 (fp1 := [a]) (fp2 := [b]) (by intro c hc; rw [List.mem_singleton.mp hc]; exact la) (by intro c hc; rw [List.mem_singleton.mp hc]; exact lb)) (Nat.ne_of_lt la) (Nat.ne_of_lt (Nat.lt_succ_of_lt lb)),
        ⟨hz, hTI, ⟨_, _, hTO⟩, S1.start h1, S2.start h2⟩, fun c hcm => ?_, q⟩
      have e' : c = s1.heap.objs.size + 4 ∨ c = s1.heap.objs.size + 2 ∨ c = s1.heap.objs.size + 3 ∨ c = s1.heap.objs.size ∨ c = s1.heap.objs.size + 1 := by simpa using hcm
      have hle : s1.heap.objs.size ≤ c := by
        rcases e' with z | z | z | z | z
        · rw [z]; exact Nat.le_add_right _ _
        · rw [z]; exact Nat.le_add_right _ _
        · rw [z]; exact Nat.le_add_right _ _
        · rw [z]; exact Nat.le_refl _
        · rw [z]; exact Nat.le_add_right _ _
      exact I1.fpOk hle (I1.hok.fresh hle)

/-! ### for over them -/
theorem for_enumG (S : Src) {K : PySem.W.Frag} {a : Addr} {xs : List V} {g : TG} {tb : TS} {D : Ends} {σ : L2.St} {H : Hp} (Pv : Nat → L2.St → Hp → Prop) (h0 : Pv 0 σ H) (hq : ∀ i σ H, Pv i σ H → S.sq K H a xs)
    (hs : ∀ (i : Nat) (x : V) (T : Addr) (σ : L2.St) (H : Hp), xs[i]? = some x → Pv i σ H → H T = none → g (.ref T) σ (upd H T (.tup [.int (i : Nat), x])) fun σ2 H2 => tb { D with nx := Pv (i + 1), ct := Pv (i + 1), bk := D.nx } σ2 H2) (hd : ∀ σ H, Pv xs.length σ H → D.nx σ H) :
    ∃ W : Nat → Nat → L2.St → Hp → Prop, (∃ m, W 0 m σ H) ∧ ∀ i m σ H, W i m σ H →
      ((ItE S K a).stop i H ∧ D.nx σ H) ∨ ((ItE S K a).go i H ∧ ∃ N : L2.St → Hp → Prop, (∀ σ' H', N σ' H' → ∃ m', m' < m ∧ W (i + 1) m' σ' H') ∧ ∀ v H', (ItE S K a).yld i H v H' → g v σ H' fun σ2 H2 => tb { D with nx := N, ct := N, bk := D.nx } σ2 H2) := by
  refine ⟨fun i m σ H => m = xs.length - i ∧ i ≤ xs.length ∧ Pv i σ H, ⟨xs.length, rfl, Nat.zero_le _, h0⟩, ?_⟩
  rintro i m σ H ⟨rfl, hi, p⟩
  have qx := hq i σ H p
  by_cases hlt : i < xs.length
  · have hx : xs[i]? = some xs[i] := List.getElem?_eq_getElem hlt
    refine .inr ⟨⟨xs, _, qx, hx⟩, Pv (i + 1), fun σ' H' p' => ⟨xs.length - (i + 1), by omega, rfl, hlt, p'⟩, fun v H' y => ?_⟩
    obtain ⟨T, x', rfl, hT, rfl, f1⟩ := y
    exact hs i x' T σ H (f1 xs qx) p hT
  · have e : i = xs.length := by omega
    subst e
    exact .inl ⟨⟨xs, qx, rfl⟩, hd σ H p⟩
theorem for_zipG (S1 S2 : Src) {K : PySem.W.Frag} {a b : Addr} {xs ys : List V} {g : TG} {tb : TS} {D : Ends} {σ : L2.St} {H : Hp} (hl : xs.length = ys.length) (Pv : Nat → L2.St → Hp → Prop) (h0 : Pv 0 σ H) (hq : ∀ i σ H, Pv i σ H → S1.sq K H a xs ∧ S2.sq K H b ys)
    (hs : ∀ (i : Nat) (x y : V) (T : Addr) (σ : L2.St) (H : Hp), xs[i]? = some x → ys[i]? = some y → Pv i σ H → H T = none → g (.ref T) σ (upd H T (.tup [x, y])) fun σ2 H2 => tb { D with nx := Pv (i + 1), ct := Pv (i + 1), bk := D.nx } σ2 H2) (hd : ∀ σ H, Pv xs.length σ H → D.nx σ H) :
    ∃ W : Nat → Nat → L2.St → Hp → Prop, (∃ m, W 0 m σ H) ∧ ∀ i m σ H, W i m σ H →
      ((ItZ S1 S2 K a b).stop i H ∧ D.nx σ H) ∨ ((ItZ S1 S2 K a b).go i H ∧ ∃ N : L2.St → Hp → Prop, (∀ σ' H', N σ' H' → ∃ m', m' < m ∧ W (i + 1) m' σ' H') ∧ ∀ v H', (ItZ S1 S2 K a b).yld i H v H' → g v σ H' fun σ2 H2 => tb { D with nx := N, ct := N, bk := D.nx } σ2 H2) := by
  refine ⟨fun i m σ H => m = xs.length - i ∧ i ≤ xs.length ∧ Pv i σ H, ⟨xs.length, rfl, Nat.zero_le _, h0⟩, ?_⟩
  rintro i m σ H ⟨rfl, hi, p⟩
  obtain ⟨qx, qy⟩ := hq i σ H p
  by_cases hlt : i < xs.length
  · have hx : xs[i]? = some xs[i] := List.getElem?_eq_getElem hlt
    have hlt2 : i < ys.length := by omega
    have hy : ys[i]? = some ys[i] := List.getElem?_eq_getElem hlt2
    refine .inr ⟨⟨xs, ys, _, _, qx, qy, hx, hy⟩, Pv (i + 1), fun σ' H' p' => ⟨xs.length - (i + 1), by omega, rfl, hlt, p'⟩, fun v H' y => ?_⟩
    obtain ⟨T, x', y', rfl, hT, rfl, f1, f2⟩ := y
    exact hs i x' y' T σ H (f1 xs qx) (f2 ys qy) p hT
  · have e : i = xs.length := by omega
    subst e
    exact .inl ⟨⟨xs, ys, qx, qy, Nat.le_refl _, by omega, .inl rfl⟩, hd σ H p⟩

theorem for_zipLe (S1 S2 : Src) {K : PySem.W.Frag} {a b : Addr} {xs ys : List V} {g : TG} {tb : TS} {D : Ends} {σ : L2.St} {H : Hp} (hl : xs.length ≤ ys.length) (Pv : Nat → L2.St → Hp → Prop) (h0 : Pv 0 σ H) (hq : ∀ i σ H, Pv i σ H → S1.sq K H a xs ∧ S2.sq K H b ys)
    (hs : ∀ (i : Nat) (x y : V) (T : Addr) (σ : L2.St) (H : Hp), xs[i]? = some x → ys[i]? = some y → Pv i σ H → H T = none → g (.ref T) σ (upd H T (.tup [x, y])) fun σ2 H2 => tb { D with nx := Pv (i + 1), ct := Pv (i + 1), bk := D.nx } σ2 H2) (hd : ∀ σ H, Pv xs.length σ H → D.nx σ H) :
    ∃ W : Nat → Nat → L2.St → Hp → Prop, (∃ m, W 0 m σ H) ∧ ∀ i m σ H, W i m σ H →
      ((ItZ S1 S2 K a b).stop i H ∧ D.nx σ H) ∨ ((ItZ S1 S2 K a b).go i H ∧ ∃ N : L2.St → Hp → Prop, (∀ σ' H', N σ' H' → ∃ m', m' < m ∧ W (i + 1) m' σ' H') ∧ ∀ v H', (ItZ S1 S2 K a b).yld i H v H' → g v σ H' fun σ2 H2 => tb { D with nx := N, ct := N, bk := D.nx } σ2 H2) := by
  refine ⟨fun i m σ H => m = xs.length - i ∧ i ≤ xs.length ∧ Pv i σ H, ⟨xs.length, rfl, Nat.zero_le _, h0⟩, ?_⟩
  rintro i m σ H ⟨rfl, hi, p⟩
  obtain ⟨qx, qy⟩ := hq i σ H p
  by_cases hlt : i < xs.length
  · have hx : xs[i]? = some xs[i] := List.getElem?_eq_getElem hlt
    have hlt2 : i < ys.length := by omega
    have hy : ys[i]? = some ys[i] := List.getElem?_eq_getElem hlt2
    refine .inr ⟨⟨xs, ys, _, _, qx, qy, hx, hy⟩, Pv (i + 1), fun σ' H' p' => ⟨xs.length - (i + 1), by omega, rfl, hlt, p'⟩, fun v H' y => ?_⟩
    obtain ⟨T, x', y', rfl, hT, rfl, f1, f2⟩ := y
    exact hs i x' y' T σ H (f1 xs qx) (f2 ys qy) p hT
  · have e : i = xs.length := by omega
    subst e
    exact .inl ⟨⟨xs, ys, qx, qy, Nat.le_refl _, by omega, .inl rfl⟩, hd σ H p⟩

/-! ### two tuples of the same numbers -/
theorem canLay_ints : ∀ ns : List Nat, PyData.canLayAll0 (ns.map fun n : Nat => PyData.int (n : Int)) = true
  | [] => by simp [PyData.canLayAll0]
  | n :: r => by
    rw [List.map_cons, PyData.canLayAll0, canLay_ints r]
    simp [PyData.canLay0]
theorem depth_ints : ∀ ns : List Nat, PyData.depthAll (ns.map fun n : Nat => PyData.int (n : Int)) ≤ 1
  | [] => by simp [PyData.depthAll]
  | n :: r => by
    have := depth_ints r
    rw [List.map_cons, PyData.depthAll]
    simp [PyData.depth] <;> omega
theorem dp_ints {K : PySem.W.Frag} {H : Hp} : ∀ ns : List Nat, DpAll K H (ns.map vI) (ns.map fun n : Nat => PyData.int (n : Int))
  | [] => .nil
  | n :: r => .cons (.int _) (dp_ints r)
theorem shaped_ints (ns : List Nat) : SeqAt.shaped (.tuple (ns.map fun n : Nat => PyData.int (n : Int))) = true := by
  have h := depth_ints ns
  unfold SeqAt.shaped
  rw [PyData.canLay0, canLay_ints, Bool.true_and]
  refine decide_eq_true ?_
  rw [PyData.depth]
  omega
def rNeI (K : PySem.W.Frag) : R2 := fun x y H Q => ∃ (a b : Addr) (ns : List Nat), x = .ref a ∧ y = .ref b ∧ SqT K H a (ns.map vI) ∧ SqT K H b (ns.map vI) ∧ Q (.bl false) H
theorem op_neI {X : Cx} (hu : X.A.units + 64 < cLine) : OpR X (compareOp .NotEq) (rNeI X.K) := by
  intro pins s σ H x y v u Q I rx ry h
  obtain ⟨a, b, ns, rfl, rfl, ha, hb, q⟩ := h
  refine op_neD hu pins s σ H _ _ v u Q I rx ry ⟨_, _, .tup ha (dp_ints ns), .tup hb (dp_ints ns), shaped_ints ns, shaped_ints ns, ?_⟩
  rw [SeqAt.eqv_refl _ (SeqAt.canLay_of_shaped (shaped_ints ns))]
  exact q
def rEqI (K : PySem.W.Frag) : R2 := fun x y H Q => ∃ (a b : Addr) (ns : List Nat), x = .ref a ∧ y = .ref b ∧ SqT K H a (ns.map vI) ∧ SqT K H b (ns.map vI) ∧ Q (.bl true) H
theorem op_eqI {X : Cx} (hu : X.A.units + 64 < cLine) : OpR X (compareOp .Eq) (rEqI X.K) := by
  intro pins s σ H x y v u Q I rx ry h
  obtain ⟨a, b, ns, rfl, rfl, ha, hb, q⟩ := h
  refine op_eqD hu pins s σ H _ _ v u Q I rx ry ⟨_, _, .tup ha (dp_ints ns), .tup hb (dp_ints ns), shaped_ints ns, shaped_ints ns, ?_⟩
  rw [SeqAt.eqv_refl _ (SeqAt.canLay_of_shaped (shaped_ints ns))]
  exact q

/-! ### list.extend(tuple) -/
theorem ext_tupA (l : Addr) (items : Array Value) (n : Nat) (b : Addr) (items2 : Array Value) (n2 : Nat) (dd : Option Addr) (sl : Array (Option Value)) (hs0 : ¬(!items.isEmpty && Builtin.List.listTooLong (items.size + items2.size)) = true) (hs1 : items.size ≤ sizeLine) (hs2 : items.size + items2.size ≤ sizeLine + 1) :
    Meets (Builtin.«list.extend» ⟨[.ref l, .ref b], []⟩) (fun _ R s => s.heap.get? l = some { cls := .type "list", dict := none, data := .seq items n, slots := #[] } ∧ s.heap.get? b = some { cls := .type "tuple", dict := dd, data := .seq items2 n2, slots := sl } ∧ R (.ok (.ret Value.none)) { s with heap := s.heap.update l (Obj.mapSeq fun x => x ++ items2), toks := s.toks }) :=
  .of_wp fun prog w A R s h => by
    obtain ⟨hp, g, d, tk, os⟩ := s; obtain ⟨hl, hb, h⟩ := h; have f2 := sub_tuple_tuple; have f3 := sub_list_list; have f4 := sub_tuple_list; have f5 := sub_list_tuple
    have hz' : (items ++ items2).size ≤ sizeLine + 1 := by rw [Array.size_append]; exact hs2
    wp_walk using (wpAny_updateSeq hl rfl (hz := hs1) (_hz' := hz')), wpAny_loadPart' hl, wpAny_loadPart' hb
    exact ⟨_, rfl, h⟩
def rExtT (K : PySem.W.Frag) : V → List V → Hp → VK → Prop := fun x vs H Q => ∃ l b xs zs, x = .ref l ∧ vs = [.ref b] ∧ H l = some (.lst xs) ∧ SqT K H b zs ∧ xs.length + zs.length ≤ sizeLine ∧ Q .non (upd H l (.lst (xs ++ zs)))
theorem mt_extT {X : Cx} : MtM X "list.extend" (rExtT X.K) := by
  intro pins s σ H x vs v us Q I rx rv h
  obtain ⟨l, b, xs, zs, rfl, rfl, hH, hB, hz, q⟩ := h
  cases rx
  obtain ⟨u, rfl, ru⟩ := rv.one
  cases ru
  obtain ⟨z, its, n, r, hl, e⟩ := I.lstM hH
  obtain ⟨its2, r2, p2, hl2⟩ := I.tuple hB
  obtain ⟨⟨cls, dd, data, sl⟩, ho, hc, n2, hd⟩ := id p2
  simp only at hc hd
  subst hc hd
  have len2 := r2.length
  have hsz : its.toArray.size + its2.toArray.size ≤ sizeLine := by rw [List.size_toArray, List.size_toArray]; omega
  have hlong : ¬ (!its.toArray.isEmpty && Builtin.List.listTooLong (its.toArray.size + its2.toArray.size)) = true := by
    rw [notLongL hsz, Bool.and_false]
    exact Bool.false_ne_true
  refine call_meets F.slot_list_extend ⟨_, e, rfl⟩ F.entry_list_extend (F.args_list_extend_2 _ _)
    (ext_tupA l its.toArray n b its2.toArray n2 dd sl hlong (by rw [List.size_toArray]; omega) (by omega)) ⟨e, ho, ?_⟩
  refine ⟨.non, _, I.lset (its' := its ++ its2) hH e (by simp) (r.append r2) ?_, rfl, q⟩
  rw [List.length_append]
  omega

/-! ### the source as it comes -/
def iEnX (K : PySem.W.Frag) (ta : TA) : TI := fun σ H R => ta σ H fun vs H1 => ∃ (S : Src) (a : Addr) (xs : List V), vs = [.ref a] ∧ S.sq K H1 a xs ∧ R (ItE S K a) H1
theorem pi_enumX {X : Cx} {e : Expr} {ta : TA} {p pos tpos : Pos} {elts : List Expr} {kk : Nat} (hg : Gl X "enumerate") (hm : X.mg "enumerate" = none) (ha : PA X [e] ta) (hs : starEach [e] X.env = [(false, eval e X.env)] := by rfl) :
    PI X (.Tuple elts kk tpos) (.Call (.Name "enumerate" p) [e] [] pos) (iEnX X.K ta) := by
  refine ⟨fun pins s σ H R I h => ?_⟩
  have h' : ta σ H fun vs H1 => ∃ S : Src, ∃ (a : Addr) (xs : List V), vs = [.ref a] ∧ S.sq X.K H1 a xs ∧ R (ItE S X.K a) H1 := h
  refine Call_ (ld_blt I hg hm boot_enumerate (PyProof.Rows.callWith_type1 (thn (ha.run pos pins s σ H _ I h') fun us s1 ⟨vs, H1, I1, r1, q1⟩ => ?_) hs rfl))
  obtain ⟨S, a, xs, ex, hq, q⟩ := q1
  exact enumG_run S I1 r1 ⟨a, xs, ex, hq, q⟩
def iZpX (K : PySem.W.Frag) (ta : TA) : TI := fun σ H R => ta σ H fun vs H1 => ∃ (S1 S2 : Src) (a b : Addr) (xs ys : List V), vs = [.ref a, .ref b] ∧ S1.sq K H1 a xs ∧ S2.sq K H1 b ys ∧ R (ItZ S1 S2 K a b) H1
theorem pi_zipX {X : Cx} {e e2 : Expr} {ta : TA} {p pos tpos : Pos} {elts : List Expr} {kk : Nat} (hg : Gl X "zip") (hm : X.mg "zip" = none) (ha : PA X [e, e2] ta)
    (hs : starEach [e, e2] X.env = (false, eval e X.env) :: starEach [e2] X.env := by rfl) (hpl : (backTo pos (starEach [e2] X.env)).any (·.1) = false := by rfl) :
    PI X (.Tuple elts kk tpos) (.Call (.Name "zip" p) [e, e2] [] pos) (iZpX X.K ta) := by
  refine ⟨fun pins s σ H R I h => ?_⟩
  have h' : ta σ H fun vs H1 => ∃ S1 S2 : Src, ∃ (a b : Addr) (xs ys : List V), vs = [.ref a, .ref b] ∧ S1.sq X.K H1 a xs ∧ S2.sq X.K H1 b ys ∧ R (ItZ S1 S2 X.K a b) H1 := h
  refine Call_ (ld_blt I hg hm PyProof.Rows.boot_zip (PyProof.Rows.callWith_type1 (thn (ha.run pos pins s σ H _ I h') fun us s1 ⟨vs, H1, I1, r1, q1⟩ => ?_) hs hpl))
  obtain ⟨S1, S2, a, b, xs, ys, ex, hqx, hqy, q⟩ := q1
  exact zipG_run S1 S2 I1 r1 ⟨a, b, xs, ys, ex, hqx, hqy, q⟩
end Bf

set_option Elab.async false
set_option linter.all false
set_option maxRecDepth 100000
set_option maxHeartbeats 4000000
namespace Bf
open PySem PySem.Spec PyProof.Rows L2
/-! ### data of tuples, ints and texts, as they lie -/
mutual
inductive Lay (H : Hp) : V → PyData → Prop
  | non : Lay H .non .none
  | bl (b : Bool) : Lay H (.bl b) (.bool b)
  | int (i : Int) : Lay H (.int i) (.int i)
  | str (x : Str) : Lay H (.str x) (.str x)
  | tup {a : Addr} {xs : List V} {ds : List PyData} : H a = some (.tup xs) → LayAll H xs ds → Lay H (.ref a) (.tuple ds)
inductive LayAll (H : Hp) : List V → List PyData → Prop
  | nil : LayAll H [] []
  | cons {v : V} {vs : List V} {d : PyData} {ds : List PyData} : Lay H v d → LayAll H vs ds → LayAll H (v :: vs) (d :: ds)
end
/-- what is tracked as a tuple in H is so in H' -/
def KeepT (H H' : Hp) : Prop := ∀ b xs, H b = some (.tup xs) → H' b = some (.tup xs)
theorem KeepT.refl (H : Hp) : KeepT H H := fun _ _ h => h
theorem KeepT.same {H H' : Hp} (k : Same H H') : KeepT H H' := fun b xs h => k _ _ h
theorem KeepT.trans {H H1 H2 : Hp} (a : KeepT H H1) (b : KeepT H1 H2) : KeepT H H2 := fun c o h => b c o (a c o h)
theorem KeepT.new {H : Hp} {p : Addr} {o : HO} (h : H p = none) : KeepT H (upd H p o) := fun b u q => by rw [upd_ne (ne_of_none q h)]; exact q
theorem KeepT.lst {H : Hp} {p : Addr} {o : HO} {l : List V} (h : H p = some (.lst l)) : KeepT H (upd H p o) := fun b u q => by
  rw [upd_ne (fun e => by rw [e, h] at q; cases q)]
  exact q
mutual
theorem Lay.keep {H H' : Hp} (k : KeepT H H') : ∀ (d : PyData) (v : V), Lay H v d → Lay H' v d
  | .none, _, h => by cases h; exact .non
  | .bool b, _, h => by cases h; exact .bl b
  | .int i, _, h => by cases h; exact .int i
  | .str x, _, h => by cases h; exact .str x
  | .list ds, _, h => by cases h
  | .tuple ds, _, h => by
    cases h with
    | tup e a => exact .tup (k _ _ e) (LayAll.keep k ds _ a)
  | .dict _, _, h => by cases h
theorem LayAll.keep {H H' : Hp} (k : KeepT H H') : ∀ (ds : List PyData) (vs : List V), LayAll H vs ds → LayAll H' vs ds
  | [], _, h => by cases h; exact .nil
  | d :: ds, _, h => by
    cases h with
    | cons a b => exact .cons (Lay.keep k d _ a) (LayAll.keep k ds _ b)
end
mutual
theorem Lay.dp {K : PySem.W.Frag} {H : Hp} : ∀ (d : PyData) (v : V), Lay H v d → Dp K H v d
  | .none, _, h => by cases h; exact .non
  | .bool b, _, h => by cases h; exact .bl b
  | .int i, _, h => by cases h; exact .int i
  | .str x, _, h => by cases h; exact .str x
  | .list ds, _, h => by cases h
  | .tuple ds, _, h => by
    cases h with
    | tup e a => exact .tup (SqT.of e) (LayAll.dp ds _ a)
  | .dict _, _, h => by cases h
theorem LayAll.dp {K : PySem.W.Frag} {H : Hp} : ∀ (ds : List PyData) (vs : List V), LayAll H vs ds → DpAll K H vs ds
  | [], _, h => by cases h; exact .nil
  | d :: ds, _, h => by
    cases h with
    | cons a b => exact .cons (Lay.dp d _ a) (LayAll.dp ds _ b)
end
theorem Lay.keep' {H H' : Hp} {d : PyData} {v : V} (h : Lay H v d) (k : KeepT H H') : Lay H' v d := Lay.keep k d v h
theorem LayAll.keep' {H H' : Hp} {ds : List PyData} {vs : List V} (h : LayAll H vs ds) (k : KeepT H H') : LayAll H' vs ds := LayAll.keep k ds vs h
theorem Lay.dp' {K : PySem.W.Frag} {H : Hp} {d : PyData} {v : V} (h : Lay H v d) : Dp K H v d := Lay.dp d v h
theorem LayAll.len {H : Hp} : ∀ {vs : List V} {ds : List PyData}, LayAll H vs ds → vs.length = ds.length
  | _, _, .nil => rfl
  | _, _, .cons _ h => by rw [List.length_cons, List.length_cons, h.len]
theorem LayAll.get {H : Hp} {v : V} : ∀ {vs : List V} {ds : List PyData} (i : Nat), LayAll H vs ds → vs[i]? = some v → ∃ d, ds[i]? = some d ∧ Lay H v d
  | [], _, _, _, e => by simp at e
  | _ :: _, _, 0, h, e => by
    cases h with
    | cons a b => cases e; exact ⟨_, rfl, a⟩
  | x :: vs, ds, i + 1, h, e => by
    cases h with
    | cons a b =>
      obtain ⟨d, q, l⟩ := LayAll.get (vs := vs) i b (by simpa using e)
      exact ⟨d, by simpa using q, l⟩
theorem LayAll.at_ {H : Hp} {d : PyData} : ∀ {vs : List V} {ds : List PyData} (i : Nat), LayAll H vs ds → ds[i]? = some d → ∃ v, vs[i]? = some v ∧ Lay H v d
  | _, [], _, _, e => by simp at e
  | _, _ :: _, 0, h, e => by
    cases h with
    | cons a b => cases e; exact ⟨_, rfl, a⟩
  | vs, x :: ds, i + 1, h, e => by
    cases h with
    | cons a b =>
      obtain ⟨d, q, l⟩ := LayAll.at_ (ds := ds) i b (by simpa using e)
      exact ⟨d, by simpa using q, l⟩
theorem LayAll.app {H : Hp} : ∀ {vs us : List V} {ds es : List PyData}, LayAll H vs ds → LayAll H us es → LayAll H (vs ++ us) (ds ++ es)
  | _, _, _, _, .nil, h => h
  | _, _, _, _, .cons a b, h => .cons a (b.app h)
theorem LayAll.snoc {H : Hp} {vs : List V} {ds : List PyData} {v : V} {d : PyData} (h : LayAll H vs ds) (a : Lay H v d) : LayAll H (vs ++ [v]) (ds ++ [d]) := h.app (.cons a .nil)
theorem LayAll.ints {H : Hp} : ∀ ns : List Nat, LayAll H (ns.map vI) (ns.map fun n : Nat => PyData.int (n : Int))
  | [] => .nil
  | n :: ns => .cons (.int _) (LayAll.ints ns)
theorem LayAll.ints_inv {H : Hp} : ∀ {ns : List Nat} {vs : List V}, LayAll H vs (ns.map fun n : Nat => PyData.int (n : Int)) → vs = ns.map vI
  | [], _, .nil => rfl
  | n :: ns, _, .cons (.int _) h => by rw [LayAll.ints_inv h]; rfl
theorem LayAll.strs_inv {H : Hp} : ∀ {ns : List Str} {vs : List V}, LayAll H vs (ns.map PyData.str) → vs = ns.map V.str
  | [], _, .nil => rfl
  | n :: ns, _, .cons (.str _) h => by rw [LayAll.strs_inv h]; rfl
theorem LayAll.strs {H : Hp} : ∀ ns : List Str, LayAll H (ns.map V.str) (ns.map PyData.str)
  | [] => .nil
  | n :: ns => .cons (.str _) (LayAll.strs ns)
theorem Lay.tup_inv {H : Hp} {v : V} {ds : List PyData} (h : Lay H v (.tuple ds)) : ∃ p vs, v = .ref p ∧ H p = some (.tup vs) ∧ LayAll H vs ds := by
  cases h with
  | tup e a => exact ⟨_, _, rfl, e, a⟩
theorem Lay.int_inv {H : Hp} {v : V} {i : Int} (h : Lay H v (.int i)) : v = .int i := by cases h; rfl
theorem Lay.str_inv {H : Hp} {v : V} {z : Str} (h : Lay H v (.str z)) : v = .str z := by cases h; rfl
theorem LayAll.nil_inv {H : Hp} {vs : List V} (h : LayAll H vs []) : vs = [] := by cases h; rfl
theorem LayAll.cons_inv {H : Hp} {vs : List V} {d : PyData} {ds : List PyData} (h : LayAll H vs (d :: ds)) : ∃ v us, vs = v :: us ∧ Lay H v d ∧ LayAll H us ds := by
  cases h with
  | cons a b => exact ⟨_, _, rfl, a, b⟩
/-! ### the shapes that == serves -/
def Sh (k : Nat) (d : PyData) : Prop := d.canLay0 = true ∧ d.depth ≤ k
theorem Sh.int (k : Nat) (i : Int) : Sh k (.int i) := ⟨by simp only [PyData.canLay0], by simp only [PyData.depth]; omega⟩
theorem Sh.all {k : Nat} : ∀ {ds : List PyData}, (∀ d ∈ ds, Sh k d) → PyData.canLayAll0 ds = true ∧ PyData.depthAll ds ≤ k
  | [], _ => ⟨by simp only [PyData.canLayAll0], by simp only [PyData.depthAll]; omega⟩
  | d :: ds, h => by
    have a := h d (by simp)
    have b := Sh.all (ds := ds) fun e he => h e (by simp [he])
    refine ⟨?_, ?_⟩
    · simp only [PyData.canLayAll0]
      rw [a.1, b.1]
      rfl
    · simp only [PyData.depthAll]
      have := a.2
      have := b.2
      omega
theorem Sh.tup {k : Nat} {ds : List PyData} (h : ∀ d ∈ ds, Sh k d) : Sh (k + 1) (.tuple ds) := by
  have q := Sh.all h
  exact ⟨by simp only [PyData.canLay0]; exact q.1, by simp only [PyData.depth]; omega⟩
theorem Sh.lst {k : Nat} {ds : List PyData} (h : ∀ d ∈ ds, Sh k d) : Sh (k + 1) (.list ds) := by
  have q := Sh.all h
  exact ⟨by simp only [PyData.canLay0]; exact q.1, by simp only [PyData.depth]; omega⟩
theorem Sh.shaped {k : Nat} {d : PyData} (h : Sh k d) (hk : k ≤ 64) : SeqAt.shaped d = true := by
  show (d.canLay0 && decide (d.depth ≤ 64)) = true
  rw [Bool.and_eq_true]
  exact ⟨h.1, decide_eq_true (by have := h.2; omega)⟩
mutual
theorem eqv_self : ∀ d : PyData, d.canLay0 = true → PyData.eqv d d = true
  | .none, _ => by simp [PyData.eqv]
  | .bool b, _ => by simp [PyData.eqv]
  | .int i, _ => by simp [PyData.eqv]
  | .str x, _ => by simp [PyData.eqv]
  | .list ds, h => by
    simp only [PyData.canLay0] at h
    simp only [PyData.eqv]
    exact eqvAll_self ds h
  | .tuple ds, h => by
    simp only [PyData.canLay0] at h
    simp only [PyData.eqv]
    exact eqvAll_self ds h
  | .dict _, h => by simp [PyData.canLay0] at h
theorem eqvAll_self : ∀ ds : List PyData, PyData.canLayAll0 ds = true → PyData.eqvAll ds ds = true
  | [], _ => by simp [PyData.eqvAll]
  | d :: ds, h => by
    simp only [PyData.canLayAll0, Bool.and_eq_true] at h
    simp only [PyData.eqvAll, Bool.and_eq_true]
    exact ⟨eqv_self d h.1, eqvAll_self ds h.2⟩
end
/-! ### bits of numbers that are not negative -/
section
variable {X : Cx}
theorem op_xorB : OpR X (binaryOp .BitXor) (fun x y H Q => ∃ n m : Nat, x = .int (n : Int) ∧ y = .int (m : Int) ∧ Q (vI (n ^^^ m)) H) := by
  intro pins s σ H x y v u Q I rx ry h
  obtain ⟨n, m, rfl, rfl, q⟩ := h
  refine op_xor pins s σ H _ _ v u Q I rx ry ⟨_, _, rfl, rfl, ?_⟩
  show Q (V.int (Builtin.bitXor (n : Int) (m : Int))) H
  rw [Bits.bitXor_pp (Int.natCast_nonneg _) (Int.natCast_nonneg _)]
  exact q
theorem op_andB : OpR X (binaryOp .BitAnd) (fun x y H Q => ∃ n m : Nat, x = .int (n : Int) ∧ y = .int (m : Int) ∧ Q (vI (n &&& m)) H) := by
  intro pins s σ H x y v u Q I rx ry h
  obtain ⟨n, m, rfl, rfl, q⟩ := h
  refine op_and pins s σ H _ _ v u Q I rx ry ⟨_, _, rfl, rfl, ?_⟩
  show Q (V.int (Builtin.bitAnd (n : Int) (m : Int))) H
  rw [bitAnd_pp (Int.natCast_nonneg _) (Int.natCast_nonneg _)]
  exact q
theorem op_orB : OpR X (binaryOp .BitOr) (fun x y H Q => ∃ n m : Nat, x = .int (n : Int) ∧ y = .int (m : Int) ∧ Q (vI (n ||| m)) H) := by
  intro pins s σ H x y v u Q I rx ry h
  obtain ⟨n, m, rfl, rfl, q⟩ := h
  refine op_or pins s σ H _ _ v u Q I rx ry ⟨_, _, rfl, rfl, ?_⟩
  show Q (V.int (Builtin.bitOr (n : Int) (m : Int))) H
  rw [Bits.bitOr_pp (Int.natCast_nonneg _) (Int.natCast_nonneg _)]
  exact q
end
/-! ### wide numbers that are not negative -/
theorem natAbs_cast (n : Nat) : ((n : Int)).natAbs = n := rfl
section
variable {X : Cx}
theorem op_fdivNW : OpR X (binaryOp .FloorDiv) (fun x y H Q => ∃ n m : Nat, x = .int (n : Int) ∧ y = .int (m : Int) ∧ (1 ≤ m ∧ m < 2 ^ 9000) ∧ Q (vI (n / m)) H) := by
  intro pins s σ H x y v u Q I rx ry h
  obtain ⟨n, m, rfl, rfl, ⟨h1, h2⟩, q⟩ := h
  exact op_fdivW pins s σ H _ _ v u Q I rx ry ⟨_, _, rfl, rfl, wide_div (b := 9000) (by omega) h2 (by omega) (by omega), q⟩
theorem op_mulNW : OpR X (binaryOp .Mult) (fun x y H Q => ∃ n m : Nat, x = .int (n : Int) ∧ y = .int (m : Int) ∧ (n < 2 ^ 100000 ∧ m < 2 ^ 100000) ∧ Q (vI (n * m)) H) := by
  intro pins s σ H x y v u Q I rx ry h
  obtain ⟨n, m, rfl, rfl, ⟨h1, h2⟩, q⟩ := h
  refine op_mulW pins s σ H _ _ v u Q I rx ry ⟨_, _, rfl, rfl, wide_mul (a := 100000) (b := 100000) h1 h2 (by omega) (by omega) (by omega), ?_⟩
  show Q (V.int ((n : Int) * (m : Int))) H
  rw [← Int.natCast_mul]
  exact q
theorem op_shlNN : OpR X (binaryOp .LShift) (fun x y H Q => ∃ n k : Nat, x = .int (n : Int) ∧ y = .int (k : Int) ∧ (n < 2 ^ 100000 ∧ k ≤ 100000) ∧ Q (vI (n * 2 ^ k)) H) := by
  intro pins s σ H x y v u Q I rx ry h
  obtain ⟨n, k, rfl, rfl, ⟨h1, h2⟩, q⟩ := h
  refine op_shlN pins s σ H _ _ v u Q I rx ry ⟨_, k, rfl, rfl, shl_ok (n := 100000) h1 (by omega), ?_⟩
  have e : ((n : Int) * 2 ^ k) = ((n * 2 ^ k : Nat) : Int) := by simp
  rw [e]
  exact q
theorem op_oneShlN : OpR X (binaryOp .LShift) (fun x y H Q => ∃ k : Nat, x = .int 1 ∧ y = .int (k : Int) ∧ k ≤ 134217727 ∧ Q (vI (2 ^ k)) H) := by
  intro pins s σ H x y v u Q I rx ry h
  obtain ⟨k, rfl, rfl, h1, q⟩ := h
  refine op_oneShl pins s σ H _ _ v u Q I rx ry ⟨k, rfl, rfl, h1, ?_⟩
  have e : ((2 : Int) ^ k) = ((2 ^ k : Nat) : Int) := by simp
  rw [e]
  exact q
end
/-! ### walks -/
theorem walk_enumG (S : Src) {K : PySem.W.Frag} {a : Addr} {xs : List V} : Walk (ItE S K a) xs.length (fun H => S.sq K H a xs) (YPair (fun i => some (.int (i : Nat))) (fun i => xs[i]?)) := by
  refine ⟨fun i _ hi q => ⟨xs, xs[i], q, by simp [hi]⟩, fun _ q => ⟨xs, q, rfl⟩, fun i H v H' _ q y => ?_⟩
  obtain ⟨T, x, h1, h2, h3, h4⟩ := y
  exact ⟨T, .int (i : Nat), x, h1, h2, h3, rfl, h4 xs q⟩
def rLenK (K : PySem.W.Frag) (xs : List V) (H : Hp) (Q : V → Hp → Prop) : Prop := ∃ p ys, xs = [.ref p] ∧ (SqL K H p ys ∨ SqT K H p ys) ∧ Q (.int ys.length) H
theorem call_lenK {X : Cx} : CallR X (.builtin "len") (rLenK X.K) := call_len_seq
/-! ### small facts -/
theorem refAt {ts : List Addr} {i : Nat} {x : V} (h : (ts.map V.ref)[i]? = some x) : ∃ t, ts[i]? = some t ∧ x = .ref t := by
  rw [List.getElem?_map] at h
  cases e : ts[i]? with
  | none => rw [e] at h; cases h
  | some k => rw [e] at h; exact ⟨k, rfl, (Option.some.inj h).symm⟩
theorem natAt {xs : List Nat} {i : Nat} {x : V} (h : (xs.map vI)[i]? = some x) : ∃ k, xs[i]? = some k ∧ x = vI k := by
  rw [List.getElem?_map] at h
  cases e : xs[i]? with
  | none => rw [e] at h; cases h
  | some k => rw [e] at h; exact ⟨k, rfl, (Option.some.inj h).symm⟩
theorem mapAt {α : Type} {f : α → V} {xs : List α} {i : Nat} {x : V} (h : (xs.map f)[i]? = some x) : ∃ k, xs[i]? = some k ∧ x = f k := by
  rw [List.getElem?_map] at h
  cases e : xs[i]? with
  | none => rw [e] at h; cases h
  | some k => rw [e] at h; exact ⟨k, rfl, (Option.some.inj h).symm⟩
theorem mapAtD {α : Type} {f : α → PyData} {xs : List α} {i : Nat} {x : PyData} (h : (xs.map f)[i]? = some x) : ∃ k, xs[i]? = some k ∧ x = f k := by
  rw [List.getElem?_map] at h
  cases e : xs[i]? with
  | none => rw [e] at h; cases h
  | some k => rw [e] at h; exact ⟨k, rfl, (Option.some.inj h).symm⟩
theorem take_snoc {α : Type} {l : List α} {i : Nat} {x : α} (h : l[i]? = some x) : l.take (i + 1) = l.take i ++ [x] := by
  rw [List.take_add_one, h]
  rfl
theorem same_two {H H' : Hp} {p : Addr} {o : HO} (k : Same H H') (hp : H p = none) : Same H (upd H' p o) := fun b u q => by
  rw [upd_ne (ne_of_none q hp)]
  exact k _ _ q
theorem i62 {n : Nat} (h : n ≤ 1000) : -(2 ^ 62) ≤ (n : Int) ∧ (n : Int) < 2 ^ 62 := by
  have a : (-(2 ^ 62) : Int) ≤ 0 := by decide
  have b : (1001 : Int) ≤ 2 ^ 62 := by decide
  exact ⟨Int.le_trans a (Int.natCast_nonneg _), Int.lt_of_lt_of_le (by omega) b⟩
theorem vInt {i : Int} {n : Nat} (h : i = (n : Int)) : V.int i = vI n := by rw [h]; rfl
theorem all_true : ∀ n : Nat, (List.replicate n true).all id = true
  | 0 => rfl
  | n + 1 => by
    rw [List.replicate_succ, List.all_cons, all_true n]
    rfl
theorem len1000 {n : Nat} (h : n ≤ 1000) : n < sizeLine := small1000 h
end Bf

set_option Elab.async false
set_option linter.all false
set_option maxRecDepth 100000
set_option maxHeartbeats 4000000
namespace Bf
open PySem PySem.Spec PyProof.Rows L2
/-! ### zip of a list or tuple and a text -/
theorem strAt {h h' : Heap} {a : Addr} {ty : String} {x : Str} {t : Tok} {i : Nat} (y : h.IsStrIter a ty x t i) (k : ∀ o, h.get? a = some o → h'.get? a = some o) : h'.IsStrIter a ty x t i := let ⟨o, e, r⟩ := y; ⟨o, k o e, r⟩
def ItZS (S1 : Src) (K : PySem.W.Frag) (a : Addr) (zt : Str) : It :=
  ⟨fun i H => ∃ (xs : List V) (x : V) (c : Nat), S1.sq K H a xs ∧ xs[i]? = some x ∧ zt.cps[i]? = some c,
    fun i H v H' => ∃ T x c, v = .ref T ∧ H T = none ∧ H' = upd H T (.tup [x, .str ⟨#[c]⟩]) ∧ (∀ xs, S1.sq K H a xs → xs[i]? = some x) ∧ zt.cps[i]? = some c,
    fun i H => ∃ xs : List V, S1.sq K H a xs ∧ i ≤ xs.length ∧ i ≤ zt.cps.size ∧ (i = xs.length ∨ i = zt.cps.size)⟩
theorem turn_zipS (S1 : Src) {P : Program} {w : World} {K : PySem.W.Frag} {elts : List Expr} {kk : Nat} {tpos : Pos} {a z TI TO i1 i2 : Addr} {zt : Str} {tz : Tok} (D : ZipSep2 z TI TO i1 i2 [i1, a] [i2]) (ha1 : a ≠ i1) :
    Turn P w K (.Tuple elts kk tpos) (ItZS S1 K a zt) [z, TI, TO, i1, i2] z (fun i h => IsZip h z TI TO .none ∧ IsTupOf2 h TI (.ref i1) (.ref i2) ∧ (∃ x y, IsTupOf2 h TO x y) ∧ S1.itr h i1 a i ∧ h.IsStrIter i2 (strIterType zt) zt tz i) where
  mem := by simp
  obj := fun i h st c hc => by
    obtain ⟨hz, hTI, ⟨x, y, hTO⟩, h1, h2⟩ := st
    have e' : c = z ∨ c = TI ∨ c = TO ∨ c = i1 ∨ c = i2 := by simpa using hc
    rcases e' with q | q | q | q | q
    · rw [q]; exact ⟨_, hz, fun v q => nomatch q⟩
    · rw [q]; exact ⟨_, hTI, fun v q => nomatch q⟩
    · rw [q]; exact ⟨_, hTO, fun v q => nomatch q⟩
    · rw [q]; exact S1.obj h1
    · rw [q]; obtain ⟨o, e, _, d⟩ := h2; exact ⟨o, e, fun v z => by rw [d] at z; cases z⟩
  keep := fun i h h' st k => by
    obtain ⟨hz, hTI, ⟨x, y, hTO⟩, h1, h2⟩ := st
    exact ⟨k z (by simp) _ hz, k TI (by simp) _ hTI, ⟨x, y, k TO (by simp) _ hTO⟩, S1.at_ h1 fun o q => k i1 (by simp) o q, strAt h2 fun o q => k i2 (by simp) o q⟩
  item := by
    intro X hP hw hK hc i pins s σ H E I hf st hg
    subst hP hw hK
    obtain ⟨hz, hTI, ⟨x0, y0, hTO⟩, h1, h2⟩ := st
    obtain ⟨xs, x, c0, hqx, hx, hy⟩ := hg
    obtain ⟨its, rv, p⟩ := S1.inv I hqx
    obtain ⟨u, hu, ru⟩ := rv.get hx
    have hzl : z < s.heap.objs.size := Heap.lt_size hz
    have hlt : i < its.toArray.size := by
      have q := (List.getElem?_eq_some_iff.mp hu).1
      simpa using q
    have hlt2 : i < zt.cps.size := (Array.getElem?_eq_some_iff.mp hy).1
    have hh : X.A.in1.handled = none := I.ok.hd hc
    refine wpAny_pyNext_zipD2_item D (S1.draws hh i1 a ha1 its.toArray) (Draws.text hh i2 zt tz) hz hTI hTO ⟨h1, p⟩ h2 hlt hlt2 fun v v2 h' tk hv hv2 z' TO' st1 st2 hT hsz hk => ?_
    have ev : u = v := by
      have q : its[i]? = some v := by simpa using hv
      rw [hu] at q; cases q; rfl
    obtain ⟨c, uu, hcc, rfl⟩ := hv2
    obtain rfl : c0 = c := Option.some.inj (hy.symm.trans hcc)
    subst ev
    refine ⟨_, rfl, wpAny_letOwnedTupleGo_zip (s := { s with heap := h', toks := tk }) z' fun h'' z'' sb => ?_⟩
    have hT2 : h''.get? s.heap.objs.size = some { cls := .type "tuple", data := .seq #[u, .str ⟨#[c0]⟩ uu] } := (sb.2 _ (Nat.ne_of_gt hzl)).trans hT
    have new : ObjOk X.prog X.w (upd H s.heap.objs.size (.tup [x, .str ⟨#[c0]⟩])) h'' s.heap.objs.size (.tup [x, .str ⟨#[c0]⟩]) :=
      ⟨by show 2 ≤ sizeLine; decide, [u, .str ⟨#[c0]⟩ uu], .cons ru (.cons ⟨_, rfl⟩ .nil), ⟨_, hT2, rfl, _, rfl⟩⟩
    have I1 : Inv X pins σ (upd H s.heap.objs.size (.tup [x, .str ⟨#[c0]⟩])) { s with heap := h'', toks := tk } :=
      I.turnedNew (ch := [z, TI, TO, i1, i2]) (fun c o hb q => (sb.2 c (fun q' => hb (by simp [q']))).trans (hk c o (fun q' => hb (by simp [q'])) (fun q' => hb (by simp [q'])) (fun q' => hb (by simp [q'])) (fun q' => hb (by simp [q'])) q)) hf (Nat.le_refl _) new
    have zi1 : i1 ≠ z := fun q => D.zf1 (by simp [q])
    have zi2 : i2 ≠ z := fun q => D.zf2 (by simp [q])
    refine ⟨.ref s.heap.objs.size, _, I1, rfl, ⟨_, x, c0, rfl, I.hok.fresh (Nat.le_refl _), rfl, fun l hl => by rw [S1.inj I hl hqx]; exact hx, hy⟩, ⟨z'', ?_, ⟨u, .str ⟨#[c0]⟩ uu, ?_⟩, ?_, ?_⟩, fun c hcm => ?_⟩
    · exact (sb.2 _ D.TIz).trans (hk _ _ D.TIz D.TITO D.TIi1 D.TIi2 hTI)
    · exact (sb.2 _ D.TOz).trans TO'
    · exact S1.at_ st1.1 fun o q => (sb.2 _ zi1).trans q
    · exact strAt st2 fun o q => (sb.2 _ zi2).trans q
    · have hlt : c < s.heap.objs.size := by
        have e' : c = z ∨ c = TI ∨ c = TO ∨ c = i1 ∨ c = i2 := by simpa using hcm
        rcases e' with q | q | q | q | q
        · rw [q]; exact hzl
        · rw [q]; exact Heap.lt_size hTI
        · rw [q]; exact Heap.lt_size hTO
        · rw [q]; obtain ⟨_, e1, _⟩ := S1.obj h1; exact Heap.lt_size e1
        · rw [q]; obtain ⟨_, e2, _⟩ := h2; exact Heap.lt_size e2
      rw [upd_ne (Nat.ne_of_lt hlt)]
      exact (hf c hcm).1
  done := by
    intro X hP hw hK hc i pins s σ H E I hf st hg
    subst hP hw hK
    obtain ⟨hz, hTI, ⟨x0, y0, hTO⟩, h1, h2⟩ := st
    obtain ⟨xs, hqx, le1, le2, hend⟩ := hg
    obtain ⟨its, rv, p⟩ := S1.inv I hqx
    have l1 := rv.length
    have hh : X.A.in1.handled = none := I.ok.hd hc
    exact wpAny_pyNext_zipD2_end D (S1.draws hh i1 a ha1 its.toArray) (Draws.text hh i2 zt tz) hz hTI hTO ⟨h1, p⟩ h2 (by rw [List.size_toArray]; omega) le2
      (by rw [List.size_toArray]; omega) fun h' tk hk => ⟨rfl, I.turnedL (t' := tk) (ch := [z, TI, TO, i1, i2]) (fun c o hb q =>
      hk c o (fun q' => hb (by simp [q'])) (fun q' => hb (by simp [q'])) (fun q' => hb (by simp [q'])) (fun q' => hb (by simp [q'])) q) hf⟩
  self := fun A i s Q E st h => wpAny_pyIter_zip st.1 h
theorem zipS_run (S1 : Src) {X : Cx} {pins : List (Addr × Obj)} {σ : L2.St} {H1 : Hp} {s1 : Shared} {us : List Value} {vs : List V} {elts : List Expr} {kk : Nat} {tpos : Pos} {R : It → Hp → Prop} (I1 : Inv X pins σ H1 s1) (r1 : Vals vs us)
    (q1 : ∃ (a : Addr) (zt : Str) (xs : List V), vs = [.ref a, .str zt] ∧ S1.sq X.K H1 a xs ∧ R (ItZS S1 X.K a zt) H1) :
    wpAny (model X.prog X.w) X.A (call (.type "zip") us) (fun v s1 => wpAny (model X.prog X.w) X.A (pyIter v) (PIE X pins σ (.Tuple elts kk tpos) R) X.xe s1) X.xe s1 := by
  obtain ⟨a, zt, xs, ex, hqx, q⟩ := q1
  subst ex
  cases r1 with
  | cons r rr =>
    cases rr with
    | cons r' rr =>
      cases rr
      cases r
      obtain ⟨tz, rfl⟩ := r'
      obtain ⟨its, rv, p1⟩ := S1.inv I1 hqx
      have la := S1.lt p1
      refine zip_begins2 (S1.beg a its.toArray) (begins_text zt tz) p1 trivial fun h' hz hTI hTO h1 h2 hsz hk => wpAny_pyIter_zip hz ?_
      have I2 : Inv X pins σ H1 { s1 with heap := h' } := I1.kept (t' := s1.toks) hk
      refine ⟨s1.heap.objs.size + 4, [s1.heap.objs.size + 4, s1.heap.objs.size + 2, s1.heap.objs.size + 3, s1.heap.objs.size, s1.heap.objs.size + 1], _, _, H1, rfl, I2,
        turn_zipS S1 (zip_sep2 (fp1 := [a]) (fp2 := []) (by intro c hc; rw [List.mem_singleton.mp hc]; exact la) (by intro c hc; cases hc)) (Nat.ne_of_lt la),
        ⟨hz, hTI, ⟨_, _, hTO⟩, S1.start h1, ⟨_, h2, rfl, rfl⟩⟩, fun c hcm => ?_, q⟩
      have e' : c = s1.heap.objs.size + 4 ∨ c = s1.heap.objs.size + 2 ∨ c = s1.heap.objs.size + 3 ∨ c = s1.heap.objs.size ∨ c = s1.heap.objs.size + 1 := by simpa using hcm
      have hle : s1.heap.objs.size ≤ c := by
        rcases e' with z | z | z | z | z
        · rw [z]; exact Nat.le_add_right _ _
        · rw [z]; exact Nat.le_add_right _ _
        · rw [z]; exact Nat.le_add_right _ _
        · rw [z]; exact Nat.le_refl _
        · rw [z]; exact Nat.le_add_right _ _
      exact I1.fpOk hle (I1.hok.fresh hle)
def iZpS (K : PySem.W.Frag) (ta : TA) : TI := fun σ H R => ta σ H fun vs H1 => ∃ (S1 : Src) (a : Addr) (zt : Str) (xs : List V), vs = [.ref a, .str zt] ∧ S1.sq K H1 a xs ∧ R (ItZS S1 K a zt) H1
theorem pi_zipS {X : Cx} {e e2 : Expr} {ta : TA} {p pos tpos : Pos} {elts : List Expr} {kk : Nat} (hg : Gl X "zip") (hm : X.mg "zip" = none) (ha : PA X [e, e2] ta)
    (hs : starEach [e, e2] X.env = (false, eval e X.env) :: starEach [e2] X.env := by rfl) (hpl : (backTo pos (starEach [e2] X.env)).any (·.1) = false := by rfl) :
    PI X (.Tuple elts kk tpos) (.Call (.Name "zip" p) [e, e2] [] pos) (iZpS X.K ta) := by
  refine ⟨fun pins s σ H R I h => ?_⟩
  have h' : ta σ H fun vs H1 => ∃ S1 : Src, ∃ (a : Addr) (zt : Str) (xs : List V), vs = [.ref a, .str zt] ∧ S1.sq X.K H1 a xs ∧ R (ItZS S1 X.K a zt) H1 := h
  refine Call_ (ld_blt I hg hm PyProof.Rows.boot_zip (PyProof.Rows.callWith_type1 (thn (ha.run pos pins s σ H _ I h') fun us s1 ⟨vs, H1, I1, r1, q1⟩ => ?_) hs hpl))
  obtain ⟨S1, a, zt, xs, ex, hqx, q⟩ := q1
  exact zipS_run S1 I1 r1 ⟨a, zt, xs, ex, hqx, q⟩
theorem walk_zipS (S1 : Src) {K : PySem.W.Frag} {a : Addr} {xs : List V} {zt : Str} (h : xs.length = zt.cps.size) : Walk (ItZS S1 K a zt) xs.length (fun H => S1.sq K H a xs) (YPair (fun i => xs[i]?) (fun i => zt.cps[i]?.map fun c => V.str ⟨#[c]⟩)) := by
  refine ⟨fun i _ hi q => ⟨xs, xs[i], zt.cps[i]'(by omega), q, by simp [hi], by simp [show i < zt.cps.size by omega]⟩, fun _ q => ⟨xs, q, Nat.le_refl _, by omega, .inl rfl⟩, fun i H v H' _ q y => ?_⟩
  obtain ⟨T, x, c, h1, h2, h3, h4, h5⟩ := y
  exact ⟨T, x, _, h1, h2, h3, h4 xs q, by show (zt.cps[i]?.map fun c => V.str ⟨#[c]⟩) = _; rw [h5]; rfl⟩
end Bf

set_option Elab.async false
set_option linter.all false
set_option maxRecDepth 100000
set_option maxHeartbeats 4000000
namespace Bf
open PySem PySem.Spec PyProof.Rows L2
section
variable {X : Cx}
/-- sorted(d), d a dict with int keys, of any length -/
theorem cr_sortedKeysI (hcalm : X.calm = true) : CallR X (.builtin "sorted") (fun xs H Q => ∃ (a : Addr) (kvs : List (Key × V)) (ks : List Int), xs = [.ref a] ∧ Rd H a (.dK kvs) ∧ kvs.map (·.1) = ks.map Sum.inl ∧
    ∀ (ys : List Int) (p : Addr), ys.Perm ks → ys.Pairwise (· ≤ ·) → H p = none → Q (.ref p) (upd H p (.lst (ys.map V.int)))) := by
  intro pins s σ H xs us Q I r q
  obtain ⟨a, kvs, ks, ex, hd, hks, q⟩ := q
  subst ex
  obtain ⟨u, eu, rx⟩ := vals1 r
  subst eu
  cases rx
  obtain ⟨z, lo, vs, rel, dd⟩ := dk_rd I.hok hd
  obtain ⟨ep, hat⟩ := dd.dictAt
  have hkeys : vs.map (·.1) = ks.map Sum.inl := rel.keys.symm.trans hks
  have hl : vs.length = ks.length := by
    have e := congrArg List.length hkeys
    rw [List.length_map, List.length_map] at e
    exact e
  have h16 : vs.length ≤ sizeLine := by
    rw [← Paired.length rel]
    exact z
  refine Calls.call_function_entry PyProof.Rows.kind_sorted PyProof.Rows.plain_sorted PyProof.Rows.entry_sorted (PyProof.Rows.args_sorted1 _) ?_
  unfold Builtin.«sorted»
  refine wpAny_bind (m := checkCount "sorted" 1 1 _) (wpAny_pure ?_)
  refine wpAny_bind (PySem.W.kdu_collect (A := X.A.in1) (PySem.W.kdl_dict (knd := mixKind X.prog X.w) (kvs := vs) (ep := ep) lo) (I.ok.hd hcalm) hat h16 fun h' tk acc hk hacc => ?_)
  have hal : acc.toList.length = ks.length := by rw [Array.length_toList, hacc.1, hl]
  have hS : IntsAre acc.toList ks := ints_each hal fun j v e => by
    obtain ⟨k, x, e1, e2⟩ := hacc.2 j v (by rw [← Array.getElem?_toList]; exact e)
    have e3 : (vs.map (·.1))[j]? = some k := by rw [List.getElem?_map, e1]; rfl
    rw [hkeys, List.getElem?_map] at e3
    cases e4 : ks[j]? with
    | none => rw [e4] at e3; cases e3
    | some y =>
      rw [e4] at e3
      have e5 : Sum.inl y = k := Option.some.inj e3
      subst e5
      rcases keyIs_shape (show keyIs (Sum.inl y) v = true from e2) with ⟨i, t, ek, ev⟩ | ⟨z, t, ek, ev⟩
      · cases ek
        exact ⟨y, t, rfl, ev⟩
      · cases ek
  have I1 : Inv X pins σ H { s with heap := h', toks := tk } := I.kept hk
  have hal2 : acc.toList.length ≤ sizeLine := by rw [hal, ← hl]; exact h16
  refine wpAny_bind (wpAny_newList ?_ (by rw [hal, ← hl]; exact h16))
  have hoL : (h'.push (seqObj "list" acc.toList.toArray 0)).get? h'.objs.size = some (seqObj "list" acc.toList.toArray 0) := Heap.get?_push_size _ rfl
  show wpAny _ _ _ _ _ { s with heap := h'.push (seqObj "list" acc.toList.toArray 0), toks := tk }
  refine wpAny_bind (wpAny_holding (wpAny_call_entry PyProof.Rows.slot_list_sort ⟨_, hoL, rfl⟩ PyProof.Rows.entry_list_sort
    (SrtO.list_sort_ord (s := { s with heap := h'.push (seqObj "list" acc.toList.toArray 0), toks := tk }) SrtO.swo_int hoL hal2 (fun h2 => SrtO.ints_sortable hS h2) fun out h1 h2 => ⟨_, rfl, ?_⟩) (PyProof.Rows.args_list_sort _)))
  obtain ⟨g1, g2, g3⟩ := SrtO.ints_out hS h1 h2
  obtain ⟨e', he'⟩ := PyProof.Rows.sortedHeap_at (vs := acc.toList) (out := out.toArray) hoL
  have hlen : ((out.map SrtO.iv).map V.int).length ≤ sizeLine := by
    rw [List.length_map, g2.length_eq, ← hl]
    exact h16
  refine wpAny_pure ⟨_, rfl, .ref h'.objs.size, upd H h'.objs.size (.lst ((out.map SrtO.iv).map V.int)), I1.laid (t' := tk) (fun b u e => ?_) (Nat.le_refl _)
    (show ObjOk X.prog X.w _ _ _ (.lst ((out.map SrtO.iv).map V.int)) from ⟨hlen, out, e', vals_of_ints g1, he'⟩), rfl, q _ _ g2 g3 (I1.hok.fresh (Nat.le_refl _))⟩
  have hb : b < h'.objs.size := Heap.lt_size e
  rw [PyProof.Rows.sortedHeap_old (Nat.ne_of_lt hb) (by rw [size_push']; exact Nat.lt_succ_of_lt hb)]
  exact Heap.get?_push_of_some _ e
end
/-- two ascending lists of the same numbers are one -/
theorem sorted_same {xs ys : List Int} (hx : xs.Pairwise (· ≤ ·)) (hy : ys.Pairwise (· ≤ ·)) (h : xs.Perm ys) : xs = ys :=
  h.eq_of_pairwise (fun a b _ _ h1 h2 => Int.le_antisymm h1 h2) hx hy
end Bf

set_option Elab.async false
set_option linter.all false
set_option maxRecDepth 100000
set_option maxHeartbeats 4000000
namespace Bf
open PySem PySem.Spec PyProof.Rows L2
/-! ### sorted of a list of data that are alike, any number of them -/
theorem each_of {H : Hp} {β : Type} {enc : β → PyData} : ∀ {vs : List V} {its : List Value} {bs : List β}, Vals vs its → LayAll H vs (bs.map enc) → PySem.W.EachIs (fun (u : Value) (b : β) => ∃ x : V, RelV x u ∧ Lay H x (enc b)) its bs
  | [], its, [], r, _ => by cases r; exact .nil
  | v :: vs, its, b :: bs, r, .cons a l => by
    cases r with
    | cons ra rl => exact .cons ⟨v, ra, a⟩ (each_of rl l)
theorem each_back {H : Hp} {β : Type} {enc : β → PyData} : ∀ {its : List Value} {bs : List β}, PySem.W.EachIs (fun (u : Value) (b : β) => ∃ x : V, RelV x u ∧ Lay H x (enc b)) its bs → ∃ vs : List V, Vals vs its ∧ LayAll H vs (bs.map enc)
  | _, _, .nil => ⟨[], .nil, .nil⟩
  | _, _, .cons ⟨x, r, l⟩ t => by
    obtain ⟨vs, r2, l2⟩ := each_back t
    exact ⟨x :: vs, .cons r r2, .cons l l2⟩
def rSortedD (K : PySem.W.Frag) : List V → Hp → VK → Prop := fun xs H Q => ∃ (β : Type) (a : Addr) (vs : List V) (bs : List β) (enc : β → PyData), xs = [V.ref a] ∧ SqL K H a vs ∧ LayAll H vs (bs.map enc) ∧ PySem.W.AllAlike (bs.map enc) ∧ PySem.W.Sortable (bs.map enc) ∧ (∀ b ∈ bs, (enc b).depth ≤ 32) ∧
  ∀ us p, LayAll H us ((bs.mergeSort (PySem.W.dataLe false enc)).map enc) → H p = none → Q (.ref p) (upd H p (.lst us))
section
variable {X : Cx}
theorem cr_sortedD (hu : X.A.units + 64 < cLine) : CallR X (.builtin "sorted") (rSortedD X.K) := by
  intro pins s σ H vs us Q I r h
  obtain ⟨β, a, xs, bs, enc, rfl, hs, hl, hal, hk, hd, q⟩ := h
  obtain ⟨its, rv, hpl, hz⟩ := I.list hs
  obtain ⟨u, rfl, ru⟩ := vals1 r
  obtain rfl : u = Value.ref a := ru
  have e := each_of rv hl
  have hlen : xs.length = bs.length := by simpa using hl.len
  refine PySem.W.sorted_data (R := fun (u : Value) (b : β) => ∃ x : V, RelV x u ∧ Lay H x (enc b)) hpl.isList e (e.mono fun u b ⟨x, rx, lx⟩ => Dp.reads I _ _ _ lx.dp' rx) hal hk (by omega) (fun b hb => by have := hd b hb; omega) fun out hol ho => ?_
  obtain ⟨ys, ry, ly⟩ := each_back ho
  obtain ⟨n, hn⟩ := sortedAll_at s.heap its (List.toArray out)
  have hyl : ys.length ≤ sizeLine := by
    have e1 : ys.length = out.length := ry.length
    omega
  refine ⟨.ref (s.heap.objs.size + 1), upd H (s.heap.objs.size + 1) (.lst ys), I.laid (t' := s.toks) (fun b o e => sortedAll_old e) (Nat.le_succ _) ⟨hyl, out, n, ry, hn⟩, rfl, q _ _ ly (I.hok.fresh (Nat.le_succ _))⟩
end
/-- what was sorted is the same, in an order -/
theorem sortD_perm {β : Type} (enc : β → PyData) (bs : List β) : (bs.mergeSort (PySem.W.dataLe false enc)).Perm bs := List.mergeSort_perm _ _
end Bf

set_option Elab.async false
set_option linter.all false
set_option maxRecDepth 100000
set_option maxHeartbeats 4000000
namespace Bf
open PySem PySem.Spec PyProof.Rows L2
/-! ### set(list of ints), so that it can be sorted: what set() has, member by member -/
theorem ints_at : ∀ {us : List Value} {xs : List Int}, IntsAre us xs → ∀ (i : Nat) (v : Value), us[i]? = some v → ∃ t, v = .int (xs.getD i 0) t
  | _, _, .nil, i, v, h => by simp at h
  | _, _, .cons n t hr, 0, v, h => by simp at h; exact ⟨t, by rw [← h] <;> rfl⟩
  | _, _, .cons n t hr, i + 1, v, h => by
    simp only [List.getElem?_cons_succ] at h
    obtain ⟨t', e⟩ := ints_at hr i v h
    exact ⟨t', by rw [e] <;> rfl⟩
section
variable {prog : Program} {w : World} {A : Around} {E : Value → Shared → Prop} {s : Shared}
theorem code_set_led1 (a : Value) {Q₁ : Value → Shared → Prop}
    (h : Q₁ (.ref s.heap.objs.size) { s with heap := s.heap.push { cls := .type "set", dict := none, data := .set #[] 0 (.fresh 0 0 (!w.params.followText "set-order")) } }) :
    codeAny (model prog w) A (.call (.builtin "set.__new__") ⟨[.type "set", a], []⟩) (wants Q₁ E) s := by
  refine codeAny_of_tree ?_
  show wpAny _ A.in1 (do checkBuiltinCall "set.__new__" ⟨[.type "set", a], []⟩; again (.builtin "set.__new__" ⟨[.type "set", a], []⟩)) _ _ s
  refine wpAny_bind (wpAny_of_eq (F.newCall_set_1 a) (wpAny_pure ⟨plainId_quiet F.plain_set_new _, codeAny_builtin F.entry_set_new ?_⟩))
  rw [Around.under_plainId F.plain_set_new _]
  unfold Builtin.«set.__new__» Builtin.Frozenset.newClass
  have hsub := sub_set_self
  obtain ⟨hp, g, d, tk, os⟩ := s
  dsimp only
  wp_walk
  refine wpAny_askSetting (wpAny_pure ?_)
  dsimp only
  simp only [newObj]
  refine wpAny_bind (wpAny_alloc (wpAny_pure ?_))
  exact wpAny_pure h
end
section
variable {prog : Program} {w : World} {A : Around} {R : Result → Shared → Prop} {I : Addr} {fp wr : List Addr} {G : Array GenState → Array GenState → Prop} {n : Nat} {P : Nat → Value → Prop} {St : Nat → Shared → Prop}
theorem loopInt (W : WalksS prog w A.in1 I fp wr G n P St) (S : Addr) (hSf : S ∉ fp) (xs : List Int) (hsz : xs.length = n) (hn : n ≤ 4000)
    (hval : ∀ i v, P i v → ∃ t, v = .int (xs.getD i 0) t) :
    ∀ (k i m : Nat) (s : Shared) (Sb : Int → Bool), n - i = k → i ≤ n → m ≤ i → St i s → SetR w s.heap S Sb m → (∀ x, Sb x = true ↔ x ∈ xs.take i) →
      (∀ s' Sb' m', Moved (S :: wr) G s s' → SetR w s'.heap S Sb' m' → m' ≤ n → (∀ x, Sb' x = true ↔ x ∈ xs) → R (.ok (.ret .none)) s') →
      codeAny (model prog w) A (.builtin "set.update.loop" ⟨[.ref S, .ref I], []⟩) R s := by
  have hSw : S ∉ wr := fun h => hSf (W.sub _ h)
  have hsub : ∀ b ∈ wr, b ∈ S :: wr := fun b hb => List.mem_cons_of_mem _ hb
  intro k
  induction k with
  | zero =>
    intro i m s Sb hk hi hm hst hS hSb hR
    have hin : i = n := by omega
    subst hin
    refine codeAny_builtin PyProof.Rows.F.entry_set_update_loop ?_
    rw [Around.under_plainId PyProof.Rows.F.plain_set_update_loop _]
    show wpAny _ A.in1 (pyNext (.ref I) >>= _) _ _ s
    refine wpAny_bind (W.done s _ _ hst fun s' hm' => ?_)
    show wpAny _ A.in1 (ret Value.none) _ _ s'
    refine wpAny_pure (hR s' Sb m (hm'.mono hsub) (hS.at fun o ho => hm'.heap S _ hSw ho) hm fun x => ?_)
    rw [hSb, List.take_of_length_le (by omega)]
  | succ k ih =>
    intro i m s Sb hk hi hm hst hS hSb hR
    have hlt : i < n := by omega
    refine codeAny_builtin PyProof.Rows.F.entry_set_update_loop ?_
    rw [Around.under_plainId PyProof.Rows.F.plain_set_update_loop _]
    show wpAny _ A.in1 (pyNext (.ref I) >>= _) _ _ s
    refine wpAny_bind (W.item i s _ _ hlt hst fun v s' hP hst' hm' => ?_)
    obtain ⟨t, rfl⟩ := hval i v hP
    have hS' : SetR w s'.heap S Sb m := hS.at fun o ho => hm'.heap S _ hSw ho
    show wpAny _ A.in1 (holding [Value.int (xs.getD i 0) t] (setAdd S (.int (xs.getD i 0) t)) >>= _) _ _ s'
    refine wpAny_bind (wpAny_holding ?_)
    unfold setAdd
    refine wpAny_holding ?_
    refine wpAny_bind ((intKind prog w).pyHash (k := xs.getD i 0) (intKind_is _ _ _ _) ?_)
    refine setR_add_hashed (P := prog) (s := { s' with toks := s'.toks + 1 }) hS' (by unfold scanBound; omega) fun h' hsb hS2 => ?_
    have hx : xs[i]? = some (xs.getD i 0) := by
      rw [List.getD_eq_getElem?_getD, List.getElem?_eq_getElem (by omega)]
      rfl
    refine wpAny_pure ⟨plainId_quiet PyProof.Rows.F.plain_set_update_loop _, ih (i + 1) _ _ _ (by omega) hlt (by split <;> omega) (W.frame _ s' _ _ hst' (Nat.le_succ _) fun b hb o e => ?_) hS2 (fun x => ?_) fun s'' Sb' m' hm'' hS'' => ?_⟩
    · rw [hsb.2 b (fun h : b = S => hSf (by rw [← h]; exact hb))]; exact e
    · rw [List.take_add_one, hx, Bool.or_eq_true, hSb, decide_eq_true_iff, List.mem_append]
      simp
    · refine hR s'' Sb' m' (Moved.trans W.gtrans ((hm'.mono hsub).then_heap (Nat.le_succ _) fun b o hb e => ?_) hm'') hS''
      rw [hsb.2 b (fun h : b = S => hb (by rw [h]; exact List.mem_cons_self))]; exact e
end
section
variable {prog : Program} {w : World} {A : Around} {E : Value → Shared → Prop} {s : Shared}
set_option maxHeartbeats 3200000 in
theorem call_set_listI {l : Addr} {items : Array Value} {xs : List Int} {Q : Value → Shared → Prop}
    (hh : A.handled = none) (hl : s.heap.IsList l items) (hi : IntsAre items.toList xs) (hn1 : xs.length ≤ 4000)
    (h : ∀ (h' : Heap) (tk : Nat) (Sb : Int → Bool) (m : Nat), SetR w h' s.heap.objs.size Sb m → m ≤ xs.length → (∀ x, Sb x = true ↔ x ∈ xs) →
      (∀ b o, b < s.heap.objs.size → s.heap.get? b = some o → h'.get? b = some o) → Q (.ref s.heap.objs.size) { s with heap := h', toks := tk }) :
    wpAny (model prog w) A (call (.type "set") [.ref l]) Q E s := by
  obtain ⟨c, tl, hmro⟩ := PySem.F.called_set.mro
  have hmade := PySem.F.called_set.made
  have hsub := PySem.F.called_set.sub
  refine wpAny_call (codeAny_of_tree ?_)
  show wpAny _ _ (callAny (.type "set") _) _ _ _
  refine wpAny_pure ⟨Code.quiet_builtin _ (by decide +kernel), codeAny_builtin PySem.F.entry_type_call ?_⟩
  rw [Around.under_plain (weight_type_call_type "set" [.ref l] []) rfl]
  have h1 := PySem.F.called_set.notType
  have h2 := PySem.F.called_set.canCreate
  have hct := PySem.F.typeCall_set_1 (.ref l)
  repeat (any_goals (first | assumption | wp_step))
  refine codeAny_mono (code_set_led1 (.ref l) (E := E) (Q₁ := fun obj s₁ => obj = .ref s.heap.objs.size ∧ s₁ = { s with heap := s.heap.push { cls := .type "set", dict := none, data := .set #[] 0 (.fresh 0 0 (!w.params.followText "set-order")) } }) ⟨rfl, rfl⟩) fun r s₁ hr => ?_
  cases r with
  | error e => exact hr
  | ok fl =>
    cases fl with
    | ret obj =>
      obtain ⟨rfl, rfl⟩ := hr
      have hF := setR_fresh (h := s.heap) w
      generalize (!w.params.followText "set-order") = led at hF ⊢
      have hS : (s.heap.push { cls := .type "set", dict := none, data := .set #[] 0 (.fresh 0 0 led) }).get? s.heap.objs.size = some { cls := .type "set", dict := none, data := .set #[] 0 (.fresh 0 0 led) } := Heap.get?_push_size _ rfl
      have hT : Shared.TypeIs { s with heap := s.heap.push { cls := .type "set", dict := none, data := .set #[] 0 (.fresh 0 0 led) } } (.ref s.heap.objs.size) "set" := ⟨_, hS, rfl⟩
      have hli := PySem.F.called_set.init.lookup
      have hbi := PySem.F.called_set.init.bind (.ref s.heap.objs.size)
      repeat (any_goals (first | assumption | wp_step))
      refine codeAny_mono (codeAny_call_builtin (R := wants (fun r s₂ => r = .none ∧ ∃ h' tk Sb m, s₂ = { s with heap := h', toks := tk } ∧
          SetR w h' s.heap.objs.size Sb m ∧ m ≤ xs.length ∧ (∀ x, Sb x = true ↔ x ∈ xs) ∧
          (∀ b o, b < s.heap.objs.size → s.heap.get? b = some o → h'.get? b = some o)) E) PySem.F.called_set.init.plain PySem.F.entry_set_init (check_set_init_1 hT ?_)) fun r₂ s₂ hr₂ => ?_
      · obtain ⟨ol, hol, hcl, nl, hdl⟩ := hl
        obtain ⟨ocls, odict, odata, oslots⟩ := ol
        simp only at hcl hdl
        subst hcl; subst hdl
        have hol' : (s.heap.push { cls := .type "set", dict := none, data := .set #[] 0 (.fresh 0 0 led) }).get? l = some { cls := .type "list", dict := odict, data := .seq items nl, slots := oslots } := Heap.get?_push_of_some _ hol
        have hsls := PySem.F.sub_list_set
        have hslf := PySem.F.sub_list_frozenset
        have hne : (Value.type "list" == Value.type "dict") = false := by decide
        have hl1 : (s.heap.push { cls := .type "set", dict := none, data := .set #[] 0 (.fresh 0 0 led) }).IsList l items := ⟨_, hol', rfl, nl, rfl⟩
        unfold Builtin.«set.__init__» noKeywords Builtin.Frozenset.updateFrom
        generalize hPI : pyIter = PI
        wp_walk
        subst hPI
        refine wpAny_pyIter_list hl1 ?_
        refine wpAny_bind (wpAny_runValue ?_)
        have hlS : l < s.heap.objs.size := Heap.lt_size hol
        have hh3 : A.in1.in1.in1.handled = none := by simp [hh]
        have hneI : l ≠ (s.heap.push { cls := .type "set", dict := none, data := .set #[] 0 (.fresh 0 0 led) }).objs.size := by
          rw [Heap.size_push]; exact Nat.ne_of_lt (Nat.lt_succ_of_lt hlS)
        have hSf : s.heap.objs.size ∉ [(s.heap.push { cls := .type "set", dict := none, data := .set #[] 0 (.fresh 0 0 led) }).objs.size, l] := by
          rw [Heap.size_push]; simp only [List.mem_cons, List.mem_singleton, List.not_mem_nil, or_false, not_or]
          exact ⟨Nat.ne_of_lt (Nat.lt_succ_self _), Nat.ne_of_gt hlS⟩
        have hsz : xs.length = items.size := by rw [← IntsAre.length hi, Array.length_toList]
        have hval : ∀ (i : Nat) (v : Value), items[i]? = some v → ∃ t, v = .int (xs.getD i 0) t := fun i v hv => ints_at hi i v (by rw [Array.getElem?_toList]; exact hv)
        refine loopInt ((Walks.list hh3 _ l hneI items).toS) s.heap.objs.size
          hSf xs hsz (by rw [← hsz]; exact hn1) hval (items.size - 0) 0 0 _ (fun _ => false) (by omega) (Nat.zero_le _) (Nat.le_refl _)
          ⟨⟨_, Heap.get?_push_size _ rfl, rfl, rfl⟩, (hl1.push _)⟩ (hF.at fun o ho => Heap.get?_push_of_some _ ho) (fun x => by simp) ?hR
        case hR =>
          intro s' Sb' m' hm hS' hm' hSb'
          obtain ⟨h', g', d', tk', os'⟩ := s'
          have eg : g' = s.gens := hm.gens
          have ed : d' = s.drawn := hm.drawn
          have eo : os' = s.os := hm.os
          subst eg; subst ed; subst eo
          show wpAny _ _ _ _ _ _
          refine wpAny_pure ?_
          show wpAny _ _ (ret Value.none) _ _ _
          refine wpAny_pure ⟨rfl, h', tk', Sb', m', rfl, hS', by omega, hSb', fun b o hb e => ?_⟩
          have hb1 : b ≠ s.heap.objs.size := Nat.ne_of_lt hb
          have hb2 : b ≠ (s.heap.push { cls := .type "set", dict := none, data := .set #[] 0 (.fresh 0 0 led) }).objs.size := by
            rw [Heap.size_push]; exact Nat.ne_of_lt (Nat.lt_succ_of_lt hb)
          exact hm.heap b o (by simp only [List.mem_cons, List.mem_singleton, List.not_mem_nil, or_false, not_or]; exact ⟨hb1, hb2⟩) (Heap.get?_push_of_some _ (Heap.get?_push_of_some _ e))
      · cases r₂ with
        | error e => exact hr₂
        | ok fl₂ =>
          cases fl₂ with
          | ret r =>
            obtain ⟨rfl, h', tk, Sb, m, rfl, hS', hm', hSb', hk'⟩ := hr₂
            repeat (any_goals (first | assumption | wp_step))
            exact h _ _ _ _ hS' hm' hSb' hk'
          | _ => exact hr₂.elim
    | _ => exact hr.elim
end
/-- set(xs), xs a list of ints -/
def rSetI (K : PySem.W.Frag) (w : World) : List V → Hp → VK → Prop := fun vs H Q => ∃ (l : Addr) (xs : List Int), vs = [.ref l] ∧ SqL K H l (xs.map V.int) ∧ xs.length ≤ 4000 ∧
  ∀ (p : Addr) (Sb : Int → Bool) (m : Nat), H p = none → m ≤ xs.length → (∀ x, Sb x = true ↔ x ∈ xs) → Q (.ref p) (upd H p (SetO w p Sb m))
section
variable {X : Cx}
theorem cr_setI (hc : X.calm = true) : CallR X (.type "set") (rSetI X.K X.w) := by
  intro pins s σ H vs us Q I r h
  obtain ⟨l, xs, rfl, hq, hz, q⟩ := h
  rw [Vals.ref1 r]
  obtain ⟨its, rv, pl, _⟩ := I.list hq
  refine call_set_listI (I.ok.hd hc) pl.isList (by simpa using L2.intsAre_of rv) hz fun h' tk Sb m R hm hS k => ?_
  exact ⟨.ref _, upd H s.heap.objs.size (SetO X.w s.heap.objs.size Sb m), I.laid (t' := tk) (fun b u e => k b u (Heap.lt_size e) e) (Nat.le_refl _) (setO_new R), rfl, q _ _ _ (I.hok.fresh (Nat.le_refl _)) hm hS⟩
end
end Bf

set_option Elab.async false
set_option linter.all false
set_option maxRecDepth 100000
set_option maxHeartbeats 4000000
namespace Bf
open PySem PySem.Spec PyProof.Rows L2
/-! ### ints in sequences; slices of tuples -/
theorem eqV_int (a b : Nat) : eqV (vI a) (vI b) = decide (a = b) := by
  show (((a : Int)) == (b : Int)) = _
  by_cases h : a = b
  · subst h; simp
  · rw [decide_eq_false h]
    simp
    omega
theorem inV_int (x : Nat) (xs : List Nat) : inV (vI x) (xs.map vI) = decide (x ∈ xs) := by
  induction xs with
  | nil => rfl
  | cons a r ih =>
    show (eqV (vI a) (vI x) || inV (vI x) (r.map vI)) = decide (x ∈ a :: r)
    rw [ih, eqV_int]
    by_cases h : a = x
    · subst h; simp
    · by_cases h2 : x ∈ r
      · simp [h2]
      · have : x ≠ a := fun e => h e.symm
        simp [h, h2, this]
theorem flat_ints : ∀ xs : List Nat, (xs.map vI).all flatV = true
  | [] => rfl
  | a :: r => by
    rw [List.map_cons, List.all_cons, flat_ints r]
    rfl
theorem rdIndex {xs : List Nat} {f j : Nat} (hj : xs[j]? = some f) (hn : ∀ m, m < j → xs[m]? ≠ some f) :
    ∃ z : V, (xs.map vI)[j]? = some z ∧ eqV z (vI f) = true ∧ ∀ (m : Nat) (z' : V), m < j → (xs.map vI)[m]? = some z' → eqV z' (vI f) = false := by
  refine ⟨vI f, by rw [List.getElem?_map, hj]; rfl, by rw [eqV_int]; simp, fun m z' hm hz => ?_⟩
  obtain ⟨k, hk, rfl⟩ := natAt hz
  rw [eqV_int]
  exact decide_eq_false fun e => hn m hm (by rw [hk, e])
theorem cut_map {xs : List Nat} {lo hi : Option Int} {i j : Nat} (h1 : HT.sIx xs.length 0 lo = i) (h2 : HT.sIx xs.length xs.length hi = j) : cutV (xs.map vI) lo hi = ((xs.drop i).take (j - i)).map vI := by
  unfold cutV
  rw [List.length_map, h1, h2, ← List.map_drop, ← List.map_take]
theorem rdCut {K : PySem.W.Frag} {H : Hp} {b : Addr} {xs : List Nat} {lo hi : Option Int} {i j : Nat} {Q : VK} (hb : SqT K H b (xs.map vI)) (h1 : HT.sIx xs.length 0 lo = i) (h2 : HT.sIx xs.length xs.length hi = j)
    (k : ∀ (t : Addr) (H' : Hp), Same H H' → SqT K H' t (((xs.drop i).take (j - i)).map vI) → Q (.ref t) H') : rSlA K (.ref b) lo hi H Q := by
  refine ⟨b, xs.map vI, rfl, hb, fun hw => ?_, fun hw p hp => ?_⟩
  · rw [List.length_map, h1, h2] at hw
    obtain ⟨w1, w2⟩ := hw
    subst w1 w2
    refine k b H (Same.refl _) ?_
    rw [List.drop_zero, Nat.sub_zero, List.take_length]
    exact hb
  · refine k p _ (fun b u q => by rw [upd_ne (ne_of_none q hp)]; exact q) ?_
    rw [← cut_map h1 h2]
    exact SqT.of upd_same
theorem sIx_neg {n d k : Nat} (h : 1 ≤ k) : HT.sIx n d (some (-(k : Int))) = n - k := by
  show (if (-(k : Int)) < 0 then ((-(k : Int)) + (n : Int)).toNat else min (-(k : Int)).toNat n) = n - k
  rw [if_pos (by omega)]
  omega
theorem qI {Q : VK} {H : Hp} {i : Int} {n : Nat} (h : i = (n : Int)) (q : Q (vI n) H) : Q (V.int i) H := by
  rw [h]
  exact q
end Bf

set_option Elab.async false
set_option linter.all false
set_option maxRecDepth 100000
set_option maxHeartbeats 4000000
namespace Bf
open PySem PySem.Spec PyProof.Rows L2
/-! ### len(set(numbers)) -/
def rLenSetO (w : World) : List V → Hp → VK → Prop := fun vs H Q => ∃ (a : Addr) (S : Int → Bool) (n : Nat), vs = [.ref a] ∧ H a = some (SetO w a S n) ∧ ∀ ks : List Int, ks.Nodup → (∀ k, k ∈ ks ↔ S k = true) → ks.length = n → Q (.int (n : Int)) H
theorem cr_lenSetO {X : Cx} (hc : X.calm = true) : CallR X (.builtin "len") (rLenSetO X.w) := by
  intro pins s σ H vs us Q I r h
  obtain ⟨a, S, n, rfl, ha, q⟩ := h
  rw [Vals.ref1 r]
  obtain ⟨o, es, ep, t, ho, hx, hd, g, nd, hm, hb, hf, hn, _⟩ := setO_get I ha
  have hsz : (es.size : Int) < 2 ^ 63 := by
    have : scanBound < 2 ^ 62 := by unfold scanBound; decide
    omega
  refine call_len_set ho hx hd hf hsz ⟨.int (n : Int), H, I.tok _, ⟨_, by rw [hn]⟩, q (es.toList.map keyOf) nd (fun k => (hm k).symm) (by rw [List.length_map, Array.length_toList, hn])⟩
theorem nodup_len : ∀ (xs ks : List Int), ks.Nodup → (∀ k, k ∈ ks ↔ k ∈ xs) → ks.length ≤ xs.length ∧ (ks.length = xs.length → xs.Nodup)
  | [], ks, _, hm => by
    have : ks = [] := List.eq_nil_iff_forall_not_mem.mpr fun k hk => by have := (hm k).mp hk; cases this
    subst this
    exact ⟨Nat.le_refl _, fun _ => .nil⟩
  | a :: r, ks, nd, hm => by
    by_cases ha : a ∈ r
    · obtain ⟨h1, h2⟩ := nodup_len r ks nd fun k => by rw [hm k, List.mem_cons]; exact ⟨fun h => h.elim (fun e => e ▸ ha) id, .inr⟩
      refine ⟨by rw [List.length_cons]; omega, fun e => ?_⟩
      rw [List.length_cons] at e
      omega
    · have hak : a ∈ ks := (hm a).mpr (by simp)
      obtain ⟨h1, h2⟩ := nodup_len r (ks.erase a) (nd.erase a) fun k => by
        rw [nd.mem_erase_iff, hm k, List.mem_cons]
        constructor
        · rintro ⟨h0, h | h⟩
          · exact absurd h h0
          · exact h
        · intro h
          exact ⟨fun e => ha (e ▸ h), .inr h⟩
      have hl := List.length_erase_of_mem hak
      have h0 : 1 ≤ ks.length := List.length_pos_of_mem hak
      refine ⟨by rw [List.length_cons]; omega, fun e => List.nodup_cons.mpr ⟨ha, h2 ?_⟩⟩
      rw [List.length_cons] at e
      omega
theorem nodup_iff_len {xs ks : List Int} (nd : ks.Nodup) (hm : ∀ k, k ∈ ks ↔ k ∈ xs) : ks.length = xs.length ↔ xs.Nodup := by
  refine ⟨(nodup_len xs ks nd hm).2, fun h => ?_⟩
  have h1 := (nodup_len xs ks nd hm).1
  have h2 := (nodup_len ks xs h fun k => (hm k).symm).1
  omega
end Bf

set_option Elab.async false
set_option linter.all false
set_option maxRecDepth 100000
set_option maxHeartbeats 4000000
namespace Bf
open PySem PySem.Spec PyProof.Rows L2
/-! ### comprehensions over rows that lie there; each row gives a datum -/
theorem lc_rows {J : It} {xs : List V} {G : Hp → Prop} (w : Walk J xs.length G (YAt xs)) {α β : Type} {rows : List α} {f : α → PyData} {g : α → β} {h : β → PyData} {tg : TG} {te : TE} {vs : List Nat} {σ : L2.St} {H1 : Hp} {D : Addr} {Qd : Hp → Prop}
    (hG : ∀ H', Same H1 H' → G H') (hD : H1 D = none) (lay : LayAll H1 xs (rows.map f)) (hl : rows.length ≤ 1000)
    (hs : ∀ (i : Nat) (x : V) (r : α) (H' : Hp) (R : V → Hp → Prop) (Z : Hp → Prop), rows[i]? = some r → Same H1 H' → Lay H' x (f r) → (∀ y H4, Same H' H4 → Lay H4 y (h (g r)) → R y H4) →
      tg x (wipe σ vs) H' fun σ2 H2 => wipe σ2 vs = wipe σ vs ∧ tYes σ2 H2 fun b H3 => if b = true then te σ2 H3 R else Z H3)
    (hd : ∀ us H', Same H1 H' → H' D = some (.lst us) → LayAll H' us ((rows.map g).map h) → Qd H') :
    ∃ W : Nat → Nat → Hp → Prop, (∃ m, W 0 m (upd H1 D (.lst []))) ∧ ∀ i m H, W i m H →
      (J.stop i H ∧ Qd H) ∨ (J.go i H ∧ ∃ Nx : Hp → Prop, (∀ H', Nx H' → ∃ m', m' < m ∧ W (i + 1) m' H') ∧ ∀ x H', J.yld i H x H' → tg x (wipe σ vs) H' fun σ2 H2 => wipe σ2 vs = wipe σ vs ∧ tYes σ2 H2 fun b H3 =>
        if b = true then te σ2 H3 fun y H4 => ∃ acc, H4 D = some (.lst acc) ∧ acc.length < sizeLine ∧ Nx (upd H4 D (.lst (acc ++ [y]))) else Nx H3) := by
  have ll := lay.len
  rw [List.length_map] at ll
  refine lc_it w (fun i H' => Same H1 H' ∧ ∃ us, H' D = some (.lst us) ∧ LayAll H' us (((rows.take i).map g).map h)) ⟨same_two (.refl _) hD, [], upd_same, .nil⟩ (fun i H' _ p => hG _ p.1) (fun i x H' H2 hi p y => ?_) (fun H' p => ?_)
  · obtain ⟨sm, us, eD, lu⟩ := p
    obtain ⟨rfl, hx⟩ := y
    obtain ⟨d, hd', ld⟩ := (lay.keep' (.same sm)).get i hx
    obtain ⟨r, hr, rfl⟩ := mapAtD hd'
    refine hs i x r H2 _ _ hr sm ld (fun y H4 s4 ly => ?_)
    have lul := lu.len
    rw [List.length_map, List.length_map, List.length_take] at lul
    refine ⟨us, s4 _ _ eD, len1000 (by omega), same_two (sm.trans s4) hD, us ++ [y], upd_same, ?_⟩
    rw [take_snoc hr, List.map_append, List.map_append]
    exact ((lu.keep' (.same s4)).snoc ly).keep' (.lst (s4 _ _ eD))
  · obtain ⟨sm, us, eD, lu⟩ := p
    rw [ll, List.take_length] at lu
    exact hd us H' sm eD lu
theorem lay_ints {H : Hp} {us : List V} {ns : List Nat} (h : LayAll H us (ns.map fun n : Nat => PyData.int (n : Int))) : us = ns.map vI := h.ints_inv
/-- range(n) gives data -/
theorem lc_rangeL {n : Nat} {β : Type} {g : Nat → β} {h : β → PyData} {tg : TG} {te : TE} {vs : List Nat} {σ : L2.St} {H1 : Hp} {D : Addr} {Qd : Hp → Prop} (hD : H1 D = none) (hl : n ≤ 1000)
    (hs : ∀ (i : Nat) (H' : Hp) (R : V → Hp → Prop) (Z : Hp → Prop), i < n → Same H1 H' → (∀ y H4, Same H' H4 → Lay H4 y (h (g i)) → R y H4) →
      tg (.int (0 + (i : Int))) (wipe σ vs) H' fun σ2 H2 => wipe σ2 vs = wipe σ vs ∧ tYes σ2 H2 fun b H3 => if b = true then te σ2 H3 R else Z H3)
    (hd : ∀ us H', Same H1 H' → H' D = some (.lst us) → LayAll H' us (((List.range n).map g).map h) → Qd H') :
    ∃ W : Nat → Nat → Hp → Prop, (∃ m, W 0 m (upd H1 D (.lst []))) ∧ ∀ i m H, W i m H →
      ((Itr 0 n).stop i H ∧ Qd H) ∨ ((Itr 0 n).go i H ∧ ∃ Nx : Hp → Prop, (∀ H', Nx H' → ∃ m', m' < m ∧ W (i + 1) m' H') ∧ ∀ x H', (Itr 0 n).yld i H x H' → tg x (wipe σ vs) H' fun σ2 H2 => wipe σ2 vs = wipe σ vs ∧ tYes σ2 H2 fun b H3 =>
        if b = true then te σ2 H3 fun y H4 => ∃ acc, H4 D = some (.lst acc) ∧ acc.length < sizeLine ∧ Nx (upd H4 D (.lst (acc ++ [y]))) else Nx H3) := by
  refine lc_it walk_range (fun i H' => Same H1 H' ∧ ∃ us, H' D = some (.lst us) ∧ LayAll H' us (((List.range i).map g).map h)) ⟨same_two (.refl _) hD, [], upd_same, .nil⟩ (fun i H' _ p => trivial) (fun i x H' H2 hi p y => ?_) (fun H' p => ?_)
  · obtain ⟨sm, us, eD, lu⟩ := p
    obtain ⟨rfl, rfl⟩ := y
    refine hs i H2 _ _ hi sm (fun y H4 s4 ly => ?_)
    have lul := lu.len
    rw [List.length_map, List.length_map, List.length_range] at lul
    refine ⟨us, s4 _ _ eD, len1000 (by omega), same_two (sm.trans s4) hD, us ++ [y], upd_same, ?_⟩
    rw [List.range_succ, List.map_append, List.map_append]
    exact ((lu.keep' (.same s4)).snoc ly).keep' (.lst (s4 _ _ eD))
  · obtain ⟨sm, us, eD, lu⟩ := p
    exact hd us H' sm eD lu
theorem flat_rep (n : Nat) : (List.replicate n [V.int 0]).flatten = (List.replicate n 0).map vI := by
  induction n with
  | zero => rfl
  | succ n ih =>
    rw [List.replicate_succ, List.flatten_cons, ih, List.replicate_succ]
    rfl
theorem set_vI (l : List Nat) (i x : Nat) : (l.map vI).set i (vI x) = (l.set i x).map vI := by rw [List.map_set]
theorem ixN_nat {n i : Nat} (h : i < n) : ixN n (i : Int) = some i := by
  have : atI (List.range n) (i : Int) = some i := atI_nat (by rw [List.getElem?_range h])
  unfold atI at this
  cases e : ixN n (i : Int) with
  | none => rw [List.length_range, e] at this; cases this
  | some j =>
    rw [List.length_range, e] at this
    have q : (List.range n)[j]? = some i := this
    have hj : j < n := by
      have := (List.getElem?_eq_some_iff.mp q).1
      simpa using this
    rw [List.getElem?_range hj] at q
    rw [Option.some.inj q]
end Bf

set_option Elab.async false
set_option linter.all false
set_option maxRecDepth 100000
set_option maxHeartbeats 4000000
namespace Bf
open PySem PySem.Spec PyProof.Rows L2
/-! ### [x for x in xs if p x]; sorted(set(xs)) -/
theorem lc_filt {J : It} {xs : List Nat} {G : Hp → Prop} (w : Walk J (xs.map vI).length G (YAt (xs.map vI))) {p : Nat → Bool} {tg : TG} {tt : TT} {te : TE} {vs : List Nat} {σ : L2.St} {H1 : Hp} {D : Addr} {Qd : Hp → Prop}
    (hG : ∀ H', Same H1 H' → G H') (hD : H1 D = none) (hl : xs.length ≤ 1000)
    (hs : ∀ (x : Nat) (H' : Hp) (R : V → Hp → Prop) (Z : Hp → Prop), x ∈ xs → Same H1 H' → (p x = true → R (vI x) H') → (p x = false → Z H') →
      tg (vI x) (wipe σ vs) H' fun σ2 H2 => wipe σ2 vs = wipe σ vs ∧ tt σ2 H2 fun b H3 => if b = true then te σ2 H3 R else Z H3)
    (hd : ∀ H', Same H1 H' → H' D = some (.lst ((xs.filter p).map vI)) → Qd H') :
    ∃ W : Nat → Nat → Hp → Prop, (∃ m, W 0 m (upd H1 D (.lst []))) ∧ ∀ i m H, W i m H →
      (J.stop i H ∧ Qd H) ∨ (J.go i H ∧ ∃ Nx : Hp → Prop, (∀ H', Nx H' → ∃ m', m' < m ∧ W (i + 1) m' H') ∧ ∀ x H', J.yld i H x H' → tg x (wipe σ vs) H' fun σ2 H2 => wipe σ2 vs = wipe σ vs ∧ tt σ2 H2 fun b H3 =>
        if b = true then te σ2 H3 fun y H4 => ∃ acc, H4 D = some (.lst acc) ∧ acc.length < sizeLine ∧ Nx (upd H4 D (.lst (acc ++ [y]))) else Nx H3) := by
  refine lc_it w (fun i H' => Same H1 H' ∧ H' D = some (.lst (((xs.take i).filter p).map vI))) ⟨same_two (.refl _) hD, by simp [upd_same]⟩ (fun i H' _ q => hG _ q.1) (fun i x H' H2 hi q y => ?_) (fun H' q => ?_)
  · obtain ⟨sm, eD⟩ := q
    obtain ⟨rfl, hx⟩ := y
    obtain ⟨k, hk, rfl⟩ := natAt hx
    have hlen : ((xs.take i).filter p).length ≤ 1000 := Nat.le_trans (List.length_filter_le _ _) (by rw [List.length_take]; omega)
    refine hs k H2 _ _ (List.mem_of_getElem? hk) sm (fun hp => ⟨_, eD, by rw [List.length_map]; exact small1000 hlen, same_two sm hD, ?_⟩) (fun hp => ⟨sm, ?_⟩)
    · rw [upd_same, take_snoc hk, List.filter_append, List.map_append]
      simp [List.filter, hp]
    · rw [take_snoc hk, List.filter_append]
      simpa [List.filter, hp] using eD
  · obtain ⟨sm, eD⟩ := q
    rw [List.length_map, List.take_length] at eD
    exact hd H' sm eD
theorem ints_nat {ns : List Int} {xs : List Nat} (h : ∀ k ∈ ns, ∃ x : Nat, k = (x : Int) ∧ x ∈ xs) : ∃ zs : List Nat, ns.map V.int = zs.map vI ∧ ns = zs.map fun n : Nat => (n : Int) := by
  induction ns with
  | nil => exact ⟨[], rfl, rfl⟩
  | cons a r ih =>
    obtain ⟨zs, e1, e2⟩ := ih fun k hk => h k (by simp [hk])
    obtain ⟨x, rfl, _⟩ := h a (by simp)
    exact ⟨x :: zs, by rw [List.map_cons, e1]; rfl, by rw [e2]; rfl⟩
def castL (xs : List Nat) : List Int := xs.map fun n : Nat => (n : Int)
theorem castL_V (xs : List Nat) : (castL xs).map V.int = xs.map vI := by
  unfold castL
  rw [List.map_map]
  rfl
theorem castL_len (xs : List Nat) : (castL xs).length = xs.length := by simp [castL]
theorem setSorted {xs : List Nat} {ns : List Int} {Sb : Int → Bool} {m : Nat} (hS : ∀ x, Sb x = true ↔ x ∈ castL xs) (pw : ns.Pairwise (· < ·)) (hk : ∀ k : Int, k ∈ ns ↔ Sb k = true) (hn : ns.length = m) (hm : m ≤ (castL xs).length) :
    ∃ zs : List Nat, ns.map V.int = zs.map vI ∧ zs.Pairwise (· < ·) ∧ (∀ x, x ∈ zs ↔ x ∈ xs) ∧ zs.length ≤ xs.length := by
  rw [castL_len] at hm
  have hx : ∀ z : Int, z ∈ ns ↔ ∃ x : Nat, z = (x : Int) ∧ x ∈ xs := fun z => by
    rw [hk z, hS z, castL, List.mem_map]
    exact ⟨fun ⟨x, a, b⟩ => ⟨x, b.symm, a⟩, fun ⟨x, a, b⟩ => ⟨x, b, a.symm⟩⟩
  obtain ⟨zs, e1, e2⟩ := ints_nat fun z hz => (hx z).mp hz
  refine ⟨zs, e1, ?_, fun x => ?_, ?_⟩
  · rw [e2] at pw
    exact (List.pairwise_map.mp pw).imp fun h => by omega
  · have := hx (x : Int)
    rw [e2] at this
    refine ⟨fun h => ?_, fun h => ?_⟩
    · obtain ⟨y, hy, hm⟩ := this.mp (List.mem_map_of_mem h)
      rwa [show x = y by omega]
    · obtain ⟨y, hy, e⟩ := List.mem_map.mp (this.mpr ⟨x, rfl, h⟩)
      have e : (y : Int) = (x : Int) := e
      rwa [show x = y by omega]
  · have : ns.length = zs.length := by rw [e2, List.length_map]
    omega
/-- [g x for x in rows if p x], rows that lie there; the test may make objects -/
theorem lc_frows {J : It} {xs : List V} {G : Hp → Prop} (w : Walk J xs.length G (YAt xs)) {α β : Type} {rows : List α} {f : α → PyData} {g : α → β} {h : β → PyData} {p : α → Bool} {tg : TG} {tt : TT} {te : TE} {vs : List Nat} {σ : L2.St} {H1 : Hp} {D : Addr} {Qd : Hp → Prop}
    (hG : ∀ H', Same H1 H' → G H') (hD : H1 D = none) (lay : LayAll H1 xs (rows.map f)) (hl : rows.length ≤ 1000)
    (hs : ∀ (x : V) (r : α) (H' : Hp) (R : V → Hp → Prop) (Z : Hp → Prop), r ∈ rows → Same H1 H' → Lay H' x (f r) → (p r = true → ∀ y H4, Same H' H4 → Lay H4 y (h (g r)) → R y H4) → (p r = false → ∀ H4, Same H' H4 → Z H4) →
      tg x (wipe σ vs) H' fun σ2 H2 => wipe σ2 vs = wipe σ vs ∧ tt σ2 H2 fun b H3 => if b = true then te σ2 H3 R else Z H3)
    (hd : ∀ us H', Same H1 H' → H' D = some (.lst us) → LayAll H' us (((rows.filter p).map g).map h) → Qd H') :
    ∃ W : Nat → Nat → Hp → Prop, (∃ m, W 0 m (upd H1 D (.lst []))) ∧ ∀ i m H, W i m H →
      (J.stop i H ∧ Qd H) ∨ (J.go i H ∧ ∃ Nx : Hp → Prop, (∀ H', Nx H' → ∃ m', m' < m ∧ W (i + 1) m' H') ∧ ∀ x H', J.yld i H x H' → tg x (wipe σ vs) H' fun σ2 H2 => wipe σ2 vs = wipe σ vs ∧ tt σ2 H2 fun b H3 =>
        if b = true then te σ2 H3 fun y H4 => ∃ acc, H4 D = some (.lst acc) ∧ acc.length < sizeLine ∧ Nx (upd H4 D (.lst (acc ++ [y]))) else Nx H3) := by
  have ll := lay.len
  rw [List.length_map] at ll
  refine lc_it w (fun i H' => Same H1 H' ∧ ∃ us, H' D = some (.lst us) ∧ LayAll H' us ((((rows.take i).filter p).map g).map h)) ⟨same_two (.refl _) hD, [], upd_same, by simp; exact .nil⟩ (fun i H' _ q => hG _ q.1) (fun i x H' H2 hi q y => ?_) (fun H' q => ?_)
  · obtain ⟨sm, us, eD, lu⟩ := q
    obtain ⟨rfl, hx⟩ := y
    obtain ⟨d, hd', ld⟩ := (lay.keep' (.same sm)).get i hx
    obtain ⟨r, hr, rfl⟩ := mapAtD hd'
    have lul := lu.len
    rw [List.length_map, List.length_map] at lul
    have hlen : ((rows.take i).filter p).length ≤ 1000 := Nat.le_trans (List.length_filter_le _ _) (by rw [List.length_take]; omega)
    refine hs x r H2 _ _ (List.mem_of_getElem? hr) sm ld (fun hp y H4 s4 ly => ?_) (fun hp H4 s4 => ⟨sm.trans s4, us, s4 _ _ eD, ?_⟩)
    · refine ⟨us, s4 _ _ eD, len1000 (by omega), same_two (sm.trans s4) hD, us ++ [y], upd_same, ?_⟩
      rw [take_snoc hr, List.filter_append, List.map_append, List.map_append, show [r].filter p = [r] by simp [List.filter, hp]]
      exact ((lu.keep' (.same s4)).snoc ly).keep' (.lst (s4 _ _ eD))
    · rw [take_snoc hr, List.filter_append, show [r].filter p = [] by simp [List.filter, hp], List.append_nil]
      exact lu.keep' (.same s4)
  · obtain ⟨sm, us, eD, lu⟩ := q
    rw [ll, List.take_length] at lu
    exact hd us H' sm eD lu
def blD (b : Bool) : PyData := .bool b
theorem lay_bls {H : Hp} : ∀ {bs : List Bool} {us : List V}, LayAll H us (bs.map blD) → us = bs.map V.bl
  | [], _, h => by cases h; rfl
  | b :: r, _, h => by
    cases h with
    | cons a t =>
      rw [lay_bls t]
      cases a
      rfl
end Bf

set_option Elab.async false
set_option linter.all false
set_option maxRecDepth 100000
set_option maxHeartbeats 4000000
namespace Bf
open PySem PySem.Spec PyProof.Rows L2
/-! ### d.update(e), both with int and text keys -/
def rUpd : V → List V → Hp → VK → Prop := fun x vs H Q => ∃ (d b : Addr) (xs zs : List (Key × V)), x = .ref d ∧ vs = [.ref b] ∧ d ≠ b ∧ H d = some (.dK xs) ∧ H b = some (.dK zs) ∧ xs.length + zs.length ≤ sizeLine ∧ Q .non (upd H d (.dK (mergeK xs zs)))
theorem mt_update {X : Cx} : MtM X "dict.update" rUpd := by
  intro pins s σ H x vs v us Q I rx rv h
  obtain ⟨d, b, xs, zs, rfl, rfl, hne, hH, hB, hz, q⟩ := h
  cases rx
  obtain ⟨u, rfl, ru⟩ := rv.one
  cases ru
  obtain ⟨z, hd, ws, rel, dd⟩ := dk_of I.hok hH
  obtain ⟨z2, hd2, ws2, rel2, dd2⟩ := dk_of I.hok hB
  refine call_meetsIn PySem.F.slot_dict_update dd.typeIs PySem.F.entry_dict_update (PySem.F.args_dict_update_2 _ _) (meets_dict_update (mixKind X.prog X.w) d b hne hd2) ⟨ws, ws2, dd, dd2, by rw [← Paired.length rel, ← Paired.length rel2]; exact hz, fun h' dd' _ hs => ?_⟩
  have hl := length_mergeK zs xs
  have he : ∃ q, h'.get? d = some q := let ⟨q, _, _, hq, _⟩ := dd'; ⟨q, hq⟩
  exact ⟨.non, _, d_write I (by rw [hH]; exact True.intro) hs he (dk_new (by omega) hd (rel2.merge rel) dd'), rfl, q⟩
/-! ### dicts as sets of numbers -/
def setZ (M : List Int) : List (Key × V) := M.map fun x => (Sum.inl x, .bl true)
def addZ (M : List Int) (x : Int) : List Int := if x ∈ M then M else M ++ [x]
theorem mem_addZ {M : List Int} {x y : Int} : y ∈ addZ M x ↔ y ∈ M ∨ y = x := by
  unfold addZ
  by_cases h : x ∈ M
  · rw [if_pos h]
    exact ⟨.inl, fun q => q.elim id fun e => e ▸ h⟩
  · rw [if_neg h]
    simp
theorem addZ_len {M : List Int} {x : Int} : (addZ M x).length ≤ M.length + 1 := by
  unfold addZ
  split
  · omega
  · rw [List.length_append]; exact Nat.le_refl _
theorem addZ_nodup {M : List Int} {x : Int} (h : M.Nodup) : (addZ M x).Nodup := by
  unfold addZ
  by_cases q : x ∈ M
  · rw [if_pos q]; exact h
  · rw [if_neg q]
    exact List.nodup_append.mpr ⟨h, by simp, fun a ha b hb e => q (by rw [← List.mem_singleton.mp hb, ← e]; exact ha)⟩
theorem setZ_len (M : List Int) : (setZ M).length = M.length := by simp [setZ]
theorem setZ_put (M : List Int) (x : Int) : putK (setZ M) (Sum.inl x) (.bl true) = setZ (addZ M x) := by
  unfold putK addZ setZ
  by_cases h : x ∈ M
  · rw [if_pos h, if_pos]
    · conv => rhs; rw [← List.map_id (M.map _)]
      refine List.map_congr_left fun kv hkv => ?_
      obtain ⟨y, _, rfl⟩ := List.mem_map.mp hkv
      by_cases e : (Sum.inl y : Key) = Sum.inl x
      · rw [if_pos e]; rfl
      · rw [if_neg e]; rfl
    · rw [List.any_eq_true]
      exact ⟨(Sum.inl x, .bl true), List.mem_map_of_mem (f := fun x => ((Sum.inl x : Key), V.bl true)) h, decide_eq_true rfl⟩
  · rw [if_neg h, if_neg, List.map_append]
    · rfl
    · rw [List.any_eq_true]
      rintro ⟨kv, hkv, q⟩
      obtain ⟨y, hy, rfl⟩ := List.mem_map.mp hkv
      exact h (Sum.inl.inj (of_decide_eq_true q) ▸ hy)
theorem setZ_val : ∀ (M : List Int) (x : Int), (valV (setZ M) (Sum.inl x)).isSome = decide (x ∈ M)
  | [], x => by unfold setZ; rw [List.map_nil, valV_nil]; simp
  | y :: M, x => by
    have ih := setZ_val M x
    unfold setZ at ih ⊢
    rw [List.map_cons]
    by_cases e : (Sum.inl y : Key) = Sum.inl x
    · rw [valV_pos e]
      have : y = x := Sum.inl.inj e
      simp [this]
    · rw [valV_neg e, ih]
      have : ¬ x = y := fun q => e (congrArg Sum.inl q.symm)
      simp [this]
theorem setZ_merge (M : List Int) : ∀ N : List Int, mergeK (setZ M) (setZ N) = setZ (N.foldl addZ M)
  | [] => rfl
  | x :: N => by
    have := setZ_merge (addZ M x) N
    show mergeK (putK (setZ M) (Sum.inl x) (.bl true)) (setZ N) = _
    rw [setZ_put, this]
    rfl
theorem mem_addsZ : ∀ (N : List Int) {M : List Int} {x : Int}, x ∈ N.foldl addZ M ↔ x ∈ M ∨ x ∈ N
  | [], M, x => by simp
  | y :: N, M, x => by
    show x ∈ N.foldl addZ (addZ M y) ↔ _
    rw [mem_addsZ N, mem_addZ, List.mem_cons]
    constructor
    · rintro ((h | h) | h)
      · exact .inl h
      · exact .inr (.inl h)
      · exact .inr (.inr h)
    · rintro (h | h | h)
      · exact .inl (.inl h)
      · exact .inl (.inr h)
      · exact .inr h
theorem addsZ_len : ∀ (N M : List Int), (N.foldl addZ M).length ≤ M.length + N.length
  | [], M => by simp
  | y :: N, M => by
    have h1 := addsZ_len N (addZ M y)
    have h2 := addZ_len (M := M) (x := y)
    show (N.foldl addZ (addZ M y)).length ≤ _
    rw [List.length_cons]
    omega
theorem setZ_get {H : Hp} {a : Addr} {M : List Int} (h : H a = some (.dK (setZ M))) (x : Int) : DGet H a (.int x) (valV (setZ M) (Sum.inl x)) := DGet.k (k := Sum.inl x) h
theorem setZ_dput {H : Hp} {a : Addr} {M : List Int} (h : H a = some (.dK (setZ M))) (x : Int) (hl : M.length ≤ 2000) : DPut H a (.int x) (.bl true) (upd H a (.dK (setZ (addZ M x)))) := by
  have := DPut.k (k := Sum.inl x) (v := .bl true) h (by rw [setZ_len]; exact Nat.lt_of_le_of_lt hl (by show 2000 < sizeLine; decide))
  rwa [setZ_put] at this
/-- {key: True for x in rows} -/
theorem dc_setZ {J : It} {xs : List V} {G : Hp → Prop} (w : Walk J xs.length G (YAt xs)) {α : Type} {rows : List α} {f : α → PyData} {k : α → Int} {g : TG} {tt : TT} {tk tv : TE} {vs : List Nat} {σ : L2.St} {H1 : Hp} {D : Addr} {Qd : Hp → Prop}
    (hG : ∀ H', Same H1 H' → G H') (hD : H1 D = none) (lay : LayAll H1 xs (rows.map f)) (hl : rows.length ≤ 1000)
    (hs : ∀ (x : V) (r : α) (H' : Hp) (R : V → V → Hp → Prop) (Z : Hp → Prop), r ∈ rows → Same H1 H' → Lay H' x (f r) → (∀ H4, Same H' H4 → R (.int (k r)) (.bl true) H4) →
      g x (wipe σ vs) H' fun σ2 H2 => wipe σ2 vs = wipe σ vs ∧ tt σ2 H2 fun b H3 => if b = true then tk σ2 H3 fun y H4 => tv σ2 H4 fun z H5 => R y z H5 else Z H3)
    (hd : ∀ (M : List Int) H', Same H1 H' → H' D = some (.dK (setZ M)) → (∀ x, x ∈ M ↔ x ∈ rows.map k) → M.length ≤ rows.length → Qd H') :
    ∃ W : Nat → Nat → Hp → Prop, (∃ m, W 0 m (upd H1 D (.dK []))) ∧ ∀ i m H, W i m H →
      (J.stop i H ∧ Qd H) ∨ (J.go i H ∧ ∃ Nx : Hp → Prop, (∀ H', Nx H' → ∃ m', m' < m ∧ W (i + 1) m' H') ∧ ∀ x H', J.yld i H x H' → g x (wipe σ vs) H' fun σ2 H2 => wipe σ2 vs = wipe σ vs ∧ tt σ2 H2 fun b H3 =>
        if b = true then tk σ2 H3 fun y H4 => tv σ2 H4 fun z H5 => ∃ kvs k, y = kV k ∧ H5 D = some (.dK kvs) ∧ kvs.length < sizeLine ∧ Nx (upd H5 D (.dK (putK kvs k z))) else Nx H3) := by
  have ll := lay.len
  rw [List.length_map] at ll
  let Pv : Nat → Hp → Prop := fun i H' => Same H1 H' ∧ ∃ M : List Int, H' D = some (.dK (setZ M)) ∧ (∀ x, x ∈ M ↔ x ∈ (rows.take i).map k) ∧ M.length ≤ i
  refine ⟨fun i m H => m = xs.length - i ∧ i ≤ xs.length ∧ Pv i H, ⟨xs.length, by simp, Nat.zero_le _, same_two (.refl _) hD, [], upd_same, by simp, Nat.le_refl _⟩, ?_⟩
  rintro i m H ⟨rfl, hi, sm, M, eD, hM, hML⟩
  have q := hG H sm
  by_cases hlt : i < xs.length
  · refine .inr ⟨w.goes i H hlt q, Pv (i + 1), fun H' p' => ⟨xs.length - (i + 1), by omega, rfl, hlt, p'⟩, fun x H' y => ?_⟩
    obtain ⟨rfl, hx⟩ := w.yields i H x H' hlt q y
    obtain ⟨d, hd', ld⟩ := (lay.keep' (.same sm)).get i hx
    obtain ⟨r, hr, rfl⟩ := mapAtD hd'
    refine hs x r H' _ _ (List.mem_of_getElem? hr) sm ld (fun H4 s4 => ?_)
    refine ⟨setZ M, Sum.inl (k r), rfl, s4 _ _ eD, by rw [setZ_len]; exact len1000 (by omega), ?_⟩
    rw [setZ_put]
    refine ⟨same_two (sm.trans s4) hD, addZ M (k r), upd_same, fun x => ?_, by have := addZ_len (M := M) (x := k r); omega⟩
    rw [mem_addZ, hM, take_snoc hr, List.map_append, List.mem_append]
    simp
  · have e : i = xs.length := by omega
    subst e
    refine .inl ⟨w.stops H q, hd M H sm eD (fun x => ?_) (by omega)⟩
    rw [hM, ll, List.take_length]
/-- [.. for x in d], d a locked set of numbers, each giving a bool -/
theorem lc_keysB {o : Obj} {d : Addr} {M : List Int} {p : Int → Bool} {tg : TG} {te : TE} {vs : List Nat} {σ : L2.St} {H1 : Hp} {D : Addr} {Qd : Hp → Prop}
    (hd : H1 d = some (.frz o (.dK (setZ M)))) (hD : H1 D = none) (hl : M.length ≤ 1000)
    (hs : ∀ (x : Int) (H' : Hp) (R : V → Hp → Prop) (Z : Hp → Prop), x ∈ M → Same H1 H' → (∀ H4, Same H' H4 → R (.bl (p x)) H4) →
      tg (.int x) (wipe σ vs) H' fun σ2 H2 => wipe σ2 vs = wipe σ vs ∧ tYes σ2 H2 fun b H3 => if b = true then te σ2 H3 R else Z H3)
    (hq : ∀ H', Same H1 H' → H' D = some (.lst ((M.map p).map V.bl)) → Qd H') :
    ∃ W : Nat → Nat → Hp → Prop, (∃ m, W 0 m (upd H1 D (.lst []))) ∧ ∀ i m H, W i m H →
      ((Itk d o (setZ M)).stop i H ∧ Qd H) ∨ ((Itk d o (setZ M)).go i H ∧ ∃ Nx : Hp → Prop, (∀ H', Nx H' → ∃ m', m' < m ∧ W (i + 1) m' H') ∧ ∀ x H', (Itk d o (setZ M)).yld i H x H' → tg x (wipe σ vs) H' fun σ2 H2 => wipe σ2 vs = wipe σ vs ∧ tYes σ2 H2 fun b H3 =>
        if b = true then te σ2 H3 fun y H4 => ∃ acc, H4 D = some (.lst acc) ∧ acc.length < sizeLine ∧ Nx (upd H4 D (.lst (acc ++ [y]))) else Nx H3) := by
  refine lc_it (walk_keys (d := d) (o := o) (kvs := setZ M)) (fun i H' => Same H1 H' ∧ H' D = some (.lst (((M.take i).map p).map V.bl))) ⟨same_two (.refl _) hD, upd_same⟩ (fun i H' _ q => q.1 _ _ hd) (fun i x H' H2 hi q y => ?_) (fun H' q => ?_)
  · obtain ⟨sm, eD⟩ := q
    obtain ⟨rfl, kk, v, hk, rfl⟩ := y
    rw [setZ_len] at hi
    have e : M[i]? = some M[i] := List.getElem?_eq_getElem hi
    have e2 : (setZ M)[i]? = some (Sum.inl M[i], .bl true) := by unfold setZ; rw [List.getElem?_map, e]; rfl
    rw [e2] at hk
    cases hk
    refine hs M[i] H2 _ _ (List.getElem_mem _) sm (fun H4 s4 => ⟨_, s4 _ _ eD, ?_, same_two (sm.trans s4) hD, ?_⟩)
    · rw [List.length_map, List.length_map, List.length_take]
      exact len1000 (by omega)
    · rw [upd_same, take_snoc e, List.map_append, List.map_append]
      rfl
  · obtain ⟨sm, eD⟩ := q
    rw [setZ_len, List.take_length] at eD
    exact hq H' sm eD
end Bf

set_option Elab.async false
set_option linter.all false
set_option maxRecDepth 100000
set_option maxHeartbeats 4000000
namespace Bf
open PySem PySem.Spec PyProof.Rows L2
/-! ### zip of a list and a shorter one -/
theorem walk_zipMin (S1 S2 : Src) {K : PySem.W.Frag} {a b : Addr} {xs ys : List V} (h : ys.length ≤ xs.length) : Walk (ItZ S1 S2 K a b) ys.length (fun H => S1.sq K H a xs ∧ S2.sq K H b ys) (YPair (fun i => xs[i]?) (fun i => ys[i]?)) := by
  refine ⟨fun i _ hi q => ⟨xs, ys, xs[i], ys[i], q.1, q.2, by simp [show i < xs.length by omega], by simp [hi]⟩, fun _ q => ⟨xs, ys, q.1, q.2, h, Nat.le_refl _, .inr rfl⟩, fun i H v H' _ q y => ?_⟩
  obtain ⟨T, x, y, h1, h2, h3, h4, h5⟩ := y
  exact ⟨T, x, y, h1, h2, h3, h4 xs q.1, h5 ys q.2⟩
/-! ### slices -/
theorem cutV_from (xs : List V) (k : Nat) : cutV xs (some (k : Int)) none = xs.drop k := by
  unfold cutV
  rw [HT.sIx_nat, HT.sIx_none]
  by_cases h : k ≤ xs.length
  · rw [Nat.min_eq_left h]
    exact List.take_of_length_le (by rw [List.length_drop]; exact Nat.le_refl _)
  · rw [Nat.min_eq_right (by omega), Nat.sub_self, List.take_zero, List.drop_eq_nil_of_le (by omega)]
theorem cutV_to (xs : List V) (k : Nat) : cutV xs none (some (k : Int)) = xs.take k := by
  unfold cutV
  rw [HT.sIx_nat, HT.sIx_none, List.drop_zero, Nat.sub_zero]
  by_cases h : k ≤ xs.length
  · rw [Nat.min_eq_left h]
  · rw [Nat.min_eq_right (by omega), List.take_of_length_le (Nat.le_refl _), List.take_of_length_le (by omega)]
/-- a tuple's slice, as a list of values -/
theorem rdSl {K : PySem.W.Frag} {H : Hp} {b : Addr} {xs : List V} {lo hi : Option Int} {Q : VK} (hb : SqT K H b xs) (k : ∀ (t : Addr) (H' : Hp), Same H H' → SqT K H' t (cutV xs lo hi) → Q (.ref t) H') : rSlA K (.ref b) lo hi H Q := by
  refine ⟨b, xs, rfl, hb, fun hw => ?_, fun hw p hp => k p _ (fun b u q => by rw [upd_ne (ne_of_none q hp)]; exact q) (SqT.of upd_same)⟩
  refine k b H (Same.refl _) ?_
  unfold cutV
  rw [hw.1, hw.2, List.drop_zero, Nat.sub_zero, List.take_length]
  exact hb
/-! ### whole numbers as data -/
def zD (i : Int) : PyData := .int i
theorem lay_zs {H : Hp} : ∀ {ns : List Int} {us : List V}, LayAll H us (ns.map zD) → us = ns.map V.int
  | [], _, h => by cases h; rfl
  | n :: r, _, h => by
    cases h with
    | cons a t =>
      rw [lay_zs t]
      cases a
      rfl
theorem zs_lay {H : Hp} : ∀ ns : List Int, LayAll H (ns.map V.int) (ns.map zD)
  | [] => .nil
  | n :: r => .cons (.int _) (zs_lay r)
theorem dp_zs {K : PySem.W.Frag} {H : Hp} (ns : List Int) : DpAll K H (ns.map V.int) (ns.map zD) := (zs_lay ns).dp
theorem eqv_zs : ∀ ns ms : List Int, PyData.eqvAll (ns.map zD) (ms.map zD) = decide (ns = ms)
  | [], [] => by simp [PyData.eqvAll]
  | [], _ :: _ => by simp [PyData.eqvAll]
  | _ :: _, [] => by simp [PyData.eqvAll]
  | n :: ns, m :: ms => by
    rw [List.map_cons, List.map_cons, PyData.eqvAll, eqv_zs ns ms]
    by_cases h : n = m
    · subst h
      simp [PyData.eqv, zD]
    · simp [PyData.eqv, zD, h]
theorem sh_zs (ns : List Int) : Sh 1 (.list (ns.map zD)) := Sh.lst fun d hd => by
  obtain ⟨n, _, rfl⟩ := List.mem_map.mp hd
  exact Sh.int _ _
theorem sh_zt (ns : List Int) : Sh 1 (.tuple (ns.map zD)) := Sh.tup fun d hd => by
  obtain ⟨n, _, rfl⟩ := List.mem_map.mp hd
  exact Sh.int _ _
/-- two lists of numbers, != -/
theorem rdNeZ {K : PySem.W.Frag} {H : Hp} {a b : Addr} {ns ms : List Int} {Q : VK} (ha : SqL K H a (ns.map V.int)) (hb : SqL K H b (ms.map V.int)) (q : Q (.bl (!decide (ns = ms))) H) : rNeD K (.ref a) (.ref b) H Q := by
  refine ⟨.list (ns.map zD), .list (ms.map zD), .lst ha (dp_zs ns), .lst hb (dp_zs ms), (sh_zs ns).shaped (by decide), (sh_zs ms).shaped (by decide), ?_⟩
  rw [PyData.eqv, eqv_zs]
  exact q
theorem inV_z (x : Int) : ∀ xs : List Int, inV (.int x) (xs.map V.int) = decide (x ∈ xs)
  | [] => rfl
  | y :: xs => by
    have ih := inV_z x xs
    show (eqV (.int y) (.int x) || inV (.int x) (xs.map V.int)) = _
    rw [ih]
    have e : eqV (.int y) (.int x) = decide (y = x) := by
      show (y == x) = decide (y = x)
      by_cases h : y = x
      · subst h; simp
      · rw [decide_eq_false h]
        exact beq_eq_false_iff_ne.mpr h
    rw [e]
    by_cases q : y = x
    · subst q; simp
    · have : ¬ x = y := fun h => q h.symm
      simp [q, this]
theorem flat_zs : ∀ xs : List Int, (xs.map V.int).all flatV = true
  | [] => rfl
  | a :: r => by
    rw [List.map_cons, List.all_cons, flat_zs r]
    rfl
theorem rdInZ {K : PySem.W.Frag} {H : Hp} {a : Addr} {xs : List Int} {x : Int} {Q : VK} (h : SqL K H a (xs.map V.int)) (q : Q (.bl (decide (x ∈ xs))) H) : rIn K false (.int x) (.ref a) H Q := by
  refine ⟨a, _, rfl, .inl h, rfl, flat_zs xs, ?_⟩
  rw [if_neg (by decide), inV_z]
  exact q
theorem rdNotInZ {K : PySem.W.Frag} {H : Hp} {a : Addr} {xs : List Int} {x : Int} {Q : VK} (h : SqL K H a (xs.map V.int)) (q : Q (.bl (!decide (x ∈ xs))) H) : rIn K true (.int x) (.ref a) H Q := by
  refine ⟨a, _, rfl, .inl h, rfl, flat_zs xs, ?_⟩
  rw [if_pos rfl, inV_z]
  exact q
/-- ascending lists of the same numbers -/
theorem ascZ_same {xs ys : List Int} (hx : xs.Pairwise (· < ·)) (hy : ys.Pairwise (· < ·)) (h : ∀ v, v ∈ xs ↔ v ∈ ys) : xs = ys := by
  have nx : xs.Nodup := hx.imp fun h => Int.ne_of_lt h
  have ny : ys.Nodup := hy.imp fun h => Int.ne_of_lt h
  exact ((List.perm_ext_iff_of_nodup nx ny).mpr h).eq_of_pairwise (fun a b _ _ h1 h2 => absurd h1 (Int.lt_asymm h2)) hx hy
theorem sorted_eq {xs ns : List Int} (pw : ns.Pairwise (· < ·)) (h : ∀ v, v ∈ ns ↔ v ∈ xs) : xs = ns ↔ xs.Pairwise (· < ·) := by
  constructor
  · intro e
    rw [e]
    exact pw
  · intro hx
    exact ascZ_same hx pw fun v => (h v).symm
/-! ### ascending? -/
def ascB (xs : List Int) : List Bool := (xs.zip xs.tail).map fun p => decide (p.1 < p.2)
theorem ascB_iff : ∀ xs : List Int, (ascB xs).all id = true ↔ xs.Pairwise (· < ·)
  | [] => by simp [ascB]
  | [a] => by simp [ascB]
  | a :: b :: r => by
    have ih := ascB_iff (b :: r)
    have e : ascB (a :: b :: r) = decide (a < b) :: ascB (b :: r) := rfl
    rw [e, List.all_cons, Bool.and_eq_true, ih]
    constructor
    · rintro ⟨h1, h2⟩
      refine List.pairwise_cons.mpr ⟨fun c hc => ?_, h2⟩
      have h1 : a < b := of_decide_eq_true h1
      rcases List.mem_cons.mp hc with rfl | hc
      · exact h1
      · have := (List.pairwise_cons.mp h2).1 c hc
        omega
    · intro h
      obtain ⟨h1, h2⟩ := List.pairwise_cons.mp h
      exact ⟨decide_eq_true (h1 b (by simp)), h2⟩
theorem ascB_at {xs : List Int} {i : Nat} {a b : Int} (h1 : xs[i]? = some a) (h2 : xs.tail[i]? = some b) : (ascB xs)[i]? = some (decide (a < b)) := by
  unfold ascB
  rw [List.getElem?_map]
  have : (xs.zip xs.tail)[i]? = some (a, b) := List.getElem?_zip_eq_some.mpr ⟨h1, h2⟩
  rw [this]
  rfl
theorem ascB_len (xs : List Int) : (ascB xs).length = xs.tail.length := by
  unfold ascB
  rw [List.length_map, List.length_zip, List.length_tail]
  omega
/-- a bool as it is told -/
theorem qB {Q : VK} {H : Hp} {b c : Bool} (h : b = c) (q : Q (.bl c) H) : Q (V.bl b) H := by
  rw [h]
  exact q
theorem decB {P : Prop} [Decidable P] {b : Bool} (h : b = true ↔ P) : b = decide P := by
  rw [Bool.eq_iff_iff, decide_eq_true_iff]
  exact h
theorem all_map_dec {α : Type} {p : α → Prop} [DecidablePred p] (xs : List α) : ((xs.map fun x => decide (p x)).all id = true) ↔ ∀ x ∈ xs, p x := by
  rw [List.all_map, List.all_eq_true]
  constructor
  · intro h x hx
    exact of_decide_eq_true (h x hx)
  · intro h x hx
    exact decide_eq_true (h x hx)
/-- [p x for x in rows]: bools -/
theorem lc_rowsB {J : It} {xs : List V} {G : Hp → Prop} (w : Walk J xs.length G (YAt xs)) {α : Type} {rows : List α} {f : α → PyData} {p : α → Bool} {tg : TG} {te : TE} {vs : List Nat} {σ : L2.St} {H1 : Hp} {D : Addr} {Qd : Hp → Prop}
    (hG : ∀ H', Same H1 H' → G H') (hD : H1 D = none) (lay : LayAll H1 xs (rows.map f)) (hl : rows.length ≤ 1000)
    (hs : ∀ (x : V) (r : α) (H' : Hp) (R : V → Hp → Prop) (Z : Hp → Prop), r ∈ rows → Same H1 H' → Lay H' x (f r) → (∀ H4, Same H' H4 → R (.bl (p r)) H4) →
      tg x (wipe σ vs) H' fun σ2 H2 => wipe σ2 vs = wipe σ vs ∧ tYes σ2 H2 fun b H3 => if b = true then te σ2 H3 R else Z H3)
    (hd : ∀ H', Same H1 H' → H' D = some (.lst ((rows.map p).map V.bl)) → Qd H') :
    ∃ W : Nat → Nat → Hp → Prop, (∃ m, W 0 m (upd H1 D (.lst []))) ∧ ∀ i m H, W i m H →
      (J.stop i H ∧ Qd H) ∨ (J.go i H ∧ ∃ Nx : Hp → Prop, (∀ H', Nx H' → ∃ m', m' < m ∧ W (i + 1) m' H') ∧ ∀ x H', J.yld i H x H' → tg x (wipe σ vs) H' fun σ2 H2 => wipe σ2 vs = wipe σ vs ∧ tYes σ2 H2 fun b H3 =>
        if b = true then te σ2 H3 fun y H4 => ∃ acc, H4 D = some (.lst acc) ∧ acc.length < sizeLine ∧ Nx (upd H4 D (.lst (acc ++ [y]))) else Nx H3) :=
  lc_rows w hG hD lay hl (g := p) (h := blD) (fun i x r H' R Z hr sm lx k => hs x r H' R Z (List.mem_of_getElem? hr) sm lx fun H4 s4 => k _ _ s4 (.bl _)) fun us H' sm eD lus => hd H' sm (by rw [← lay_bls lus]; exact eD)
theorem useB {R : V → Hp → Prop} {H : Hp} {b c : Bool} (k : R (.bl b) H) (e : b = c) : R (.bl c) H := e ▸ k
theorem rdCatT {K : PySem.W.Frag} {H : Hp} {a b : Addr} {xs ys : List V} {Q : VK} (ha : SqT K H a xs) (hb : SqT K H b ys) (hl : xs.length + ys.length ≤ 1000) (k : ∀ (t : Addr) (H' : Hp), Same H H' → SqT K H' t (xs ++ ys) → Q (.ref t) H') : rCatA K (.ref a) (.ref b) H Q := by
  refine ⟨a, b, xs, ys, rfl, rfl, ha, hb, le1000 hl, fun e => ?_, fun _ e => ?_, fun _ _ p hp => k p _ (fun b u q => by rw [upd_ne (ne_of_none q hp)]; exact q) (SqT.of upd_same)⟩
  · subst e
    exact k b H (.refl _) hb
  · subst e
    exact k a H (.refl _) (by rw [List.append_nil]; exact ha)
theorem vInt_eq (i j : Int) : decide (V.int i = V.int j) = decide (i = j) := by
  by_cases h : i = j
  · subst h; simp
  · rw [decide_eq_false h, decide_eq_false fun e => h (V.int.inj e)]
theorem sortedN {M : List Nat} {ys : List Int} (h : ys.Perm (castL M)) (hp : ys.Pairwise (· ≤ ·)) (nd : M.Nodup) : ∃ zs : List Nat, ys.map V.int = zs.map vI ∧ zs.Pairwise (· < ·) ∧ (∀ v, v ∈ zs ↔ v ∈ M) ∧ zs.length = M.length := by
  have e : ∀ y ∈ ys, y = ((y.toNat : Nat) : Int) := fun y hy => by
    obtain ⟨x, _, rfl⟩ := List.mem_map.mp (h.mem_iff.mp hy)
    simp
  have pz : (ys.map Int.toNat).Perm M := by
    have := h.map Int.toNat
    unfold castL at this
    rw [List.map_map] at this
    have q : M.map (Int.toNat ∘ fun x : Nat => (x : Int)) = M := by
      conv => rhs; rw [← List.map_id M]
      exact List.map_congr_left fun x _ => by simp
    rwa [q] at this
  refine ⟨ys.map Int.toNat, ?_, ?_, fun v => pz.mem_iff, pz.length_eq⟩
  · rw [List.map_map]
    exact List.map_congr_left fun y hy => congrArg V.int (e y hy)
  · have n : (ys.map Int.toNat).Pairwise (· ≠ ·) := pz.nodup_iff.mpr nd
    have l : (ys.map Int.toNat).Pairwise (· ≤ ·) := List.pairwise_map.mpr (hp.imp fun h => Int.toNat_le_toNat h)
    exact (l.and n).imp fun h => Nat.lt_of_le_of_ne h.1 h.2
theorem setZ_keys (M : List Int) : (setZ M).map (·.1) = M.map Sum.inl := by unfold setZ; rw [List.map_map]; rfl
theorem mem_castL {M : List Nat} {x : Nat} : ((x : Int) ∈ castL M) ↔ x ∈ M := by
  unfold castL
  rw [List.mem_map]
  constructor
  · rintro ⟨y, hy, e⟩
    have : y = x := by omega
    rwa [← this]
  · intro h
    exact ⟨x, h, rfl⟩
theorem addZ_cast {M : List Nat} {x : Nat} (h : x ∉ M) : addZ (castL M) (x : Int) = castL (M ++ [x]) := by
  unfold addZ
  rw [if_neg fun q => h (mem_castL.mp q)]
  unfold castL
  rw [List.map_append]
  rfl
end Bf

set_option Elab.async false
set_option linter.all false
set_option maxRecDepth 100000
set_option maxHeartbeats 4000000
namespace Bf
open PySem PySem.Spec PyProof.Rows L2
/-! ### data in lists: stored, cut -/
theorem layAt {H : Hp} {v : V} {d : PyData} (l : Lay H v d) : ∀ (ds : List PyData) (vs : List V) (i : Nat), LayAll H vs ds → LayAll H (vs.set i v) (ds.set i d)
  | [], vs, i, h => by
    obtain rfl := h.nil_inv
    exact h
  | e :: ds, vs, i, h => by
    obtain ⟨u, us, rfl, l0, l1⟩ := h.cons_inv
    cases i with
    | zero => exact .cons l l1
    | succ i => exact .cons l0 (layAt l ds us i l1)
theorem layTake {H : Hp} : ∀ (ds : List PyData) (vs : List V) (n : Nat), LayAll H vs ds → LayAll H (vs.take n) (ds.take n)
  | _, _, 0, _ => by rw [List.take_zero, List.take_zero]; exact .nil
  | [], vs, n + 1, h => by
    obtain rfl := h.nil_inv
    rw [List.take_nil, List.take_nil]
    exact .nil
  | e :: ds, vs, n + 1, h => by
    obtain ⟨u, us, rfl, l0, l1⟩ := h.cons_inv
    rw [List.take_succ_cons, List.take_succ_cons]
    exact .cons l0 (layTake ds us n l1)
theorem layDrop {H : Hp} : ∀ (ds : List PyData) (vs : List V) (n : Nat), LayAll H vs ds → LayAll H (vs.drop n) (ds.drop n)
  | _, _, 0, h => h
  | [], vs, n + 1, h => by
    obtain rfl := h.nil_inv
    rw [List.drop_nil, List.drop_nil]
    exact .nil
  | e :: ds, vs, n + 1, h => by
    obtain ⟨u, us, rfl, l0, l1⟩ := h.cons_inv
    rw [List.drop_succ_cons, List.drop_succ_cons]
    exact layDrop ds us n l1
theorem rdCatN {K : PySem.W.Frag} {H : Hp} {a b : Addr} {xs ys : List V} {Q : VK} (ha : SqT K H a xs) (hb : SqT K H b ys) (hl : xs.length + ys.length ≤ 1000) (nx : xs ≠ []) (ny : ys ≠ []) (k : ∀ p : Addr, H p = none → Q (.ref p) (upd H p (.tup (xs ++ ys)))) : rCatA K (.ref a) (.ref b) H Q :=
  ⟨a, b, xs, ys, rfl, rfl, ha, hb, le1000 hl, fun e => absurd e nx, fun _ e => absurd e ny, fun _ _ p hp => k p hp⟩
theorem map_erase {α β : Type} (f : α → β) : ∀ (l : List α) (i : Nat), (l.map f).eraseIdx i = (l.eraseIdx i).map f
  | [], _ => rfl
  | _ :: _, 0 => rfl
  | a :: l, i + 1 => by
    show f a :: (l.map f).eraseIdx i = f a :: (l.eraseIdx i).map f
    rw [map_erase f l i]
/-- sorted of data of one kind -/
theorem rdSortD {K : PySem.W.Frag} {H : Hp} {a : Addr} {vs : List V} {β : Type} {bs : List β} {enc : β → PyData} {Q : VK} (h : SqL K H a vs) (l : LayAll H vs (bs.map enc)) (al : ∀ b b', PySem.W.alike (enc b) (enc b') = true) (so : ∀ b, ∃ x r, enc b = .tuple (x :: r)) (de : ∀ b, (enc b).depth ≤ 32)
    (k : ∀ (cs : List β) (us : List V) (p : Addr), cs.Perm bs → LayAll (upd H p (.lst us)) us (cs.map enc) → H p = none → Q (.ref p) (upd H p (.lst us))) : rSortedD K [.ref a] H Q :=
  ⟨β, a, vs, bs, enc, rfl, h, l, PySem.W.AllAlike.of al, PySem.W.Sortable.tuples so, fun b _ => de b, fun us p lu hp => k _ us p (sortD_perm enc bs) (lu.keep' (.same (same_two (.refl _) hp))) hp⟩
theorem alike_zs : ∀ xs ys : List Int, PySem.W.alikeAll (xs.map zD) (ys.map zD) = true
  | [], _ => by simp [PySem.W.alikeAll]
  | _ :: _, [] => by simp [PySem.W.alikeAll]
  | x :: xs, y :: ys => by
    rw [List.map_cons, List.map_cons, PySem.W.alikeAll, alike_zs xs ys]
    simp [PySem.W.alike, zD]
end Bf

set_option Elab.async false
set_option linter.all false
set_option maxRecDepth 100000
set_option maxHeartbeats 4000000
namespace Bf
open PySem PySem.Spec PyProof.Rows L2
/-! ### slices and sums of tuples, as they lie -/
theorem rdSlX {K : PySem.W.Frag} {H : Hp} {b : Addr} {xs : List V} {lo hi : Option Int} {Q : VK} (hb : H b = some (.tup xs)) (k : ∀ (t : Addr) (H' : Hp), Same H H' → H' t = some (.tup (cutV xs lo hi)) → Q (.ref t) H') : rSlA K (.ref b) lo hi H Q := by
  refine ⟨b, xs, rfl, SqT.of hb, fun hw => ?_, fun hw p hp => k p _ (fun b u q => by rw [upd_ne (ne_of_none q hp)]; exact q) upd_same⟩
  refine k b H (Same.refl _) ?_
  unfold cutV
  rw [hw.1, hw.2, List.drop_zero, Nat.sub_zero, List.take_length]
  exact hb
theorem rdCatX {K : PySem.W.Frag} {H : Hp} {a b : Addr} {xs ys : List V} {Q : VK} (ha : H a = some (.tup xs)) (hb : H b = some (.tup ys)) (hl : xs.length + ys.length ≤ 1000) (k : ∀ (t : Addr) (H' : Hp), Same H H' → H' t = some (.tup (xs ++ ys)) → Q (.ref t) H') : rCatA K (.ref a) (.ref b) H Q := by
  refine ⟨a, b, xs, ys, rfl, rfl, SqT.of ha, SqT.of hb, le1000 hl, fun e => ?_, fun _ e => ?_, fun _ _ p hp => k p _ (fun b u q => by rw [upd_ne (ne_of_none q hp)]; exact q) upd_same⟩
  · subst e
    exact k b H (.refl _) hb
  · subst e
    exact k a H (.refl _) (by rw [List.append_nil]; exact ha)
theorem cutV_succ (xs : List V) (k : Nat) : cutV xs (some ((k : Int) + 1)) none = xs.drop (k + 1) := cutV_from xs (k + 1)
end Bf

set_option Elab.async false
set_option linter.all false
set_option maxRecDepth 100000
set_option maxHeartbeats 4000000
namespace Bf
open PySem
/-! ### graphs of words: their nodes, picks -/
structure Nd where
  op : Str
  w : Nat
  args : List Nat
/-- a node of width w stands at place a -/
def WAt (ns : List Nd) (a w : Nat) : Prop := ∃ m, ns[a]? = some m ∧ m.w = w
theorem WAt.lt {ns : List Nd} {a w : Nat} (h : WAt ns a w) : a < ns.length := (List.getElem?_eq_some_iff.mp h.choose_spec.1).1
theorem WAt.app {ns ms : List Nd} {a w : Nat} (h : WAt ns a w) : WAt (ns ++ ms) a w := by
  obtain ⟨m, e, q⟩ := h
  exact ⟨m, by rw [List.getElem?_append_left (List.getElem?_eq_some_iff.mp e).1]; exact e, q⟩
/-- node n can stand behind the nodes ns -/
structure Nd.Ok (n : Nd) (ns : List Nd) : Prop where
  pick : n.op = "pick" → ∃ c a b, n.args = [c, a, b] ∧ WAt ns a n.w ∧ WAt ns b n.w
  const : n.op = "const" → ∃ v, n.args = [v] ∧ v < 2 ^ n.w
  w1 : 1 ≤ n.w
  w8 : n.w ≤ 8
  len : n.args.length ≤ 3
def NdsOk (ns : List Nd) : Prop := ∀ (i : Nat) (n : Nd), ns[i]? = some n → n.Ok (ns.take i)
def HasW (ns : List Nd) (w : Nat) : Prop := ∃ (i : Nat) (n : Nd), ns[i]? = some n ∧ n.w = w
theorem NdsOk.snoc {ns : List Nd} {n : Nd} (h : NdsOk ns) (k : n.Ok ns) : NdsOk (ns ++ [n]) := fun i m e => by
  by_cases hi : i < ns.length
  · rw [List.getElem?_append_left hi] at e
    rw [List.take_append_of_le_length (by omega)]
    exact h i m e
  · rw [List.getElem?_append_right (by omega)] at e
    have e0 : i - ns.length = 0 := by
      cases q : i - ns.length with
      | zero => rfl
      | succ n => rw [q] at e; simp at e
    rw [e0] at e
    obtain rfl : n = m := Option.some.inj e
    rw [show i = ns.length by omega, List.take_left]
    exact k
theorem HasW.app {ns ms : List Nd} {w : Nat} (h : HasW ns w) : HasW (ns ++ ms) w := by
  obtain ⟨i, n, e, q⟩ := h
  exact ⟨i, n, by rw [List.getElem?_append_left (List.getElem?_eq_some_iff.mp e).1]; exact e, q⟩
theorem HasW.last {ns : List Nd} {n : Nd} : HasW (ns ++ [n]) n.w := ⟨ns.length, n, by simp, rfl⟩
/-- what is reached from s over the arms of picks -/
inductive Rch (ns : List Nd) (s : Nat) : Nat → Prop
  | base : Rch ns s s
  | step {i x c a b : Nat} {n : Nd} : Rch ns s i → ns[i]? = some n → n.op = "pick" → n.args = [c, a, b] → x = a ∨ x = b → Rch ns s x
theorem Rch.lt {ns : List Nd} {s x : Nat} (G : NdsOk ns) (hs : s < ns.length) (h : Rch ns s x) : x < ns.length ∧ x ≤ s := by
  induction h with
  | base => exact ⟨hs, Nat.le_refl _⟩
  | step _ e p q z ih =>
    obtain ⟨c', a', b', e', h1, h2⟩ := (G _ _ e).pick p
    rw [q] at e'
    cases e'
    have l1 := h1.lt
    have l2 := h2.lt
    rw [List.length_take] at l1 l2
    rcases z with rfl | rfl <;> omega
/-- a depth-first search: met M, to do T -/
structure DInv (ns : List Nd) (s : Nat) (M T : List Nat) : Prop where
  m : ∀ x ∈ M, Rch ns s x
  t : ∀ x ∈ T, Rch ns s x
  b : s ∈ M ∨ s ∈ T
  cl : ∀ x ∈ M, ∀ (n : Nd) (c a b : Nat), ns[x]? = some n → n.op = "pick" → n.args = [c, a, b] → (a ∈ M ∨ a ∈ T) ∧ (b ∈ M ∨ b ∈ T)
theorem DInv.start (ns : List Nd) (s : Nat) : DInv ns s [] [s] := ⟨fun x h => (by cases h), fun x h => (by rw [List.mem_singleton.mp h]; exact .base), .inr (by simp), fun x h => (by cases h)⟩
theorem DInv.skip {ns : List Nd} {s x : Nat} {M T : List Nat} (h : DInv ns s M (T ++ [x])) (hx : x ∈ M) : DInv ns s M T where
  m := h.m
  t := fun y hy => h.t y (by simp [hy])
  b := by
    rcases h.b with q | q
    · exact .inl q
    · rcases List.mem_append.mp q with q | q
      · exact .inr q
      · rw [List.mem_singleton.mp q]; exact .inl hx
  cl := fun y hy n c a b e p q => by
    have k : ∀ z, z ∈ M ∨ z ∈ T ++ [x] → z ∈ M ∨ z ∈ T := fun z hz => by
      rcases hz with hz | hz
      · exact .inl hz
      · rcases List.mem_append.mp hz with hz | hz
        · exact .inr hz
        · rw [List.mem_singleton.mp hz]; exact .inl hx
    obtain ⟨h1, h2⟩ := h.cl y hy n c a b e p q
    exact ⟨k _ h1, k _ h2⟩
theorem DInv.leaf {ns : List Nd} {s x : Nat} {M T : List Nat} {n : Nd} (h : DInv ns s M (T ++ [x])) (e : ns[x]? = some n) (np : ¬ n.op = "pick") : DInv ns s (M ++ [x]) T where
  m := fun y hy => by
    rcases List.mem_append.mp hy with q | q
    · exact h.m y q
    · rw [List.mem_singleton.mp q]; exact h.t x (by simp)
  t := fun y hy => h.t y (by simp [hy])
  b := by
    rcases h.b with q | q
    · exact .inl (by simp [q])
    · rcases List.mem_append.mp q with q | q
      · exact .inr q
      · rw [List.mem_singleton.mp q]; exact .inl (by simp)
  cl := fun y hy m c a b e1 p q => by
    have k : ∀ z, z ∈ M ∨ z ∈ T ++ [x] → z ∈ M ++ [x] ∨ z ∈ T := fun z hz => by
      rcases hz with hz | hz
      · exact .inl (by simp [hz])
      · rcases List.mem_append.mp hz with hz | hz
        · exact .inr hz
        · rw [List.mem_singleton.mp hz]; exact .inl (by simp)
    rcases List.mem_append.mp hy with hy | hy
    · obtain ⟨h1, h2⟩ := h.cl y hy m c a b e1 p q
      exact ⟨k _ h1, k _ h2⟩
    · rw [List.mem_singleton.mp hy, e] at e1
      cases e1
      exact absurd p np
theorem DInv.pick {ns : List Nd} {s x c a b : Nat} {M T : List Nat} {n : Nd} (h : DInv ns s M (T ++ [x])) (e : ns[x]? = some n) (p : n.op = "pick") (q : n.args = [c, a, b]) : DInv ns s (M ++ [x]) (T ++ [a, b]) where
  m := fun y hy => by
    rcases List.mem_append.mp hy with q | q
    · exact h.m y q
    · rw [List.mem_singleton.mp q]; exact h.t x (by simp)
  t := fun y hy => by
    rcases List.mem_append.mp hy with hy | hy
    · exact h.t y (by simp [hy])
    · have z : y = a ∨ y = b := by simpa using hy
      exact .step (h.t x (by simp)) e p q z
  b := by
    rcases h.b with q | q
    · exact .inl (by simp [q])
    · rcases List.mem_append.mp q with q | q
      · exact .inr (by simp [q])
      · rw [List.mem_singleton.mp q]; exact .inl (by simp)
  cl := fun y hy m c' a' b' e1 p1 q1 => by
    have k : ∀ z, z ∈ M ∨ z ∈ T ++ [x] → z ∈ M ++ [x] ∨ z ∈ T ++ [a, b] := fun z hz => by
      rcases hz with hz | hz
      · exact .inl (by simp [hz])
      · rcases List.mem_append.mp hz with hz | hz
        · exact .inr (by simp [hz])
        · rw [List.mem_singleton.mp hz]; exact .inl (by simp)
    rcases List.mem_append.mp hy with hy | hy
    · obtain ⟨h1, h2⟩ := h.cl y hy m c' a' b' e1 p1 q1
      exact ⟨k _ h1, k _ h2⟩
    · rw [List.mem_singleton.mp hy, e] at e1
      cases e1
      rw [q] at q1
      cases q1
      exact ⟨.inr (by simp), .inr (by simp)⟩
theorem DInv.done {ns : List Nd} {s : Nat} {M : List Nat} (h : DInv ns s M []) (G : NdsOk ns) (x : Nat) : x ∈ M ↔ Rch ns s x := by
  have z : ∀ y, y ∈ M ∨ y ∈ ([] : List Nat) → y ∈ M := fun y hy => by
    rcases hy with q | q
    · exact q
    · cases q
  refine ⟨h.m x, fun r => ?_⟩
  induction r with
  | base => exact z _ h.b
  | step _ e p q y ih =>
    obtain ⟨h1, h2⟩ := h.cl _ ih _ _ _ _ e p q
    rcases y with rfl | rfl
    · exact z _ h1
    · exact z _ h2
/-- a sweep from above: what is at k and above has been looked at -/
structure SInv (ns : List Nd) (s : Nat) (M : List Nat) (k : Nat) : Prop where
  m : ∀ x ∈ M, Rch ns s x
  b : s ∈ M
  cl : ∀ x ∈ M, k ≤ x → ∀ (n : Nd) (c a b : Nat), ns[x]? = some n → n.op = "pick" → n.args = [c, a, b] → a ∈ M ∧ b ∈ M
theorem SInv.start (ns : List Nd) (s : Nat) : SInv ns s [s] (s + 1) := ⟨fun x h => (by rw [List.mem_singleton.mp h]; exact .base), by simp, fun x h hk => (by rw [List.mem_singleton.mp h] at hk; omega)⟩
theorem SInv.skip {ns : List Nd} {s k : Nat} {M : List Nat} (h : SInv ns s M (k + 1)) (hk : k ∉ M) : SInv ns s M k := ⟨h.m, h.b, fun x hx hkx n c a b e p q => by
  have : x ≠ k := fun z => hk (z ▸ hx)
  exact h.cl x hx (by omega) n c a b e p q⟩
theorem SInv.leaf {ns : List Nd} {s k : Nat} {M : List Nat} {n : Nd} (h : SInv ns s M (k + 1)) (e : ns[k]? = some n) (np : ¬ n.op = "pick") : SInv ns s M k := ⟨h.m, h.b, fun x hx hkx m c a b e1 p q => by
  by_cases z : x = k
  · rw [z, e] at e1
    cases e1
    exact absurd p np
  · exact h.cl x hx (by omega) m c a b e1 p q⟩
def addN (M : List Nat) (x : Nat) : List Nat := if x ∈ M then M else M ++ [x]
theorem mem_addN {M : List Nat} {x y : Nat} : y ∈ addN M x ↔ y ∈ M ∨ y = x := by
  unfold addN
  by_cases h : x ∈ M
  · rw [if_pos h]
    exact ⟨.inl, fun q => q.elim id fun e => e ▸ h⟩
  · rw [if_neg h]
    simp
theorem addN_nodup {M : List Nat} {x : Nat} (h : M.Nodup) : (addN M x).Nodup := by
  unfold addN
  by_cases q : x ∈ M
  · rw [if_pos q]; exact h
  · rw [if_neg q]
    exact List.nodup_append.mpr ⟨h, by simp, fun a ha b hb e => q (by rw [← List.mem_singleton.mp hb, ← e]; exact ha)⟩
theorem SInv.pick {ns : List Nd} {s k c a b : Nat} {M : List Nat} {n : Nd} (h : SInv ns s M (k + 1)) (hk : k ∈ M) (e : ns[k]? = some n) (p : n.op = "pick") (q : n.args = [c, a, b]) (ha : a < k) (hb : b < k) : SInv ns s (addN (addN M a) b) k where
  m := fun x hx => by
    rcases mem_addN.mp hx with hx | rfl
    · rcases mem_addN.mp hx with hx | rfl
      · exact h.m x hx
      · exact .step (h.m k hk) e p q (.inl rfl)
    · exact .step (h.m k hk) e p q (.inr rfl)
  b := mem_addN.mpr (.inl (mem_addN.mpr (.inl h.b)))
  cl := fun x hx hkx m c' a' b' e1 p1 q1 => by
    have up : ∀ y ∈ M, y ∈ addN (addN M a) b := fun y hy => mem_addN.mpr (.inl (mem_addN.mpr (.inl hy)))
    by_cases z : x = k
    · rw [z, e] at e1
      cases e1
      rw [q] at q1
      cases q1
      exact ⟨mem_addN.mpr (.inl (mem_addN.mpr (.inr rfl))), mem_addN.mpr (.inr rfl)⟩
    · rcases mem_addN.mp hx with hx | rfl
      · rcases mem_addN.mp hx with hx | rfl
        · obtain ⟨h1, h2⟩ := h.cl x hx (by omega) m c' a' b' e1 p1 q1
          exact ⟨up _ h1, up _ h2⟩
        · omega
      · omega
theorem SInv.done {ns : List Nd} {s : Nat} {M : List Nat} (h : SInv ns s M 0) (x : Nat) : x ∈ M ↔ Rch ns s x := by
  refine ⟨h.m x, fun r => ?_⟩
  induction r with
  | base => exact h.b
  | step _ e p q y ih =>
    obtain ⟨h1, h2⟩ := h.cl _ ih (Nat.zero_le _) _ _ _ _ e p q
    rcases y with rfl | rfl
    · exact h1
    · exact h2
/-- the words of the consts that are reached; something else is reached -/
def Cv (ns : List Nd) (s v : Nat) : Prop := ∃ (x : Nat) (n : Nd), Rch ns s x ∧ ns[x]? = some n ∧ n.op = "const" ∧ n.args = [v]
def Bad (ns : List Nd) (own : Nd → Bool) (s : Nat) : Prop := ∃ (x : Nat) (n : Nd), Rch ns s x ∧ ns[x]? = some n ∧ n.op ≠ "const" ∧ n.op ≠ "pick" ∧ own n = false
/-- ascending numbers -/
theorem asc_same {xs ys : List Nat} (hx : xs.Pairwise (· < ·)) (hy : ys.Pairwise (· < ·)) (h : ∀ v, v ∈ xs ↔ v ∈ ys) : xs = ys := by
  have nx : xs.Nodup := hx.imp fun h => Nat.ne_of_lt h
  have ny : ys.Nodup := hy.imp fun h => Nat.ne_of_lt h
  exact ((List.perm_ext_iff_of_nodup nx ny).mpr h).eq_of_pairwise (fun a b _ _ h1 h2 => absurd h1 (Nat.lt_asymm h2)) hx hy
end Bf

set_option Elab.async false
set_option linter.all false
set_option maxRecDepth 100000
set_option maxHeartbeats 4000000
namespace Bf
open PySem PySem.Spec PyProof.Rows L2
/-! ### nodes of graphs, as they lie -/
def nodeD (n : Nd) : PyData := .tuple (.str n.op :: .int (n.w : Int) :: n.args.map fun a : Nat => PyData.int (a : Int))
theorem Lay.node {H : Hp} {v : V} {n : Nd} (h : Lay H v (nodeD n)) : ∃ q, v = .ref q ∧ H q = some (.tup (.str n.op :: vI n.w :: n.args.map vI)) := by
  obtain ⟨q, vs, rfl, e, la⟩ := h.tup_inv
  obtain ⟨v0, u0, rfl, l0, lb⟩ := la.cons_inv
  obtain ⟨v1, u1, rfl, l1, lc⟩ := lb.cons_inv
  obtain rfl := l0.str_inv
  obtain rfl := l1.int_inv
  obtain rfl := lc.ints_inv
  exact ⟨q, rfl, e⟩
theorem Lay.mkNode {H : Hp} {q : Addr} {op : Str} {w : Nat} {args : List Nat} (e : H q = some (.tup (.str op :: vI w :: args.map vI))) : Lay H (.ref q) (nodeD ⟨op, w, args⟩) := .tup e (.cons (.str _) (.cons (.int _) (LayAll.ints _)))
theorem sh_node (n : Nd) (hs : PyData.strOk n.op = true) : Sh 1 (nodeD n) := Sh.tup fun d hd => by
  rcases List.mem_cons.mp hd with rfl | hd
  · exact ⟨by simp only [PyData.canLay0]; exact hs, by simp only [PyData.depth]; omega⟩
  · rcases List.mem_cons.mp hd with rfl | hd
    · exact Sh.int _ _
    · obtain ⟨a, _, rfl⟩ := List.mem_map.mp hd
      exact Sh.int _ _
/-- a node of a register has its width -/
def RgOk (W : List Nat) (n : Nd) : Prop := n.op = "reg" → ∃ r, n.args = [r] ∧ W[r]? = some n.w
theorem RgOk.no {W : List Nat} {n : Nd} (h : n.op ≠ "reg") : RgOk W n := fun e => absurd e h
/-- nodes that can stand so -/
structure Good (W : List Nat) (ns : List Nd) : Prop where
  ok : NdsOk ns
  st : ∀ n ∈ ns, PyData.strOk n.op = true
  rg : ∀ n ∈ ns, RgOk W n
theorem Good.snoc {W : List Nat} {ns : List Nd} {n : Nd} (h : Good W ns) (k : n.Ok ns) (s : PyData.strOk n.op = true ∧ RgOk W n) : Good W (ns ++ [n]) := ⟨h.ok.snoc k, fun m hm => by
  rcases List.mem_append.mp hm with q | q
  · exact h.st m q
  · rw [List.mem_singleton.mp q]; exact s.1, fun m hm => by
  rcases List.mem_append.mp hm with q | q
  · exact h.rg m q
  · rw [List.mem_singleton.mp q]; exact s.2⟩
/-- is it the node of the register itself? -/
def own (w r : Nat) (n : Nd) : Bool := PyData.eqv (nodeD n) (nodeD ⟨"reg", w, [r]⟩)
def wIdx (ns : List Nd) (w i : Nat) : List Nat := (List.range i).filter fun j => decide (ns[j]?.map Nd.w = some w)
theorem wIdx_succ {ns : List Nd} {w i : Nat} {n : Nd} (h : ns[i]? = some n) : wIdx ns w (i + 1) = if n.w = w then wIdx ns w i ++ [i] else wIdx ns w i := by
  unfold wIdx
  rw [List.range_succ, List.filter_append]
  by_cases e : n.w = w
  · rw [if_pos e, List.filter_cons_of_pos (by rw [h]; simp [e])]
    rfl
  · rw [if_neg e, List.filter_cons_of_neg (by rw [h]; simp [e])]
    simp
theorem wIdx_mem {ns : List Nd} {w k : Nat} (h : k ∈ wIdx ns w ns.length) : ∃ n, ns[k]? = some n ∧ n.w = w := by
  obtain ⟨h1, h2⟩ := List.mem_filter.mp h
  have hk := List.mem_range.mp h1
  have h3 := of_decide_eq_true h2
  rw [List.getElem?_eq_getElem hk] at h3
  exact ⟨ns[k], List.getElem?_eq_getElem hk, Option.some.inj h3⟩
theorem wIdx_some {ns : List Nd} {w : Nat} (h : HasW ns w) : 1 ≤ (wIdx ns w ns.length).length := by
  obtain ⟨i, n, e, q⟩ := h
  have hi := (List.getElem?_eq_some_iff.mp e).1
  have : i ∈ wIdx ns w ns.length := List.mem_filter.mpr ⟨List.mem_range.mpr hi, decide_eq_true (by rw [e, ← q]; rfl)⟩
  exact List.length_pos_of_mem this
theorem wIdx_len (ns : List Nd) (w i : Nat) : (wIdx ns w i).length ≤ i := by
  have := List.length_filter_le (fun j => decide (ns[j]?.map Nd.w = some w)) (List.range i)
  rwa [List.length_range] at this
end Bf

set_option Elab.async false
set_option linter.all false
set_option maxRecDepth 100000
set_option maxHeartbeats 4000000
namespace Bf
open PySem PySem.Spec PyProof.Rows L2
/-! ### code papers and what is right of them -/
abbrev Code := Int × Int
structure Ent where
  reg : Int
  wid : Int
  codes : List Code
def codeD (c : Code) : PyData := .tuple [.int c.1, .int c.2]
def Ent.D (e : Ent) : PyData := .tuple [.int e.reg, .int e.wid, .tuple (e.codes.map codeD)]
def papD (p : List Ent) : PyData := .tuple (p.map Ent.D)
def Ent.olds (e : Ent) : List Int := e.codes.map (·.1)
def Ent.news (e : Ent) : List Int := e.codes.map (·.2)
def Asc (xs : List Int) : Prop := xs.Pairwise (· < ·)
def InW (xs : List Int) (w : Nat) : Prop := ∀ x ∈ xs, 0 ≤ x ∧ x < 2 ^ w
/-- from node i on only picks, words of zs and register j itself -/
def Sty (ns : List Nd) (zs : List Int) (j i : Nat) : Prop := ∀ (x : Nat) (n : Nd), Rch ns i x → ns[x]? = some n → (n.op = "const" → ∃ v : Nat, n.args = [v] ∧ (v : Int) ∈ zs) ∧ (n.op ≠ "const" → n.op ≠ "pick" → n.op = "reg" ∧ n.args = [j])
theorem Rch.trans {ns : List Nd} {a b c : Nat} (h : Rch ns a b) (k : Rch ns b c) : Rch ns a c := by
  induction k with
  | base => exact h
  | step _ e p q z ih => exact .step ih e p q z
theorem Rch.from {ns : List Nd} {i x : Nat} (h : Rch ns i x) : x = i ∨ ∃ (n : Nd) (c a b : Nat), ns[i]? = some n ∧ n.op = "pick" ∧ n.args = [c, a, b] ∧ (Rch ns a x ∨ Rch ns b x) := by
  induction h with
  | base => exact .inl rfl
  | step r e p q z ih =>
    rename_i k x c a b n
    rcases ih with rfl | ⟨m, c', a', b', e', p', q', r'⟩
    · refine .inr ⟨n, c, a, b, e, p, q, ?_⟩
      rcases z with rfl | rfl
      · exact .inl .base
      · exact .inr .base
    · refine .inr ⟨m, c', a', b', e', p', q', ?_⟩
      rcases r' with r' | r'
      · exact .inl (.step r' e p q z)
      · exact .inr (.step r' e p q z)
theorem Sty.pick {ns : List Nd} {zs : List Int} {j i c a b : Nat} {n : Nd} (e : ns[i]? = some n) (p : n.op = "pick") (q : n.args = [c, a, b]) (np : ("pick" : Str) ≠ "const") : Sty ns zs j i ↔ Sty ns zs j a ∧ Sty ns zs j b := by
  have s1 : ∀ y, y = a ∨ y = b → Rch ns i y := fun y hy => .step .base e p q hy
  refine ⟨fun h => ⟨fun x m r => h x m ((s1 a (.inl rfl)).trans r), fun x m r => h x m ((s1 b (.inr rfl)).trans r)⟩, fun ⟨h1, h2⟩ x m r em => ?_⟩
  rcases r.from with rfl | ⟨n', c', a', b', e', p', q', r'⟩
  · rw [e] at em
    cases em
    exact ⟨fun k => absurd (p.symm.trans k) np, fun _ k => absurd p k⟩
  · rw [e] at e'
    cases e'
    rw [q] at q'
    cases q'
    rcases r' with r' | r'
    · exact h1 x m r' em
    · exact h2 x m r' em
theorem Sty.leaf {ns : List Nd} {zs : List Int} {j i : Nat} {n : Nd} (e : ns[i]? = some n) (p : n.op ≠ "pick") : Sty ns zs j i ↔ (n.op = "const" → ∃ v : Nat, n.args = [v] ∧ (v : Int) ∈ zs) ∧ (n.op ≠ "const" → n.op = "reg" ∧ n.args = [j]) := by
  refine ⟨fun h => ⟨(h i n .base e).1, fun k => (h i n .base e).2 k p⟩, fun h x m r em => ?_⟩
  rcases r.from with rfl | ⟨n', c', a', b', e', p', q', r'⟩
  · rw [e] at em
    cases em
    exact ⟨h.1, fun k _ => h.2 k⟩
  · rw [e] at e'
    cases e'
    exact absurd p' p
theorem own_is {w r : Nat} {n : Nd} (so : PyData.strOk n.op = true) : own w r n = true ↔ n = ⟨"reg", w, [r]⟩ := by
  obtain ⟨op, v, as⟩ := n
  constructor
  · intro h
    unfold own nodeD at h
    match as with
    | [] => simp [PyData.eqv, PyData.eqvAll] at h
    | [a] =>
      simp [PyData.eqv, PyData.eqvAll] at h
      obtain ⟨h1, h2, h3⟩ := h
      rw [show op = "reg" from h1, show v = w by omega, show a = r by omega]
    | a :: b :: c => simp [PyData.eqv, PyData.eqvAll] at h
  · intro h
    rw [h]
    exact eqv_self _ (sh_node ⟨"reg", w, [r]⟩ (show PyData.strOk "reg" = true by decide +kernel)).1
abbrev Rgs := List (Str × Nat × Nat × Nat)
def EntOk (ns : List Nd) (rs : Rgs) (e : Ent) : Prop := ∃ (j : Nat) (r : Str × Nat × Nat × Nat), e.reg = (j : Int) ∧ rs[j]? = some r ∧ 1 ≤ e.wid ∧ e.wid ≤ 8 ∧ Asc e.olds ∧ InW e.olds r.2.1 ∧ e.news.Nodup ∧ InW e.news e.wid.toNat ∧ (r.2.2.1 : Int) ∈ e.olds ∧ Sty ns e.olds j r.2.2.2
def PapOk (ns : List Nd) (rs : Rgs) (p : List Ent) : Prop := Asc (p.map Ent.reg) ∧ ∀ e ∈ p, EntOk ns rs e
theorem sty_bad {ns : List Nd} {rs : Rgs} {zs : List Int} {j : Nat} {r : Str × Nat × Nat × Nat} (g : Good (rs.map fun r => r.2.1) ns) (hr : rs[j]? = some r) (sR : ("const" : Str) ≠ "pick") (sQ : ("reg" : Str) ≠ "const" ∧ ("reg" : Str) ≠ "pick") :
    (¬ Bad ns (own r.2.1 j) r.2.2.2 ∧ ∀ v : Nat, Cv ns r.2.2.2 v → (v : Int) ∈ zs) ↔ Sty ns zs j r.2.2.2 := by
  constructor
  · rintro ⟨nb, hc⟩ x n rx hn
    refine ⟨fun hop => ?_, fun h1 h2 => ?_⟩
    · obtain ⟨v, hv, _⟩ := (g.ok x n hn).const hop
      exact ⟨v, hv, hc v ⟨x, n, rx, hn, hop, hv⟩⟩
    · cases ho : own r.2.1 j n with
      | false => exact absurd ⟨x, n, rx, hn, h1, h2, ho⟩ nb
      | true =>
        have := (own_is (g.st n (List.mem_of_getElem? hn))).mp ho
        rw [this]
        exact ⟨rfl, rfl⟩
  · intro h
    refine ⟨fun ⟨x, n, rx, hn, h1, h2, h3⟩ => ?_, fun v ⟨x, n, rx, hn, hop, hv⟩ => ?_⟩
    · obtain ⟨e1, e2⟩ := (h x n rx hn).2 h1 h2
      obtain ⟨k, e3, e4⟩ := g.rg n (List.mem_of_getElem? hn) e1
      rw [e2] at e3
      cases e3
      rw [List.getElem?_map, hr] at e4
      have e5 : r.2.1 = n.w := Option.some.inj e4
      have : own r.2.1 j n = true := (own_is (g.st n (List.mem_of_getElem? hn))).mpr (by
        obtain ⟨op, w, as⟩ := n
        cases e1
        cases e2
        rw [e5]
        rfl)
      rw [this] at h3
      cases h3
    · obtain ⟨v2, e1, e2⟩ := (h x n rx hn).1 hop
      rw [hv] at e1
      cases e1
      exact e2
end Bf

set_option Elab.async false
set_option linter.all false
set_option maxRecDepth 100000
set_option maxHeartbeats 4000000
namespace Bf
open PySem PySem.Spec PyProof.Rows L2
def topS (i : Nat) : Stmt := PySem.Challenge.pw_beatfabric_k29_codes_judged.main.body.getD i (.Pass ⟨0, 0, 0, 0⟩)
abbrev s_is_thing : Stmt := topS 1
abbrev s_all_different : Stmt := topS 2
abbrev s_are_ascending : Stmt := topS 3
abbrev s_is_width : Stmt := topS 6
abbrev s_picked_nodes : Stmt := topS 8
abbrev s_picked_words : Stmt := topS 9
abbrev s_are_words : Stmt := topS 10
abbrev s_judge_entry : Stmt := topS 11
abbrev s_judge_codes : Stmt := topS 12
abbrev s_law_begin : Stmt := topS 14
abbrev s_law_draw : Stmt := topS 15
abbrev s_law_pick : Stmt := topS 16
abbrev s_law_pop : Stmt := topS 17
abbrev s_law_shuffled : Stmt := topS 18
abbrev s_law_pool : Stmt := topS 19
abbrev s_law_of_width : Stmt := topS 20
abbrev s_law_new_node : Stmt := topS 21
abbrev s_law_graph : Stmt := topS 22
abbrev s_law_tree : Stmt := topS 23
abbrev s_law_chain : Stmt := topS 24
abbrev s_law_machines : Stmt := topS 25
abbrev s_law_olds : Stmt := topS 26
abbrev s_law_stays : Stmt := topS 27
abbrev s_law_takes : Stmt := topS 28
abbrev s_law_codes : Stmt := topS 29
abbrev s_law_drawn_paper : Stmt := topS 30
abbrev s_law_put : Stmt := topS 31
abbrev s_law_spoilt_codes : Stmt := topS 32
abbrev s_law_spoilt : Stmt := topS 33
abbrev s_law_is_told : Stmt := topS 34
abbrev s_law : Stmt := topS 35
theorem sc_is_thing : FnScope ["number", "many"] ["number", "many"] (defScope s_is_thing) := ⟨rfl, rfl, rfl, by decide +kernel, rfl, by decide +kernel, by decide +kernel⟩
theorem sc_all_different : FnScope ["names"] ["names"] (defScope s_all_different) := ⟨rfl, rfl, rfl, by decide +kernel, rfl, by decide +kernel, by decide +kernel⟩
theorem sc_are_ascending : FnScope ["numbers", "low", "high"] ["numbers"] (defScope s_are_ascending) := ⟨rfl, rfl, rfl, by decide +kernel, rfl, by decide +kernel, by decide +kernel⟩
theorem sc_is_width : FnScope ["width"] ["width"] (defScope s_is_width) := ⟨rfl, rfl, rfl, by decide +kernel, rfl, by decide +kernel, by decide +kernel⟩
theorem sc_picked_nodes : FnScope ["nodes", "start", "reached", "todo", "at"] ["nodes", "start"] (defScope s_picked_nodes) := ⟨rfl, rfl, rfl, by decide +kernel, rfl, by decide +kernel, by decide +kernel⟩
theorem sc_picked_words : FnScope ["graph", "reg", "_", "nodes", "regs", "words", "at", "node"] ["graph", "reg"] (defScope s_picked_words) := ⟨rfl, rfl, rfl, by decide +kernel, rfl, by decide +kernel, by decide +kernel⟩
theorem sc_are_words : FnScope ["words", "width", "word"] ["words", "width"] (defScope s_are_words) := ⟨rfl, rfl, rfl, by decide +kernel, rfl, by decide +kernel, by decide +kernel⟩
theorem sc_judge_entry : FnScope ["graph", "entry", "reg", "width", "codes", "regs", "olds", "words", "old", "_", "word", "new"] ["graph", "entry"] (defScope s_judge_entry) := ⟨rfl, rfl, rfl, by decide +kernel, rfl, by decide +kernel, by decide +kernel⟩
theorem sc_judge_codes : FnScope ["graph", "paper", "entry", "reg", "_"] ["graph", "paper"] (defScope s_judge_codes) := ⟨rfl, rfl, rfl, by decide +kernel, rfl, by decide +kernel, by decide +kernel⟩
theorem sc_law_begin : FnScope ["_law_script", "_law_cell"] ["_law_script"] (defScope s_law_begin) := ⟨rfl, rfl, rfl, by decide +kernel, rfl, by decide +kernel, by decide +kernel⟩
theorem sc_law_draw : FnScope ["_law_d", "_law_many", "_law_found", "_law_size", "_law_cell"] ["_law_d", "_law_many"] (defScope s_law_draw) := ⟨rfl, rfl, rfl, by decide +kernel, rfl, by decide +kernel, by decide +kernel⟩
theorem sc_law_pick : FnScope ["_law_d", "_law_row"] ["_law_d", "_law_row"] (defScope s_law_pick) := ⟨rfl, rfl, rfl, by decide +kernel, rfl, by decide +kernel, by decide +kernel⟩
theorem sc_law_pop : FnScope ["_law_d", "_law_row"] ["_law_d", "_law_row"] (defScope s_law_pop) := ⟨rfl, rfl, rfl, by decide +kernel, rfl, by decide +kernel, by decide +kernel⟩
theorem sc_law_shuffled : FnScope ["_law_d", "_law_row", "_law_left", "_law_found", "_law_k"] ["_law_d", "_law_row"] (defScope s_law_shuffled) := ⟨rfl, rfl, rfl, by decide +kernel, rfl, by decide +kernel, by decide +kernel⟩
theorem sc_law_pool : FnScope ["_law_text"] [] (defScope s_law_pool) := ⟨rfl, rfl, rfl, by decide +kernel, rfl, by decide +kernel, by decide +kernel⟩
theorem sc_law_of_width : FnScope ["_law_d", "_law_nodes", "_law_width", "_law_at"] ["_law_d", "_law_nodes", "_law_width"] (defScope s_law_of_width) := ⟨rfl, rfl, rfl, by decide +kernel, rfl, by decide +kernel, by decide +kernel⟩
theorem sc_law_new_node : FnScope ["_law_d", "_law_nodes", "_law_stores", "_law_most", "_law_at", "_law_width", "_law_turn", "_law_op", "_law_other", "_law_low", "_law_store", "_law_wide"] ["_law_d", "_law_nodes", "_law_stores", "_law_most"] (defScope s_law_new_node) := ⟨rfl, rfl, rfl, by decide +kernel, rfl, by decide +kernel, by decide +kernel⟩
theorem sc_law_graph : FnScope ["_law_d", "_law_inputs", "_law_regs", "_law_mems", "_law_nodes", "_law_most", "_law_names", "_law_k", "_law_given", "_law_kept", "_law_stores", "_law_found", "_law_name", "_law_wide", "_law_rows", "_law_mems_told", "_law_size", "_law_writes", "_law_shown", "_law_asked"] ["_law_d", "_law_inputs", "_law_regs", "_law_mems", "_law_nodes", "_law_most"] (defScope s_law_graph) := ⟨rfl, rfl, rfl, by decide +kernel, rfl, by decide +kernel, by decide +kernel⟩
theorem sc_law_tree : FnScope ["_law_d", "_law_nodes", "_law_reg", "_law_wide", "_law_words", "_law_made", "_law_depth", "_law_turn", "_law_leaf", "_law_left", "_law_right"] ["_law_d", "_law_nodes", "_law_reg", "_law_wide", "_law_words", "_law_made", "_law_depth"] (defScope s_law_tree) := ⟨rfl, rfl, rfl, by decide +kernel, rfl, by decide +kernel, by decide +kernel⟩
theorem sc_law_chain : FnScope ["_law_d", "_law_nodes", "_law_reg", "_law_wide", "_law_words", "_law_found", "_law_word", "_law_told", "_law_when"] ["_law_d", "_law_nodes", "_law_reg", "_law_wide", "_law_words"] (defScope s_law_chain) := ⟨rfl, rfl, rfl, by decide +kernel, rfl, by decide +kernel, by decide +kernel⟩
theorem sc_law_machines : FnScope ["_law_d", "_law_graph_here", "_law_many", "_law_longest", "_law_nodes", "_law_regs", "_law_shown", "_law_first", "_law_k", "_law_name", "_law_wide", "_law_start", "_law_after", "_law_words", "_law_word", "_law_more", "_law_n"] ["_law_d", "_law_graph_here", "_law_many", "_law_longest"] (defScope s_law_machines) := ⟨rfl, rfl, rfl, by decide +kernel, rfl, by decide +kernel, by decide +kernel⟩
theorem sc_law_olds : FnScope ["_law_graph_here", "_law_reg", "_law_name", "_law_wide", "_law_start", "_law_after", "_law_met", "_law_found", "_law_at", "_law_node"] ["_law_graph_here", "_law_reg"] (defScope s_law_olds) := ⟨rfl, rfl, rfl, by decide +kernel, rfl, by decide +kernel, by decide +kernel⟩
theorem sc_law_stays : FnScope ["_law_graph_here", "_law_reg", "_law_olds_here", "_law_found", "_law_node"] ["_law_graph_here", "_law_reg", "_law_olds_here"] (defScope s_law_stays) := ⟨rfl, rfl, rfl, by decide +kernel, rfl, by decide +kernel, by decide +kernel⟩
theorem sc_law_takes : FnScope ["_law_graph_here", "_law_paper", "_law_ahead", "_law_reg", "_law_width", "_law_codes_here", "_law_olds_here", "_law_news", "_law_room", "_law_code", "_law_old", "_law_new"] ["_law_graph_here", "_law_paper"] (defScope s_law_takes) := ⟨rfl, rfl, rfl, by decide +kernel, rfl, by decide +kernel, by decide +kernel⟩
theorem sc_law_codes : FnScope ["_law_d", "_law_wide", "_law_olds_here", "_law_told", "_law_width", "_law_step", "_law_shift", "_law_news", "_law_k", "_law_n"] ["_law_d", "_law_wide", "_law_olds_here"] (defScope s_law_codes) := ⟨rfl, rfl, rfl, by decide +kernel, rfl, by decide +kernel, by decide +kernel⟩
theorem sc_law_drawn_paper : FnScope ["_law_d", "_law_graph_here", "_law_paper", "_law_reg", "_law_olds_here", "_law_width", "_law_codes_here"] ["_law_d", "_law_graph_here"] (defScope s_law_drawn_paper) := ⟨rfl, rfl, rfl, by decide +kernel, rfl, by decide +kernel, by decide +kernel⟩
theorem sc_law_put : FnScope ["_law_row", "_law_at", "_law_part"] ["_law_row", "_law_at", "_law_part"] (defScope s_law_put) := ⟨rfl, rfl, rfl, by decide +kernel, rfl, by decide +kernel, by decide +kernel⟩
theorem sc_law_spoilt_codes : FnScope ["_law_d", "_law_wide", "_law_width", "_law_codes_here", "_law_at", "_law_old", "_law_new", "_law_turn"] ["_law_d", "_law_wide", "_law_width", "_law_codes_here"] (defScope s_law_spoilt_codes) := ⟨rfl, rfl, rfl, by decide +kernel, rfl, by decide +kernel, by decide +kernel⟩
theorem sc_law_spoilt : FnScope ["_law_d", "_law_graph_here", "_law_paper", "_law_turn", "_law_reg", "_law_wide", "_law_entry", "_law_at", "_law_width", "_law_codes_here", "_law_word"] ["_law_d", "_law_graph_here", "_law_paper"] (defScope s_law_spoilt) := ⟨rfl, rfl, rfl, by decide +kernel, rfl, by decide +kernel, by decide +kernel⟩
theorem sc_law_is_told : FnScope ["_law_graph_here", "_law_paper", "_law_told"] ["_law_graph_here", "_law_paper"] (defScope s_law_is_told) := ⟨rfl, rfl, rfl, by decide +kernel, rfl, by decide +kernel, by decide +kernel⟩
theorem sc_law : FnScope ["_law_script", "_law_d", "_law_graph_here", "_law_paper", "_law_k"] ["_law_script"] (defScope s_law) := ⟨rfl, rfl, rfl, by decide +kernel, rfl, by decide +kernel, by decide +kernel⟩
structure Txt (mg : Str → Option Value) : Prop where
  n_int : mg "int" = none
  n_len : mg "len" = none
  n_abs : mg "abs" = none
  n_isinstance : mg "isinstance" = none
  n_range : mg "range" = none
  n_tuple : mg "tuple" = none
  n_all : mg "all" = none
  n_list : mg "list" = none
  n_enumerate : mg "enumerate" = none
  n_bool : mg "bool" = none
  n_max : mg "max" = none
  n_min : mg "min" = none
  n_str : mg "str" = none
  n_sorted : mg "sorted" = none
  n_zip : mg "zip" = none
  n_reversed : mg "reversed" = none
  n_set : mg "set" = none
/-- the program's own constant -/
structure TxtP (mg : Str → Option Value) (tM : Tok) : Prop extends Txt mg where
  g_MOST_WIDTH : mg "MOST_WIDTH" = some (.int 8 tM)
/-! ### the draws -/
/-- what stood elsewhere stands -/
def Keep (S : List Addr) (H H' : Hp) : Prop := ∀ b o, b ∉ S → H b = some o → H' b = some o
theorem Keep.refl (S : List Addr) (H : Hp) : Keep S H H := fun _ _ _ h => h
theorem Keep.trans {S : List Addr} {H H1 H2 : Hp} (a : Keep S H H1) (b : Keep S H1 H2) : Keep S H H2 := fun c o n h => b c o n (a c o n h)
theorem Keep.of_same {S : List Addr} {H H1 : Hp} (a : Same H H1) : Keep S H H1 := fun c o _ h => a c o h
theorem Keep.wide {S S' : List Addr} {H H1 : Hp} (a : Keep S H H1) (h : ∀ b, b ∈ S → b ∈ S') : Keep S' H H1 := fun c o n e => a c o (fun q => n (h c q)) e
theorem Keep.upd {S : List Addr} {H : Hp} {a : Addr} {o : HO} (h : a ∈ S) : Keep S H (upd H a o) := fun b u n e => by
  rw [upd_ne (fun q => n (by rw [q]; exact h))]
  exact e
theorem Keep.new {S : List Addr} {H : Hp} {a : Addr} {o : HO} (h : H a = none) : Keep S H (L2.upd H a o) := fun b u n e => by
  rw [upd_ne (ne_of_none e h)]
  exact e
/-- the state of the draws -/
def DS (H : Hp) (a c : Addr) : Prop := ∃ (at_ left st : Int) (cells : List Int), H a = some (.lst [.ref c, .int at_, .int left, .int st, .int 3]) ∧ 0 ≤ at_ ∧ H c = some (.lst (cells.map V.int))
theorem DS.ne {H : Hp} {a c : Addr} {x : V} {xs : List V} {cells : List Int} (h : H a = some (.lst (.ref c :: xs))) (hc : H c = some (.lst (cells.map V.int))) : c ≠ a := by
  intro e
  rw [e, h] at hc
  have q := HO.lst.inj (Option.some.inj hc)
  cases cells with
  | nil => cases q
  | cons x r => cases (List.cons.inj q).1
theorem DS.keep {S : List Addr} {H H' : Hp} {a c : Addr} (h : DS H a c) (k : Keep S H H') (ha : a ∉ S) (hc : c ∉ S) : DS H' a c := by
  obtain ⟨at_, left, st, cells, h1, h2, h3⟩ := h
  exact ⟨at_, left, st, cells, k _ _ ha h1, h2, k _ _ hc h3⟩
theorem DS.same {H H' : Hp} {a c : Addr} (h : DS H a c) (k : Same H H') : DS H' a c := h.keep (S := []) (Keep.of_same k) (by simp) (by simp)
theorem DS.new {H : Hp} {a c l : Addr} (h : DS H a c) (hl : H l = none) : l ≠ a ∧ l ≠ c := by
  obtain ⟨at_, left, st, cells, h1, h2, h3⟩ := h
  exact ⟨(ne_of_none h1 hl).symm, (ne_of_none h3 hl).symm⟩
theorem pow6000 : (0 : Int) < 1 * 2 ^ (6000 : Int).toNat := by
  rw [Int.one_mul]
  exact Int.pow_pos (by decide)
def spDraw : Sp := fun vs H Q _ => ∃ (a c : Addr) (m : Int), vs = [.ref a, .int m] ∧ DS H a c ∧ 1 ≤ m ∧ m < 1073741824 ∧ ∀ (r : Int) (H' : Hp), 0 ≤ r → r < m → DS H' a c → Keep [a] H H' → Q (.int r) H'
section
variable {P : Program} {w : World} {K : PySem.W.Frag} {mg : Str → Option Value} {base : Heap}
theorem ok_draw {f : Addr} {fd : FuncData} (F : Fun K "_law_draw" "_law_draw" s_law_draw f fd) (T : Txt mg) : FnOk P w K mg base CX0 1 f fd ["_law_d", "_law_many"] spDraw := by
  refine F.ok sc_law_draw (fun vs H Q E h => ?_) (fun cdv A outer s H vs Q E hr h => ?_)
  · obtain ⟨a, c, m, rfl, _⟩ := h
    rfl
  obtain ⟨a, c, m, rfl, ⟨at_, left, st, cells, ha, h0, hc⟩, m1, m2, q⟩ := h
  have hca : c ≠ a := DS.ne (x := .non) ha hc
  refine ⟨_, (pss_cons (ps_if (pt_cmpR op_gt (pe_ix ix_list (pv 0) pe_int (fun _ _ => rfl)) pe_int (nomark _)) (pss_cons (ps_set (i := 2) sc_law_draw.nd rfl (Or.inl rfl) (pe_ix ix_list (pv 0) pe_int (fun _ _ => rfl)))
      (pss_cons (ps_asg (pe_op op_fdiv (pv 2) (pv 1)) (pg_sub (pv 0) pe_int set_list))
      (pss_one (ps_ret (pe_op op_mod (pe_callTy call_int1 (by rfl) T.n_int (by decide +kernel) (pa_cons (pv 2) pa_nil)) (pv 1)))))) pss_nil)
      (pss_cons (ps_set (i := 3) sc_law_draw.nd rfl (Or.inl rfl) pe_int)
      (C8.pss_cut (ps_if (pt_cmpR op_lt (pe_ix ix_list (pv 0) pe_int (fun _ _ => rfl)) (pe_callB call_len_seq (by rfl) T.n_len (by decide +kernel) (pa_cons (pe_ix ix_list (pv 0) pe_int (fun _ _ => rfl)) pa_nil)) (nomark _)) (pss_cons (ps_set (i := 4) sc_law_draw.nd rfl (Or.inl rfl) (pe_ix ix_list (pe_ix ix_list (pv 0) pe_int (fun _ _ => rfl)) (pe_ix ix_list (pv 0) pe_int (fun _ _ => rfl)) (fun _ _ => rfl)))
      (pss_one (ps_set (i := 3) sc_law_draw.nd rfl (Or.inl rfl) (pe_op op_add (pe_op op_mul pe_int (pe_callB call_abs (by rfl) T.n_abs (by decide +kernel) (pa_cons (pv 4) pa_nil))) (pe_callTy call_int1 (by rfl) T.n_int (by decide +kernel) (pa_cons (pe_cmpR op_lt (pv 4) pe_int (nomark _)) pa_nil)))))) pss_nil)
      (C8.pss_cut (ps_augS (pv 0) pe_int get_list pe_int ip_add set_list)
      (pss_cons (ps_if (pt_cmpR op_ge (pv 3) (pe_op op_mul pe_int (pe_op op_pow pe_int pe_int)) (nomark _)) (pss_cons (ps_set (i := 2) sc_law_draw.nd rfl (Or.inl rfl) (pe_op op_mod (pe_callTy call_int1 (by rfl) T.n_int (by decide +kernel) (pa_cons (pe_op op_fdiv (pv 3) pe_int) pa_nil)) (pe_op op_shl pe_int pe_int)))
      (pss_cons (ps_asg (pe_op op_fdiv (pv 2) (pv 1)) (pg_sub (pv 0) pe_int set_list))
      (pss_one (ps_ret (pe_op op_mod (pe_callTy call_int1 (by rfl) T.n_int (by decide +kernel) (pa_cons (pv 2) pa_nil)) (pv 1)))))) pss_nil)
      (pss_cons (ps_asg (pe_op op_mod (pe_callTy call_int1 (by rfl) T.n_int (by decide +kernel) (pa_cons (pe_op op_add (pe_op op_add (pe_op op_add (pe_op op_mul (pe_ix ix_list (pv 0) pe_int (fun _ _ => rfl)) pe_int) (pe_op op_mul (pe_op op_mod (pe_callTy call_int1 (by rfl) T.n_int (by decide +kernel) (pa_cons (pv 3) pa_nil)) pe_int) pe_int)) (pe_op op_mul (pe_ix ix_list (pv 0) pe_int (fun _ _ => rfl)) pe_int)) pe_int) pa_nil)) pe_int) (pg_sub (pv 0) pe_int set_list))
      (pss_one (ps_ret (pe_op op_mod (pe_callTy call_int1 (by rfl) T.n_int (by decide +kernel) (pa_cons (pe_op op_fdiv (pe_ix ix_list (pv 0) pe_int (fun _ _ => rfl)) pe_int) pa_nil)) (pv 1)))))))))), ?_⟩
  refine ⟨_, rfl, a, _, _, _, rfl, rfl, SqL.of ha, atI_nat (j := 2) rfl, _, _, rfl, rfl, _, rfl, ?_⟩
  refine ite2 (fun e => ?_) (fun e => ?_)
  · refine ⟨_, rfl, a, _, _, _, rfl, rfl, SqL.of ha, atI_nat (j := 2) rfl, ?_⟩
    refine ⟨_, rfl, _, rfl, left, m, rfl, rfl, ⟨by omega, by omega⟩, _, rfl, a, _, 2, 2, rfl, rfl, ha, rfl, ?_⟩
    refine ⟨_, rfl, .inl ⟨_, rfl, _, rfl, _, _, rfl, rfl, (by omega), ?_⟩⟩
    exact q _ _ (Int.emod_nonneg _ (by omega)) (Int.emod_lt_of_pos _ (by omega)) ⟨at_, left / m, st, cells, upd_same, h0, by rw [upd_ne hca]; exact hc⟩ (Keep.upd (by simp))
  · refine ⟨fun σ' H' => ∃ (z : Int) (v4 : Option V), σ' = [some (.ref a), some (.int m), none, some (.int z), v4] ∧ H' = H, ?_, ?_⟩
    · refine ⟨_, rfl, a, _, _, _, rfl, rfl, SqL.of ha, atI_nat (j := 1) rfl, _, rfl, a, _, _, _, rfl, rfl, SqL.of ha, atI_nat (j := 0) rfl, c, _, rfl, .inl (SqL.of hc), _, _, rfl, rfl, _, rfl, ?_⟩
      refine ite2 (fun e1 => ?_) (fun e1 => ?_)
      · have e2 : at_ < ((cells.map V.int).length : Nat) := of_decide_eq_true e1
        rw [List.length_map] at e2
        have hk : at_.toNat < cells.length := by omega
        have ek : ((at_.toNat : Nat) : Int) = at_ := by omega
        have q1 : atI (cells.map V.int) ((at_.toNat : Nat) : Int) = some (.int cells[at_.toNat]) := atI_nat (by rw [List.getElem?_map, List.getElem?_eq_getElem hk] <;> rfl)
        rw [ek] at q1
        refine ⟨_, rfl, a, _, _, _, rfl, rfl, SqL.of ha, atI_nat (j := 0) rfl, _, rfl, a, _, _, _, rfl, rfl, SqL.of ha, atI_nat (j := 1) rfl, c, _, _, _, rfl, rfl, SqL.of hc, q1, ?_⟩
        refine ⟨_, rfl, _, rfl, _, _, rfl, rfl, .inl ⟨by decide, by decide⟩, _, rfl, _, _, rfl, rfl, .inr ⟨_, rfl, _, _, rfl, rfl, ?_⟩⟩
        exact ⟨_, _, rfl, rfl⟩
      · exact ⟨_, _, rfl, rfl⟩
    · rintro σ' H' ⟨z, v4, rfl, rfl⟩
      refine ⟨fun σ' H1 => σ' = [some (.ref a), some (.int m), none, some (.int z), v4] ∧ H1 a = some (.lst [.ref c, .int (at_ + 1), .int left, .int st, .int 3]) ∧ H1 c = some (.lst (cells.map V.int)) ∧ Keep [a] H' H1, ?_, ?_⟩
      · exact ⟨_, rfl, a, _, 1, .int at_, rfl, rfl, ha, atI_nat (j := 1) rfl, at_, 1, rfl, rfl, a, _, 1, 1, rfl, rfl, ha, rfl, rfl, upd_same, by rw [upd_ne hca]; exact hc, Keep.upd (by simp)⟩
      rintro σ' H1 ⟨rfl, h1, h2, k1⟩
      refine ⟨_, rfl, _, _, rfl, rfl, ⟨by decide, by decide, by decide⟩, _, _, rfl, rfl, .inl ⟨by decide, by decide⟩, _, _, rfl, rfl, _, rfl, ?_⟩
      refine ite2 (fun e3 => ?_) (fun e3 => ?_)
      · refine ⟨_, rfl, z, 2, rfl, rfl, ⟨by decide, by decide⟩, .inl ⟨_, rfl, 1, 6000, rfl, rfl, ⟨by decide, by decide, by decide⟩, _, _, rfl, rfl, pow6000, ?_⟩⟩
        refine ⟨_, rfl, _, rfl, _, m, rfl, rfl, ⟨by omega, by omega⟩, _, rfl, a, _, 2, 2, rfl, rfl, h1, rfl, ?_⟩
        refine ⟨_, rfl, .inl ⟨_, rfl, _, rfl, _, _, rfl, rfl, (by omega), ?_⟩⟩
        refine q _ _ (Int.emod_nonneg _ (by omega)) (Int.emod_lt_of_pos _ (by omega)) ⟨at_ + 1, _, st, cells, upd_same, by omega, by rw [upd_ne hca]; exact h2⟩ (k1.trans (Keep.upd (by simp)))
      · refine ⟨_, rfl, a, _, _, _, rfl, rfl, SqL.of h1, atI_nat (j := 3) rfl, _, _, rfl, rfl, .inr ⟨by decide, by decide⟩, ?_⟩
        refine ⟨_, rfl, .inl ⟨_, rfl, _, _, rfl, rfl, (by show (0 : Int) < 2147483629; decide), _, _, rfl, rfl, .inr ⟨by decide, by decide⟩, _, _, rfl, rfl, ?_⟩⟩
        refine ⟨_, rfl, a, _, _, _, rfl, rfl, SqL.of h1, atI_nat (j := 1) rfl, _, _, rfl, rfl, .inr ⟨by decide, by decide⟩, _, _, rfl, rfl, _, _, rfl, rfl, .inl ⟨_, rfl, _, _, rfl, rfl, (by show (0 : Int) < 2147483647; decide), ?_⟩⟩
        refine ⟨_, rfl, a, _, 3, 3, rfl, rfl, h1, rfl, ?_⟩
        refine ⟨_, rfl, a, _, _, _, rfl, rfl, SqL.of upd_same, atI_nat (j := 3) rfl, _, _, rfl, rfl, ⟨by decide, by decide⟩, .inl ⟨_, rfl, _, rfl, _, _, rfl, rfl, (by omega), ?_⟩⟩
        exact q _ _ (Int.emod_nonneg _ (by omega)) (Int.emod_lt_of_pos _ (by omega)) ⟨at_ + 1, left, _, cells, upd_same, by omega, by rw [upd_ne hca]; exact h2⟩ (k1.trans (Keep.upd (by simp)))
end

/-! ### the beginning of the draws; a draw out of a list; is it an int -/
theorem same_new {H : Hp} {p : Addr} (h : H p = none) (o : HO) : Same H (upd H p o) := fun b u q => by rw [upd_ne (ne_of_none q h)]; exact q
theorem intAt {xs : List Int} {i : Nat} {x : V} (h : (xs.map V.int)[i]? = some x) : ∃ k, xs[i]? = some k ∧ x = V.int k := by
  rw [List.getElem?_map] at h
  cases e : xs[i]? with
  | none => rw [e] at h; cases h
  | some k => rw [e] at h; exact ⟨k, rfl, (Option.some.inj h).symm⟩
def spBegin (K : PySem.W.Frag) : Sp := fun vs H Q _ => ∃ (a : Addr) (ns : List Int), vs = [.ref a] ∧ SqL K H a (ns.map V.int) ∧ ns.length ≤ 63 ∧ ∀ (d c : Addr) (H' : Hp), H d = none → H c = none → DS H' d c → Same H H' → Q (.ref d) H'
section
variable {P : Program} {w : World} {K : PySem.W.Frag} {mg : Str → Option Value} {base : Heap}
theorem ok_begin {f : Addr} {fd : FuncData} (F : Fun K "_law_begin" "_law_begin" s_law_begin f fd) (T : Txt mg) : FnOk P w K mg base CX0 1 f fd ["_law_script"] (spBegin K) := by
  refine F.ok sc_law_begin (fun vs H Q E h => ?_) (fun cdv A outer s H vs Q E hr h => ?_)
  · obtain ⟨a, ns, rfl, _⟩ := h
    rfl
  obtain ⟨a, ns, rfl, hS, h63, q⟩ := h
  refine ⟨_, (pss_one (ps_ret (pe_lst (pa_cons (pe_lc (own := [("_law_cell", 1)]) (g := (gName 1)) (tt := tYes) rfl sc_law_begin.nd (pi_list (pv 0)) (blkOk_by (N := ["_law_script", "_law_cell"]) (sc := defScope s_law_begin) (by decide +kernel)) (fun _ _ _ _ _ => (pg_name (i := 1) sc_law_begin.nd rfl (Or.inl rfl))) (fun _ _ _ _ _ => pts_nil) (fun _ _ _ _ _ => (pe_callTy call_int1 (by rfl) T.n_int (by decide +kernel) (pa_cons (pv 1) pa_nil)))) (pa_cons pe_int (pa_cons pe_int (pa_cons pe_int (pa_cons pe_int pa_nil)))))))), ?_⟩
  refine ⟨_, rfl, a, rfl, ⟨_, hS⟩, fun D hD => lc_list (K := K) (a := a) (xs := ns.map V.int) (fun i H' => Same H H' ∧ H' D = some (.lst ((ns.take i).map V.int)))
    ⟨same_new hD _, upd_same⟩ (fun i H' _ p => p.1.seq hS) (fun i x H' hx p => ?_) (fun H' p => ?_)⟩
  · obtain ⟨k, hk, rfl⟩ := intAt hx
    refine ⟨rfl, _, rfl, .inl ⟨_, rfl, _, p.2, ?_, ?_, ?_⟩⟩
    · rw [List.length_map, List.length_take]
      exact small1000 (by omega)
    · intro b o e
      rw [upd_ne (ne_of_none e hD)]
      exact p.1 b o e
    · rw [upd_same, List.take_add_one, hk, List.map_append]
      rfl
  · rw [List.length_map, List.take_length] at p
    refine ⟨(by show 5 ≤ sizeLine; decide), fun l hl => ?_⟩
    have nDl : D ≠ l := ne_of_none p.2 hl
    refine q l D _ (p.1.free hl) hD ⟨0, 0, 7, ns, upd_same, Int.le_refl 0, by rw [upd_ne nDl]; exact p.2⟩ (p.1.trans (same_new hl _))
end

/-- a draw of an item of a list, which is taken out -/
def spPop : Sp := fun vs H Q _ => ∃ (d c l : Addr) (xs : List V), vs = [.ref d, .ref l] ∧ DS H d c ∧ H l = some (.lst xs) ∧ l ≠ d ∧ l ≠ c ∧ 1 ≤ xs.length ∧ xs.length ≤ 1000 ∧
  ∀ (k : Nat) (y : V) (H' : Hp), xs[k]? = some y → DS H' d c → H' l = some (.lst (xs.eraseIdx k)) → Keep [d, l] H H' → Q y H'
section
variable {P : Program} {w : World} {K : PySem.W.Frag} {mg : Str → Option Value} {base : Heap}
theorem ok_pop {f : Addr} {fd : FuncData} (F : Fun K "_law_pop" "_law_pop" s_law_pop f fd) (T : Txt mg) (D_law_draw : Dn P w K mg base "_law_draw" ["_law_d", "_law_many"] 1 spDraw) :
    FnOk P w K mg base CX0 2 f fd ["_law_d", "_law_row"] spPop := by
  refine F.ok sc_law_pop (fun vs H Q E h => ?_) (fun cdv A outer s H vs Q E hr h => ?_)
  · obtain ⟨d, c, l, xs, rfl, _⟩ := h
    rfl
  obtain ⟨d, c, l, xs, rfl, hd, hl, nld, nlc, h1, h2, q⟩ := h
  refine ⟨_, (pss_one (ps_ret (pe_bm PySem.F.plainAttrs_list PySem.F.slot_list_pop PySem.F.type_list_pop mt_popAt (pv 1) (pa_cons (pe_dn D_law_draw (hr.mono (by omega)) (by rfl) (pa_cons (pv 0) (pa_cons (pe_callB call_len_seq (by rfl) T.n_len (by decide +kernel) (pa_cons (pv 1) pa_nil)) pa_nil))) pa_nil)))), ?_⟩
  refine ⟨_, rfl, .inl ⟨rfl, _, SqL.of hl⟩, _, rfl, _, rfl, l, _, rfl, .inl (SqL.of hl), d, c, _, rfl, hd, (by omega), (by omega), fun r H' r0 r1 hd' k1 => ?_⟩
  have hl' : H' l = some (.lst xs) := k1 _ _ (by simp [nld]) hl
  have hk : r.toNat < xs.length := by omega
  refine ⟨l, xs, r, r.toNat, xs[r.toNat], rfl, rfl, hl', by omega, by omega, seqIndex_of r0 (by omega), List.getElem?_eq_getElem hk, ?_⟩
  refine q _ _ _ (List.getElem?_eq_getElem hk) (hd'.keep (S := [l]) (Keep.upd (by simp)) (by simp [nld.symm]) (by simp [nlc.symm])) upd_same ((k1.wide (by simp)).trans (Keep.upd (by simp)))
end

/-! ### what stands -/
theorem DS.at_ {H : Hp} {d c : Addr} (h : DS H d c) : ∃ l, H d = some (.lst l) := let ⟨_, _, _, _, e, _⟩ := h; ⟨_, e⟩
theorem Keep.tups {S : List Addr} {H H' : Hp} (k : Keep S H H') (n : ∀ b ∈ S, ∃ l, H b = some (.lst l)) : KeepT H H' := fun b xs h => k _ _ (fun m => by
  obtain ⟨l, q⟩ := n b m
  rw [q] at h
  cases h) h
theorem Keep.tup1 {H H' : Hp} {d c : Addr} (k : Keep [d] H H') (h : DS H d c) : KeepT H H' := k.tups fun b hb => by rw [List.mem_singleton.mp hb]; exact h.at_
theorem Keep.tup2 {H H' : Hp} {d c l : Addr} {xs : List V} (k : Keep [d, l] H H') (h : DS H d c) (hl : H l = some (.lst xs)) : KeepT H H' := k.tups fun b hb => by
  rcases List.mem_cons.mp hb with e | hb
  · rw [e]; exact h.at_
  · rw [List.mem_singleton.mp hb]; exact ⟨_, hl⟩
/-- the names that are left -/
def Nms (H : Hp) (l : Addr) (n : Nat) : Prop := ∃ names : List V, H l = some (.lst names) ∧ (∀ v ∈ names, ∃ z : Str, v = .str z) ∧ names.length = n
theorem Nms.keep {S : List Addr} {H H' : Hp} {l : Addr} {n : Nat} (h : Nms H l n) (k : Keep S H H') (hl : l ∉ S) : Nms H' l n := let ⟨x, a, b, e⟩ := h; ⟨x, k _ _ hl a, b, e⟩
theorem Nms.same {H H' : Hp} {l : Addr} {n : Nat} (h : Nms H l n) (k : Same H H') : Nms H' l n := let ⟨x, a, b, e⟩ := h; ⟨x, k _ _ a, b, e⟩
theorem Nms.cast {H : Hp} {l : Addr} {n m : Nat} (h : Nms H l n) (e : n = m) : Nms H l m := e ▸ h
theorem Keep.thin {S S' : List Addr} {H H' : Hp} (k : Keep S' H H') (h : ∀ b ∈ S', b ∈ S ∨ H b = none) : Keep S H H' := fun b o n e => k b o (fun m => by
  rcases h b m with q | q
  · exact n q
  · rw [q] at e; cases e) e
theorem Keep.cat {S S' : List Addr} {H H1 H2 : Hp} (a : Keep S H H1) (b : Keep S' H1 H2) : Keep (S ++ S') H H2 := fun c o n h => b c o (fun m => n (List.mem_append_right _ m)) (a c o (fun m => n (List.mem_append_left _ m)) h)
theorem Keep.free {S : List Addr} {H H' : Hp} {l : Addr} (k : Keep S H H') (h : H' l = none) (n : l ∉ S) : H l = none := by
  cases e : H l with
  | none => rfl
  | some o => rw [k l o n e] at h; cases h
theorem Keep.sm {H H' : Hp} (k : Same H H') : Keep [] H H' := .of_same k
theorem Keep.at1 {H : Hp} {a : Addr} {o : HO} : Keep [a] H (L2.upd H a o) := .upd (by simp)
/-- the list at D: data of acc -/
def Acc {α : Type} (D : Addr) (f : α → PyData) (acc : List α) (H : Hp) : Prop := ∃ vs : List V, H D = some (.lst vs) ∧ LayAll H vs (acc.map f)
theorem Acc.nil {α : Type} {D : Addr} {f : α → PyData} {H : Hp} : Acc D f [] (upd H D (.lst [])) := ⟨[], upd_same, .nil⟩
theorem Acc.keep {α : Type} {D : Addr} {f : α → PyData} {acc : List α} {S : List Addr} {H H' : Hp} (h : Acc D f acc H) (k : Keep S H H') (t : KeepT H H') (n : D ∉ S) : Acc D f acc H' := let ⟨vs, a, b⟩ := h; ⟨vs, k _ _ n a, b.keep' t⟩
theorem Acc.same {α : Type} {D : Addr} {f : α → PyData} {acc : List α} {H H' : Hp} (h : Acc D f acc H) (k : Same H H') : Acc D f acc H' := let ⟨vs, a, b⟩ := h; ⟨vs, k _ _ a, b.keep' (.same k)⟩
theorem Acc.push {α : Type} {D : Addr} {f : α → PyData} {acc : List α} {H : Hp} {y : V} {x : α} (h : Acc D f acc H) (l : Lay H y (f x)) (n : acc.length ≤ 1000) :
    ∃ vs, H D = some (.lst vs) ∧ vs.length < sizeLine ∧ Acc D f (acc ++ [x]) (upd H D (.lst (vs ++ [y]))) ∧ KeepT H (upd H D (.lst (vs ++ [y]))) := by
  obtain ⟨vs, a, b⟩ := h
  have e := b.len
  rw [List.length_map] at e
  have kt : KeepT H (upd H D (.lst (vs ++ [y]))) := .lst a
  refine ⟨vs, a, by rw [e]; exact small1000 n, ⟨_, upd_same, ?_⟩, kt⟩
  rw [List.map_append]
  exact (b.snoc l).keep' kt
theorem Acc.at_ {α : Type} {D : Addr} {f : α → PyData} {acc : List α} {H : Hp} (h : Acc D f acc H) : ∃ l, H D = some (.lst l) := let ⟨vs, a, _⟩ := h; ⟨vs, a⟩

def spPool : Sp := fun vs H Q _ => vs = [] ∧ ∀ (p : Addr) (xs : List Str), H p = none → xs.length = 61 → Q (.ref p) (upd H p (.lst (xs.map V.str)))
section
variable {P : Program} {w : World} {K : PySem.W.Frag} {mg : Str → Option Value} {base : Heap} {f : Addr} {fd : FuncData}
theorem ok_pool (F : Fun K "_law_pool" "_law_pool" s_law_pool f fd) : FnOk P w K mg base CX0 1 f fd [] spPool := by
  refine F.ok sc_law_pool (fun vs H Q E h => ?_) (fun cdv A outer s H vs Q E hr h => ?_)
  · rw [h.1]
    rfl
  obtain ⟨rfl, q⟩ := h
  refine ⟨_, (pss_cons (ps_set (i := 0) sc_law_pool.nd rfl (Or.inl rfl) pe_str)
      (pss_cons (ps_set (i := 0) sc_law_pool.nd rfl (Or.inl rfl) (pe_op op_add_str (pv 0) pe_str))
      (pss_one (ps_ret (pe_split (pe_op op_add_str (pv 0) pe_str) pe_str))))), ?_⟩
  refine ⟨_, rfl, _, _, rfl, rfl, (by decide +kernel), _, rfl, _, _, rfl, rfl, (by decide +kernel), ?_⟩
  exact ⟨⟨_, rfl⟩, _, _, rfl, rfl, (by decide +kernel), (by decide +kernel), fun p hp => q p _ hp (by decide +kernel)⟩
end

/-! ### an item of a list by draws; a list in a drawn order -/
def spPick (K : PySem.W.Frag) : Sp := fun vs H Q _ => ∃ (d c l : Addr) (xs : List V), vs = [.ref d, .ref l] ∧ DS H d c ∧ l ≠ d ∧ SqL K H l xs ∧ 1 ≤ xs.length ∧ xs.length ≤ 1000 ∧
  ∀ (k : Nat) (y : V) (H' : Hp), xs[k]? = some y → DS H' d c → Keep [d] H H' → Q y H'
theorem Keep.seqL {S : List Addr} {K : PySem.W.Frag} {H H' : Hp} {a : Addr} {xs : List V} (k : Keep S H H') (n : a ∉ S) (h : SqL K H a xs) : SqL K H' a xs := by
  rcases h with (h | ⟨u, h⟩) | h
  · exact .inl (.inl (k _ _ n h))
  · exact .inl (.inr ⟨u, k _ _ n h⟩)
  · exact .inr h
section
variable {P : Program} {w : World} {K : PySem.W.Frag} {mg : Str → Option Value} {base : Heap} {f : Addr} {fd : FuncData}
theorem ok_pick (F : Fun K "_law_pick" "_law_pick" s_law_pick f fd) (T : Txt mg) (D_law_draw : Dn P w K mg base "_law_draw" ["_law_d", "_law_many"] 1 spDraw) : FnOk P w K mg base CX0 2 f fd ["_law_d", "_law_row"] (spPick K) := by
  refine F.ok sc_law_pick (fun vs H Q E h => ?_) (fun cdv A outer s H vs Q E hr h => ?_)
  · obtain ⟨d, c, l, xs, rfl, _⟩ := h
    rfl
  obtain ⟨d, c, l, xs, rfl, hd, nld, hl, h1, h2, q⟩ := h
  refine ⟨_, (pss_one (ps_ret (pe_ix ix_list (pv 1) (pe_dn D_law_draw (hr.mono (by omega)) (by rfl) (pa_cons (pv 0) (pa_cons (pe_callB call_len_seq (by rfl) T.n_len (by decide +kernel) (pa_cons (pv 1) pa_nil)) pa_nil))) (fun _ _ => rfl)))), ?_⟩
  refine ⟨_, rfl, _, rfl, _, rfl, l, _, rfl, .inl hl, d, c, _, rfl, hd, by omega, by omega, fun r H' r0 r1 hd' k1 => ?_⟩
  obtain ⟨x, rfl⟩ := Int.eq_ofNat_of_zero_le r0
  have hx : x < xs.length := by omega
  exact ⟨l, xs, _, _, rfl, rfl, k1.seqL (by simp [nld]) hl, atI_nat (List.getElem?_eq_getElem hx), q _ _ _ (List.getElem?_eq_getElem hx) hd' k1⟩
end

theorem erase_perm : ∀ (zs : List V) (k : Nat) (y : V), zs[k]? = some y → (y :: zs.eraseIdx k).Perm zs
  | [], _, _, h => by simp at h
  | z :: zs, 0, y, h => by
    cases h
    exact .refl _
  | z :: zs, k + 1, y, h => (List.Perm.swap z y _).trans (.cons z (erase_perm zs k y (by simpa using h)))
def spShuf (K : PySem.W.Frag) : Sp := fun vs H Q _ => ∃ (d c l : Addr) (xs : List V), vs = [.ref d, .ref l] ∧ DS H d c ∧ l ≠ d ∧ (SqL K H l xs ∨ SqT K H l xs) ∧ xs.length ≤ 1000 ∧
  ∀ (p : Addr) (ys : List V) (H' : Hp), ys.Perm xs → H p = none → H' p = some (.lst ys) → DS H' d c → Keep [d] H H' → Q (.ref p) H'
section
variable {P : Program} {w : World} {K : PySem.W.Frag} {mg : Str → Option Value} {base : Heap} {f : Addr} {fd : FuncData}
theorem ok_shuf (F : Fun K "_law_shuffled" "_law_shuffled" s_law_shuffled f fd) (T : Txt mg) (D_law_draw : Dn P w K mg base "_law_draw" ["_law_d", "_law_many"] 1 spDraw) : FnOk P w K mg base CX0 2 f fd ["_law_d", "_law_row"] (spShuf K) := by
  refine F.ok sc_law_shuffled (fun vs H Q E h => ?_) (fun cdv A outer s H vs Q E hr h => ?_)
  · obtain ⟨d, c, l, xs, rfl, _⟩ := h
    rfl
  obtain ⟨d, c, l, xs, rfl, hd, nld, hl, h2, q⟩ := h
  refine ⟨_, (pss_cons (ps_set (i := 2) sc_law_shuffled.nd rfl (Or.inl rfl) (pe_callTy call_list_of (by rfl) T.n_list (by decide +kernel) (pa_cons (pv 1) pa_nil)))
      (pss_cons (ps_set (i := 3) sc_law_shuffled.nd rfl (Or.inl rfl) (pe_lst pa_nil))
      (pss_cons (ps_for PassesOwn.never rfl (pi_range1 rfl T.n_range (pa_cons (pe_callB call_len_seq (by rfl) T.n_len (by decide +kernel) (pa_cons (pv 2) pa_nil)) pa_nil)) (pg_name (i := 4) sc_law_shuffled.nd rfl (Or.inl rfl)) (pss_one (ps_expr (pe_bm PySem.F.plainAttrs_list PySem.F.slot_list_append PySem.F.type_list_append mt_append (pv 3) (pa_cons (pe_bm PySem.F.plainAttrs_list PySem.F.slot_list_pop PySem.F.type_list_pop mt_popAt (pv 2) (pa_cons (pe_dn D_law_draw (hr.mono (by omega)) (by rfl) (pa_cons (pv 0) (pa_cons (pe_callB call_len_seq (by rfl) T.n_len (by decide +kernel) (pa_cons (pv 2) pa_nil)) pa_nil))) pa_nil)) pa_nil)))))
      (pss_one (ps_ret (pv 3)))))), ?_⟩
  refine ⟨_, rfl, l, xs, rfl, hl, fun L hL => ?_⟩
  obtain ⟨nLd, nLc⟩ := hd.new hL
  have hd1 := hd.same (same_new hL (.lst xs))
  refine ⟨Nat.zero_le _, fun F hF => ?_⟩
  obtain ⟨nFd, nFc⟩ := hd1.new hF
  have nFL : F ≠ L := (ne_of_none upd_same hF).symm
  have s2 := (same_new hL (.lst xs)).trans (same_new hF (.lst []))
  refine ⟨_, rfl, L, xs, rfl, .inl (SqL.of (same_new hF _ _ _ upd_same)), ?_⟩
  have f0 : H F = none := (same_new hL _).free hF
  refine ⟨(xs.length : Int), rfl, (i62 (by omega)).1, (i62 (by omega)).2, for_it walk_range (fun i σ' H' => ∃ (v4 : Option V) (zs ys : List V), σ' = [some (.ref d), some (.ref l), some (.ref L), some (.ref F), v4] ∧ DS H' d c ∧ H' L = some (.lst zs) ∧ H' F = some (.lst ys) ∧ (ys ++ zs).Perm xs ∧ ys.length = i ∧ Keep [d] H H')
    ⟨_, xs, [], rfl, hd1.same (same_new hF _), same_new hF _ _ _ upd_same, upd_same, .refl _, rfl, Keep.of_same s2⟩ (fun _ _ _ _ _ => trivial) (fun i x σ' H' H3 hi p y => ?_) (fun σ' H' p => ?_)⟩
  · obtain ⟨v4, zs, ys, rfl, hd3, hL3, hF3, hp, hyl, k3⟩ := p
    obtain ⟨rfl, rfl⟩ := y
    have hi : i < xs.length := by simpa using hi
    have ln := hp.length_eq
    rw [List.length_append] at ln
    refine ⟨_, rfl, .inl ⟨rfl, _, SqL.of hF3⟩, ?_⟩
    refine ⟨_, rfl, .inl ⟨rfl, _, SqL.of hL3⟩, _, rfl, _, rfl, L, zs, rfl, .inl (SqL.of hL3), d, c, _, rfl, hd3, by omega, by omega, fun r H4 r0 r1 hd4 k4 => ?_⟩
    obtain ⟨x, rfl⟩ := Int.eq_ofNat_of_zero_le r0
    have hx : x < zs.length := by omega
    have hL4 := k4 _ _ (by simp [nLd]) hL3
    have hF4 := k4 _ _ (by simp [nFd]) hF3
    refine ⟨L, zs, _, x, zs[x], rfl, rfl, hL4, by omega, by omega, seqIndex_of r0 (by omega), List.getElem?_eq_getElem hx, ?_⟩
    have hF5 : (upd H4 L (.lst (zs.eraseIdx x))) F = some (.lst ys) := by rw [upd_ne nFL]; exact hF4
    refine ⟨F, ys, _, rfl, rfl, hF5, len1000 (by omega), _, zs.eraseIdx x, ys ++ [zs[x]], rfl, ?_, ?_, upd_same, ?_, by rw [List.length_append, hyl]; rfl, ?_⟩
    · exact (hd4.keep (S := [L]) Keep.at1 (by simp [nLd.symm]) (by simp [nLc.symm])).keep (S := [F]) Keep.at1 (by simp [nFd.symm]) (by simp [nFc.symm])
    · rw [upd_ne nFL.symm, upd_same]
    · rw [List.append_assoc]
      exact (List.Perm.append_left ys (erase_perm zs x _ (List.getElem?_eq_getElem hx))).trans hp
    · exact (((k3.cat k4).cat (Keep.at1 (a := L))).cat (Keep.at1 (a := F))).thin (by simp [hL, f0])
  · obtain ⟨v4, zs, ys, rfl, hd3, hL3, hF3, hp, hyl, k3⟩ := p
    have ln := hp.length_eq
    rw [List.length_append] at ln
    have hz : zs = [] := List.eq_nil_of_length_eq_zero (by omega)
    rw [hz, List.append_nil] at hp
    exact ⟨_, rfl, q F ys _ hp f0 hF3 hd3 k3⟩
end

end Bf

set_option Elab.async false
set_option linter.all false
set_option maxRecDepth 100000
set_option maxHeartbeats 4000000
namespace Bf
open PySem PySem.Spec PyProof.Rows L2
/-! ### nodes by draws -/
theorem Acc.get {α : Type} {D : Addr} {f : α → PyData} {acc : List α} {H : Hp} (h : Acc D f acc H) : ∃ vs : List V, H D = some (.lst vs) ∧ vs.length = acc.length ∧ LayAll H vs (acc.map f) := by
  obtain ⟨vs, e, l⟩ := h
  exact ⟨vs, e, by simpa using l.len, l⟩
theorem nodeAt {H : Hp} {vs : List V} {ns : List Nd} {i : Nat} (h : LayAll H vs (ns.map nodeD)) (hi : i < ns.length) : ∃ (n : Nd) (q : Addr), ns[i]? = some n ∧ vs[i]? = some (.ref q) ∧ H q = some (.tup (.str n.op :: vI n.w :: n.args.map vI)) := by
  have e : (ns.map nodeD)[i]? = some (nodeD ns[i]) := by rw [List.getElem?_map, List.getElem?_eq_getElem hi]; rfl
  obtain ⟨v, hv, l⟩ := h.at_ i e
  obtain ⟨q, rfl, hq⟩ := l.node
  exact ⟨ns[i], q, List.getElem?_eq_getElem hi, hv, hq⟩
/-- a memory: its name, width and size -/
def storD (s : Str × Nat × Nat) : PyData := .tuple [.str s.1, .int (s.2.1 : Int), .int (s.2.2 : Int)]
def spOfW : Sp := fun vs H Q _ => ∃ (d c l : Addr) (ns : List Nd) (w : Nat), vs = [.ref d, .ref l, vI w] ∧ DS H d c ∧ l ≠ d ∧ Acc l nodeD ns H ∧ ns.length ≤ 900 ∧ HasW ns w ∧
  ∀ (k : Nat) (n : Nd) (H' : Hp), ns[k]? = some n → n.w = w → DS H' d c → Keep [d] H H' → Q (vI k) H'
section
variable {P : Program} {w : World} {K : PySem.W.Frag} {mg : Str → Option Value} {base : Heap} {f : Addr} {fd : FuncData}
theorem ok_ofW (F : Fun K "_law_of_width" "_law_of_width" s_law_of_width f fd) (T : Txt mg) (D_law_pick : Dn P w K mg base "_law_pick" ["_law_d", "_law_row"] 2 (spPick K)) : FnOk P w K mg base CX0 3 f fd ["_law_d", "_law_nodes", "_law_width"] spOfW := by
  refine F.ok sc_law_of_width (fun vs H Q E h => ?_) (fun cdv A outer s H vs Q E hr h => ?_)
  · obtain ⟨d, c, l, ns, w, rfl, _⟩ := h
    rfl
  obtain ⟨d, c, l, ns, wd, rfl, hd, nld, hA, h900, hw, q⟩ := h
  refine ⟨_, (pss_one (ps_ret (pe_dn D_law_pick (hr.mono (by omega)) (by rfl) (pa_cons (pv 0) (pa_cons (pe_lc (own := [("_law_at", 3)]) (g := (gName 3)) rfl sc_law_of_width.nd (pi_range1 rfl T.n_range (pa_cons (pe_callB call_len_seq (by rfl) T.n_len (by decide +kernel) (pa_cons (pv 1) pa_nil)) pa_nil)) (blkOk_by (N := ["_law_d", "_law_nodes", "_law_width", "_law_at"]) (sc := defScope s_law_of_width) (by decide +kernel)) (fun _ _ _ _ _ => (pg_name (i := 3) sc_law_of_width.nd rfl (Or.inl rfl))) (fun _ _ _ _ _ => (pts_one (pt_cmpR op_eq (pe_ix (ix_tup : IxR _ (rIxT K)) (pe_ix (ix_list : IxR _ (rIxL K)) (pv 1) (pv 3) (fun _ _ => rfl)) pe_int (fun _ _ => rfl)) (pv 2) (nomark _)))) (fun _ _ _ _ _ => (pv 3))) pa_nil))))), ?_⟩
  obtain ⟨vs, e, vl, lv⟩ := hA.get
  refine ⟨_, rfl, _, rfl, l, vs, rfl, .inl (SqL.of e), (vs.length : Int), rfl, (i62 (by omega)).1, (i62 (by omega)).2, fun D hD => ?_⟩
  refine lc_range (lo := 0) (n := vs.length) (fun i H' => Same H H' ∧ H' D = some (.lst ((wIdx ns wd i).map vI))) ⟨same_new hD _, upd_same⟩ (fun i H' hi p => ?_) (fun H' p => ?_)
  · obtain ⟨sm, hf⟩ := p
    have hi : i < vs.length := hi
    obtain ⟨n, qn, hn, hv, hq⟩ := nodeAt (lv.keep' (.same sm)) (show i < ns.length by omega)
    refine ⟨rfl, _, rfl, _, rfl, l, vs, _, .ref qn, rfl, rfl, SqL.of (sm _ _ e), ?_, qn, _, _, _, rfl, rfl, SqT.of hq, atI_nat (j := 1) rfl, _, rfl, rfl, ?_⟩
    · rw [show (0 + (i : Int)) = ((i : Nat) : Int) by omega]
      exact atI_nat hv
    refine ⟨_, rfl, ?_⟩
    have wl := wIdx_len ns wd i
    have es := wIdx_succ (w := wd) hn
    have ev : decide (vI n.w = vI wd) = decide (n.w = wd) := by
      by_cases z : n.w = wd
      · rw [z, decide_eq_true rfl, decide_eq_true rfl]
      · rw [decide_eq_false z]
        exact decide_eq_false fun y => z (by have := V.int.inj y; omega)
    rw [ev]
    by_cases z : n.w = wd
    · rw [if_pos z] at es
      refine ifY (decide_eq_true z) ⟨_, rfl, _, hf, ?_, same_two sm hD, ?_⟩
      · rw [List.length_map]
        exact len1000 (by omega)
      · rw [upd_same, es, List.map_append, show (0 + (i : Int)) = ((i : Nat) : Int) by omega]
        rfl
    · rw [if_neg z] at es
      refine ifN (decide_eq_false z) ⟨sm, ?_⟩
      rw [es]
      exact hf
  · obtain ⟨sm, hf⟩ := p
    rw [vl] at hf
    have w1 := wIdx_some hw
    have w2 := wIdx_len ns wd ns.length
    refine ⟨d, c, D, _, rfl, hd.same sm, (hd.new hD).1, SqL.of hf, by rw [List.length_map]; exact w1, by rw [List.length_map]; omega, fun k y H2 hy hd2 k2 => ?_⟩
    obtain ⟨j, hj, rfl⟩ := natAt hy
    obtain ⟨n, hn, ew⟩ := wIdx_mem (List.mem_of_getElem? hj)
    exact q j n H2 hn ew hd2 ((Keep.of_same sm).trans k2)
end
def spNewNode : Sp := fun vs H Q _ => ∃ (d c l s : Addr) (ns : List Nd) (ss : List (Str × Nat × Nat)) (most : Nat), vs = [.ref d, .ref l, .ref s, vI most] ∧ DS H d c ∧ l ≠ d ∧ s ≠ d ∧ Acc l nodeD ns H ∧ Acc s storD ss H ∧ NdsOk ns ∧ ns.length ≤ 900 ∧ 1 ≤ ns.length ∧ HasW ns 1 ∧
  (∀ st ∈ ss, 1 ≤ st.2.1 ∧ st.2.1 ≤ 8) ∧ ss.length ≤ 100 ∧ 1 ≤ most ∧ most ≤ 8 ∧
  ∀ (v : V) (n : Nd) (H' : Hp), Lay H' v (nodeD n) → n.Ok ns → (PyData.strOk n.op = true ∧ n.op ≠ "reg") → DS H' d c → Keep [d] H H' → Q v H'
theorem ltPow {v w : Nat} (h : (v : Int) < 2 ^ w) : v < 2 ^ w := by
  have h2 : ((v : Nat) : Int) < ((2 ^ w : Nat) : Int) := by
    rw [Int.natCast_pow]
    exact h
  exact Int.ofNat_lt.mp h2
theorem ok_of {op : Str} {w : Nat} {args : List Nat} {i : List Nd} (h1 : op ≠ "pick") (h2 : op ≠ "const") (w1 : 1 ≤ w) (w8 : w ≤ 8) (hl : args.length ≤ 3) : (Nd.mk op w args).Ok i := ⟨fun e => absurd e h1, fun e => absurd e h2, w1, w8, hl⟩
theorem litSh (ops : List Str) : PyData.strOk "reg" = true := by decide +kernel
/-- a drawn word of a list of words -/
theorem wordAt {ops : List Str} {k : Nat} {y : V} (h : (ops.map V.str)[k]? = some y) : ∃ o, o ∈ ops ∧ y = .str o := by
  obtain ⟨o, e, rfl⟩ := mapAt h
  exact ⟨o, List.mem_of_getElem? e, rfl⟩
section
variable {P : Program} {w : World} {K : PySem.W.Frag} {mg : Str → Option Value} {base : Heap} {f : Addr} {fd : FuncData}
theorem ok_newNode (F : Fun K "_law_new_node" "_law_new_node" s_law_new_node f fd) (T : Txt mg) (D_law_draw : Dn P w K mg base "_law_draw" ["_law_d", "_law_many"] 1 spDraw) (D_law_pick : Dn P w K mg base "_law_pick" ["_law_d", "_law_row"] 2 (spPick K))
    (D_law_of_width : Dn P w K mg base "_law_of_width" ["_law_d", "_law_nodes", "_law_width"] 3 spOfW) : FnOk P w K mg base CX0 4 f fd ["_law_d", "_law_nodes", "_law_stores", "_law_most"] spNewNode := by
  refine F.ok sc_law_new_node (fun vs H Q E h => ?_) (fun cdv A outer s H vs Q E hr h => ?_)
  · obtain ⟨d, c, l, s, ns, ss, most, rfl, _⟩ := h
    rfl
  obtain ⟨d, c, l, sl, ns, ss, most, rfl, hd, nld, nsd, hA, hS, G, h900, h1, hw1, hst, hs100, m1, m8, q⟩ := h
  refine ⟨_, (pss_cons (ps_set (i := 4) sc_law_new_node.nd rfl (Or.inl rfl) (pe_callB (cr_maxN rfl) (by rfl) T.n_max (by decide +kernel) (pa_cons (pe_dn D_law_draw (hr.mono (by omega)) (by rfl) (pa_cons (pv 0) (pa_cons (pe_callB call_len_seq (by rfl) T.n_len (by decide +kernel) (pa_cons (pv 1) pa_nil)) pa_nil))) (pa_cons (pe_dn D_law_draw (hr.mono (by omega)) (by rfl) (pa_cons (pv 0) (pa_cons (pe_callB call_len_seq (by rfl) T.n_len (by decide +kernel) (pa_cons (pv 1) pa_nil)) pa_nil))) pa_nil))))
      (pss_cons (ps_set (i := 5) sc_law_new_node.nd rfl (Or.inl rfl) (pe_ix ix_tup (pe_ix ix_list (pv 1) (pv 4) (fun _ _ => rfl)) pe_int (fun _ _ => rfl)))
      (pss_cons (ps_set (i := 6) sc_law_new_node.nd rfl (Or.inl rfl) (pe_dn D_law_draw (hr.mono (by omega)) (by rfl) (pa_cons (pv 0) (pa_cons pe_int pa_nil))))
      (pss_cons (ps_if (pt_cmpR op_lt (pv 6) pe_int (nomark _)) (pss_cons (ps_set (i := 7) sc_law_new_node.nd rfl (Or.inl rfl) (pe_dn D_law_pick (hr.mono (by omega)) (by rfl) (pa_cons (pv 0) (pa_cons (pe_lst (pa_cons pe_str (pa_cons pe_str (pa_cons pe_str (pa_cons pe_str (pa_cons pe_str (pa_cons pe_str pa_nil))))))) pa_nil))))
      (pss_one (ps_ret (pe_tup (pa_cons (pv 7) (pa_cons (pv 5) (pa_cons (pv 4) (pa_cons (pe_dn D_law_of_width (hr.mono (by omega)) (by rfl) (pa_cons (pv 0) (pa_cons (pv 1) (pa_cons (pv 5) pa_nil)))) pa_nil)))))))) pss_nil)
      (pss_cons (ps_if (pt_cmpR op_eq (pv 6) pe_int (nomark _)) (pss_one (ps_ret (pe_tup (pa_cons (pe_dn D_law_pick (hr.mono (by omega)) (by rfl) (pa_cons (pv 0) (pa_cons (pe_lst (pa_cons pe_str (pa_cons pe_str (pa_cons pe_str (pa_cons pe_str pa_nil))))) pa_nil))) (pa_cons pe_int (pa_cons (pv 4) (pa_cons (pe_dn D_law_of_width (hr.mono (by omega)) (by rfl) (pa_cons (pv 0) (pa_cons (pv 1) (pa_cons (pv 5) pa_nil)))) pa_nil))))))) pss_nil)
      (pss_cons (ps_if (pt_cmpR op_eq (pv 6) pe_int (nomark _)) (pss_one (ps_ret (pe_tup (pa_cons (pe_dn D_law_pick (hr.mono (by omega)) (by rfl) (pa_cons (pv 0) (pa_cons (pe_lst (pa_cons pe_str (pa_cons pe_str pa_nil))) pa_nil))) (pa_cons (pv 5) (pa_cons (pv 4) (pa_cons (pe_dn D_law_draw (hr.mono (by omega)) (by rfl) (pa_cons (pv 0) (pa_cons (pe_callB call_len_seq (by rfl) T.n_len (by decide +kernel) (pa_cons (pv 1) pa_nil)) pa_nil))) pa_nil))))))) pss_nil)
      (pss_cons (ps_if (pt_cmpR op_eq (pv 6) pe_int (nomark _)) (pss_one (ps_ret (pe_tup (pa_cons (pe_dn D_law_pick (hr.mono (by omega)) (by rfl) (pa_cons (pv 0) (pa_cons (pe_lst (pa_cons pe_str (pa_cons pe_str pa_nil))) pa_nil))) (pa_cons (pv 5) (pa_cons (pv 4) pa_nil)))))) pss_nil)
      (pss_cons (ps_if (pt_cmpR op_eq (pv 6) pe_int (nomark _)) (pss_one (ps_ret (pe_tup (pa_cons (pe_dn D_law_pick (hr.mono (by omega)) (by rfl) (pa_cons (pv 0) (pa_cons (pe_lst (pa_cons pe_str (pa_cons pe_str (pa_cons pe_str pa_nil)))) pa_nil))) (pa_cons pe_int (pa_cons (pv 4) pa_nil)))))) pss_nil)
      (pss_cons (ps_if (pt_cmpR op_eq (pv 6) pe_int (nomark _)) (pss_cons (ps_set (i := 8) sc_law_new_node.nd rfl (Or.inl rfl) (pe_dn D_law_draw (hr.mono (by omega)) (by rfl) (pa_cons (pv 0) (pa_cons (pe_callB call_len_seq (by rfl) T.n_len (by decide +kernel) (pa_cons (pv 1) pa_nil)) pa_nil))))
      (pss_cons (ps_if (pt_cmpR op_le (pe_op op_add (pv 5) (pe_ix ix_tup (pe_ix ix_list (pv 1) (pv 8) (fun _ _ => rfl)) pe_int (fun _ _ => rfl))) (pv 3) (nomark _)) (pss_one (ps_ret (pe_tup (pa_cons pe_str (pa_cons (pe_op op_add (pv 5) (pe_ix ix_tup (pe_ix ix_list (pv 1) (pv 8) (fun _ _ => rfl)) pe_int (fun _ _ => rfl))) (pa_cons (pv 4) (pa_cons (pv 8) pa_nil))))))) pss_nil)
      (pss_one (ps_ret (pe_tup (pa_cons pe_str (pa_cons (pe_op op_add pe_int (pe_dn D_law_draw (hr.mono (by omega)) (by rfl) (pa_cons (pv 0) (pa_cons (pv 3) pa_nil)))) (pa_cons (pv 4) pa_nil)))))))) pss_nil)
      (pss_cons (ps_if (pt_cmpR op_eq (pv 6) pe_int (nomark _)) (pss_cons (ps_set (i := 9) sc_law_new_node.nd rfl (Or.inl rfl) (pe_dn D_law_draw (hr.mono (by omega)) (by rfl) (pa_cons (pv 0) (pa_cons (pv 5) pa_nil))))
      (pss_one (ps_ret (pe_tup (pa_cons pe_str (pa_cons (pe_op op_add pe_int (pe_dn D_law_draw (hr.mono (by omega)) (by rfl) (pa_cons (pv 0) (pa_cons (pe_op op_sub (pv 5) (pv 9)) pa_nil)))) (pa_cons (pv 4) (pa_cons (pv 9) pa_nil)))))))) pss_nil)
      (pss_cons (ps_if (pt_cmpR op_eq (pv 6) pe_int (nomark _)) (pss_one (ps_ret (pe_tup (pa_cons pe_str (pa_cons (pe_callB (cr_maxN rfl) (by rfl) T.n_max (by decide +kernel) (pa_cons (pv 5) (pa_cons (pe_op op_add pe_int (pe_dn D_law_draw (hr.mono (by omega)) (by rfl) (pa_cons (pv 0) (pa_cons (pv 3) pa_nil)))) pa_nil))) (pa_cons (pv 4) pa_nil)))))) pss_nil)
      (C8.pss_cut (ps_if (PW.pt (pw_and (pt_cmpR op_eq (pv 6) pe_int (nomark _)) (pw_and1 (pt_cmpR op_gt (pe_callB call_len_seq (by rfl) T.n_len (by decide +kernel) (pa_cons (pv 2) pa_nil)) pe_int (nomark _))))) (pss_cons (ps_set (i := 10) sc_law_new_node.nd rfl (Or.inl rfl) (pe_dn D_law_draw (hr.mono (by omega)) (by rfl) (pa_cons (pv 0) (pa_cons (pe_callB call_len_seq (by rfl) T.n_len (by decide +kernel) (pa_cons (pv 2) pa_nil)) pa_nil))))
      (pss_one (ps_ret (pe_tup (pa_cons pe_str (pa_cons (pe_ix ix_tup (pe_ix ix_list (pv 2) (pv 10) (fun _ _ => rfl)) pe_int (fun _ _ => rfl)) (pa_cons (pv 10) (pa_cons (pv 4) pa_nil)))))))) pss_nil)
      (pss_cons (ps_if (pt_cmpR op_eq (pv 6) pe_int (nomark _)) (pss_cons (ps_set (i := 11) sc_law_new_node.nd rfl (Or.inl rfl) (pe_op op_add pe_int (pe_dn D_law_draw (hr.mono (by omega)) (by rfl) (pa_cons (pv 0) (pa_cons (pv 3) pa_nil)))))
      (pss_one (ps_ret (pe_tup (pa_cons pe_str (pa_cons (pv 11) (pa_cons (pe_dn D_law_draw (hr.mono (by omega)) (by rfl) (pa_cons (pv 0) (pa_cons (pe_op op_oneShl pe_int (pv 11)) pa_nil))) pa_nil))))))) pss_nil)
      (pss_one (ps_ret (pe_tup (pa_cons pe_str (pa_cons (pv 5) (pa_cons (pe_dn D_law_of_width (hr.mono (by omega)) (by rfl) (pa_cons (pv 0) (pa_cons (pv 1) (pa_cons pe_int pa_nil)))) (pa_cons (pv 4) (pa_cons (pe_dn D_law_of_width (hr.mono (by omega)) (by rfl) (pa_cons (pv 0) (pa_cons (pv 1) (pa_cons (pv 5) pa_nil)))) pa_nil))))))))))))))))))))), ?_⟩
  obtain ⟨vs, e, vl, lv⟩ := hA.get
  refine ⟨_, rfl, _, rfl, l, vs, rfl, .inl (SqL.of e), d, c, _, rfl, hd, by omega, by omega, fun r H1 r0 r1 hd1 k1 => ?_⟩
  obtain ⟨x1, rfl⟩ := Int.eq_ofNat_of_zero_le r0
  have e1 := k1 _ _ (by simp [nld]) e
  refine ⟨_, rfl, _, rfl, l, vs, rfl, .inl (SqL.of e1), d, c, _, rfl, hd1, by omega, by omega, fun r H2 r0 r2 hd2 k2 => ?_⟩
  obtain ⟨x2, rfl⟩ := Int.eq_ofNat_of_zero_le r0
  have e2 := k2 _ _ (by simp [nld]) e1
  refine ⟨x1, x2, rfl, ?_⟩
  have hat : max x1 x2 < ns.length := by omega
  generalize max x1 x2 = at_ at hat ⊢
  have t2 := (k1.tup1 hd).trans (k2.tup1 hd1)
  obtain ⟨n, qn, hn, hv, hq⟩ := nodeAt (lv.keep' t2) hat
  have nok := G at_ n hn
  refine ⟨_, rfl, _, rfl, l, vs, _, .ref qn, rfl, rfl, SqL.of e2, atI_nat hv, qn, _, _, _, rfl, rfl, SqT.of hq, atI_nat (j := 1) rfl, ?_⟩
  refine ⟨_, rfl, d, c, 13, rfl, hd2, by decide, by decide, fun r H3 r0 r3 hd3 k3 => ?_⟩
  obtain ⟨turn, rfl⟩ := Int.eq_ofNat_of_zero_le r0
  have e3 := k3 _ _ (by simp [nld]) e2
  have k03 := (k1.trans k2).trans k3
  have t3 := t2.trans (k3.tup1 hd2)
  have hA3 := hA.keep k03 t3 (by simp [nld])
  have hS3 := hS.keep k03 t3 (by simp [nsd])
  have hwn : HasW ns n.w := ⟨at_, n, hn, rfl⟩
  have w1 := nok.w1
  have w8 := nok.w8
  clear hd hd1 hd2 k1 k2 k3 e e1 e2 t2
  have fin : ∀ (op : Str) (w : Nat) (args : List Nat) (Hx : Hp) (xs : List V), (Nd.mk op w args).Ok ns → (PyData.strOk op = true ∧ op ≠ "reg") → DS Hx d c → Keep [d] H Hx → xs = .str op :: vI w :: args.map vI → xs.length ≤ sizeLine ∧ ∀ t, Hx t = none → Q (.ref t) (upd Hx t (.tup xs)) := by
    intro op w args Hx xs ok so hdx kx ex
    subst ex
    refine ⟨?_, fun t ht => ?_⟩
    · have := ok.len
      rw [List.length_cons, List.length_cons, List.length_map]
      exact le1000 (by have : args.length ≤ 3 := ok.len; omega)
    · exact q _ ⟨op, w, args⟩ _ (Lay.mkNode upd_same) ok so (hdx.same (same_new ht _)) (kx.trans (.new ht))
  have hlv : ∀ Hx, Keep [d] H3 Hx → DS Hx d c → ∃ vs : List V, Hx l = some (.lst vs) ∧ vs.length = ns.length ∧ LayAll Hx vs (ns.map nodeD) := fun Hx k _ => (hA3.keep k (k.tup1 hd3) (by simp [nld])).get
  have kA : ∀ Hx, Keep [d] H3 Hx → Acc l nodeD ns Hx := fun Hx k => hA3.keep k (k.tup1 hd3) (by simp [nld])
  refine ⟨_, rfl, _, _, rfl, rfl, _, rfl, ite2 (fun z => ?_) (fun _ => ?_)⟩
  · -- an operation of two operands
    refine ⟨_, rfl, (by show 6 ≤ sizeLine; decide), fun L hL => ?_⟩
    have sL := same_new hL (.lst ((["add", "sub", "and", "mul", "or", "xor"] : List Str).map V.str))
    refine ⟨d, c, L, _, rfl, hd3.same sL, (hd3.new hL).1, SqL.of upd_same, by show 1 ≤ 6; omega, by show 6 ≤ 1000; omega, fun k y H5 hy hd5 k5 => ?_⟩
    obtain ⟨o, ho, rfl⟩ := wordAt (ops := ["add", "sub", "and", "mul", "or", "xor"]) hy
    obtain ⟨o1, o2, o3⟩ := (by decide +kernel : ∀ o ∈ (["add", "sub", "and", "mul", "or", "xor"] : List Str), o ≠ "pick" ∧ o ≠ "const" ∧ PyData.strOk o = true ∧ o ≠ "reg") o ho
    have k35 : Keep [d] H3 H5 := (Keep.of_same sL).trans k5
    refine ⟨_, rfl, _, rfl, _, rfl, _, rfl, _, rfl, _, rfl, d, c, l, ns, n.w, rfl, hd5, nld, kA _ k35, h900, hwn, fun j m H6 hm ew hd6 k6 => ?_⟩
    exact fin o n.w [at_, j] H6 _ (ok_of o1 o2 w1 w8 (by simp)) o3 hd6 ((k03.trans k35).trans k6) rfl
  refine ⟨_, rfl, rfl, _, rfl, ite2 (fun z => ?_) (fun _ => ?_)⟩
  · refine ⟨_, rfl, (by show 4 ≤ sizeLine; decide), fun L hL => ?_⟩
    have sL := same_new hL (.lst ((["lt", "le", "eq", "ne"] : List Str).map V.str))
    refine ⟨d, c, L, _, rfl, hd3.same sL, (hd3.new hL).1, SqL.of upd_same, by show 1 ≤ 4; omega, by show 4 ≤ 1000; omega, fun k y H5 hy hd5 k5 => ?_⟩
    obtain ⟨o, ho, rfl⟩ := wordAt (ops := ["lt", "le", "eq", "ne"]) hy
    obtain ⟨o1, o2, o3⟩ := (by decide +kernel : ∀ o ∈ (["lt", "le", "eq", "ne"] : List Str), o ≠ "pick" ∧ o ≠ "const" ∧ PyData.strOk o = true ∧ o ≠ "reg") o ho
    have k35 : Keep [d] H3 H5 := (Keep.of_same sL).trans k5
    refine ⟨_, rfl, _, rfl, _, rfl, _, rfl, d, c, l, ns, n.w, rfl, hd5, nld, kA _ k35, h900, hwn, fun j m H6 hm ew hd6 k6 => ?_⟩
    exact fin o 1 [at_, j] H6 _ (ok_of o1 o2 (by omega) (by omega) (by simp)) o3 hd6 ((k03.trans k35).trans k6) rfl
  refine ⟨_, rfl, rfl, _, rfl, ite2 (fun z => ?_) (fun _ => ?_)⟩
  · refine ⟨_, rfl, (by show 2 ≤ sizeLine; decide), fun L hL => ?_⟩
    have sL := same_new hL (.lst ((["shl", "shr"] : List Str).map V.str))
    refine ⟨d, c, L, _, rfl, hd3.same sL, (hd3.new hL).1, SqL.of upd_same, by show 1 ≤ 2; omega, by show 2 ≤ 1000; omega, fun k y H5 hy hd5 k5 => ?_⟩
    obtain ⟨o, ho, rfl⟩ := wordAt (ops := ["shl", "shr"]) hy
    obtain ⟨o1, o2, o3⟩ := (by decide +kernel : ∀ o ∈ (["shl", "shr"] : List Str), o ≠ "pick" ∧ o ≠ "const" ∧ PyData.strOk o = true ∧ o ≠ "reg") o ho
    have k35 : Keep [d] H3 H5 := (Keep.of_same sL).trans k5
    obtain ⟨vs5, e5, vl5, _⟩ := hlv H5 k35 hd5
    refine ⟨_, rfl, _, rfl, _, rfl, _, rfl, l, vs5, rfl, .inl (SqL.of e5), d, c, _, rfl, hd5, by omega, by omega, fun r H6 r0 r1 hd6 k6 => ?_⟩
    obtain ⟨j, rfl⟩ := Int.eq_ofNat_of_zero_le r0
    exact fin o n.w [at_, j] H6 _ (ok_of o1 o2 w1 w8 (by simp)) o3 hd6 ((k03.trans k35).trans k6) rfl
  refine ⟨_, rfl, rfl, _, rfl, ite2 (fun z => ?_) (fun _ => ?_)⟩
  · refine ⟨_, rfl, (by show 2 ≤ sizeLine; decide), fun L hL => ?_⟩
    have sL := same_new hL (.lst ((["not", "neg"] : List Str).map V.str))
    refine ⟨d, c, L, _, rfl, hd3.same sL, (hd3.new hL).1, SqL.of upd_same, by show 1 ≤ 2; omega, by show 2 ≤ 1000; omega, fun k y H5 hy hd5 k5 => ?_⟩
    obtain ⟨o, ho, rfl⟩ := wordAt (ops := ["not", "neg"]) hy
    obtain ⟨o1, o2, o3⟩ := (by decide +kernel : ∀ o ∈ (["not", "neg"] : List Str), o ≠ "pick" ∧ o ≠ "const" ∧ PyData.strOk o = true ∧ o ≠ "reg") o ho
    refine ⟨_, rfl, _, rfl, ?_⟩
    exact fin o n.w [at_] H5 _ (ok_of o1 o2 w1 w8 (by simp)) o3 hd5 ((k03.trans (Keep.of_same sL)).trans k5) rfl
  refine ⟨_, rfl, rfl, _, rfl, ite2 (fun z => ?_) (fun _ => ?_)⟩
  · refine ⟨_, rfl, (by show 3 ≤ sizeLine; decide), fun L hL => ?_⟩
    have sL := same_new hL (.lst ((["any", "all", "odd"] : List Str).map V.str))
    refine ⟨d, c, L, _, rfl, hd3.same sL, (hd3.new hL).1, SqL.of upd_same, by show 1 ≤ 3; omega, by show 3 ≤ 1000; omega, fun k y H5 hy hd5 k5 => ?_⟩
    obtain ⟨o, ho, rfl⟩ := wordAt (ops := ["any", "all", "odd"]) hy
    obtain ⟨o1, o2, o3⟩ := (by decide +kernel : ∀ o ∈ (["any", "all", "odd"] : List Str), o ≠ "pick" ∧ o ≠ "const" ∧ PyData.strOk o = true ∧ o ≠ "reg") o ho
    refine ⟨_, rfl, ?_⟩
    exact fin o 1 [at_] H5 _ (ok_of o1 o2 (by omega) (by omega) (by simp)) o3 hd5 ((k03.trans (Keep.of_same sL)).trans k5) rfl
  refine ⟨_, rfl, rfl, _, rfl, ite2 (fun z => ?_) (fun _ => ?_)⟩
  · obtain ⟨vs3, e3, vl3, lv3⟩ := hlv H3 (.refl _ _) hd3
    refine ⟨_, rfl, _, rfl, l, vs3, rfl, .inl (SqL.of e3), d, c, _, rfl, hd3, by omega, by omega, fun r H4 r0 r1 hd4 k4 => ?_⟩
    obtain ⟨j, rfl⟩ := Int.eq_ofNat_of_zero_le r0
    have hj : j < ns.length := by omega
    obtain ⟨vs4, e4, vl4, lv4⟩ := hlv H4 k4 hd4
    obtain ⟨m, qm, hm, hvm, hqm⟩ := nodeAt lv4 hj
    refine ⟨_, rfl, _, rfl, _, rfl, l, vs4, _, .ref qm, rfl, rfl, SqL.of e4, atI_nat hvm, qm, _, _, _, rfl, rfl, SqT.of hqm, atI_nat (j := 1) rfl, _, _, rfl, rfl, ?_⟩
    refine ⟨_, rfl, _, _, rfl, rfl, _, rfl, ite2 (fun z => ?_) (fun _ => ?_)⟩
    · have z2 : ((n.w : Int) + (m.w : Int)) ≤ (most : Int) := of_decide_eq_true z
      refine ⟨_, rfl, _, rfl, _, rfl, l, vs4, _, .ref qm, rfl, rfl, SqL.of e4, atI_nat hvm, qm, _, _, _, rfl, rfl, SqT.of hqm, atI_nat (j := 1) rfl, _, _, rfl, rfl, _, rfl, _, rfl, ?_⟩
      exact fin "join" (n.w + m.w) [at_, j] H4 _ (ok_of (by decide +kernel) (by decide +kernel) (by omega) (by omega) (by simp)) (by decide +kernel) hd4 (k03.trans k4) rfl
    · refine ⟨_, rfl, _, rfl, d, c, _, rfl, hd4, by omega, by omega, fun r H5 r0 r5 hd5 k5 => ?_⟩
      obtain ⟨u, rfl⟩ := Int.eq_ofNat_of_zero_le r0
      refine ⟨_, _, rfl, rfl, _, rfl, ?_⟩
      exact fin "wide" (1 + u) [at_] H5 _ (ok_of (by decide +kernel) (by decide +kernel) (by omega) (by omega) (by simp)) (by decide +kernel) hd5 ((k03.trans k4).trans k5) (congrArg (fun z => [V.str "wide", V.int z, vI at_]) (by omega))
  refine ⟨_, rfl, rfl, _, rfl, ite2 (fun z => ?_) (fun _ => ?_)⟩
  · refine ⟨_, rfl, _, rfl, d, c, _, rfl, hd3, by omega, by omega, fun r H4 r0 r1 hd4 k4 => ?_⟩
    obtain ⟨low, rfl⟩ := Int.eq_ofNat_of_zero_le r0
    refine ⟨_, rfl, _, rfl, _, rfl, _, _, rfl, rfl, d, c, _, rfl, hd4, by omega, by omega, fun r H5 r0 r5 hd5 k5 => ?_⟩
    obtain ⟨u, rfl⟩ := Int.eq_ofNat_of_zero_le r0
    refine ⟨_, _, rfl, rfl, _, rfl, _, rfl, ?_⟩
    exact fin "bits" (1 + u) [at_, low] H5 _ (ok_of (by decide +kernel) (by decide +kernel) (by omega) (by omega) (by simp)) (by decide +kernel) hd5 ((k03.trans k4).trans k5) (congrArg (fun z => [V.str "bits", V.int z, vI at_, vI low]) (by omega))
  refine ⟨_, rfl, rfl, _, rfl, ite2 (fun z => ?_) (fun _ => ?_)⟩
  · refine ⟨_, rfl, _, rfl, _, rfl, d, c, _, rfl, hd3, by omega, by omega, fun r H4 r0 r1 hd4 k4 => ?_⟩
    obtain ⟨u, rfl⟩ := Int.eq_ofNat_of_zero_le r0
    refine ⟨_, _, rfl, rfl, n.w, 1 + u, congrArg (fun z => [vI n.w, V.int z]) (by omega), _, rfl, ?_⟩
    exact fin "sign" (max n.w (1 + u)) [at_] H4 _ (ok_of (by decide +kernel) (by decide +kernel) (by omega) (by omega) (by simp)) (by decide +kernel) hd4 (k03.trans k4) rfl
  -- the load
  refine ⟨fun σ' H' => σ' = [some (.ref d), some (.ref l), some (.ref sl), some (vI most), some (vI at_), some (vI n.w), some (vI turn), none, none, none, none, none] ∧ H' = H3, ?_, ?_⟩
  · refine ⟨_, rfl, rfl, _, rfl, ite2 (fun z => ?_) (fun _ => ?_)⟩
    · obtain ⟨zs, ez, zl, lz⟩ := hS3.get
      refine ⟨_, rfl, sl, zs, rfl, .inl (SqL.of ez), _, _, rfl, rfl, _, rfl, ite2 (fun z2 => ?_) (fun _ => ⟨rfl, rfl⟩)⟩
      have z3 : (0 : Int) < (zs.length : Nat) := of_decide_eq_true z2
      refine ⟨_, rfl, _, rfl, sl, zs, rfl, .inl (SqL.of ez), d, c, _, rfl, hd3, by omega, by omega, fun r H4 r0 r1 hd4 k4 => ?_⟩
      obtain ⟨j, rfl⟩ := Int.eq_ofNat_of_zero_le r0
      have hj : j < ss.length := by omega
      have hS4 := hS3.keep k4 (k4.tup1 hd3) (by simp [nsd])
      obtain ⟨zs4, ez4, zl4, lz4⟩ := hS4.get
      obtain ⟨v, hv4, lv4⟩ := lz4.at_ j (by rw [List.getElem?_map, List.getElem?_eq_getElem hj]; rfl)
      obtain ⟨qs, us, rfl, eq4, lu⟩ := lv4.tup_inv
      obtain ⟨u0, us, rfl, l0, lu1⟩ := lu.cons_inv
      obtain ⟨u1, us, rfl, l1, lu2⟩ := lu1.cons_inv
      obtain rfl := l1.int_inv
      obtain ⟨b1, b2⟩ := hst _ (List.getElem_mem hj)
      refine ⟨_, rfl, _, rfl, sl, zs4, _, .ref qs, rfl, rfl, SqL.of ez4, atI_nat hv4, qs, _, _, _, rfl, rfl, SqT.of eq4, atI_nat (j := 1) rfl, _, rfl, _, rfl, ?_⟩
      exact fin "load" (ss[j]).2.1 [j, at_] H4 _ (ok_of (by decide +kernel) (by decide +kernel) b1 b2 (by simp)) (by decide +kernel) hd4 (k03.trans k4) rfl
    · exact ⟨rfl, rfl⟩
  rintro σ' H' ⟨rfl, rfl⟩
  refine ⟨_, rfl, rfl, _, rfl, ite2 (fun z => ?_) (fun _ => ?_)⟩
  · refine ⟨_, rfl, _, rfl, d, c, _, rfl, hd3, by omega, by omega, fun r H4 r0 r1 hd4 k4 => ?_⟩
    obtain ⟨u, rfl⟩ := Int.eq_ofNat_of_zero_le r0
    have p1 : (0 : Int) < 2 ^ (1 + u) := Int.pow_pos (by decide)
    have p2 : (2 : Int) ^ (1 + u) < 1073741824 := by
      have : (2 : Int) ^ (1 + u) ≤ 2 ^ 8 := by
        have e : ((2 ^ (1 + u) : Nat) : Int) ≤ ((2 ^ 8 : Nat) : Int) := Int.ofNat_le.mpr (Nat.pow_le_pow_right (by decide) (by omega))
        simpa using e
      omega
    refine ⟨_, _, rfl, rfl, _, rfl, _, rfl, _, rfl, 1 + u, rfl, congrArg V.int (by omega), by omega, d, c, _, rfl, hd4, by omega, by omega, fun r H5 r0 r5 hd5 k5 => ?_⟩
    obtain ⟨v, rfl⟩ := Int.eq_ofNat_of_zero_le r0
    exact fin "const" (1 + u) [v] H5 _ ⟨fun e => absurd (show ("const" : Str) = "pick" from e) (by decide +kernel), fun _ => ⟨v, rfl, ltPow (by simpa using r5)⟩, by show 1 ≤ 1 + u; omega, by show 1 + u ≤ 8; omega, by show 1 ≤ 3; omega⟩ (by decide +kernel) hd5 ((k03.trans k4).trans k5) (congrArg (fun z => [V.str "const", V.int z, vI v]) (by omega))
  · refine ⟨_, rfl, _, rfl, _, rfl, d, c, l, ns, 1, rfl, hd3, nld, hA3, h900, hw1, fun i m H4 hm ew hd4 k4 => ?_⟩
    refine ⟨_, rfl, _, rfl, _, rfl, _, rfl, d, c, l, ns, n.w, rfl, hd4, nld, kA _ k4, h900, hwn, fun j m2 H5 hm2 ew2 hd5 k5 => ?_⟩
    have hj := (List.getElem?_eq_some_iff.mp hm2).1
    exact fin "pick" n.w [i, at_, j] H5 _ ⟨fun _ => ⟨i, at_, j, rfl, ⟨n, hn, rfl⟩, ⟨m2, hm2, ew2⟩⟩, fun e => absurd (show ("pick" : Str) = "const" from e) (by decide +kernel), w1, w8, by show 3 ≤ 3; omega⟩ (by decide +kernel) hd5 ((k03.trans k4).trans k5) rfl
end
end Bf

set_option Elab.async false
set_option linter.all false
set_option maxRecDepth 100000
set_option maxHeartbeats 4000000
namespace Bf
open PySem PySem.Spec PyProof.Rows L2
/-! ### a drawn graph -/
def inD (p : Str × Nat) : PyData := .tuple [.str p.1, .int (p.2 : Int)]
def regD4 (r : Str × Nat × Nat × Nat) : PyData := .tuple [.str r.1, .int (r.2.1 : Int), .int (r.2.2.1 : Int), .int (r.2.2.2 : Int)]
theorem Lay.inp {H : Hp} {v : V} {r : Str × Nat} (h : Lay H v (inD r)) : ∃ q, v = .ref q ∧ H q = some (.tup [.str r.1, vI r.2]) := by
  obtain ⟨q, vs, rfl, e, la⟩ := h.tup_inv
  obtain ⟨v0, u0, rfl, l0, lb⟩ := la.cons_inv
  obtain ⟨v1, u1, rfl, l1, lc⟩ := lb.cons_inv
  obtain rfl := lc.nil_inv
  obtain rfl := l0.str_inv
  obtain rfl := l1.int_inv
  exact ⟨q, rfl, e⟩
theorem Lay.sto {H : Hp} {v : V} {r : Str × Nat × Nat} (h : Lay H v (storD r)) : ∃ q, v = .ref q ∧ H q = some (.tup [.str r.1, vI r.2.1, vI r.2.2]) := by
  obtain ⟨q, vs, rfl, e, la⟩ := h.tup_inv
  obtain ⟨v0, u0, rfl, l0, lb⟩ := la.cons_inv
  obtain ⟨v1, u1, rfl, l1, lc⟩ := lb.cons_inv
  obtain ⟨v2, u2, rfl, l2, ld⟩ := lc.cons_inv
  obtain rfl := ld.nil_inv
  obtain rfl := l0.str_inv
  obtain rfl := l1.int_inv
  obtain rfl := l2.int_inv
  exact ⟨q, rfl, e⟩
theorem Lay.rg4 {H : Hp} {v : V} {r : Str × Nat × Nat × Nat} (h : Lay H v (regD4 r)) : ∃ q, v = .ref q ∧ H q = some (.tup [.str r.1, vI r.2.1, vI r.2.2.1, vI r.2.2.2]) := by
  obtain ⟨q, vs, rfl, e, la⟩ := h.tup_inv
  obtain ⟨v0, u0, rfl, l0, lb⟩ := la.cons_inv
  obtain ⟨v1, u1, rfl, l1, lc⟩ := lb.cons_inv
  obtain ⟨v2, u2, rfl, l2, ld⟩ := lc.cons_inv
  obtain ⟨v3, u3, rfl, l3, le⟩ := ld.cons_inv
  obtain rfl := le.nil_inv
  obtain rfl := l0.str_inv
  obtain rfl := l1.int_inv
  obtain rfl := l2.int_inv
  obtain rfl := l3.int_inv
  exact ⟨q, rfl, e⟩
/-- the state of a world that is being made -/
structure GS (H0 H' : Hp) (d c pn : Addr) (n : Nat) : Prop where
  ds : DS H' d c
  nm : Nms H' pn n
  kp : Keep [d] H0 H'
  nd : pn ≠ d
  nc : pn ≠ c
  f0 : H0 pn = none
section
variable {H0 H' : Hp} {d c pn : Addr} {n : Nat}
theorem GS.new {p : Addr} {o : HO} (g : GS H0 H' d c pn n) (h : H' p = none) : GS H0 (upd H' p o) d c pn n := ⟨g.ds.same (same_new h _), g.nm.same (same_new h _), g.kp.trans (.new h), g.nd, g.nc, g.f0⟩
theorem GS.free {p : Addr} (g : GS H0 H' d c pn n) (h : H' p = none) : p ≠ d ∧ p ≠ c ∧ p ≠ pn ∧ H0 p = none := by
  obtain ⟨a, b⟩ := g.ds.new h
  obtain ⟨x, e, _⟩ := g.nm
  exact ⟨a, b, (ne_of_none e h).symm, g.kp.free h (by simp [a])⟩
theorem GS.put {p : Addr} {o : HO} (g : GS H0 H' d c pn n) (f : p ≠ d ∧ p ≠ c ∧ p ≠ pn ∧ H0 p = none) : GS H0 (upd H' p o) d c pn n :=
  ⟨g.ds.keep (S := [p]) Keep.at1 (by simp [f.1.symm]) (by simp [f.2.1.symm]), g.nm.keep (S := [p]) Keep.at1 (by simp [f.2.2.1.symm]), (g.kp.cat (Keep.at1 (a := p))).thin (by simp [f.2.2.2]), g.nd, g.nc, g.f0⟩
theorem GS.draw {H'' : Hp} (g : GS H0 H' d c pn n) (ds : DS H'' d c) (k : Keep [d] H' H'') : GS H0 H'' d c pn n := ⟨ds, g.nm.keep k (by simp [g.nd]), g.kp.trans k, g.nd, g.nc, g.f0⟩
theorem GS.cast {m : Nat} (g : GS H0 H' d c pn n) (e : n = m) : GS H0 H' d c pn m := e ▸ g
theorem GS.tup {H'' : Hp} (g : GS H0 H' d c pn n) (k : Keep [d] H' H'') : KeepT H' H'' := k.tup1 g.ds
/-- what a pop leaves -/
theorem GS.pop {H'' : Hp} {names : List V} {j : Nat} {y : V} (g : GS H0 H' d c pn n) (hn : H' pn = some (.lst names)) (hz : ∀ v ∈ names, ∃ z : Str, v = .str z) (hl : names.length = n) (hy : names[j]? = some y) (ds : DS H'' d c) (hn' : H'' pn = some (.lst (names.eraseIdx j))) (k : Keep [d, pn] H' H'') :
    GS H0 H'' d c pn (n - 1) ∧ ∃ z : Str, y = .str z := by
  refine ⟨⟨ds, ⟨names.eraseIdx j, hn', fun v hv => hz v (List.mem_of_mem_eraseIdx hv), ?_⟩, (g.kp.cat k).thin (by simp [g.f0]), g.nd, g.nc, g.f0⟩, hz y (List.mem_of_getElem? hy)⟩
  rw [List.length_eraseIdx, if_pos (List.getElem?_eq_some_iff.mp hy).1, hl]
end
/-- lists of data that stand at a free place of the beginning -/
structure LS {α : Type} (H0 H' : Hp) (d c pn D : Addr) (f : α → PyData) (acc : List α) : Prop where
  ac : Acc D f acc H'
  fr : D ≠ d ∧ D ≠ c ∧ D ≠ pn ∧ H0 D = none
section
variable {α : Type} {H0 H' H'' : Hp} {d c pn D : Addr} {f : α → PyData} {acc : List α} {n : Nat}
theorem LS.keep {S : List Addr} (h : LS H0 H' d c pn D f acc) (k : Keep S H' H'') (t : KeepT H' H'') (nD : D ∉ S) : LS H0 H'' d c pn D f acc := ⟨h.ac.keep k t nD, h.fr⟩
theorem LS.new {p : Addr} {o : HO} (h : LS H0 H' d c pn D f acc) (e : H' p = none) : LS H0 (upd H' p o) d c pn D f acc := ⟨h.ac.same (same_new e _), h.fr⟩
theorem LS.draw (h : LS H0 H' d c pn D f acc) (g : GS H0 H' d c pn n) (k : Keep [d] H' H'') : LS H0 H'' d c pn D f acc := h.keep k (g.tup k) (by simp [h.fr.1])
theorem LS.pop {names : List V} (h : LS H0 H' d c pn D f acc) (g : GS H0 H' d c pn n) (hn : H' pn = some (.lst names)) (k : Keep [d, pn] H' H'') : LS H0 H'' d c pn D f acc := h.keep k (k.tup2 g.ds hn) (by simp [h.fr.1, h.fr.2.2.1])
theorem LS.ne {p : Addr} (h : LS H0 H' d c pn D f acc) (e : H' p = none) : p ≠ D := let ⟨x, q⟩ := h.ac.at_; (ne_of_none q e).symm
theorem LS.put {p : Addr} {l l' : List V} (h : LS H0 H' d c pn D f acc) (e : H' p = some (.lst l)) (n : D ≠ p) : LS H0 (upd H' p (.lst l')) d c pn D f acc := h.keep (S := [p]) Keep.at1 (.lst e) (by simp [n])
end
/-- lists of which only the length counts -/
structure OL (H0 H' : Hp) (d c pn D : Addr) (n : Nat) : Prop where
  ex : ∃ vs : List V, H' D = some (.lst vs) ∧ vs.length = n
  fr : D ≠ d ∧ D ≠ c ∧ D ≠ pn ∧ H0 D = none
section
variable {H0 H' H'' : Hp} {d c pn D : Addr} {k n : Nat}
theorem OL.keep {S : List Addr} (h : OL H0 H' d c pn D k) (kp : Keep S H' H'') (nD : D ∉ S) : OL H0 H'' d c pn D k := let ⟨vs, e, l⟩ := h.ex; ⟨⟨vs, kp _ _ nD e, l⟩, h.fr⟩
theorem OL.new {p : Addr} {o : HO} (h : OL H0 H' d c pn D k) (e : H' p = none) : OL H0 (upd H' p o) d c pn D k := h.keep (S := []) (.of_same (same_new e _)) (by simp)
theorem OL.draw (h : OL H0 H' d c pn D k) (kp : Keep [d] H' H'') : OL H0 H'' d c pn D k := h.keep kp (by simp [h.fr.1])
theorem OL.pop (h : OL H0 H' d c pn D k) (kp : Keep [d, pn] H' H'') : OL H0 H'' d c pn D k := h.keep kp (by simp [h.fr.1, h.fr.2.2.1])
theorem OL.ne {p : Addr} (h : OL H0 H' d c pn D k) (e : H' p = none) : p ≠ D := let ⟨x, q, _⟩ := h.ex; (ne_of_none q e).symm
theorem OL.put {p : Addr} {o : HO} (h : OL H0 H' d c pn D k) (n : D ≠ p) : OL H0 (upd H' p o) d c pn D k := h.keep (S := [p]) Keep.at1 (by simp [n])
theorem OL.push {y : V} (h : OL H0 H' d c pn D k) (hk : k ≤ 1000) : ∃ vs, H' D = some (.lst vs) ∧ vs.length < sizeLine ∧ OL H0 (upd H' D (.lst (vs ++ [y]))) d c pn D (k + 1) ∧ KeepT H' (upd H' D (.lst (vs ++ [y]))) := by
  obtain ⟨vs, e, l⟩ := h.ex
  exact ⟨vs, e, by rw [l]; exact small1000 hk, ⟨⟨_, upd_same, by rw [List.length_append, l]; rfl⟩, h.fr⟩, .lst e⟩
end
section
variable {α : Type} {H0 H' H'' : Hp} {d c pn D : Addr} {f : α → PyData} {acc : List α} {n : Nat}
theorem LS.push {y : V} {x : α} (h : LS H0 H' d c pn D f acc) (l : Lay H' y (f x)) (hk : acc.length ≤ 1000) :
    ∃ vs, H' D = some (.lst vs) ∧ vs.length < sizeLine ∧ LS H0 (upd H' D (.lst (vs ++ [y]))) d c pn D f (acc ++ [x]) ∧ KeepT H' (upd H' D (.lst (vs ++ [y]))) := by
  obtain ⟨vs, e, hl, a, t⟩ := h.ac.push l hk
  exact ⟨vs, e, hl, ⟨a, h.fr⟩, t⟩
theorem LS.at_ (h : LS H0 H' d c pn D f acc) : ∃ vs : List V, H' D = some (.lst vs) ∧ vs.length = acc.length ∧ LayAll H' vs (acc.map f) := h.ac.get
end
structure Plain (n : Nd) : Prop where
  np : n.op ≠ "pick"
  nc : n.op ≠ "const"
  w1 : 1 ≤ n.w
  w8 : n.w ≤ 8
  len : n.args.length ≤ 3
  st : PyData.strOk n.op = true
theorem Plain.ok {n : Nd} (h : Plain n) (i : List Nd) : n.Ok i := ⟨fun e => absurd e h.np, fun e => absurd e h.nc, h.w1, h.w8, h.len⟩
theorem Good.app {RW : List Nat} {ns : List Nd} (h : Good RW ns) : ∀ ms : List Nd, (∀ n ∈ ms, Plain n ∧ RgOk RW n) → Good RW (ns ++ ms)
  | [], _ => by rwa [List.append_nil]
  | m :: ms, q => by
    have := Good.app (h.snoc ((q m (by simp)).1.ok _) ⟨(q m (by simp)).1.st, (q m (by simp)).2⟩) ms (fun n hn => q n (by simp [hn]))
    rwa [List.append_assoc] at this
theorem HasW.right {ns ms : List Nd} {w : Nat} (h : HasW ms w) : HasW (ns ++ ms) w := by
  obtain ⟨i, n, e, q⟩ := h
  exact ⟨ns.length + i, n, by rw [List.getElem?_append_right (by omega), Nat.add_sub_cancel_left]; exact e, q⟩
theorem inpAt {H : Hp} {vs : List V} {gs : List (Str × Nat)} {i : Nat} (h : LayAll H vs (gs.map inD)) (hi : i < gs.length) : ∃ (r : Str × Nat) (q : Addr), gs[i]? = some r ∧ vs[i]? = some (.ref q) ∧ H q = some (.tup [.str r.1, vI r.2]) := by
  have e : (gs.map inD)[i]? = some (inD gs[i]) := by rw [List.getElem?_map, List.getElem?_eq_getElem hi]; rfl
  obtain ⟨v, hv, l⟩ := h.at_ i e
  obtain ⟨q, rfl, hq⟩ := l.inp
  exact ⟨gs[i], q, List.getElem?_eq_getElem hi, hv, hq⟩
theorem GS.lst {H0 H' : Hp} {d c pn p : Addr} {n : Nat} {ns ms : List Nd} {vs us : List V} (g : GS H0 H' d c pn n) (l1 : LayAll H' vs (ns.map nodeD)) (l2 : LayAll H' us (ms.map nodeD)) (hp : H' p = none) : LS H0 (upd H' p (.lst (vs ++ us))) d c pn p nodeD (ns ++ ms) :=
  ⟨⟨_, upd_same, by rw [List.map_append]; exact (l1.app l2).keep' (.same (same_new hp _))⟩, g.free hp⟩
theorem sN : ("const" : Str) ≠ "pick" ∧ ("input" : Str) ≠ "pick" ∧ ("input" : Str) ≠ "const" ∧ ("reg" : Str) ≠ "pick" ∧ ("reg" : Str) ≠ "const" ∧ ("wide" : Str) ≠ "pick" ∧ ("wide" : Str) ≠ "const" := by decide +kernel
theorem sS : PyData.strOk "const" = true ∧ PyData.strOk "input" = true ∧ PyData.strOk "reg" = true ∧ PyData.strOk "wide" = true ∧ PyData.strOk "pick" = true := by decide +kernel
theorem plI {w i : Nat} (w1 : 1 ≤ w) (w8 : w ≤ 8) : Plain ⟨"input", w, [i]⟩ := ⟨sN.2.1, sN.2.2.1, w1, w8, by simp, sS.2.1⟩
theorem plR {w i : Nat} (w1 : 1 ≤ w) (w8 : w ≤ 8) : Plain ⟨"reg", w, [i]⟩ := ⟨sN.2.2.2.1, sN.2.2.2.2.1, w1, w8, by simp, sS.2.2.1⟩
theorem plW {w i : Nat} (w1 : 1 ≤ w) (w8 : w ≤ 8) : Plain ⟨"wide", w, [i]⟩ := ⟨sN.2.2.2.2.2.1, sN.2.2.2.2.2.2, w1, w8, by simp, sS.2.2.2.1⟩
theorem sR : ("const" : Str) ≠ "reg" ∧ ("input" : Str) ≠ "reg" ∧ ("wide" : Str) ≠ "reg" ∧ ("pick" : Str) ≠ "reg" := by decide +kernel
theorem okC {w v : Nat} {i : List Nd} (hv : v < 2 ^ w) (w1 : 1 ≤ w) (w8 : w ≤ 8) : (Nd.mk "const" w [v]).Ok i := ⟨fun e => absurd e sN.1, fun _ => ⟨v, rfl, hv⟩, w1, w8, by simp⟩
theorem pw8 {w : Nat} (h : w ≤ 8) : (1 : Int) ≤ 2 ^ w ∧ (2 : Int) ^ w < 1073741824 := by
  have p1 : (0 : Int) < 2 ^ w := Int.pow_pos (by decide)
  have e : ((2 ^ w : Nat) : Int) ≤ ((2 ^ 8 : Nat) : Int) := Int.ofNat_le.mpr (Nat.pow_le_pow_right (by decide) h)
  have e2 : (2 : Int) ^ w ≤ 2 ^ 8 := by simpa using e
  exact ⟨by omega, by omega⟩
theorem storAt {H : Hp} {vs : List V} {gs : List (Str × Nat × Nat)} {i : Nat} (h : LayAll H vs (gs.map storD)) (hi : i < gs.length) : ∃ (r : Str × Nat × Nat) (q : Addr), gs[i]? = some r ∧ vs[i]? = some (.ref q) ∧ H q = some (.tup [.str r.1, vI r.2.1, vI r.2.2]) := by
  have e : (gs.map storD)[i]? = some (storD gs[i]) := by rw [List.getElem?_map, List.getElem?_eq_getElem hi]; rfl
  obtain ⟨v, hv, l⟩ := h.at_ i e
  obtain ⟨q, rfl, hq⟩ := l.sto
  exact ⟨gs[i], q, List.getElem?_eq_getElem hi, hv, hq⟩
def RsOk (rs : List (Str × Nat × Nat × Nat)) (ns : List Nd) : Prop := ∀ r ∈ rs, 1 ≤ r.2.1 ∧ r.2.1 ≤ 8 ∧ r.2.2.2 < ns.length ∧ HasW ns r.2.1 ∧ r.2.2.1 < 2 ^ r.2.1 ∧ WAt ns r.2.2.2 r.2.1
theorem RsOk.app {rs : List (Str × Nat × Nat × Nat)} {ns ms : List Nd} (h : RsOk rs ns) : RsOk rs (ns ++ ms) := fun r hr => by
  obtain ⟨a, b, e, k⟩ := h r hr
  exact ⟨a, b, by rw [List.length_append]; omega, k.1.app, k.2.1, k.2.2.app⟩
structure Gr where
  ni : Nat
  ns : List Nd
  rs : List (Str × Nat × Nat × Nat)
structure Gr.Ok (G : Gr) : Prop where
  good : Good (G.rs.map fun r => r.2.1) G.ns
  w1 : HasW G.ns 1
  regs : RsOk G.rs G.ns
  one : 1 ≤ G.ns.length
structure GrAt (H : Hp) (p pi pn pr po : Addr) (v4 v6 : V) (xi vn vr xo : List V) (G : Gr) : Prop where
  top : H p = some (.tup [.str "graph", .ref pi, .ref pn, .ref pr, v4, .ref po, v6])
  hi : H pi = some (.tup xi)
  li : xi.length = G.ni
  hn : H pn = some (.tup vn)
  ln : LayAll H vn (G.ns.map nodeD)
  hr : H pr = some (.tup vr)
  lr : LayAll H vr (G.rs.map regD4)
  ho : H po = some (.tup xo)
theorem GrAt.keep {H H' : Hp} {p pi pn pr po : Addr} {v4 v6 : V} {xi vn vr xo : List V} {G : Gr} (h : GrAt H p pi pn pr po v4 v6 xi vn vr xo G) (k : KeepT H H') : GrAt H' p pi pn pr po v4 v6 xi vn vr xo G :=
  ⟨k _ _ h.top, k _ _ h.hi, h.li, k _ _ h.hn, h.ln.keep' k, k _ _ h.hr, h.lr.keep' k, k _ _ h.ho⟩
def GrV (H : Hp) (v : V) (G : Gr) : Prop := ∃ (p pi pn pr po : Addr) (v4 v6 : V) (xi vn vr xo : List V), v = .ref p ∧ xo.length ≤ 20 ∧ GrAt H p pi pn pr po v4 v6 xi vn vr xo G
def spGraph : Sp := fun vs H Q _ => ∃ (d c : Addr) (a b m k most : Nat), vs = [.ref d, vI a, vI b, vI m, vI k, vI most] ∧ DS H d c ∧ a ≤ 3 ∧ b ≤ 4 ∧ m ≤ 3 ∧ k ≤ 30 ∧ 1 ≤ most ∧ most ≤ 8 ∧
  ∀ (v : V) (G : Gr) (H' : Hp), GrV H' v G → G.Ok → G.ni = a → G.rs.length = b → G.ns.length ≤ 100 → (∀ r ∈ G.rs, r.2.1 ≤ most) → DS H' d c → Keep [d] H H' → Q v H'
section
variable {P : Program} {w : World} {K : PySem.W.Frag} {mg : Str → Option Value} {base : Heap} {f : Addr} {fd : FuncData}
theorem ok_graph (F : Fun K "_law_graph" "_law_graph" s_law_graph f fd) (T : Txt mg) (D_law_draw : Dn P w K mg base "_law_draw" ["_law_d", "_law_many"] 1 spDraw) (D_law_pop : Dn P w K mg base "_law_pop" ["_law_d", "_law_row"] 2 spPop)
    (D_law_pool : Dn P w K mg base "_law_pool" [] 1 spPool) (D_law_of_width : Dn P w K mg base "_law_of_width" ["_law_d", "_law_nodes", "_law_width"] 3 spOfW)
    (D_law_new_node : Dn P w K mg base "_law_new_node" ["_law_d", "_law_nodes", "_law_stores", "_law_most"] 4 spNewNode) :
    FnOk P w K mg base CX0 5 f fd ["_law_d", "_law_inputs", "_law_regs", "_law_mems", "_law_nodes", "_law_most"] spGraph := by
  refine F.ok sc_law_graph (fun vs H Q E h => ?_) (fun cdv A outer s H vs Q E hr h => ?_)
  · obtain ⟨d, c, a, b, m, k, most, rfl, _⟩ := h
    rfl
  obtain ⟨d, c, a, b, m, k, most, rfl, hd, ha, hb, hm, hk, m1, m8, q⟩ := h
  refine ⟨_, (pss_cons (ps_set (i := 6) sc_law_graph.nd rfl (Or.inr rfl) (pe_dn0 D_law_pool (hr.mono (by omega)) (by rfl)))
      (pss_cons (ps_set (i := 8) sc_law_graph.nd rfl (Or.inr rfl) (pe_callTy call_tuple_of (by rfl) T.n_tuple (by decide +kernel) (pa_cons (pe_lc (own := [("_law_k", 7)]) (g := (gName 7)) (tt := tYes) rfl sc_law_graph.nd (pi_range1 rfl T.n_range (pa_cons (pv 1) pa_nil)) (blkOk_by (N := ["_law_d", "_law_inputs", "_law_regs", "_law_mems", "_law_nodes", "_law_most", "_law_names", "_law_k", "_law_given", "_law_kept", "_law_stores", "_law_found", "_law_name", "_law_wide", "_law_rows", "_law_mems_told", "_law_size", "_law_writes", "_law_shown", "_law_asked"]) (sc := defScope s_law_graph) (by decide +kernel)) (fun _ _ _ _ _ => (pg_name (i := 7) sc_law_graph.nd rfl (Or.inl rfl))) (fun _ _ _ _ _ => pts_nil) (fun _ _ _ _ _ => (pe_tup (pa_cons (pe_dn D_law_pop (hr.mono (by omega)) (by rfl) (pa_cons (pv 0) (pa_cons (pv 6) pa_nil))) (pa_cons (pe_op op_add pe_int (pe_dn D_law_draw (hr.mono (by omega)) (by rfl) (pa_cons (pv 0) (pa_cons (pv 5) pa_nil)))) pa_nil))))) pa_nil)))
      (pss_cons (ps_set (i := 9) sc_law_graph.nd rfl (Or.inr rfl) (pe_lc (own := [("_law_k", 7)]) (g := (gName 7)) (tt := tYes) rfl sc_law_graph.nd (pi_range1 rfl T.n_range (pa_cons (pv 2) pa_nil)) (blkOk_by (N := ["_law_d", "_law_inputs", "_law_regs", "_law_mems", "_law_nodes", "_law_most", "_law_names", "_law_k", "_law_given", "_law_kept", "_law_stores", "_law_found", "_law_name", "_law_wide", "_law_rows", "_law_mems_told", "_law_size", "_law_writes", "_law_shown", "_law_asked"]) (sc := defScope s_law_graph) (by decide +kernel)) (fun _ _ _ _ _ => (pg_name (i := 7) sc_law_graph.nd rfl (Or.inl rfl))) (fun _ _ _ _ _ => pts_nil) (fun _ _ _ _ _ => (pe_tup (pa_cons (pe_dn D_law_pop (hr.mono (by omega)) (by rfl) (pa_cons (pv 0) (pa_cons (pv 6) pa_nil))) (pa_cons (pe_op op_add pe_int (pe_dn D_law_draw (hr.mono (by omega)) (by rfl) (pa_cons (pv 0) (pa_cons (pv 5) pa_nil)))) pa_nil))))))
      (pss_cons (ps_setLc (i := 10) (own := [("_law_k", 7)]) (g := (gName 7)) (tt := tYes) rfl sc_law_graph.nd rfl rfl (sw_true rfl rfl rfl (by decide +kernel)) (pi_range1 rfl T.n_range (pa_cons (pv 3) pa_nil)) (blkOk_by (N := ["_law_d", "_law_inputs", "_law_regs", "_law_mems", "_law_nodes", "_law_most", "_law_names", "_law_k", "_law_given", "_law_kept", "_law_stores", "_law_found", "_law_name", "_law_wide", "_law_rows", "_law_mems_told", "_law_size", "_law_writes", "_law_shown", "_law_asked"]) (sc := defScope s_law_graph) (by decide +kernel)) (fun _ _ _ _ _ => (pg_name (i := 7) sc_law_graph.nd rfl (Or.inl rfl))) (fun _ _ _ _ _ => pts_nil) (fun _ _ _ _ _ => (pe_tup (pa_cons (pe_dn D_law_pop (hr.mono (by omega)) (by rfl) (pa_cons (pv 0) (pa_cons (pv 6) pa_nil))) (pa_cons (pe_op op_add pe_int (pe_dn D_law_draw (hr.mono (by omega)) (by rfl) (pa_cons (pv 0) (pa_cons (pv 5) pa_nil)))) (pa_cons (pe_op op_add pe_int (pe_dn D_law_draw (hr.mono (by omega)) (by rfl) (pa_cons (pv 0) (pa_cons pe_int pa_nil)))) pa_nil))))))
      (pss_cons (ps_set (i := 11) sc_law_graph.nd rfl (Or.inr rfl) (pe_lst (pa_cons (pe_tup (pa_cons pe_str (pa_cons pe_int (pa_cons (pe_dn D_law_draw (hr.mono (by omega)) (by rfl) (pa_cons (pv 0) (pa_cons pe_int pa_nil))) pa_nil)))) pa_nil)))
      (pss_cons (ps_set (i := 11) sc_law_graph.nd rfl (Or.inr rfl) (pe_op op_cat (pv 11) (pe_lc (own := [("_law_k", 7)]) (g := (gName 7)) (tt := tYes) rfl sc_law_graph.nd (pi_range1 rfl T.n_range (pa_cons (pv 1) pa_nil)) (blkOk_by (N := ["_law_d", "_law_inputs", "_law_regs", "_law_mems", "_law_nodes", "_law_most", "_law_names", "_law_k", "_law_given", "_law_kept", "_law_stores", "_law_found", "_law_name", "_law_wide", "_law_rows", "_law_mems_told", "_law_size", "_law_writes", "_law_shown", "_law_asked"]) (sc := defScope s_law_graph) (by decide +kernel)) (fun _ _ _ _ _ => (pg_name (i := 7) sc_law_graph.nd rfl (Or.inl rfl))) (fun _ _ _ _ _ => pts_nil) (fun _ _ _ _ _ => (pe_tup (pa_cons pe_str (pa_cons (pe_ix (ix_tup : IxR _ (rIxT K)) (pe_ix (ix_tup : IxR _ (rIxT K)) (pv 8) (pv 7) (fun _ _ => rfl)) pe_int (fun _ _ => rfl)) (pa_cons (pv 7) pa_nil))))))))
      (pss_cons (ps_set (i := 11) sc_law_graph.nd rfl (Or.inr rfl) (pe_op op_cat (pv 11) (pe_lc (own := [("_law_k", 7)]) (g := (gName 7)) (tt := tYes) rfl sc_law_graph.nd (pi_range1 rfl T.n_range (pa_cons (pv 2) pa_nil)) (blkOk_by (N := ["_law_d", "_law_inputs", "_law_regs", "_law_mems", "_law_nodes", "_law_most", "_law_names", "_law_k", "_law_given", "_law_kept", "_law_stores", "_law_found", "_law_name", "_law_wide", "_law_rows", "_law_mems_told", "_law_size", "_law_writes", "_law_shown", "_law_asked"]) (sc := defScope s_law_graph) (by decide +kernel)) (fun _ _ _ _ _ => (pg_name (i := 7) sc_law_graph.nd rfl (Or.inl rfl))) (fun _ _ _ _ _ => pts_nil) (fun _ _ _ _ _ => (pe_tup (pa_cons pe_str (pa_cons (pe_ix (ix_tup : IxR _ (rIxT K)) (pe_ix (ix_list : IxR _ (rIxL K)) (pv 9) (pv 7) (fun _ _ => rfl)) pe_int (fun _ _ => rfl)) (pa_cons (pv 7) pa_nil))))))))
      (pss_cons (ps_for PassesOwn.never rfl (pi_range1 rfl T.n_range (pa_cons (pv 4) pa_nil)) (pg_name (i := 7) sc_law_graph.nd rfl (Or.inl rfl)) (pss_one (ps_expr (pe_bm PySem.F.plainAttrs_list PySem.F.slot_list_append PySem.F.type_list_append mt_append (pv 11) (pa_cons (pe_dn D_law_new_node (hr.mono (by omega)) (by rfl) (pa_cons (pv 0) (pa_cons (pv 11) (pa_cons (pv 10) (pa_cons (pv 5) pa_nil))))) pa_nil)))))
      (pss_cons (ps_setLc (i := 14) (own := [("_law_name", 12), ("_law_wide", 13)]) (g := (gTup K 2 (gCons (gName 12) (gCons (gName 13) gNil)))) (tt := tYes) rfl sc_law_graph.nd rfl rfl (sw_true rfl rfl rfl (by decide +kernel)) (pi_list (pv 9)) (blkOk_by (N := ["_law_d", "_law_inputs", "_law_regs", "_law_mems", "_law_nodes", "_law_most", "_law_names", "_law_k", "_law_given", "_law_kept", "_law_stores", "_law_found", "_law_name", "_law_wide", "_law_rows", "_law_mems_told", "_law_size", "_law_writes", "_law_shown", "_law_asked"]) (sc := defScope s_law_graph) (by decide +kernel)) (fun _ _ _ _ _ => (pg_tup rfl (pgs_cons (pg_name (i := 12) sc_law_graph.nd rfl (Or.inl rfl)) (pgs_cons (pg_name (i := 13) sc_law_graph.nd rfl (Or.inl rfl)) pgs_nil)))) (fun _ _ _ _ _ => pts_nil) (fun _ _ _ _ _ => (pe_tup (pa_cons (pv 12) (pa_cons (pv 13) (pa_cons (pe_dn D_law_draw (hr.mono (by omega)) (by rfl) (pa_cons (pv 0) (pa_cons (pe_op op_oneShl pe_int (pv 13)) pa_nil))) (pa_cons (pe_dn D_law_of_width (hr.mono (by omega)) (by rfl) (pa_cons (pv 0) (pa_cons (pv 11) (pa_cons (pv 13) pa_nil)))) pa_nil)))))))
      (pss_cons (ps_set (i := 15) sc_law_graph.nd rfl (Or.inl rfl) (pe_lst pa_nil))
      (pss_cons (ps_for PassesOwn.never rfl (pi_list (pv 10)) (pg_tup rfl (pgs_cons (pg_name (i := 12) sc_law_graph.nd rfl (Or.inl rfl)) (pgs_cons (pg_name (i := 13) sc_law_graph.nd rfl (Or.inl rfl)) (pgs_cons (pg_name (i := 16) sc_law_graph.nd rfl (Or.inl rfl)) pgs_nil)))) (pss_cons (ps_set (i := 17) sc_law_graph.nd rfl (Or.inl rfl) (pe_lst pa_nil))
      (pss_cons (ps_for PassesOwn.never rfl (pi_range1 rfl T.n_range (pa_cons (pe_dn D_law_draw (hr.mono (by omega)) (by rfl) (pa_cons (pv 0) (pa_cons pe_int pa_nil))) pa_nil)) (pg_name (i := 7) sc_law_graph.nd rfl (Or.inl rfl)) (pss_cons (ps_expr (pe_bm PySem.F.plainAttrs_list PySem.F.slot_list_append PySem.F.type_list_append mt_append (pv 11) (pa_cons (pe_tup (pa_cons pe_str (pa_cons (pv 13) (pa_cons (pe_dn D_law_draw (hr.mono (by omega)) (by rfl) (pa_cons (pv 0) (pa_cons (pe_callB call_len_seq (by rfl) T.n_len (by decide +kernel) (pa_cons (pv 11) pa_nil)) pa_nil))) pa_nil)))) pa_nil)))
      (pss_one (ps_expr (pe_bm PySem.F.plainAttrs_list PySem.F.slot_list_append PySem.F.type_list_append mt_append (pv 17) (pa_cons (pe_tup (pa_cons (pe_dn D_law_of_width (hr.mono (by omega)) (by rfl) (pa_cons (pv 0) (pa_cons (pv 11) (pa_cons pe_int pa_nil)))) (pa_cons (pe_dn D_law_draw (hr.mono (by omega)) (by rfl) (pa_cons (pv 0) (pa_cons (pe_callB call_len_seq (by rfl) T.n_len (by decide +kernel) (pa_cons (pv 11) pa_nil)) pa_nil))) (pa_cons (pe_op op_sub (pe_callB call_len_seq (by rfl) T.n_len (by decide +kernel) (pa_cons (pv 11) pa_nil)) pe_int) pa_nil)))) pa_nil))))))
      (pss_one (ps_expr (pe_bm PySem.F.plainAttrs_list PySem.F.slot_list_append PySem.F.type_list_append mt_append (pv 15) (pa_cons (pe_tup (pa_cons (pv 12) (pa_cons (pv 13) (pa_cons (pv 16) (pa_cons (pe_callTy call_tuple_of (by rfl) T.n_tuple (by decide +kernel) (pa_cons (pv 17) pa_nil)) pa_nil))))) pa_nil)))))))
      (pss_cons (ps_setLc (i := 18) (own := [("_law_k", 7)]) (g := (gName 7)) (tt := tYes) rfl sc_law_graph.nd rfl rfl (sw_true rfl rfl rfl (by decide +kernel)) (pi_range1 rfl T.n_range (pa_cons pe_int pa_nil)) (blkOk_by (N := ["_law_d", "_law_inputs", "_law_regs", "_law_mems", "_law_nodes", "_law_most", "_law_names", "_law_k", "_law_given", "_law_kept", "_law_stores", "_law_found", "_law_name", "_law_wide", "_law_rows", "_law_mems_told", "_law_size", "_law_writes", "_law_shown", "_law_asked"]) (sc := defScope s_law_graph) (by decide +kernel)) (fun _ _ _ _ _ => (pg_name (i := 7) sc_law_graph.nd rfl (Or.inl rfl))) (fun _ _ _ _ _ => pts_nil) (fun _ _ _ _ _ => (pe_tup (pa_cons (pe_dn D_law_pop (hr.mono (by omega)) (by rfl) (pa_cons (pv 0) (pa_cons (pv 6) pa_nil))) (pa_cons (pe_callB (cr_maxN rfl) (by rfl) T.n_max (by decide +kernel) (pa_cons (pe_dn D_law_draw (hr.mono (by omega)) (by rfl) (pa_cons (pv 0) (pa_cons (pe_callB (call_lenK : CallR _ (.builtin "len") (rLenK K)) (by rfl) T.n_len (by decide +kernel) (pa_cons (pv 11) pa_nil)) pa_nil))) (pa_cons (pe_dn D_law_draw (hr.mono (by omega)) (by rfl) (pa_cons (pv 0) (pa_cons (pe_callB (call_lenK : CallR _ (.builtin "len") (rLenK K)) (by rfl) T.n_len (by decide +kernel) (pa_cons (pv 11) pa_nil)) pa_nil))) pa_nil))) pa_nil)))))
      (pss_cons (ps_setLc (i := 19) (own := [("_law_k", 7)]) (g := (gName 7)) (tt := tYes) rfl sc_law_graph.nd rfl rfl (sw_true rfl rfl rfl (by decide +kernel)) (pi_range1 rfl T.n_range (pa_cons (pe_dn D_law_draw (hr.mono (by omega)) (by rfl) (pa_cons (pv 0) (pa_cons pe_int pa_nil))) pa_nil)) (blkOk_by (N := ["_law_d", "_law_inputs", "_law_regs", "_law_mems", "_law_nodes", "_law_most", "_law_names", "_law_k", "_law_given", "_law_kept", "_law_stores", "_law_found", "_law_name", "_law_wide", "_law_rows", "_law_mems_told", "_law_size", "_law_writes", "_law_shown", "_law_asked"]) (sc := defScope s_law_graph) (by decide +kernel)) (fun _ _ _ _ _ => (pg_name (i := 7) sc_law_graph.nd rfl (Or.inl rfl))) (fun _ _ _ _ _ => pts_nil) (fun _ _ _ _ _ => (pe_tup (pa_cons (pe_dn D_law_pop (hr.mono (by omega)) (by rfl) (pa_cons (pv 0) (pa_cons (pv 6) pa_nil))) (pa_cons (pe_dn D_law_of_width (hr.mono (by omega)) (by rfl) (pa_cons (pv 0) (pa_cons (pv 11) (pa_cons pe_int pa_nil)))) pa_nil)))))
      (pss_one (ps_ret (pe_tup (pa_cons pe_str (pa_cons (pv 8) (pa_cons (pe_callTy call_tuple_of (by rfl) T.n_tuple (by decide +kernel) (pa_cons (pv 11) pa_nil)) (pa_cons (pe_callTy call_tuple_of (by rfl) T.n_tuple (by decide +kernel) (pa_cons (pv 14) pa_nil)) (pa_cons (pe_callTy call_tuple_of (by rfl) T.n_tuple (by decide +kernel) (pa_cons (pv 15) pa_nil)) (pa_cons (pe_callTy call_tuple_of (by rfl) T.n_tuple (by decide +kernel) (pa_cons (pv 18) pa_nil)) (pa_cons (pe_callTy call_tuple_of (by rfl) T.n_tuple (by decide +kernel) (pa_cons (pv 19) pa_nil)) pa_nil))))))))))))))))))))))), ?_⟩
  refine ⟨rfl, fun pn xs hpn hx => ?_⟩
  obtain ⟨nnd, nnc⟩ := hd.new hpn
  have g : GS H (upd H pn (.lst (xs.map V.str))) d c pn 61 := ⟨hd.same (same_new hpn _), ⟨_, upd_same, fun v hv => (let ⟨z, _, e⟩ := List.mem_map.mp hv; ⟨z, e.symm⟩), by rw [List.length_map, hx]⟩, Keep.new hpn, nnd, nnc, hpn⟩
  generalize upd H pn (.lst (xs.map V.str)) = H1 at g ⊢
  -- the inputs
  refine ⟨_, rfl, (a : Int), rfl, (i62 (by omega)).1, (i62 (by omega)).2, fun D hD => ?_⟩
  have fD := g.free hD
  refine lc_range (lo := 0) (n := a) (fun i H' => ∃ acc : List (Str × Nat), Acc D inD acc H' ∧ acc.length = i ∧ (∀ r ∈ acc, 1 ≤ r.2 ∧ r.2 ≤ 8) ∧ GS H H' d c pn (61 - i))
    ⟨[], .nil, rfl, fun r hr => by simp at hr, g.new hD⟩ (fun i H2 hi p => ?_) (fun H2 p => ?_)
  · obtain ⟨acc, hA, hl, hg, g2⟩ := p
    have hi : i < a := hi
    obtain ⟨names, hn, hz, hl61⟩ := g2.nm
    refine ⟨rfl, _, rfl, _, rfl, d, c, pn, names, rfl, g2.ds, hn, nnd, nnc, by omega, by omega, fun j y H4 hy hd4 hn4 k4 => ?_⟩
    obtain ⟨g4, z, rfl⟩ := g2.pop hn hz hl61 hy hd4 hn4 k4
    have hA4 := hA.keep k4 (k4.tup2 g2.ds hn) (by simp [fD.1, fD.2.2.1])
    refine ⟨_, rfl, _, rfl, d, c, _, rfl, hd4, by omega, by omega, fun r H5 r0 r1 hd5 k5 => ?_⟩
    obtain ⟨u, rfl⟩ := Int.eq_ofNat_of_zero_le r0
    have g5 := g4.draw hd5 k5
    have hA5 := hA4.keep k5 (k5.tup1 hd4) (by simp [fD.1])
    refine ⟨_, _, rfl, rfl, (by show 2 ≤ sizeLine; decide), fun t ht => ?_⟩
    dsimp only
    rw [show V.int (1 + (u : Int)) = vI (1 + u) from congrArg V.int (by omega)]
    obtain ⟨vs, e, hlen, hA6, t6⟩ := (hA5.same (same_new ht (.tup [.str z, vI (1 + u)]))).push (x := (z, 1 + u)) (.tup upd_same (.cons (.str _) (.cons (.int _) .nil))) (by omega)
    refine ⟨vs, e, hlen, acc ++ [(z, 1 + u)], hA6, by rw [List.length_append, hl]; rfl, fun r hr => ?_, ((g5.new ht).put fD).cast (by omega)⟩
    rcases List.mem_append.mp hr with y | y
    · exact hg r y
    · rw [List.mem_singleton.mp y]
      exact ⟨by show 1 ≤ 1 + u; omega, by show 1 + u ≤ 8; omega⟩
  obtain ⟨gs, ⟨vg, eg, lg⟩, hgl, hgg, g2⟩ := p
  have lvg : vg.length = a := by simpa [hgl] using lg.len
  refine ⟨D, vg, rfl, .inl ⟨SqL.of eg, fun pi hpi => ?_⟩⟩
  have g3 := g2.new (o := .tup vg) hpi
  have hP : upd H2 pi (.tup vg) pi = some (.tup vg) := upd_same
  have lg3 := lg.keep' (.same (same_new hpi (.tup vg)))
  have kt0 : KeepT (upd H2 pi (.tup vg)) (upd H2 pi (.tup vg)) := .refl _
  generalize upd H2 pi (.tup vg) = Ht at g3 hP lg3 kt0 ⊢
  clear eg lg g2 hpi
  -- the registers
  refine ⟨_, rfl, (b : Int), rfl, (i62 (by omega)).1, (i62 (by omega)).2, fun Dk hDk => ?_⟩
  have fDk := g3.free hDk
  refine lc_range (lo := 0) (n := b) (fun i H' => ∃ acc : List (Str × Nat), Acc Dk inD acc H' ∧ acc.length = i ∧ (∀ r ∈ acc, 1 ≤ r.2 ∧ r.2 ≤ 8 ∧ r.2 ≤ most) ∧ GS H H' d c pn (61 - a - i) ∧ KeepT Ht H')
    ⟨[], .nil, rfl, fun r hr => by simp at hr, g3.new hDk, .same (same_new hDk _)⟩ (fun i H2 hi p => ?_) (fun H2 p => ?_)
  · obtain ⟨acc, hA, hl, hg, g2, kt⟩ := p
    have hi : i < b := hi
    obtain ⟨names, hn, hz, hl61⟩ := g2.nm
    refine ⟨rfl, _, rfl, _, rfl, d, c, pn, names, rfl, g2.ds, hn, nnd, nnc, by omega, by omega, fun j y H4 hy hd4 hn4 k4 => ?_⟩
    obtain ⟨g4, z, rfl⟩ := g2.pop hn hz hl61 hy hd4 hn4 k4
    have t4 := k4.tup2 g2.ds hn
    have hA4 := hA.keep k4 t4 (by simp [fDk.1, fDk.2.2.1])
    refine ⟨_, rfl, _, rfl, d, c, _, rfl, hd4, by omega, by omega, fun r H5 r0 r1 hd5 k5 => ?_⟩
    obtain ⟨u, rfl⟩ := Int.eq_ofNat_of_zero_le r0
    have g5 := g4.draw hd5 k5
    have t5 := k5.tup1 hd4
    have hA5 := hA4.keep k5 t5 (by simp [fDk.1])
    refine ⟨_, _, rfl, rfl, (by show 2 ≤ sizeLine; decide), fun t ht => ?_⟩
    dsimp only
    rw [show V.int (1 + (u : Int)) = vI (1 + u) from congrArg V.int (by omega)]
    obtain ⟨vs, e, hlen, hA6, t6⟩ := (hA5.same (same_new ht (.tup [.str z, vI (1 + u)]))).push (x := (z, 1 + u)) (.tup upd_same (.cons (.str _) (.cons (.int _) .nil))) (by omega)
    refine ⟨vs, e, hlen, acc ++ [(z, 1 + u)], hA6, by rw [List.length_append, hl]; rfl, fun r hr => ?_, ((g5.new ht).put fDk).cast (by omega), ((kt.trans t4).trans t5).trans ((KeepT.same (same_new ht _)).trans t6)⟩
    rcases List.mem_append.mp hr with y | y
    · exact hg r y
    · rw [List.mem_singleton.mp y]
      exact ⟨by show 1 ≤ 1 + u; omega, by show 1 + u ≤ 8; omega, by show 1 + u ≤ most; omega⟩
  obtain ⟨ks, hKs, hkl, hkg, g4, kt1⟩ := p
  have lk : LS H H2 d c pn Dk inD ks := ⟨hKs, fDk⟩
  clear hKs
  -- the stores
  refine ⟨_, rfl, (m : Int), rfl, (i62 (by omega)).1, (i62 (by omega)).2, fun Ds hDs => ?_⟩
  have fDs := g4.free hDs
  have nks := lk.ne hDs
  refine lc_range (lo := 0) (n := m) (fun i H' => ∃ acc : List (Str × Nat × Nat), Acc Ds storD acc H' ∧ acc.length = i ∧ (∀ r ∈ acc, 1 ≤ r.2.1 ∧ r.2.1 ≤ 8) ∧ GS H H' d c pn (61 - a - b - i) ∧ LS H H' d c pn Dk inD ks ∧ KeepT Ht H')
    ⟨[], .nil, rfl, fun r hr => by simp at hr, g4.new hDs, lk.new hDs, kt1.trans (.same (same_new hDs _))⟩ (fun i H3 hi p => ?_) (fun H3 p => ?_)
  · obtain ⟨acc, hA, hl, hg, g5, lk, kt⟩ := p
    have hi : i < m := hi
    obtain ⟨names, hn, hz, hl61⟩ := g5.nm
    refine ⟨rfl, _, rfl, _, rfl, d, c, pn, names, rfl, g5.ds, hn, nnd, nnc, by omega, by omega, fun j y H4 hy hd4 hn4 k4 => ?_⟩
    obtain ⟨g6, z, rfl⟩ := g5.pop hn hz hl61 hy hd4 hn4 k4
    have t4 := k4.tup2 g5.ds hn
    have hA4 := hA.keep k4 t4 (by simp [fDs.1, fDs.2.2.1])
    have lk4 := lk.pop g5 hn k4
    refine ⟨_, rfl, _, rfl, d, c, _, rfl, hd4, by omega, by omega, fun r H5 r0 r1 hd5 k5 => ?_⟩
    obtain ⟨u, rfl⟩ := Int.eq_ofNat_of_zero_le r0
    have g7 := g6.draw hd5 k5
    have t5 := k5.tup1 hd4
    have hA5 := hA4.keep k5 t5 (by simp [fDs.1])
    have lk5 := lk4.draw g6 k5
    refine ⟨_, _, rfl, rfl, _, rfl, d, c, _, rfl, hd5, by decide, by decide, fun r H6 r0 r2 hd6 k6 => ?_⟩
    obtain ⟨u2, rfl⟩ := Int.eq_ofNat_of_zero_le r0
    have g8 := g7.draw hd6 k6
    have t6 := k6.tup1 hd5
    have hA6 := hA5.keep k6 t6 (by simp [fDs.1])
    have lk6 := lk5.draw g7 k6
    refine ⟨_, _, rfl, rfl, (by show 3 ≤ sizeLine; decide), fun t ht => ?_⟩
    dsimp only
    rw [show V.int (1 + (u : Int)) = vI (1 + u) from congrArg V.int (by omega), show V.int (1 + (u2 : Int)) = vI (1 + u2) from congrArg V.int (by omega)]
    obtain ⟨vs, e, hlen, hA7, t7⟩ := (hA6.same (same_new ht (.tup [.str z, vI (1 + u), vI (1 + u2)]))).push (x := (z, 1 + u, 1 + u2)) (.tup upd_same (.cons (.str _) (.cons (.int _) (.cons (.int _) .nil)))) (by omega)
    refine ⟨vs, e, hlen, acc ++ [(z, 1 + u, 1 + u2)], hA7, by rw [List.length_append, hl]; rfl, fun r hr => ?_, ((g8.new ht).put fDs).cast (by omega), (lk6.new ht).put e nks.symm, (((kt.trans t4).trans t5).trans t6).trans ((KeepT.same (same_new ht _)).trans t7)⟩
    rcases List.mem_append.mp hr with y | y
    · exact hg r y
    · rw [List.mem_singleton.mp y]
      exact ⟨by show 1 ≤ 1 + u; omega, by show 1 + u ≤ 8; omega⟩
  obtain ⟨ss, hSs, hsl, hsg, g5, lk, kt2⟩ := p
  have ls : LS H H3 d c pn Ds storD ss := ⟨hSs, fDs⟩
  clear hSs g3 g4 fDs fDk fD hDk hDs nks g
  -- the nodes
  refine ⟨_, rfl, d, c, _, rfl, g5.ds, by decide, by decide, fun r H4 r0 r2 hd4 k4 => ?_⟩
  obtain ⟨u, rfl⟩ := Int.eq_ofNat_of_zero_le r0
  have g6 := g5.draw hd4 k4
  have kt3 := kt2.trans (g5.tup k4)
  have lk1 := lk.draw g5 k4
  have ls1 := ls.draw g5 k4
  refine ⟨(by show 3 ≤ sizeLine; decide), fun t ht => ⟨(by show 1 ≤ sizeLine; decide), fun L hL => ?_⟩⟩
  have g7 := (g6.new (o := .tup [.str "const", .int 1, .int (u : Int)]) ht).new (o := .lst [.ref t]) hL
  have kt4 := (kt3.trans (.same (same_new ht (.tup [.str "const", .int 1, .int (u : Int)])))).trans (.same (same_new hL (.lst [.ref t])))
  have lk2 := (lk1.new (o := .tup [.str "const", .int 1, .int (u : Int)]) ht).new (o := .lst [.ref t]) hL
  have ls2 := (ls1.new (o := .tup [.str "const", .int 1, .int (u : Int)]) ht).new (o := .lst [.ref t]) hL
  have lf : LS H _ d c pn L nodeD [⟨"const", 1, [u]⟩] := ⟨⟨[.ref t], upd_same, .cons ((Lay.mkNode (op := "const") (w := 1) (args := [u]) upd_same).keep (.same (same_new hL (.lst [.ref t])))) .nil⟩, (g6.new (o := .tup [.str "const", .int 1, .int (u : Int)]) ht).free hL⟩
  have gd : Good (ks.map fun r => r.2) [⟨"const", 1, [u]⟩] := ⟨fun i n e => ?_, fun n hn => ?_, fun n hn => ?_⟩
  rotate_left
  · cases i with
    | zero =>
      cases e
      exact okC (show u < 2 by omega) (by decide) (by decide)
    | succ i => simp at e
  · rw [List.mem_singleton.mp hn]
    exact sS.1
  · rw [List.mem_singleton.mp hn]
    exact .no sR.1
  have hw1 : HasW [⟨"const", 1, [u]⟩] 1 := ⟨0, _, rfl, rfl⟩
  have l1 : ([⟨"const", 1, [u]⟩] : List Nd).length = 1 := rfl
  generalize ([⟨"const", 1, [u]⟩] : List Nd) = ns at lf gd hw1 l1
  generalize upd (upd H4 t (.tup [.str "const", .int 1, .int (u : Int)])) L (.lst [.ref t]) = H5 at g7 kt4 lk2 ls2 lf ⊢
  clear g5 g6 kt1 kt2 kt3 lk1 ls1 lk ls ht hL hd4 k4 r0 r2
  refine ⟨_, rfl, _, rfl, (a : Int), rfl, (i62 (by omega)).1, (i62 (by omega)).2, fun D hD => ?_⟩
  have fD := g7.free hD
  have n1 := lk2.ne hD
  have n2 := ls2.ne hD
  have n3 := lf.ne hD
  refine lc_range (lo := 0) (n := a) (fun i H' => ∃ acc : List Nd, Acc D nodeD acc H' ∧ acc.length = i ∧ (∀ n ∈ acc, Plain n ∧ RgOk (ks.map fun r => r.2) n) ∧ GS H H' d c pn (61 - a - b - m) ∧ LS H H' d c pn Dk inD ks ∧ LS H H' d c pn Ds storD ss ∧ LS H H' d c pn L nodeD ns ∧ KeepT Ht H')
    ⟨[], .nil, rfl, fun r hr => by simp at hr, g7.new hD, lk2.new hD, ls2.new hD, lf.new hD, kt4.trans (.same (same_new hD _))⟩ (fun i H6 hi p => ?_) (fun H6 p => ?_)
  · obtain ⟨acc, hA, hl, hg, g5, lk, ls, lf, kt⟩ := p
    have hi : i < a := hi
    obtain ⟨r, q1, hr, hv, hq⟩ := inpAt (lg3.keep' kt) (show i < gs.length by omega)
    refine ⟨rfl, _, rfl, _, rfl, pi, vg, _, .ref q1, rfl, rfl, SqT.of (kt _ _ hP), ?_, q1, _, _, _, rfl, rfl, SqT.of hq, atI_nat (j := 1) rfl, _, rfl, (by show 3 ≤ sizeLine; decide), fun t ht => ?_⟩
    · rw [show (0 + (i : Int)) = ((i : Nat) : Int) by omega]
      exact atI_nat hv
    dsimp only
    rw [show V.int (0 + (i : Int)) = vI i from congrArg V.int (by omega)]
    obtain ⟨vs, e, hlen, hA6, t6⟩ := (hA.same (same_new ht (.tup [.str "input", vI r.2, vI i]))).push (x := ⟨"input", r.2, [i]⟩) (Lay.mkNode upd_same) (by omega)
    refine ⟨vs, e, hlen, acc ++ [⟨"input", r.2, [i]⟩], hA6, by rw [List.length_append, hl]; rfl, fun n hn => ?_, (g5.new ht).put fD, (lk.new ht).put e n1.symm, (ls.new ht).put e n2.symm, (lf.new ht).put e n3.symm, kt.trans ((KeepT.same (same_new ht _)).trans t6)⟩
    rcases List.mem_append.mp hn with y | y
    · exact hg n y
    · rw [List.mem_singleton.mp y]
      obtain ⟨w1, w8⟩ := hgg r (List.mem_of_getElem? hr)
      exact ⟨plI w1 w8, .no sR.2.1⟩
  obtain ⟨is, hA, hil, hig, g8, lk, ls, lf, kt⟩ := p
  obtain ⟨vs1, e1, el1, y1⟩ := lf.at_
  obtain ⟨vs2, e2, el2, y2⟩ := hA.get
  refine ⟨L, D, vs1, vs2, rfl, rfl, e1, e2, le1000 (by omega), fun L1 hL1 => ?_⟩
  have lf1 := g8.lst y1 y2 hL1
  have gd1 := gd.app is hig
  have hw11 : HasW (ns ++ is) 1 := hw1.app
  have l11 : (ns ++ is).length = 1 + a := by rw [List.length_append, l1, hil]
  have g9 := g8.new (o := .lst (vs1 ++ vs2)) hL1
  have lk3 := lk.new (o := .lst (vs1 ++ vs2)) hL1
  have ls3 := ls.new (o := .lst (vs1 ++ vs2)) hL1
  have kt5 := kt.trans (.same (same_new hL1 (.lst (vs1 ++ vs2))))
  generalize ns ++ is = ns1 at lf1 gd1 hw11 l11
  generalize upd H6 L1 (.lst (vs1 ++ vs2)) = H7 at lf1 g9 lk3 ls3 kt5 ⊢
  clear lf gd hw1 l1 g7 g8 lk2 ls2 lk ls kt4 kt y1 y2 hA e1 e2 n1 n2 n3 fD hD hL1 el1 el2 hig hil
  -- the registers' nodes
  refine ⟨_, rfl, _, rfl, (b : Int), rfl, (i62 (by omega)).1, (i62 (by omega)).2, fun D hD => ?_⟩
  have fD := g9.free hD
  have n1 := lk3.ne hD
  have n2 := ls3.ne hD
  have n3 := lf1.ne hD
  refine lc_range (lo := 0) (n := b) (fun i H' => ∃ acc : List Nd, Acc D nodeD acc H' ∧ acc.length = i ∧ (∀ n ∈ acc, Plain n ∧ RgOk (ks.map fun r => r.2) n) ∧ (∀ j r, j < i → ks[j]? = some r → HasW acc r.2) ∧ GS H H' d c pn (61 - a - b - m) ∧ LS H H' d c pn Dk inD ks ∧ LS H H' d c pn Ds storD ss ∧ LS H H' d c pn L1 nodeD ns1 ∧ KeepT Ht H')
    ⟨[], .nil, rfl, fun r hr => by simp at hr, fun j r hj => absurd hj (Nat.not_lt_zero _), g9.new hD, lk3.new hD, ls3.new hD, lf1.new hD, kt5.trans (.same (same_new hD _))⟩ (fun i H6 hi p => ?_) (fun H6 p => ?_)
  · obtain ⟨acc, hA, hl, hg, hh, g5, lk, ls, lf, kt⟩ := p
    have hi : i < b := hi
    obtain ⟨vk, ek, lvk, lyk⟩ := lk.at_
    obtain ⟨r, q1, hr, hv, hq⟩ := inpAt lyk (show i < ks.length by omega)
    refine ⟨rfl, _, rfl, _, rfl, Dk, vk, _, .ref q1, rfl, rfl, SqL.of ek, ?_, q1, _, _, _, rfl, rfl, SqT.of hq, atI_nat (j := 1) rfl, _, rfl, (by show 3 ≤ sizeLine; decide), fun t ht => ?_⟩
    · rw [show (0 + (i : Int)) = ((i : Nat) : Int) by omega]
      exact atI_nat hv
    dsimp only
    rw [show V.int (0 + (i : Int)) = vI i from congrArg V.int (by omega)]
    obtain ⟨vs, e, hlen, hA6, t6⟩ := (hA.same (same_new ht (.tup [.str "reg", vI r.2, vI i]))).push (x := ⟨"reg", r.2, [i]⟩) (Lay.mkNode upd_same) (by omega)
    refine ⟨vs, e, hlen, acc ++ [⟨"reg", r.2, [i]⟩], hA6, by rw [List.length_append, hl]; rfl, fun n hn => ?_, fun j r' hj hr' => ?_, (g5.new ht).put fD, (lk.new ht).put e n1.symm, (ls.new ht).put e n2.symm, (lf.new ht).put e n3.symm, kt.trans ((KeepT.same (same_new ht _)).trans t6)⟩
    · rcases List.mem_append.mp hn with y | y
      · exact hg n y
      · rw [List.mem_singleton.mp y]
        obtain ⟨w1, w8, _⟩ := hkg r (List.mem_of_getElem? hr)
        exact ⟨plR w1 w8, fun _ => ⟨i, rfl, by rw [List.getElem?_map, hr]; rfl⟩⟩
    · by_cases z : j < i
      · exact (hh j r' z hr').app
      · obtain rfl : j = i := by omega
        rw [hr] at hr'
        cases hr'
        exact HasW.last (n := ⟨"reg", r.2, [j]⟩)
  obtain ⟨is1, hA, hil, hig, hih, g8, lk, ls, lf, kt⟩ := p
  obtain ⟨vs1, e1, el1, y1⟩ := lf.at_
  obtain ⟨vs2, e2, el2, y2⟩ := hA.get
  refine ⟨L1, D, vs1, vs2, rfl, rfl, e1, e2, le1000 (by omega), fun L2_ hL2 => ?_⟩
  have lf2 := g8.lst y1 y2 hL2
  have gd2 := gd1.app is1 hig
  have hw12 : HasW (ns1 ++ is1) 1 := hw11.app
  have l12 : (ns1 ++ is1).length = 1 + a + b := by rw [List.length_append, l11, hil]
  have hwk : ∀ r ∈ ks, HasW (ns1 ++ is1) r.2 := fun r hr => by
    obtain ⟨j, hj, e⟩ := List.mem_iff_getElem.mp hr
    exact (hih j r (by omega) (by rw [List.getElem?_eq_getElem hj, e])).right
  have g9' := g8.new (o := .lst (vs1 ++ vs2)) hL2
  have lk3' := lk.new (o := .lst (vs1 ++ vs2)) hL2
  have ls3' := ls.new (o := .lst (vs1 ++ vs2)) hL2
  have kt5' := kt.trans (.same (same_new hL2 (.lst (vs1 ++ vs2))))
  have nkf0 : Dk ≠ L2_ := (lk.ne hL2).symm
  have nsf0 : Ds ≠ L2_ := (ls.ne hL2).symm
  generalize ns1 ++ is1 = ns2 at lf2 gd2 hw12 l12 hwk
  generalize upd H6 L2_ (.lst (vs1 ++ vs2)) = H8 at lf2 g9' lk3' ls3' kt5' ⊢
  clear lf gd1 hw11 l11 g8 g9 lk3 ls3 lk ls kt5 kt y1 y2 hA e1 e2 n1 n2 n3 fD hD hL2 el1 el2 hig hil hih lf1
  -- further nodes
  have nkf : Dk ≠ L2_ := nkf0
  have nsf : Ds ≠ L2_ := nsf0
  refine ⟨_, rfl, (k : Int), rfl, (i62 (by omega)).1, (i62 (by omega)).2, for_it walk_range (fun i σ' H' => ∃ (v7 : Option V) (ns : List Nd), σ' = [some (.ref d), some (vI a), some (vI b), some (vI m), some (vI k), some (vI most), some (.ref pn), v7, some (.ref pi), some (.ref Dk), some (.ref Ds), some (.ref L2_), none, none, none, none, none, none, none, none] ∧
      ns.length = 1 + a + b + i ∧ Good (ks.map fun r => r.2) ns ∧ HasW ns 1 ∧ (∀ r ∈ ks, HasW ns r.2) ∧ GS H H' d c pn (61 - a - b - m) ∧ LS H H' d c pn Dk inD ks ∧ LS H H' d c pn Ds storD ss ∧ LS H H' d c pn L2_ nodeD ns ∧ KeepT Ht H')
    ⟨_, ns2, rfl, l12, gd2, hw12, hwk, g9', lk3', ls3', lf2, kt5'⟩ (fun _ _ _ _ _ => trivial) (fun i x σ' H' H3 hi p y => ?_) (fun σ' H' p => ?_)⟩
  · obtain ⟨v7, ns, rfl, ln, gd, hw, hk2, g, lk, ls, lf, kt⟩ := p
    obtain ⟨rfl, rfl⟩ := y
    have hi : i < k := by simpa using hi
    obtain ⟨vs, ef, lv, ly⟩ := lf.at_
    refine ⟨_, rfl, .inl ⟨rfl, _, SqL.of ef⟩, _, rfl, _, rfl, _, rfl, _, rfl, d, c, L2_, Ds, ns, ss, most, rfl, g.ds, lf.fr.1, ls.fr.1, lf.ac, ls.ac, gd.ok, by omega, by omega, hw, hsg, by omega, m1, m8, fun v n H4 lv nok st hd4 k4 => ?_⟩
    obtain ⟨vs4, e4, h4, lf4, t4⟩ := (lf.draw g k4).push lv (by omega)
    refine ⟨L2_, vs4, _, rfl, rfl, e4, h4, _, ns ++ [n], rfl, by rw [List.length_append, ln]; rfl, gd.snoc nok ⟨st.1, .no st.2⟩, hw.app, fun r hr => (hk2 r hr).app, (g.draw hd4 k4).put lf.fr, (lk.draw g k4).put e4 nkf, (ls.draw g k4).put e4 nsf, lf4, (kt.trans (g.tup k4)).trans t4⟩
  obtain ⟨v7, ns, rfl, ln, gd, hw, hk2, g, lk, ls, lf, kt⟩ := p
  clear gd2 hw12 l12 hwk g9' lk3' ls3' lf2 kt5'
  have ln : ns.length = 1 + a + b + k := by simpa using ln
  -- the rows of the registers
  obtain ⟨vk, ek, lvk, lyk⟩ := lk.at_
  refine ⟨_, rfl, Dk, rfl, ⟨_, SqL.of ek⟩, fun D hD => ?_⟩
  have fD := g.free hD
  have n1 := lk.ne hD
  have n2 := ls.ne hD
  have n3 := lf.ne hD
  refine lc_list (xs := vk) (fun i H' => ∃ acc : List (Str × Nat × Nat × Nat), Acc D regD4 acc H' ∧ acc.length = i ∧ acc.map (fun r => r.2.1) = (ks.take i).map (fun r => r.2) ∧ RsOk acc ns ∧ GS H H' d c pn (61 - a - b - m) ∧ H' Dk = some (.lst vk) ∧ LS H H' d c pn Ds storD ss ∧ LS H H' d c pn L2_ nodeD ns ∧ KeepT Ht H' ∧ LayAll H' vk (ks.map inD))
    ⟨[], .nil, rfl, rfl, fun r hr => by simp at hr, g.new hD, same_new hD _ _ _ ek, ls.new hD, lf.new hD, kt.trans (.same (same_new hD _)), lyk.keep' (.same (same_new hD _))⟩ (fun i H' _ p => ?_) (fun i x H3 hx p => ?_) (fun H3 p => ?_)
  · obtain ⟨_, _, _, _, _, _, e, _⟩ := p
    exact SqL.of e
  · obtain ⟨acc, hA, hl, hW, hg, g2, ek2, ls2, lf2, kt2, lyk2⟩ := p
    have hi : i < vk.length := (List.getElem?_eq_some_iff.mp hx).1
    obtain ⟨r, q1, hr, hv, hq⟩ := inpAt lyk2 (show i < ks.length by omega)
    obtain rfl : x = .ref q1 := by rw [hx] at hv; exact Option.some.inj hv
    obtain ⟨w1, w8, _⟩ := hkg r (List.mem_of_getElem? hr)
    have hwr := hk2 r (List.mem_of_getElem? hr)
    obtain ⟨p1, p2⟩ := pw8 w8
    refine ⟨q1, _, rfl, SqT.of hq, rfl, _, _, rfl, _, _, rfl, rfl, rfl, _, rfl, _, rfl, _, rfl, _, rfl, r.2, rfl, rfl, by omega, d, c, _, rfl, g2.ds, p1, p2, fun u H5 r0 r1 hd5 k5 => ?_⟩
    obtain ⟨u, rfl⟩ := Int.eq_ofNat_of_zero_le r0
    have g3 := g2.draw hd5 k5
    have t5 := g2.tup k5
    have lf3 := lf2.draw g2 k5
    have ls3 := ls2.draw g2 k5
    have hA3 := hA.keep k5 t5 (by simp [fD.1])
    have nkd : Dk ≠ d := lk.fr.1
    have ek3 := k5 _ _ (by simp [nkd]) ek2
    refine ⟨_, rfl, _, rfl, _, rfl, d, c, L2_, ns, r.2, rfl, hd5, lf3.fr.1, lf3.ac, by omega, hwr, fun j n H6 hj hn hd6 k6 => ?_⟩
    have g4 := g3.draw hd6 k6
    have t6 := g3.tup k6
    have lf4 := lf3.draw g3 k6
    have ls4 := ls3.draw g3 k6
    have hA4 := hA3.keep k6 t6 (by simp [fD.1])
    have ek4 := k6 _ _ (by simp [nkd]) ek3
    refine ⟨(by show 4 ≤ sizeLine; decide), fun t ht => ?_⟩
    obtain ⟨vs, e, hlen, hA5, t7⟩ := (hA4.same (same_new ht (.tup [.str r.1, vI r.2, vI u, vI j]))).push (x := (r.1, r.2, u, j)) (.tup upd_same (.cons (.str _) (.cons (.int _) (.cons (.int _) (.cons (.int _) .nil))))) (by omega)
    have tt := (t5.trans t6).trans ((KeepT.same (same_new ht _)).trans t7)
    refine ⟨vs, e, hlen, acc ++ [(r.1, r.2, u, j)], hA5, by rw [List.length_append, hl]; rfl, by rw [List.map_append, hW, List.take_add_one, hr, List.map_append]; rfl, fun r' hr' => ?_, (g4.new ht).put fD, ?_, (ls4.new ht).put e n2.symm, (lf4.new ht).put e n3.symm, kt2.trans tt, lyk2.keep' tt⟩
    · rcases List.mem_append.mp hr' with y | y
      · exact hg r' y
      · rw [List.mem_singleton.mp y]
        exact ⟨w1, w8, (List.getElem?_eq_some_iff.mp hj).1, hwr, ltPow (by simpa using r1), n, hj, hn⟩
    · rw [upd_ne n1.symm]
      exact same_new ht _ _ _ ek4
  obtain ⟨rs, hA, hrl, hRW, hrg, g2, -, ls2, lf2, kt2, -⟩ := p
  have lr : LS H H3 d c pn D regD4 rs := ⟨hA, fD⟩
  have rlen : rs.length = b := by omega
  have hRW2 : ks.map (fun r => r.2) = rs.map (fun r => r.2.1) := by rw [hRW, lvk, List.take_length]
  have hmost : ∀ r ∈ rs, r.2.1 ≤ most := fun r hr => by
    have : r.2.1 ∈ rs.map (fun r => r.2.1) := List.mem_map.mpr ⟨r, hr, rfl⟩
    rw [← hRW2] at this
    obtain ⟨k, hk, e⟩ := List.mem_map.mp this
    rw [← e]
    exact (hkg k hk).2.2
  clear hA lk ek lvk lyk n1 hD kt lf ls g hk2 nkf
  -- the memories
  refine ⟨Nat.zero_le _, fun M hM => ?_⟩
  have fM := g2.free hM
  have mr := lr.ne hM
  have ms := ls2.ne hM
  have mf := lf2.ne hM
  have g3 := g2.new (o := .lst []) hM
  have lr3 := lr.new (o := .lst []) hM
  have ls3 := ls2.new (o := .lst []) hM
  have lf3 := lf2.new (o := .lst []) hM
  have kt3 := kt2.trans (.same (same_new hM (.lst [])))
  have om : OL H (upd H3 M (.lst [])) d c pn M 0 := ⟨⟨[], upd_same, rfl⟩, fM⟩
  generalize upd H3 M (.lst []) = H4 at g3 lr3 ls3 lf3 kt3 om ⊢
  clear g2 lr ls2 lf2 kt2
  obtain ⟨vw, ew, lvw, lyw⟩ := ls3.at_
  have fDs := ls3.fr
  have hrg2 : RsOk rs ns := hrg
  refine ⟨_, rfl, Ds, rfl, ⟨_, SqL.of ew⟩, for_it (walk_list (xs := vw)) (fun i σ' H' => ∃ (v7 v12 v13 v16 v17 : Option V) (ns : List Nd), σ' = [some (.ref d), some (vI a), some (vI b), some (vI m), some (vI k), some (vI most), some (.ref pn), v7, some (.ref pi), some (.ref Dk), some (.ref Ds), some (.ref L2_), v12, v13, some (.ref D), some (.ref M), v16, v17, none, none] ∧
      ns.length ≤ 38 + 2 * i ∧ 1 ≤ ns.length ∧ Good (ks.map fun r => r.2) ns ∧ HasW ns 1 ∧ RsOk rs ns ∧ GS H H' d c pn (61 - a - b - m) ∧ LS H H' d c pn D regD4 rs ∧ H' Ds = some (.lst vw) ∧ LayAll H' vw (ss.map storD) ∧ LS H H' d c pn L2_ nodeD ns ∧ OL H H' d c pn M i ∧ KeepT Ht H')
    ⟨_, _, _, _, _, ns, rfl, by omega, by omega, gd, hw, hrg2, g3, lr3, ew, lyw, lf3, om, kt3⟩ (fun i σ' H' _ p => ?_) (fun i x σ' H' H5 hi p y => ?_) (fun σ' H' p => ?_)⟩
  · obtain ⟨_, _, _, _, _, _, _, _, _, _, _, _, _, _, e, _⟩ := p
    exact SqL.of e
  · obtain ⟨v7, v12, v13, v16, v17, ns, rfl, ln, ln1, gd, hw, ro, g, lr, ew, lyw, lf, om, kt⟩ := p
    obtain ⟨rfl, ex⟩ := y
    obtain ⟨r, q1, hr, hv, hq⟩ := storAt lyw (show i < ss.length by omega)
    obtain rfl : x = .ref q1 := by rw [ex] at hv; exact Option.some.inj hv
    obtain ⟨w1, w8⟩ := hsg r (List.mem_of_getElem? hr)
    refine ⟨q1, _, rfl, SqT.of hq, rfl, _, _, rfl, _, _, rfl, _, _, rfl, rfl, Nat.zero_le _, fun W hW => ?_⟩
    have fW := g.free hW
    have nWr := lr.ne hW
    have nWf := lf.ne hW
    have nWM := om.ne hW
    have nWs : W ≠ Ds := (ne_of_none ew hW).symm
    have g1 := g.new (o := .lst []) hW
    refine ⟨_, rfl, d, c, 3, rfl, g1.ds, by decide, by decide, fun u H6 r0 r1 hd6 k6 => ?_⟩
    obtain ⟨u, rfl⟩ := Int.eq_ofNat_of_zero_le r0
    have ow : OL H (upd H5 W (.lst [])) d c pn W 0 := ⟨⟨[], upd_same, rfl⟩, fW⟩
    refine ⟨(u : Int), rfl, (i62 (by omega)).1, (i62 (by omega)).2, for_it walk_range (fun j σ' H' => ∃ (v7 : Option V) (ns : List Nd), σ' = [some (.ref d), some (vI a), some (vI b), some (vI m), some (vI k), some (vI most), some (.ref pn), v7, some (.ref pi), some (.ref Dk), some (.ref Ds), some (.ref L2_), some (.str r.1), some (vI r.2.1), some (.ref D), some (.ref M), some (vI r.2.2), some (.ref W), none, none] ∧
        ns.length ≤ 38 + 2 * i + j ∧ 1 ≤ ns.length ∧ Good (ks.map fun r => r.2) ns ∧ HasW ns 1 ∧ RsOk rs ns ∧ GS H H' d c pn (61 - a - b - m) ∧ LS H H' d c pn D regD4 rs ∧ H' Ds = some (.lst vw) ∧ LayAll H' vw (ss.map storD) ∧ LS H H' d c pn L2_ nodeD ns ∧ OL H H' d c pn M i ∧ OL H H' d c pn W j ∧ KeepT Ht H')
      ⟨_, ns, rfl, by omega, ln1, gd, hw, ro, g1.draw hd6 k6, (lr.new hW).draw g1 k6, k6 _ _ (by simp [fDs.1]) (same_new hW _ _ _ ew), (lyw.keep' (.same (same_new hW _))).keep' (g1.tup k6), (lf.new hW).draw g1 k6, (om.new hW).draw k6, ow.draw k6, (kt.trans (.same (same_new hW _))).trans (g1.tup k6)⟩
      (fun _ _ _ _ _ => trivial) (fun j x σ' H' H7 hj p y => ?_) (fun σ' H' p => ?_)⟩
    · clear gd hw ro g lr lf om kt g1 ow k6 hd6 lyw ew ex hv ln ln1
      obtain ⟨v7, ns, rfl, ln, ln1, gd, hw, ro, g, lr, ew, lyw, lf, om, ow, kt⟩ := p
      obtain ⟨rfl, rfl⟩ := y
      have hj : j < u := by simpa using hj
      obtain ⟨vs, ef, lv, ly⟩ := lf.at_
      refine ⟨_, rfl, .inl ⟨rfl, _, SqL.of ef⟩, _, rfl, _, rfl, _, rfl, L2_, vs, rfl, .inl (SqL.of ef), d, c, _, rfl, g.ds, by omega, by omega, fun z H8 r0 r2 hd8 k8 => ⟨(by show 3 ≤ sizeLine; decide), fun t ht => ?_⟩⟩
      obtain ⟨z, rfl⟩ := Int.eq_ofNat_of_zero_le r0
      have g2 := (g.draw hd8 k8).new (o := .tup [.str "wide", vI r.2.1, .int (z : Int)]) ht
      have lf2 := (lf.draw g k8).new (o := .tup [.str "wide", vI r.2.1, .int (z : Int)]) ht
      have lr2 := (lr.draw g k8).new (o := .tup [.str "wide", vI r.2.1, .int (z : Int)]) ht
      have om2 := (om.draw k8).new (o := .tup [.str "wide", vI r.2.1, .int (z : Int)]) ht
      have ow2 := (ow.draw k8).new (o := .tup [.str "wide", vI r.2.1, .int (z : Int)]) ht
      have ew2 := same_new ht (.tup [.str "wide", vI r.2.1, .int (z : Int)]) _ _ (k8 _ _ (by simp [fDs.1]) ew)
      have t2 := (g.tup k8).trans (.same (same_new ht (.tup [.str "wide", vI r.2.1, .int (z : Int)])))
      obtain ⟨vs4, e4, h4, lf3, t4⟩ := lf2.push (y := .ref t) (x := ⟨"wide", r.2.1, [z]⟩) (Lay.mkNode upd_same) (by omega)
      refine ⟨L2_, vs4, _, rfl, rfl, e4, h4, ?_⟩
      have g3 := g2.put (o := .lst (vs4 ++ [.ref t])) lf2.fr
      have lr3 := lr2.put (l' := vs4 ++ [.ref t]) e4 n3
      have om3 := om2.put (o := .lst (vs4 ++ [.ref t])) mf
      have ow3 := ow2.put (o := .lst (vs4 ++ [.ref t])) nWf
      have ew3 : upd (upd H8 t (.tup [.str "wide", vI r.2.1, .int (z : Int)])) L2_ (.lst (vs4 ++ [.ref t])) Ds = some (.lst vw) := by rw [upd_ne nsf]; exact ew2
      have kt3 := (kt.trans t2).trans t4
      have ly3 := (lyw.keep' t2).keep' t4
      have gd3 := gd.snoc ((plW (i := z) w1 w8).ok _) ⟨(plW (i := z) w1 w8).st, .no sR.2.2.1⟩
      have hw3 : HasW (ns ++ [⟨"wide", r.2.1, [z]⟩]) 1 := hw.app
      have ro3 : RsOk rs (ns ++ [⟨"wide", r.2.1, [z]⟩]) := ro.app
      have ln3 : (ns ++ [(⟨"wide", r.2.1, [z]⟩ : Nd)]).length = ns.length + 1 := by rw [List.length_append]; rfl
      generalize ns ++ [⟨"wide", r.2.1, [z]⟩] = ns' at lf3 gd3 hw3 ro3 ln3
      generalize upd (upd H8 t (.tup [.str "wide", vI r.2.1, .int (z : Int)])) L2_ (.lst (vs4 ++ [.ref t])) = H9 at g3 lr3 om3 ow3 ew3 kt3 ly3 lf3 ⊢
      clear g2 lf2 lr2 om2 ow2 ew2 t2 t4 e4 k8 hd8 ht ef ly g lr ew lyw lf om ow kt
      obtain ⟨wl, eW, lW⟩ := ow3.ex
      refine ⟨_, rfl, .inl ⟨rfl, _, SqL.of eW⟩, _, rfl, _, rfl, d, c, L2_, ns', 1, rfl, g3.ds, lf3.fr.1, lf3.ac, by omega, hw3, fun y n HA hy hn hdA kA => ?_⟩
      have g4 := g3.draw hdA kA
      have lf4 := lf3.draw g3 kA
      obtain ⟨vs, ef, lv, ly⟩ := lf4.at_
      refine ⟨_, rfl, _, rfl, L2_, vs, rfl, .inl (SqL.of ef), d, c, _, rfl, hdA, by omega, by omega, fun z2 HB r0 r3 hdB kB => ?_⟩
      have g5 := g4.draw hdB kB
      have lf5 := lf4.draw g4 kB
      obtain ⟨vs, ef, lv, ly⟩ := lf5.at_
      refine ⟨_, rfl, L2_, vs, rfl, .inl (SqL.of ef), _, _, rfl, rfl, (by show 3 ≤ sizeLine; decide), fun t ht => ?_⟩
      have ow5 := ((ow3.draw kA).draw kB).new (o := .tup [vI y, .int z2, .int ((vs.length : Int) - 1)]) ht
      obtain ⟨wl2, eW2, lW2, ow6, t6⟩ := ow5.push (y := .ref t) (by omega)
      have lf6 := (lf5.new (o := .tup [vI y, .int z2, .int ((vs.length : Int) - 1)]) ht).put (l' := wl2 ++ [.ref t]) eW2 nWf.symm
      have lr6 := (((lr3.draw g3 kA).draw g4 kB).new (o := .tup [vI y, .int z2, .int ((vs.length : Int) - 1)]) ht).put (l' := wl2 ++ [.ref t]) eW2 nWr.symm
      have om6 := (((om3.draw kA).draw kB).new (o := .tup [vI y, .int z2, .int ((vs.length : Int) - 1)]) ht).put (o := .lst (wl2 ++ [.ref t])) nWM.symm
      have g6 := (g5.new (o := .tup [vI y, .int z2, .int ((vs.length : Int) - 1)]) ht).put (o := .lst (wl2 ++ [.ref t])) fW
      have t5 := (((g3.tup kA).trans (g4.tup kB)).trans (.same (same_new ht (.tup [vI y, .int z2, .int ((vs.length : Int) - 1)])))).trans t6
      refine ⟨W, wl2, _, rfl, rfl, eW2, lW2, _, ns', rfl, by omega, by omega, gd3, hw3, ro3, g6, lr6, ?_, ly3.keep' t5, lf6, om6, ow6, kt3.trans t5⟩
      rw [upd_ne nWs.symm]
      exact same_new ht _ _ _ (kB _ _ (by simp [fDs.1]) (kA _ _ (by simp [fDs.1]) ew3))
    · clear gd hw ro g lr lf om kt g1 ow k6 hd6 lyw ew ex hv ln ln1
      obtain ⟨v7, ns, rfl, ln, ln1, gd, hw, ro, g, lr, ew, lyw, lf, om, ow, kt⟩ := p
      have ln : ns.length ≤ 38 + 2 * i + u := by simpa using ln
      obtain ⟨ml, eM, lM⟩ := om.ex
      obtain ⟨wl, eW, lW⟩ := ow.ex
      refine ⟨_, rfl, .inl ⟨rfl, _, SqL.of eM⟩, _, rfl, _, rfl, _, rfl, _, rfl, W, wl, rfl, .inl ⟨SqL.of eW, fun p hp => ⟨(by show 4 ≤ sizeLine; decide), fun t ht => ?_⟩⟩⟩
      have om2 := (om.new (o := .tup wl) hp).new (o := .tup [.str r.1, vI r.2.1, vI r.2.2, .ref p]) ht
      obtain ⟨ml2, eM2, lM2, om3, t3⟩ := om2.push (y := .ref t) (by omega)
      have lf2 := ((lf.new (o := .tup wl) hp).new (o := .tup [.str r.1, vI r.2.1, vI r.2.2, .ref p]) ht).put (l' := ml2 ++ [.ref t]) eM2 mf.symm
      have lr2 := ((lr.new (o := .tup wl) hp).new (o := .tup [.str r.1, vI r.2.1, vI r.2.2, .ref p]) ht).put (l' := ml2 ++ [.ref t]) eM2 mr.symm
      have g2 := ((g.new (o := .tup wl) hp).new (o := .tup [.str r.1, vI r.2.1, vI r.2.2, .ref p]) ht).put (o := .lst (ml2 ++ [.ref t])) fM
      have t2 := ((KeepT.same (same_new hp (.tup wl))).trans (.same (same_new ht (.tup [.str r.1, vI r.2.1, vI r.2.2, .ref p])))).trans t3
      refine ⟨M, ml2, _, rfl, rfl, eM2, lM2, _, _, _, _, _, ns, rfl, by omega, ln1, gd, hw, ro, g2, lr2, ?_, lyw.keep' t2, lf2, om3, kt.trans t2⟩
      rw [upd_ne ms.symm]
      exact same_new ht _ _ _ (same_new hp _ _ _ ew)
  clear gd hw hrg hrg2 g3 lr3 ew lyw lf3 om kt3 ln
  obtain ⟨v7, v12, v13, v16, v17, ns, rfl, ln, ln1, gd, hw, ro, g, lr, -, -, lf, om, kt⟩ := p
  -- what is shown
  refine ⟨2, rfl, by decide, by decide, fun S hS => ?_⟩
  have fS := g.free hS
  have s1 := lr.ne hS
  have s2 := lf.ne hS
  have s3 := om.ne hS
  refine lc_range (lo := 0) (n := 2) (fun i H' => OL H H' d c pn S i ∧ GS H H' d c pn (61 - a - b - m - i) ∧ LS H H' d c pn D regD4 rs ∧ LS H H' d c pn L2_ nodeD ns ∧ OL H H' d c pn M vw.length ∧ KeepT Ht H')
    ⟨⟨⟨[], upd_same, rfl⟩, fS⟩, g.new hS, lr.new hS, lf.new hS, om.new hS, kt.trans (.same (same_new hS _))⟩ (fun i H5 hi p => ?_) (fun H5 p => ?_)
  · clear g lr lf om kt
    obtain ⟨os, g, lr, lf, om, kt⟩ := p
    have hi : i < 2 := hi
    obtain ⟨names, hn, hz, hl61⟩ := g.nm
    refine ⟨rfl, _, rfl, _, rfl, d, c, pn, names, rfl, g.ds, hn, nnd, nnc, by omega, by omega, fun j y H6 hy hd6 hn6 k6 => ?_⟩
    obtain ⟨g6, z, rfl⟩ := g.pop hn hz hl61 hy hd6 hn6 k6
    have t6 := k6.tup2 g.ds hn
    have lf6 := lf.pop g hn k6
    have lr6 := lr.pop g hn k6
    have om6 := om.pop k6
    have os6 := os.pop k6
    obtain ⟨vs, ef, lv, ly⟩ := lf6.at_
    refine ⟨_, rfl, _, rfl, L2_, vs, rfl, .inl (SqL.of ef), d, c, _, rfl, hd6, by omega, by omega, fun x1 H7 r0 r1 hd7 k7 => ?_⟩
    obtain ⟨x1, rfl⟩ := Int.eq_ofNat_of_zero_le r0
    have g7 := g6.draw hd7 k7
    have lf7 := lf6.draw g6 k7
    obtain ⟨vs, ef, lv, ly⟩ := lf7.at_
    refine ⟨_, rfl, _, rfl, L2_, vs, rfl, .inl (SqL.of ef), d, c, _, rfl, hd7, by omega, by omega, fun x2 H8 r0 r2 hd8 k8 => ?_⟩
    obtain ⟨x2, rfl⟩ := Int.eq_ofNat_of_zero_le r0
    have g8 := g7.draw hd8 k8
    refine ⟨x1, x2, rfl, (by show 2 ≤ sizeLine; decide), fun t ht => ?_⟩
    dsimp only
    generalize HO.tup [.str z, .int ((max x1 x2 : Nat) : Int)] = ob
    obtain ⟨vs, e, hlen, os9, t9⟩ := (((os6.draw k7).draw k8).new (o := ob) ht).push (y := .ref t) (by omega)
    refine ⟨vs, e, hlen, os9, ((g8.new ht).put fS).cast (by omega), (((lr6.draw g6 k7).draw g7 k8).new ht).put e s1.symm, ((lf7.draw g7 k8).new ht).put e s2.symm, (((om6.draw k7).draw k8).new ht).put s3.symm, ((((kt.trans t6).trans (g6.tup k7)).trans (g7.tup k8)).trans (.same (same_new ht ob))).trans t9⟩
  clear g lr lf om kt
  obtain ⟨os, g, lr, lf, om, kt⟩ := p
  -- what is asked
  refine ⟨_, rfl, d, c, 2, rfl, g.ds, by decide, by decide, fun u H6 r0 r1 hd6 k6 => ?_⟩
  obtain ⟨u, rfl⟩ := Int.eq_ofNat_of_zero_le r0
  have g6 := g.draw hd6 k6
  have lr6 := lr.draw g k6
  have lf6 := lf.draw g k6
  have om6 := om.draw k6
  have os6 := os.draw k6
  have kt6 := kt.trans (g.tup k6)
  clear g lr lf om os kt k6 hd6
  refine ⟨(u : Int), rfl, (i62 (by omega)).1, (i62 (by omega)).2, fun A' hA' => ?_⟩
  have fA := g6.free hA'
  have a1 := lr6.ne hA'
  have a2 := lf6.ne hA'
  have a3 := om6.ne hA'
  have a4 := os6.ne hA'
  refine lc_range (lo := 0) (n := u) (fun i H' => OL H H' d c pn A' i ∧ OL H H' d c pn S 2 ∧ GS H H' d c pn (61 - a - b - m - 2 - i) ∧ LS H H' d c pn D regD4 rs ∧ LS H H' d c pn L2_ nodeD ns ∧ OL H H' d c pn M vw.length ∧ KeepT Ht H')
    ⟨⟨⟨[], upd_same, rfl⟩, fA⟩, os6.new hA', g6.new hA', lr6.new hA', lf6.new hA', om6.new hA', kt6.trans (.same (same_new hA' _))⟩ (fun i H7 hi p => ?_) (fun H7 p => ?_)
  · clear g6 lr6 lf6 om6 os6 kt6
    obtain ⟨oa, os, g, lr, lf, om, kt⟩ := p
    have hi : i < u := hi
    obtain ⟨names, hn, hz, hl61⟩ := g.nm
    refine ⟨rfl, _, rfl, _, rfl, d, c, pn, names, rfl, g.ds, hn, nnd, nnc, by omega, by omega, fun j y H8 hy hd8 hn8 k8 => ?_⟩
    obtain ⟨g8, z, rfl⟩ := g.pop hn hz hl61 hy hd8 hn8 k8
    have t8 := k8.tup2 g.ds hn
    have lf8 := lf.pop g hn k8
    have lr8 := lr.pop g hn k8
    have om8 := om.pop k8
    have os8 := os.pop k8
    have oa8 := oa.pop k8
    refine ⟨_, rfl, _, rfl, d, c, L2_, ns, 1, rfl, hd8, lf8.fr.1, lf8.ac, by omega, hw, fun y n H9 hy hn hd9 k9 => ⟨(by show 2 ≤ sizeLine; decide), fun t ht => ?_⟩⟩
    have g9 := g8.draw hd9 k9
    generalize HO.tup [.str z, vI y] = ob
    obtain ⟨vs, e, hlen, oa9, t9⟩ := ((oa8.draw k9).new (o := ob) ht).push (y := .ref t) (by omega)
    exact ⟨vs, e, hlen, oa9, ((os8.draw k9).new ht).put a4.symm, ((g9.new ht).put fA).cast (by omega), ((lr8.draw g8 k9).new ht).put e a1.symm, ((lf8.draw g8 k9).new ht).put e a2.symm, ((om8.draw k9).new ht).put a3.symm, (((kt.trans t8).trans (g8.tup k9)).trans (.same (same_new ht ob))).trans t9⟩
  clear g6 lr6 lf6 om6 os6 kt6
  obtain ⟨oa, os, g, lr, lf, om, kt⟩ := p
  obtain ⟨va, ea, -⟩ := oa.ex
  obtain ⟨vo, eo, lo⟩ := os.ex
  obtain ⟨vm, em, -⟩ := om.ex
  obtain ⟨vr, er, lvr, lyr⟩ := lr.at_
  obtain ⟨vn, en, lvn, lyn⟩ := lf.at_
  -- the graph
  refine ⟨_, rfl, _, rfl, L2_, vn, rfl, .inl ⟨SqL.of en, fun p1 h1 => ?_⟩⟩
  have s1 := same_new h1 (.tup vn)
  refine ⟨_, rfl, D, vr, rfl, .inl ⟨SqL.of (s1 _ _ er), fun p2 h2 => ?_⟩⟩
  have s2 := s1.trans (same_new h2 (.tup vr))
  refine ⟨_, rfl, M, vm, rfl, .inl ⟨SqL.of (s2 _ _ em), fun p3 h3 => ?_⟩⟩
  have s3 := s2.trans (same_new h3 (.tup vm))
  refine ⟨_, rfl, S, vo, rfl, .inl ⟨SqL.of (s3 _ _ eo), fun p4 h4 => ?_⟩⟩
  have s4 := s3.trans (same_new h4 (.tup vo))
  refine ⟨_, rfl, A', va, rfl, .inl ⟨SqL.of (s4 _ _ ea), fun p5 h5 => ?_⟩⟩
  have s5 := s4.trans (same_new h5 (.tup va))
  refine ⟨(by show 7 ≤ sizeLine; decide), fun t ht => ?_⟩
  have s6 := s5.trans (same_new ht (.tup [.str "graph", .ref pi, .ref p1, .ref p2, .ref p3, .ref p4, .ref p5]))
  have q1 := same_new ht (.tup [.str "graph", .ref pi, .ref p1, .ref p2, .ref p3, .ref p4, .ref p5])
  have q2 := (same_new h5 (.tup va)).trans q1
  have q3 := (same_new h4 (.tup vo)).trans q2
  have q4 := (same_new h3 (.tup vm)).trans q3
  have q5 := (same_new h2 (.tup vr)).trans q4
  refine q _ ⟨a, ns, rs⟩ _ ⟨t, pi, p1, p2, p4, .ref p3, .ref p5, vg, vn, vr, vo, rfl, by omega, ⟨upd_same, (kt.trans (.same s6)) _ _ hP, lvg, q5 _ _ upd_same, lyn.keep' (.same s6), q4 _ _ upd_same, lyr.keep' (.same s6), q2 _ _ upd_same⟩⟩ ⟨hRW2 ▸ gd, hw, ro, ln1⟩ rfl rlen (by show ns.length ≤ 100; omega) hmost (g.ds.same s6) (g.kp.trans (.of_same s6))
end
end Bf

set_option Elab.async false
set_option linter.all false
set_option maxRecDepth 100000
set_option maxHeartbeats 4000000
namespace Bf
open PySem PySem.Spec PyProof.Rows L2
/-! ### trees of picks -/
theorem args7 {a b c d e f : V} {i j : Int} (h : i = j) : [a, b, c, d, e, f, V.int i] = [a, b, c, d, e, f, V.int j] := by rw [h]
/-- what a tree that grows stands on: the nodes, the words, what has been made -/
structure TW (RW : List Nat) (H : Hp) (d c l wa md : Addr) (w : Nat) (ws : List Nat) (ns : List Nd) (ms : List Nat) : Prop where
  ds : DS H d c
  ac : Acc l nodeD ns H
  hw : H wa = some (.lst (ws.map vI))
  wk : ∀ x ∈ ws, x < 2 ^ w
  hm : H md = some (.lst (ms.map vI))
  gd : Good RW ns
  h1 : HasW ns 1
  hww : HasW ns w
  mw : ∀ m ∈ ms, ∃ n : Nd, ns[m]? = some n ∧ n.w = w
  nld : l ≠ d
  nlc : l ≠ c
  nwd : wa ≠ d
  nmd : md ≠ d
  nmc : md ≠ c
  nwl : wa ≠ l
  nwm : wa ≠ md
  nlm : l ≠ md
section
variable {RW : List Nat} {H H' : Hp} {d c l wa md : Addr} {w : Nat} {ws ms : List Nat} {ns : List Nd}
theorem TW.draw (t : TW RW H d c l wa md w ws ns ms) (ds : DS H' d c) (k : Keep [d] H H') : TW RW H' d c l wa md w ws ns ms :=
  ⟨ds, t.ac.keep k (k.tup1 t.ds) (by simp [t.nld]), k _ _ (by simp [t.nwd]) t.hw, t.wk, k _ _ (by simp [t.nmd]) t.hm, t.gd, t.h1, t.hww, t.mw, t.nld, t.nlc, t.nwd, t.nmd, t.nmc, t.nwl, t.nwm, t.nlm⟩
/-- a node more -/
theorem TW.node {p : Addr} {n : Nd} (t : TW RW H d c l wa md w ws ns ms) (hp : H p = none) (ok : n.Ok ns) (st : PyData.strOk n.op = true ∧ RgOk RW n) (hl : ns.length ≤ 1000) :
    ∃ vs : List V, upd H p (.tup (.str n.op :: vI n.w :: n.args.map vI)) l = some (.lst vs) ∧ vs.length < sizeLine ∧ TW RW (upd (upd H p (.tup (.str n.op :: vI n.w :: n.args.map vI))) l (.lst (vs ++ [.ref p]))) d c l wa md w ws (ns ++ [n]) ms ∧ Keep [d, l, md] H (upd (upd H p (.tup (.str n.op :: vI n.w :: n.args.map vI))) l (.lst (vs ++ [.ref p]))) := by
  have s := same_new hp (.tup (.str n.op :: vI n.w :: n.args.map vI))
  obtain ⟨vs, e, hv, a, kt⟩ := (t.ac.same s).push (y := .ref p) (x := n) (Lay.mkNode upd_same) hl
  refine ⟨vs, e, hv, ⟨(t.ds.same s).keep (S := [l]) Keep.at1 (by simp [t.nld.symm]) (by simp [t.nlc.symm]), a, ?_, t.wk, ?_, t.gd.snoc ok st, t.h1.app, t.hww.app, fun m hm => ?_, t.nld, t.nlc, t.nwd, t.nmd, t.nmc, t.nwl, t.nwm, t.nlm⟩, (Keep.of_same s).trans (Keep.upd (by simp))⟩
  · rw [upd_ne t.nwl]; exact s _ _ t.hw
  · rw [upd_ne t.nlm.symm]; exact s _ _ t.hm
  · obtain ⟨n', e', q⟩ := t.mw m hm
    exact ⟨n', by rw [List.getElem?_append_left (List.getElem?_eq_some_iff.mp e').1]; exact e', q⟩
/-- a place more -/
theorem TW.made {k : Nat} {n : Nd} (t : TW RW H d c l wa md w ws ns ms) (hk : ns[k]? = some n) (hn : n.w = w) : TW RW (upd H md (.lst (ms.map vI ++ [vI k]))) d c l wa md w ws ns (ms ++ [k]) := by
  refine ⟨t.ds.keep (S := [md]) Keep.at1 (by simp [t.nmd.symm]) (by simp [t.nmc.symm]), t.ac.keep (S := [md]) Keep.at1 (.lst t.hm) (by simp [t.nlm]), ?_, t.wk, ?_, t.gd, t.h1, t.hww, fun m hm => ?_, t.nld, t.nlc, t.nwd, t.nmd, t.nmc, t.nwl, t.nwm, t.nlm⟩
  · rw [upd_ne t.nwm]; exact t.hw
  · rw [upd_same, List.map_append]; rfl
  · rcases List.mem_append.mp hm with q | q
    · exact t.mw m q
    · rw [List.mem_singleton.mp q]; exact ⟨n, hk, hn⟩
end
def spTree (N : Nat) : Sp := fun vs H Q _ => ∃ (d c l wa md : Addr) (w r e : Nat) (RW ws ms : List Nat) (ns : List Nd), vs = [.ref d, .ref l, vI r, vI w, .ref wa, .ref md, vI e] ∧ e < N ∧ TW RW H d c l wa md w ws ns ms ∧ RW[r]? = some w ∧ 1 ≤ w ∧ w ≤ 8 ∧ 1 ≤ ws.length ∧ ws.length ≤ 1000 ∧ ns.length + 2 ^ (e + 1) ≤ 900 ∧ ms.length + 2 ^ (e + 1) ≤ 900 ∧
  ∀ (k : Nat) (n : Nd) (ns' : List Nd) (ms' : List Nat) (H' : Hp), TW RW H' d c l wa md w ws ns' ms' → ns'[k]? = some n → n.w = w → ns'.length + 1 ≤ ns.length + 2 ^ (e + 1) → ms'.length + 1 ≤ ms.length + 2 ^ (e + 1) → (∃ zs, ns' = ns ++ zs) → Keep [d, l, md] H H' → Q (vI k) H'
section
variable {P : Program} {w : World} {K : PySem.W.Frag} {mg : Str → Option Value} {base : Heap} {f : Addr} {fd : FuncData}
theorem step_tree (N : Nat) (F : Fun K "_law_tree" "_law_tree" s_law_tree f fd) (T : Txt mg) (D_law_draw : Dn P w K mg base "_law_draw" ["_law_d", "_law_many"] 1 spDraw) (D_law_pick : Dn P w K mg base "_law_pick" ["_law_d", "_law_row"] 2 (spPick K))
    (D_law_of_width : Dn P w K mg base "_law_of_width" ["_law_d", "_law_nodes", "_law_width"] 3 spOfW)
    (D_law_tree : Dn P w K mg base "_law_tree" ["_law_d", "_law_nodes", "_law_reg", "_law_wide", "_law_words", "_law_made", "_law_depth"] (N + 4) (spTree N)) :
    FnOk P w K mg base CX0 (N + 5) f fd ["_law_d", "_law_nodes", "_law_reg", "_law_wide", "_law_words", "_law_made", "_law_depth"] (spTree (N + 1)) := by
  refine F.ok sc_law_tree (fun vs H Q E h => ?_) (fun cdv A outer s H vs Q E hr h => ?_)
  · obtain ⟨_, _, _, _, _, _, _, _, _, _, _, _, rfl, _⟩ := h
    rfl
  obtain ⟨d, c, l, wa, md, wd, r, e, RW, ws, ms, ns, rfl, he, tw, hrw, w1, w8, hw1, hw2, hb1, hb2, q⟩ := h
  refine ⟨_, (pss_cons (ps_set (i := 7) sc_law_tree.nd rfl (Or.inl rfl) (pe_dn D_law_draw (hr.mono (by omega)) (by rfl) (pa_cons (pv 0) (pa_cons pe_int pa_nil))))
      (C8.pss_cut (ps_if (PW.pt (pw_or (pt_cmpR op_eq (pv 6) pe_int (nomark _)) (pw_or1 (pt_cmpR op_lt (pv 7) pe_int (nomark _))))) (pss_cons (ps_set (i := 8) sc_law_tree.nd rfl (Or.inl rfl) (pe_dn D_law_draw (hr.mono (by omega)) (by rfl) (pa_cons (pv 0) (pa_cons pe_int pa_nil))))
      (pss_cons (ps_if (pt_cmpR op_eq (pv 8) pe_int (nomark _)) (pss_one (ps_ret (pe_dn D_law_of_width (hr.mono (by omega)) (by rfl) (pa_cons (pv 0) (pa_cons (pv 1) (pa_cons (pv 3) pa_nil)))))) pss_nil)
      (pss_one (ps_expr (pe_bm PySem.F.plainAttrs_list PySem.F.slot_list_append PySem.F.type_list_append mt_append (pv 1) (pa_cons (pe_ifExp (pt_cmpR op_lt (pv 8) pe_int (nomark _)) (pe_tup (pa_cons pe_str (pa_cons (pv 3) (pa_cons (pv 2) pa_nil)))) (pe_tup (pa_cons pe_str (pa_cons (pv 3) (pa_cons (pe_dn D_law_pick (hr.mono (by omega)) (by rfl) (pa_cons (pv 0) (pa_cons (pv 4) pa_nil))) pa_nil))))) pa_nil)))))) (pss_one (ps_if (PW.pt (pw_and (pt_cmpR op_eq (pv 7) pe_int (nomark _)) (pw_and1 (pt_cmpR op_gt (pe_callB call_len_seq (by rfl) T.n_len (by decide +kernel) (pa_cons (pv 5) pa_nil)) pe_int (nomark _))))) (pss_one (ps_ret (pe_dn D_law_pick (hr.mono (by omega)) (by rfl) (pa_cons (pv 0) (pa_cons (pv 5) pa_nil))))) (pss_cons (ps_set (i := 9) sc_law_tree.nd rfl (Or.inl rfl) (pe_dn D_law_tree (hr.mono (by omega)) (by rfl) (pa_cons (pv 0) (pa_cons (pv 1) (pa_cons (pv 2) (pa_cons (pv 3) (pa_cons (pv 4) (pa_cons (pv 5) (pa_cons (pe_op op_sub (pv 6) pe_int) pa_nil)))))))))
      (pss_cons (ps_set (i := 10) sc_law_tree.nd rfl (Or.inl rfl) (pe_dn D_law_tree (hr.mono (by omega)) (by rfl) (pa_cons (pv 0) (pa_cons (pv 1) (pa_cons (pv 2) (pa_cons (pv 3) (pa_cons (pv 4) (pa_cons (pv 5) (pa_cons (pe_op op_sub (pv 6) pe_int) pa_nil)))))))))
      (pss_one (ps_expr (pe_bm PySem.F.plainAttrs_list PySem.F.slot_list_append PySem.F.type_list_append mt_append (pv 1) (pa_cons (pe_tup (pa_cons pe_str (pa_cons (pv 3) (pa_cons (pe_dn D_law_of_width (hr.mono (by omega)) (by rfl) (pa_cons (pv 0) (pa_cons (pv 1) (pa_cons pe_int pa_nil)))) (pa_cons (pv 9) (pa_cons (pv 10) pa_nil)))))) pa_nil)))))))))
      (pss_cons (ps_expr (pe_bm PySem.F.plainAttrs_list PySem.F.slot_list_append PySem.F.type_list_append mt_append (pv 5) (pa_cons (pe_op op_sub (pe_callB call_len_seq (by rfl) T.n_len (by decide +kernel) (pa_cons (pv 1) pa_nil)) pe_int) pa_nil)))
      (pss_one (ps_ret (pe_op op_sub (pe_callB call_len_seq (by rfl) T.n_len (by decide +kernel) (pa_cons (pv 1) pa_nil)) pe_int)))))), ?_⟩
  have pe : 2 ≤ 2 ^ (e + 1) := by
    have := Nat.pow_le_pow_right (n := 2) (by decide) (show 1 ≤ e + 1 by omega)
    simpa using this
  refine ⟨_, rfl, d, c, 7, rfl, tw.ds, by decide, by decide, fun t H1 r0 r1 hd1 k1 => ?_⟩
  obtain ⟨t, rfl⟩ := Int.eq_ofNat_of_zero_le r0
  have tw1 := tw.draw hd1 k1
  have kk1 : Keep [d, l, md] H H1 := k1.wide (by simp)
  refine ⟨fun σ' H' => ∃ (v8 v9 v10 : Option V) (ns' : List Nd) (n : Nd) (ms' : List Nat), σ' = [some (.ref d), some (.ref l), some (vI r), some (vI wd), some (.ref wa), some (.ref md), some (vI e), some (vI t), v8, v9, v10] ∧
    TW RW H' d c l wa md wd ws (ns' ++ [n]) ms' ∧ n.w = wd ∧ ns'.length + 2 ≤ ns.length + 2 ^ (e + 1) ∧ ms'.length + 2 ≤ ms.length + 2 ^ (e + 1) ∧ (∃ zs, ns' ++ [n] = ns ++ zs) ∧ Keep [d, l, md] H H', ?_, ?_⟩
  · refine (have LA : _ := ?la; (⟨_, rfl, rfl, _, rfl, ite2 (fun _ => LA) (fun z1 => ⟨_, rfl, _, _, rfl, rfl, _, rfl, ite2 (fun _ => LA) (fun z2 => ?_)⟩)⟩ : _))
    case la =>
      refine ⟨_, rfl, d, c, 11, rfl, hd1, by decide, by decide, fun lf H2 r0 r2 hd2 k2 => ?_⟩
      obtain ⟨lf, rfl⟩ := Int.eq_ofNat_of_zero_le r0
      have tw2 := tw1.draw hd2 k2
      have kk2 : Keep [d, l, md] H H2 := kk1.trans (k2.wide (by simp))
      refine ⟨_, rfl, rfl, _, rfl, ite2 (fun _ => ?_) (fun _ => ?_)⟩
      · refine ⟨_, rfl, _, rfl, _, rfl, d, c, l, ns, wd, rfl, hd2, tw.nld, tw2.ac, by omega, tw.hww, fun j n H3 hj hn hd3 k3 => ?_⟩
        exact q j n ns ms H3 (tw2.draw hd3 k3) hj hn (by omega) (by omega) ⟨[], by simp⟩ (kk2.trans (k3.wide (by simp)))
      obtain ⟨vs, ev, _⟩ := tw2.ac
      refine ⟨_, rfl, .inl ⟨rfl, _, SqL.of ev⟩, _, rfl, _, _, rfl, rfl, _, rfl, ite2 (fun _ => ?_) (fun _ => ?_)⟩
      · refine ⟨_, rfl, _, rfl, (by show 3 ≤ sizeLine; decide), fun p hp => ?_⟩
        obtain ⟨vs, e1, hl, tw3, k3⟩ := tw2.node (n := ⟨"reg", wd, [r]⟩) hp ((plR w1 w8).ok _) ⟨(plR (i := r) w1 w8).st, fun _ => ⟨r, rfl, hrw⟩⟩ (by omega)
        exact ⟨l, vs, _, rfl, rfl, e1, hl, _, _, _, ns, _, ms, rfl, tw3, rfl, by omega, by omega, ⟨_, rfl⟩, kk2.trans k3⟩
      · refine ⟨_, rfl, _, rfl, _, rfl, d, c, wa, _, rfl, hd2, tw.nwd, SqL.of tw2.hw, by rw [List.length_map]; exact hw1, by rw [List.length_map]; exact hw2, fun j y H3 hy hd3 k3 => ⟨(by show 3 ≤ sizeLine; decide), fun p hp => ?_⟩⟩
        obtain ⟨v, hv, rfl⟩ := natAt hy
        have tw3 := tw2.draw hd3 k3
        obtain ⟨vs, e1, hl, tw4, k4⟩ := tw3.node (n := ⟨"const", wd, [v]⟩) hp (okC (tw.wk v (List.mem_of_getElem? hv)) w1 w8) ⟨sS.1, .no sR.1⟩ (by omega)
        exact ⟨l, vs, _, rfl, rfl, e1, hl, _, _, _, ns, _, ms, rfl, tw4, rfl, by omega, by omega, ⟨_, rfl⟩, (kk2.trans (k3.wide (by simp))).trans k4⟩
    have e1 : 1 ≤ e := by
      rcases Nat.eq_zero_or_pos e with h | h
      · exact absurd (by rw [h]; rfl) z1
      · exact h
    have p2 : 2 ^ (e - 1 + 1) + 2 ^ (e - 1 + 1) = 2 ^ (e + 1) := by
      rw [show e - 1 + 1 = e by omega, Nat.pow_succ]
      omega
    refine (have LB : _ := ?lb; (⟨_, rfl, rfl, _, rfl, ite2 (fun z => ⟨_, rfl, md, _, rfl, .inl (SqL.of tw1.hm), _, _, rfl, rfl, _, rfl, ite2 (fun z2 => ?_) (fun _ => LB)⟩) (fun _ => LB)⟩ : _))
    case lb =>
      refine ⟨_, rfl, _, rfl, _, rfl, _, rfl, _, rfl, _, rfl, _, rfl, _, _, rfl, rfl, d, c, l, wa, md, wd, r, e - 1, RW, ws, ms, ns, args7 (by omega), by omega, tw1, hrw, w1, w8, hw1, hw2, by omega, by omega, fun k1 n1 ns1 ms1 H2 tw2 hk1 hn1 b1 b2 pz1 kk2 => ?_⟩
      obtain ⟨zs1, ez1⟩ := pz1
      refine ⟨_, rfl, _, rfl, _, rfl, _, rfl, _, rfl, _, rfl, _, rfl, _, _, rfl, rfl, d, c, l, wa, md, wd, r, e - 1, RW, ws, ms1, ns1, args7 (by omega), by omega, tw2, hrw, w1, w8, hw1, hw2, by omega, by omega, fun k2 n2 ns2 ms2 H3 tw3 hk2 hn2 b3 b4 pz2 kk3 => ?_⟩
      obtain ⟨zs2, ez2⟩ := pz2
      have l1 : WAt ns2 k1 wd := by
        rw [ez2]
        exact WAt.app ⟨n1, hk1, hn1⟩
      have l2 : WAt ns2 k2 wd := ⟨n2, hk2, hn2⟩
      obtain ⟨vs, ev, _⟩ := tw3.ac
      refine ⟨_, rfl, .inl ⟨rfl, _, SqL.of ev⟩, _, rfl, _, rfl, _, rfl, d, c, l, ns2, 1, rfl, tw3.ds, tw.nld, tw3.ac, by omega, tw3.h1, fun j n H4 hj hn hd4 k4 => ⟨_, rfl, _, rfl, (by show 5 ≤ sizeLine; decide), fun p hp => ?_⟩⟩
      have tw4 := tw3.draw hd4 k4
      obtain ⟨vs, e1, hl, tw5, k5⟩ := tw4.node (n := ⟨"pick", wd, [j, k1, k2]⟩) hp ⟨fun _ => ⟨j, k1, k2, rfl, l1, l2⟩, fun z => absurd z.symm sN.1, w1, w8, by simp⟩ ⟨sS.2.2.2.2, .no sR.2.2.2⟩ (by omega)
      exact ⟨l, vs, _, rfl, rfl, e1, hl, _, _, _, ns2, _, ms2, rfl, tw5, rfl, by omega, by omega, ⟨_, by rw [ez2, ez1, List.append_assoc, List.append_assoc]⟩, (((kk1.trans kk2).trans kk3).trans (k4.wide (by simp))).trans k5⟩
    have z3 : (0 : Int) < ((ms.map vI).length : Nat) := of_decide_eq_true z2
    refine ⟨_, rfl, _, rfl, d, c, md, _, rfl, hd1, tw.nmd, SqL.of tw1.hm, by omega, by rw [List.length_map]; omega, fun j y H2 hy hd2 k2 => ?_⟩
    obtain ⟨k, hk, rfl⟩ := natAt hy
    obtain ⟨n, hn, ew⟩ := tw.mw k (List.mem_of_getElem? hk)
    exact q k n ns ms H2 (tw1.draw hd2 k2) hn ew (by omega) (by omega) ⟨[], by simp⟩ (kk1.trans (k2.wide (by simp)))
  rintro σ' H' ⟨v8, v9, v10, ns', n, ms', rfl, tw2, hn, b1, b2, pz, kk⟩
  obtain ⟨vs, ev, vl, _⟩ := tw2.ac.get
  have vl2 : vs.length = ns'.length + 1 := by rw [vl, List.length_append]; rfl
  refine ⟨_, rfl, .inl ⟨rfl, _, SqL.of tw2.hm⟩, _, rfl, l, vs, rfl, .inl (SqL.of ev), _, _, rfl, rfl, md, _, _, rfl, rfl, tw2.hm, by rw [List.length_map]; exact small1000 (by omega), ?_⟩
  have lastN : (ns' ++ [n])[ns'.length]? = some n := by simp
  have tw3 := tw2.made lastN hn
  dsimp only
  rw [show V.int ((vs.length : Int) - 1) = vI ns'.length from congrArg V.int (by omega)]
  obtain ⟨vs2, ev2, vl3, _⟩ := tw3.ac.get
  refine ⟨_, rfl, l, vs2, rfl, .inl (SqL.of ev2), _, _, rfl, rfl, ?_⟩
  dsimp only
  have vl4 : vs2.length = ns'.length + 1 := by rw [vl3, List.length_append]; rfl
  rw [show V.int ((vs2.length : Int) - 1) = vI ns'.length from congrArg V.int (by omega)]
  exact q _ n _ _ _ tw3 lastN hn (by rw [List.length_append]; show ns'.length + 1 + 1 ≤ _; omega) (by rw [List.length_append]; show ms'.length + 1 + 1 ≤ _; omega) pz (kk.trans (Keep.upd (by simp)))
theorem ok_tree (F : Fun K "_law_tree" "_law_tree" s_law_tree f fd) (T : Txt mg) (D_law_draw : Dn P w K mg base "_law_draw" ["_law_d", "_law_many"] 1 spDraw) (D_law_pick : Dn P w K mg base "_law_pick" ["_law_d", "_law_row"] 2 (spPick K))
    (D_law_of_width : Dn P w K mg base "_law_of_width" ["_law_d", "_law_nodes", "_law_width"] 3 spOfW)
    (hm : mg "_law_tree" = some (.ref f)) (kp : PySem.W.keepIn K (.ref f) = true) (hb : Binds K fd ["_law_d", "_law_nodes", "_law_reg", "_law_wide", "_law_words", "_law_made", "_law_depth"] []) :
    ∀ N : Nat, FnOk P w K mg base CX0 (N + 4) f fd ["_law_d", "_law_nodes", "_law_reg", "_law_wide", "_law_words", "_law_made", "_law_depth"] (spTree N)
  | 0 => by
    refine F.ok sc_law_tree (fun vs H Q E h => ?_) (fun cdv A outer s H vs Q E hr h => ?_)
    · obtain ⟨_, _, _, _, _, _, _, _, _, _, _, _, rfl, _⟩ := h
      rfl
    · obtain ⟨_, _, _, _, _, _, _, _, _, _, _, _, _, hn, _⟩ := h
      exact absurd hn (Nat.not_lt_zero _)
  | N + 1 => step_tree N F T D_law_draw D_law_pick D_law_of_width ⟨f, fd, ok_tree F T D_law_draw D_law_pick D_law_of_width hm kp hb N, hm, kp, hb⟩
/-! ### chains of picks -/
def spChain : Sp := fun vs H Q _ => ∃ (d c l wa : Addr) (w r : Nat) (RW ws : List Nat) (ns : List Nd), vs = [.ref d, .ref l, vI r, vI w, .ref wa] ∧ RW[r]? = some w ∧ DS H d c ∧ Acc l nodeD ns H ∧ H wa = some (.lst (ws.map vI)) ∧ (∀ x ∈ ws, x < 2 ^ w) ∧ Good RW ns ∧ HasW ns 1 ∧ HasW ns w ∧ l ≠ d ∧ l ≠ c ∧ wa ≠ d ∧ wa ≠ l ∧ 1 ≤ w ∧ w ≤ 8 ∧ 1 ≤ ws.length ∧ ws.length ≤ 20 ∧ ns.length ≤ 800 ∧
  ∀ (k : Nat) (n : Nd) (ns' : List Nd) (H' : Hp), DS H' d c → Acc l nodeD ns' H' → Good RW ns' → ns'[k]? = some n → n.w = w → ns'.length ≤ ns.length + 41 → (∃ zs, ns' = ns ++ zs) → Keep [d, l] H H' → Q (vI k) H'
/-- what a chain that grows stands on -/
structure CW (RW : List Nat) (H0 H : Hp) (d c l : Addr) (w : Nat) (ns0 ns : List Nd) : Prop where
  ds : DS H d c
  ac : Acc l nodeD ns H
  gd : Good RW ns
  h1 : HasW ns 1
  nld : l ≠ d
  nlc : l ≠ c
  pre : ∃ zs, ns = ns0 ++ zs
  kp : Keep [d, l] H0 H
section
variable {RW : List Nat} {H0 H H' : Hp} {d c l : Addr} {w : Nat} {ns0 ns : List Nd}
theorem CW.draw (t : CW RW H0 H d c l w ns0 ns) (ds : DS H' d c) (k : Keep [d] H H') : CW RW H0 H' d c l w ns0 ns :=
  ⟨ds, t.ac.keep k (k.tup1 t.ds) (by simp [t.nld]), t.gd, t.h1, t.nld, t.nlc, t.pre, t.kp.trans (k.wide (by simp))⟩
theorem CW.node {p : Addr} {n : Nd} (t : CW RW H0 H d c l w ns0 ns) (hp : H p = none) (ok : n.Ok ns) (st : PyData.strOk n.op = true ∧ RgOk RW n) (hl : ns.length ≤ 1000) :
    ∃ vs : List V, upd H p (.tup (.str n.op :: vI n.w :: n.args.map vI)) l = some (.lst vs) ∧ vs.length < sizeLine ∧ CW RW H0 (upd (upd H p (.tup (.str n.op :: vI n.w :: n.args.map vI))) l (.lst (vs ++ [.ref p]))) d c l w ns0 (ns ++ [n]) := by
  have s := same_new hp (.tup (.str n.op :: vI n.w :: n.args.map vI))
  obtain ⟨vs, e, hv, a, kt⟩ := (t.ac.same s).push (y := .ref p) (x := n) (Lay.mkNode upd_same) hl
  obtain ⟨zs, ez⟩ := t.pre
  exact ⟨vs, e, hv, (t.ds.same s).keep (S := [l]) Keep.at1 (by simp [t.nld.symm]) (by simp [t.nlc.symm]), a, t.gd.snoc ok st, t.h1.app, t.nld, t.nlc, ⟨zs ++ [n], by rw [ez, List.append_assoc]⟩, (t.kp.trans (.of_same s)).trans (Keep.upd (by simp))⟩
end
theorem ok_chain (F : Fun K "_law_chain" "_law_chain" s_law_chain f fd) (T : Txt mg) (D_law_draw : Dn P w K mg base "_law_draw" ["_law_d", "_law_many"] 1 spDraw)
    (D_law_of_width : Dn P w K mg base "_law_of_width" ["_law_d", "_law_nodes", "_law_width"] 3 spOfW) :
    FnOk P w K mg base CX0 4 f fd ["_law_d", "_law_nodes", "_law_reg", "_law_wide", "_law_words"] spChain := by
  refine F.ok sc_law_chain (fun vs H Q E h => ?_) (fun cdv A outer s H vs Q E hr h => ?_)
  · obtain ⟨_, _, _, _, _, _, _, _, _, rfl, _⟩ := h
    rfl
  obtain ⟨d, c, l, wa, wd, r, RW, ws, ns, rfl, hrw, hd, hA, hw, hwk, gd, h1, hww, nld, nlc, nwd, nwl, w1, w8, hw1, hw2, hb, q⟩ := h
  refine ⟨_, (C8.pss_cut (ps_expr (pe_bm PySem.F.plainAttrs_list PySem.F.slot_list_append PySem.F.type_list_append mt_append (pv 1) (pa_cons (pe_ifExp (pt_cmpR op_eq (pe_dn D_law_draw (hr.mono (by omega)) (by rfl) (pa_cons (pv 0) (pa_cons pe_int pa_nil))) pe_int (nomark _)) (pe_tup (pa_cons pe_str (pa_cons (pv 3) (pa_cons (pv 2) pa_nil)))) (pe_tup (pa_cons pe_str (pa_cons (pv 3) (pa_cons (pe_ix ix_list (pv 4) pe_int (fun _ _ => rfl)) pa_nil))))) pa_nil)))
      (pss_cons (ps_set (i := 5) sc_law_chain.nd rfl (Or.inl rfl) (pe_op op_sub (pe_callB call_len_seq (by rfl) T.n_len (by decide +kernel) (pa_cons (pv 1) pa_nil)) pe_int))
      (pss_cons (ps_for PassesOwn.never rfl (pi_list (pv 4)) (pg_name (i := 6) sc_law_chain.nd rfl (Or.inl rfl)) (pss_cons (ps_expr (pe_bm PySem.F.plainAttrs_list PySem.F.slot_list_append PySem.F.type_list_append mt_append (pv 1) (pa_cons (pe_tup (pa_cons pe_str (pa_cons (pv 3) (pa_cons (pv 6) pa_nil)))) pa_nil)))
      (pss_cons (ps_set (i := 7) sc_law_chain.nd rfl (Or.inl rfl) (pe_op op_sub (pe_callB call_len_seq (by rfl) T.n_len (by decide +kernel) (pa_cons (pv 1) pa_nil)) pe_int))
      (pss_cons (ps_set (i := 8) sc_law_chain.nd rfl (Or.inl rfl) (pe_dn D_law_of_width (hr.mono (by omega)) (by rfl) (pa_cons (pv 0) (pa_cons (pv 1) (pa_cons pe_int pa_nil)))))
      (pss_cons (ps_expr (pe_bm PySem.F.plainAttrs_list PySem.F.slot_list_append PySem.F.type_list_append mt_append (pv 1) (pa_cons (pe_ifExp (pt_cmpR op_eq (pe_dn D_law_draw (hr.mono (by omega)) (by rfl) (pa_cons (pv 0) (pa_cons pe_int pa_nil))) pe_int (nomark _)) (pe_tup (pa_cons pe_str (pa_cons (pv 3) (pa_cons (pv 8) (pa_cons (pv 7) (pa_cons (pv 5) pa_nil)))))) (pe_tup (pa_cons pe_str (pa_cons (pv 3) (pa_cons (pv 8) (pa_cons (pv 5) (pa_cons (pv 7) pa_nil))))))) pa_nil)))
      (pss_one (ps_set (i := 5) sc_law_chain.nd rfl (Or.inl rfl) (pe_op op_sub (pe_callB call_len_seq (by rfl) T.n_len (by decide +kernel) (pa_cons (pv 1) pa_nil)) pe_int))))))))
      (pss_one (ps_ret (pv 5)))))), ?_⟩
  have cw : CW RW H H d c l wd ns ns := ⟨hd, hA, gd, h1, nld, nlc, ⟨[], by simp⟩, .refl _ _⟩
  obtain ⟨vs, ev, _⟩ := cw.ac
  have eA := fun (H' : Hp) (t : Keep [d, l] H H') => t _ _ (by simp [nwd, nwl]) hw
  refine ⟨fun σ' H' => ∃ (ns' : List Nd) (n : Nd), σ' = [some (.ref d), some (.ref l), some (vI r), some (vI wd), some (.ref wa), none, none, none, none] ∧ CW RW H H' d c l wd ns (ns' ++ [n]) ∧ n.w = wd ∧ ns'.length ≤ ns.length, ?_, ?_⟩
  · refine ⟨_, rfl, .inl ⟨rfl, _, SqL.of ev⟩, ?_⟩
    refine ⟨_, rfl, d, c, 2, rfl, hd, by decide, by decide, fun t H1 r0 r1 hd1 k1 => ?_⟩
    obtain ⟨t, rfl⟩ := Int.eq_ofNat_of_zero_le r0
    have cw1 := cw.draw hd1 k1
    refine ⟨rfl, _, rfl, ite2 (fun _ => ?_) (fun _ => ?_)⟩
    · refine ⟨_, rfl, _, rfl, (by show 3 ≤ sizeLine; decide), fun p hp => ?_⟩
      obtain ⟨vs, e1, hl, cw2⟩ := cw1.node (n := ⟨"reg", wd, [r]⟩) hp ((plR w1 w8).ok _) ⟨(plR (i := r) w1 w8).st, fun _ => ⟨r, rfl, hrw⟩⟩ (by omega)
      exact ⟨l, vs, _, rfl, rfl, e1, hl, ns, _, rfl, cw2, rfl, Nat.le_refl _⟩
    · refine ⟨_, rfl, _, rfl, wa, _, 0, (ws.map vI)[0]'(by rw [List.length_map]; omega), rfl, rfl, SqL.of (eA _ cw1.kp), atI_nat (j := 0) (List.getElem?_eq_getElem _), (by show 3 ≤ sizeLine; decide), fun p hp => ?_⟩
      rw [List.getElem_map]
      obtain ⟨vs, e1, hl, cw2⟩ := cw1.node (n := ⟨"const", wd, [ws[0]]⟩) hp (okC (hwk _ (List.getElem_mem _)) w1 w8) ⟨sS.1, .no sR.1⟩ (by omega)
      exact ⟨l, vs, _, rfl, rfl, e1, hl, ns, _, rfl, cw2, rfl, Nat.le_refl _⟩
  rintro σ' H1 ⟨ns1, n1, rfl, cw1, hn1, b1⟩
  obtain ⟨vs, ev, vl, _⟩ := cw1.ac.get
  have vl2 : vs.length = ns1.length + 1 := by rw [vl, List.length_append]; rfl
  refine ⟨_, rfl, l, vs, rfl, .inl (SqL.of ev), _, _, rfl, rfl, ?_⟩
  dsimp only
  rw [show V.int ((vs.length : Int) - 1) = vI ns1.length from congrArg V.int (by omega)]
  refine ⟨_, rfl, wa, rfl, ⟨_, SqL.of (eA _ cw1.kp)⟩, for_it (walk_list (xs := ws.map vI)) (fun i σ' H' => ∃ (v6 v7 v8 : Option V) (k : Nat) (n : Nd) (ns' : List Nd), σ' = [some (.ref d), some (.ref l), some (vI r), some (vI wd), some (.ref wa), some (vI k), v6, v7, v8] ∧ CW RW H H' d c l wd ns ns' ∧ ns'[k]? = some n ∧ n.w = wd ∧ ns'.length ≤ ns.length + 1 + 2 * i)
    ⟨_, _, _, ns1.length, n1, _, rfl, cw1, by simp, hn1, by rw [List.length_append]; show ns1.length + 1 ≤ _; omega⟩ (fun i σ' H' _ p => ?_) (fun i x σ' H' H3 hi p y => ?_) (fun σ' H' p => ?_)⟩
  · obtain ⟨_, _, _, _, _, _, _, cw, _⟩ := p
    exact SqL.of (eA _ cw.kp)
  · obtain ⟨v6, v7, v8, k, n, ns', rfl, cw2, hk, hn, b2⟩ := p
    obtain ⟨rfl, ex⟩ := y
    obtain ⟨x, hxm, rfl⟩ := natAt ex
    rw [List.length_map] at hi
    obtain ⟨vs, ev, _⟩ := cw2.ac
    refine ⟨_, rfl, .inl ⟨rfl, _, SqL.of ev⟩, _, rfl, _, rfl, (by show 3 ≤ sizeLine; decide), fun p hp => ?_⟩
    obtain ⟨vs, e1, hl, cw3⟩ := cw2.node (n := ⟨"const", wd, [x]⟩) hp (okC (hwk x (List.mem_of_getElem? hxm)) w1 w8) ⟨sS.1, .no sR.1⟩ (by omega)
    refine ⟨l, vs, _, rfl, rfl, e1, hl, ?_⟩
    obtain ⟨vs, ev, vl, _⟩ := cw3.ac.get
    have vl2 : vs.length = ns'.length + 1 := by rw [vl, List.length_append]; rfl
    refine ⟨_, rfl, l, vs, rfl, .inl (SqL.of ev), _, _, rfl, rfl, ?_⟩
    dsimp only
    rw [show V.int ((vs.length : Int) - 1) = vI ns'.length from congrArg V.int (by omega)]
    have l1 : WAt (ns' ++ [(⟨"const", wd, [x]⟩ : Nd)]) k wd := WAt.app ⟨n, hk, hn⟩
    have l2 : WAt (ns' ++ [(⟨"const", wd, [x]⟩ : Nd)]) ns'.length wd := ⟨⟨"const", wd, [x]⟩, by simp, rfl⟩
    have l3 : (ns' ++ [(⟨"const", wd, [x]⟩ : Nd)]).length = ns'.length + 1 := by rw [List.length_append]; rfl
    generalize ns' ++ [(⟨"const", wd, [x]⟩ : Nd)] = ns2 at cw3 l1 l2 l3
    refine ⟨_, rfl, _, rfl, d, c, l, ns2, 1, rfl, cw3.ds, nld, cw3.ac, by omega, cw3.h1, fun j m H5 hj hm hd5 k5 => ?_⟩
    have cw5 := cw3.draw hd5 k5
    obtain ⟨vs, ev, _⟩ := cw5.ac
    refine ⟨_, rfl, .inl ⟨rfl, _, SqL.of ev⟩, ?_⟩
    refine ⟨_, rfl, d, c, 2, rfl, hd5, by decide, by decide, fun t H6 r0 r1 hd6 k6 => ?_⟩
    obtain ⟨t, rfl⟩ := Int.eq_ofNat_of_zero_le r0
    have cw6 := cw5.draw hd6 k6
    refine ⟨rfl, _, rfl, ite2 (fun _ => ?_) (fun _ => ?_)⟩
    · refine ⟨_, rfl, _, rfl, _, rfl, _, rfl, (by show 5 ≤ sizeLine; decide), fun p hp => ?_⟩
      obtain ⟨vs, e1, hl, cw7⟩ := cw6.node (n := ⟨"pick", wd, [j, ns'.length, k]⟩) hp ⟨fun _ => ⟨_, _, _, rfl, l2, l1⟩, fun z => absurd z.symm sN.1, w1, w8, by simp⟩ ⟨sS.2.2.2.2, .no sR.2.2.2⟩ (by omega)
      refine ⟨l, vs, _, rfl, rfl, e1, hl, ?_⟩
      obtain ⟨vs, ev, vl, _⟩ := cw7.ac.get
      have vl2 : vs.length = ns2.length + 1 := by rw [vl, List.length_append]; rfl
      refine ⟨_, rfl, l, vs, rfl, .inl (SqL.of ev), _, _, rfl, rfl, ?_⟩
      dsimp only
      rw [show V.int ((vs.length : Int) - 1) = vI ns2.length from congrArg V.int (by omega)]
      exact ⟨_, _, _, ns2.length, ⟨"pick", wd, [j, ns'.length, k]⟩, _, rfl, cw7, by simp, rfl, by rw [List.length_append]; show ns2.length + 1 ≤ _; omega⟩
    · refine ⟨_, rfl, _, rfl, _, rfl, _, rfl, (by show 5 ≤ sizeLine; decide), fun p hp => ?_⟩
      obtain ⟨vs, e1, hl, cw7⟩ := cw6.node (n := ⟨"pick", wd, [j, k, ns'.length]⟩) hp ⟨fun _ => ⟨_, _, _, rfl, l1, l2⟩, fun z => absurd z.symm sN.1, w1, w8, by simp⟩ ⟨sS.2.2.2.2, .no sR.2.2.2⟩ (by omega)
      refine ⟨l, vs, _, rfl, rfl, e1, hl, ?_⟩
      obtain ⟨vs, ev, vl, _⟩ := cw7.ac.get
      have vl2 : vs.length = ns2.length + 1 := by rw [vl, List.length_append]; rfl
      refine ⟨_, rfl, l, vs, rfl, .inl (SqL.of ev), _, _, rfl, rfl, ?_⟩
      dsimp only
      rw [show V.int ((vs.length : Int) - 1) = vI ns2.length from congrArg V.int (by omega)]
      exact ⟨_, _, _, ns2.length, ⟨"pick", wd, [j, k, ns'.length]⟩, _, rfl, cw7, by simp, rfl, by rw [List.length_append]; show ns2.length + 1 ≤ _; omega⟩
  · obtain ⟨v6, v7, v8, k, n, ns', rfl, cw2, hk, hn, b2⟩ := p
    rw [List.length_map] at b2
    exact ⟨_, rfl, q k n ns' H' cw2.ds cw2.ac cw2.gd hk hn (by omega) cw2.pre cw2.kp⟩
end
end Bf

set_option Elab.async false
set_option linter.all false
set_option maxRecDepth 100000
set_option maxHeartbeats 4000000
namespace Bf
open PySem PySem.Spec PyProof.Rows L2
/-! ### registers that are machines -/
theorem cut_nat (ws : List Nat) (n : Nat) : cutV (ws.map vI) none (some (n : Int)) = (ws.take n).map vI := by
  unfold cutV
  rw [HT.sIx_nat, HT.sIx_none, List.drop_zero, Nat.sub_zero, List.length_map, List.map_take]
  rcases Nat.le_total n ws.length with h | h
  · rw [Nat.min_eq_left h]
  · rw [Nat.min_eq_right h, List.take_of_length_le (by rw [List.length_map]; exact Nat.le_refl _), List.take_of_length_le (by rw [List.length_map]; exact h)]
theorem natsOf : ∀ ys : List V, (∀ y ∈ ys, ∃ n : Nat, y = vI n) → ∃ ns : List Nat, ys = ns.map vI
  | [], _ => ⟨[], rfl⟩
  | y :: ys, h => by
    obtain ⟨n, rfl⟩ := h y (by simp)
    obtain ⟨ns, e⟩ := natsOf ys fun z hz => h z (by simp [hz])
    exact ⟨n :: ns, by rw [e]; rfl⟩
theorem LayAll.set {H : Hp} {v : V} {d : PyData} (l : Lay H v d) : ∀ (ds : List PyData) (vs : List V) (i : Nat), LayAll H vs ds → LayAll H (vs.set i v) (ds.set i d)
  | [], vs, i, h => by
    obtain rfl := h.nil_inv
    exact h
  | e :: ds, vs, i, h => by
    obtain ⟨u, us, rfl, l0, l1⟩ := h.cons_inv
    cases i with
    | zero => exact .cons l l1
    | succ i => exact .cons l0 (LayAll.set l ds us i l1)
theorem setSame {α : Type} : ∀ {l : List α} {i : Nat} {a : α}, l[i]? = some a → l.set i a = l
  | [], _, _, _ => rfl
  | _ :: _, 0, _, h => by cases h; rfl
  | x :: l, i + 1, a, h => by
    show x :: l.set i a = x :: l
    rw [setSame (l := l) (by simpa using h)]
/-- the state of the machines that are being made -/
structure MW (H0 H : Hp) (d c ln lr lo : Addr) (ns : List Nd) (rs : List (Str × Nat × Nat × Nat)) (no : Nat) : Prop where
  ds : DS H d c
  an : Acc ln nodeD ns H
  ar : Acc lr regD4 rs H
  ao : ∃ vo : List V, H lo = some (.lst vo) ∧ vo.length = no
  fn : ln ≠ d ∧ ln ≠ c ∧ H0 ln = none
  fr : lr ≠ d ∧ lr ≠ c ∧ H0 lr = none
  fo : lo ≠ d ∧ lo ≠ c ∧ H0 lo = none
  nr : ln ≠ lr
  no_ : ln ≠ lo
  ro_ : lr ≠ lo
  kp : Keep [d] H0 H
  kt : KeepT H0 H
  gd : Good (rs.map fun r => r.2.1) ns
  h1 : HasW ns 1
  ro : RsOk rs ns
section
variable {H0 H H' : Hp} {d c ln lr lo : Addr} {ns : List Nd} {rs : List (Str × Nat × Nat × Nat)} {no : Nat}
theorem MW.draw (t : MW H0 H d c ln lr lo ns rs no) (ds : DS H' d c) (k : Keep [d] H H') : MW H0 H' d c ln lr lo ns rs no :=
  have kt := k.tup1 t.ds
  ⟨ds, t.an.keep k kt (by simp [t.fn.1]), t.ar.keep k kt (by simp [t.fr.1]), let ⟨vo, e, l⟩ := t.ao; ⟨vo, k _ _ (by simp [t.fo.1]) e, l⟩, t.fn, t.fr, t.fo, t.nr, t.no_, t.ro_, t.kp.trans k, t.kt.trans kt, t.gd, t.h1, t.ro⟩
theorem MW.same (t : MW H0 H d c ln lr lo ns rs no) (s : Same H H') : MW H0 H' d c ln lr lo ns rs no := t.draw (t.ds.same s) (.of_same s)
theorem MW.new {p : Addr} {o : HO} (t : MW H0 H d c ln lr lo ns rs no) (hp : H p = none) : MW H0 (upd H p o) d c ln lr lo ns rs no := t.same (same_new hp _)
/-- what a new place is apart from -/
def Apart (H0 : Hp) (d c ln lr lo p : Addr) : Prop := p ≠ d ∧ p ≠ c ∧ p ≠ ln ∧ p ≠ lr ∧ p ≠ lo ∧ H0 p = none
theorem MW.free {p : Addr} (t : MW H0 H d c ln lr lo ns rs no) (hp : H p = none) : Apart H0 d c ln lr lo p := by
  obtain ⟨a, b⟩ := t.ds.new hp
  obtain ⟨x1, e1, _⟩ := t.an
  obtain ⟨x2, e2, _⟩ := t.ar
  obtain ⟨x3, e3, _⟩ := t.ao
  exact ⟨a, b, (ne_of_none e1 hp).symm, (ne_of_none e2 hp).symm, (ne_of_none e3 hp).symm, t.kp.free hp (by simp [a])⟩
/-- a list apart is written -/
theorem MW.put {p : Addr} {l l' : List V} (t : MW H0 H d c ln lr lo ns rs no) (f : Apart H0 d c ln lr lo p) (e : H p = some (.lst l)) : MW H0 (upd H p (.lst l')) d c ln lr lo ns rs no := by
  obtain ⟨a, b, x, y, z, w⟩ := f
  have kt : KeepT H (upd H p (.lst l')) := .lst e
  have k : Keep [p] H (upd H p (.lst l')) := Keep.at1
  exact ⟨t.ds.keep k (by simp [a.symm]) (by simp [b.symm]), t.an.keep k kt (by simp [x.symm]), t.ar.keep k kt (by simp [y.symm]), let ⟨vo, e, l⟩ := t.ao; ⟨vo, k _ _ (by simp [z.symm]) e, l⟩, t.fn, t.fr, t.fo, t.nr, t.no_, t.ro_, (t.kp.cat k).thin (by simp [w]), t.kt.trans kt, t.gd, t.h1, t.ro⟩
/-- the nodes have grown -/
theorem MW.grow {S : List Addr} {ns' : List Nd} (t : MW H0 H d c ln lr lo ns rs no) (k : Keep S H H') (hS : ∀ b ∈ S, b = d ∨ b = ln ∨ (b ≠ lr ∧ b ≠ lo ∧ H0 b = none)) (kt : KeepT H H') (ds : DS H' d c) (a : Acc ln nodeD ns' H') (gd : Good (rs.map fun r => r.2.1) ns') (pre : ∃ zs, ns' = ns ++ zs) : MW H0 H' d c ln lr lo ns' rs no := by
  have n1 : lr ∉ S := fun h => by
    rcases hS _ h with q | q | q
    · exact t.fr.1 q
    · exact t.nr q.symm
    · exact q.1 rfl
  have n2 : lo ∉ S := fun h => by
    rcases hS _ h with q | q | q
    · exact t.fo.1 q
    · exact t.no_ q.symm
    · exact q.2.1 rfl
  obtain ⟨zs, ez⟩ := pre
  refine ⟨ds, a, t.ar.keep k kt n1, let ⟨vo, e, l⟩ := t.ao; ⟨vo, k _ _ n2 e, l⟩, t.fn, t.fr, t.fo, t.nr, t.no_, t.ro_, (t.kp.cat k).thin fun b hb => ?_, t.kt.trans kt, gd, ez ▸ t.h1.app, ez ▸ t.ro.app⟩
  rcases List.mem_append.mp hb with q | q
  · exact .inl q
  · rcases hS _ q with q | q | q
    · exact .inl (by simp [q])
    · exact .inr (q ▸ t.fn.2.2)
    · exact .inr q.2.2
/-- a node more -/
theorem MW.node {p : Addr} {n : Nd} (t : MW H0 H d c ln lr lo ns rs no) (hp : H p = none) (ok : n.Ok ns) (st : PyData.strOk n.op = true ∧ RgOk (rs.map fun r => r.2.1) n) (hl : ns.length ≤ 1000) :
    ∃ vs : List V, upd H p (.tup (.str n.op :: vI n.w :: n.args.map vI)) ln = some (.lst vs) ∧ vs.length < sizeLine ∧ MW H0 (upd (upd H p (.tup (.str n.op :: vI n.w :: n.args.map vI))) ln (.lst (vs ++ [.ref p]))) d c ln lr lo (ns ++ [n]) rs no ∧ (upd (upd H p (.tup (.str n.op :: vI n.w :: n.args.map vI))) ln (.lst (vs ++ [.ref p]))) ln = some (.lst (vs ++ [.ref p])) ∧ (vs ++ [V.ref p]).length = ns.length + 1 ∧ Keep [ln] H (upd (upd H p (.tup (.str n.op :: vI n.w :: n.args.map vI))) ln (.lst (vs ++ [.ref p]))) := by
  have s := same_new hp (.tup (.str n.op :: vI n.w :: n.args.map vI))
  have t1 := t.same s
  obtain ⟨vs, e, hv, a, kt⟩ := t1.an.push (y := .ref p) (x := n) (Lay.mkNode upd_same) hl
  obtain ⟨vs', e', l', _⟩ := t1.an.get
  rw [e] at e'
  cases e'
  exact ⟨vs, e, hv, t1.grow (S := [ln]) Keep.at1 (by simp) kt (t1.ds.keep (S := [ln]) Keep.at1 (by simp [t.fn.1.symm]) (by simp [t.fn.2.1.symm])) a (t.gd.snoc ok st) ⟨_, rfl⟩, upd_same, by rw [List.length_append, l']; rfl, (Keep.of_same s).trans Keep.at1⟩
/-- a register is written -/
theorem MW.reg {p : Addr} {r : Str × Nat × Nat × Nat} {i : Nat} (t : MW H0 H d c ln lr lo ns rs no) (hp : H p = none) (hi : (rs.map fun r => r.2.1)[i]? = some r.2.1) (h1 : 1 ≤ r.2.1) (h8 : r.2.1 ≤ 8) (ha : r.2.2.2 < ns.length) (hw : HasW ns r.2.1 ∧ r.2.2.1 < 2 ^ r.2.1 ∧ WAt ns r.2.2.2 r.2.1) :
    ∃ vs : List V, upd H p (.tup [.str r.1, vI r.2.1, vI r.2.2.1, vI r.2.2.2]) lr = some (.lst vs) ∧ vs.length = rs.length ∧ MW H0 (upd (upd H p (.tup [.str r.1, vI r.2.1, vI r.2.2.1, vI r.2.2.2])) lr (.lst (vs.set i (.ref p)))) d c ln lr lo ns (rs.set i r) no := by
  have s := same_new hp (.tup [.str r.1, vI r.2.1, vI r.2.2.1, vI r.2.2.2])
  have t1 := t.same s
  obtain ⟨vs, e, l, y⟩ := t1.ar.get
  have kt : KeepT (upd H p (.tup [.str r.1, vI r.2.1, vI r.2.2.1, vI r.2.2.2])) (upd (upd H p (.tup [.str r.1, vI r.2.1, vI r.2.2.1, vI r.2.2.2])) lr (.lst (vs.set i (.ref p)))) := .lst e
  have k : Keep [lr] (upd H p (.tup [.str r.1, vI r.2.1, vI r.2.2.1, vI r.2.2.2])) (upd (upd H p (.tup [.str r.1, vI r.2.1, vI r.2.2.1, vI r.2.2.2])) lr (.lst (vs.set i (.ref p)))) := Keep.at1
  refine ⟨vs, e, l, t1.ds.keep k (by simp [t.fr.1.symm]) (by simp [t.fr.2.1.symm]), t1.an.keep k kt (by simp [t.nr]), ⟨_, upd_same, ?_⟩, let ⟨vo, e, l⟩ := t1.ao; ⟨vo, k _ _ (by simp [t.ro_.symm]) e, l⟩, t.fn, t.fr, t.fo, t.nr, t.no_, t.ro_, (t1.kp.cat k).thin (by simp [t.fr.2.2]), t1.kt.trans kt, (by rw [List.map_set, setSame hi]; exact t.gd), t.h1, fun r' hr' => ?_⟩
  · rw [List.map_set]
    exact (LayAll.set (d := regD4 r) (.tup upd_same (.cons (.str _) (.cons (.int _) (.cons (.int _) (.cons (.int _) .nil))))) _ _ i y).keep' kt
  · rcases List.mem_or_eq_of_mem_set hr' with q | q
    · exact t.ro r' q
    · rw [q]; exact ⟨h1, h8, ha, hw⟩
/-- an output more -/
theorem MW.out {y : V} (t : MW H0 H d c ln lr lo ns rs no) (hn : no ≤ 1000) : ∃ vs : List V, H lo = some (.lst vs) ∧ vs.length < sizeLine ∧ MW H0 (upd H lo (.lst (vs ++ [y]))) d c ln lr lo ns rs (no + 1) := by
  obtain ⟨vs, e, l⟩ := t.ao
  have kt : KeepT H (upd H lo (.lst (vs ++ [y]))) := .lst e
  have k : Keep [lo] H (upd H lo (.lst (vs ++ [y]))) := Keep.at1
  exact ⟨vs, e, by rw [l]; exact small1000 hn, t.ds.keep k (by simp [t.fo.1.symm]) (by simp [t.fo.2.1.symm]), t.an.keep k kt (by simp [t.no_]), t.ar.keep k kt (by simp [t.ro_]), ⟨_, upd_same, by rw [List.length_append, l]; rfl⟩, t.fn, t.fr, t.fo, t.nr, t.no_, t.ro_, (t.kp.cat k).thin (by simp [t.fo.2.2]), t.kt.trans kt, t.gd, t.h1, t.ro⟩
end
theorem regAt {H : Hp} {vs : List V} {gs : List (Str × Nat × Nat × Nat)} {i : Nat} (h : LayAll H vs (gs.map regD4)) (hi : i < gs.length) : ∃ (r : Str × Nat × Nat × Nat) (q : Addr), gs[i]? = some r ∧ vs[i]? = some (.ref q) ∧ H q = some (.tup [.str r.1, vI r.2.1, vI r.2.2.1, vI r.2.2.2]) := by
  have e : (gs.map regD4)[i]? = some (regD4 gs[i]) := by rw [List.getElem?_map, List.getElem?_eq_getElem hi]; rfl
  obtain ⟨v, hv, l⟩ := h.at_ i e
  obtain ⟨q, rfl, hq⟩ := l.rg4
  exact ⟨gs[i], q, List.getElem?_eq_getElem hi, hv, hq⟩
theorem strK {i : Nat} (h : i ≤ 3) : (Str.ofString (toString (i : Int))).length ≤ 5 := by
  have : i = 0 ∨ i = 1 ∨ i = 2 ∨ i = 3 := by omega
  rcases this with rfl | rfl | rfl | rfl <;> decide +kernel
end Bf

set_option Elab.async false
set_option linter.all false
set_option maxRecDepth 100000
set_option maxHeartbeats 4000000
namespace Bf
open PySem PySem.Spec PyProof.Rows L2
theorem ixNat {n j : Nat} (hj : j < n) : ixN n (j : Int) = some j := by
  unfold ixN
  rw [if_pos (by omega), if_pos (by omega)]
  rfl
/-- a graph that stands, whatever its outputs are -/
def GrW (H : Hp) (v : V) (G : Gr) : Prop := ∃ (p pi pn pr po : Addr) (v4 v6 : V) (xi vn vr xo : List V), v = .ref p ∧ GrAt H p pi pn pr po v4 v6 xi vn vr xo G
def spMach : Sp := fun vs H Q _ => ∃ (d c : Addr) (v : V) (G : Gr) (many : Nat), vs = [.ref d, v, vI many, .int 9] ∧ DS H d c ∧ GrV H v G ∧ G.Ok ∧ many ≤ 3 ∧ (∀ r ∈ G.rs, r.2.1 ≤ 4) ∧ G.ns.length ≤ 100 ∧ G.rs.length ≤ 4 ∧ G.ni ≤ 3 ∧
  ∀ (v' : V) (G' : Gr) (H' : Hp), GrW H' v' G' → G'.Ok → G'.rs.length = G.rs.length → (∀ r ∈ G'.rs, r.2.1 ≤ 4) → G'.ns.length ≤ 900 → DS H' d c → Keep [d] H H' → Q v' H'
section
variable {P : Program} {w : World} {K : PySem.W.Frag} {mg : Str → Option Value} {base : Heap} {f : Addr} {fd : FuncData}
theorem ok_mach (F : Fun K "_law_machines" "_law_machines" s_law_machines f fd) (T : Txt mg) (D_law_draw : Dn P w K mg base "_law_draw" ["_law_d", "_law_many"] 1 spDraw) (D_law_pick : Dn P w K mg base "_law_pick" ["_law_d", "_law_row"] 2 (spPick K))
    (D_law_shuffled : Dn P w K mg base "_law_shuffled" ["_law_d", "_law_row"] 2 (spShuf K))
    (D_law_chain : Dn P w K mg base "_law_chain" ["_law_d", "_law_nodes", "_law_reg", "_law_wide", "_law_words"] 4 spChain)
    (D_law_tree : Dn P w K mg base "_law_tree" ["_law_d", "_law_nodes", "_law_reg", "_law_wide", "_law_words", "_law_made", "_law_depth"] 8 (spTree 4)) :
    FnOk P w K mg base CX0 9 f fd ["_law_d", "_law_graph_here", "_law_many", "_law_longest"] spMach := by
  refine F.ok sc_law_machines (fun vs H Q E h => ?_) (fun cdv A outer s H vs Q E hr h => ?_)
  · obtain ⟨d, c, v, G, many, rfl, _⟩ := h
    rfl
  obtain ⟨d, c, v, G, many, rfl, hd, hG, ok, hm, hm4, hn1, hr1, hi1, q⟩ := h
  refine ⟨_, (pss_cons (ps_set (i := 4) sc_law_machines.nd rfl (Or.inl rfl) (pe_callTy call_list_of (by rfl) T.n_list (by decide +kernel) (pa_cons (pe_ix ix_tup (pv 1) pe_int (fun _ _ => rfl)) pa_nil)))
      (pss_cons (ps_set (i := 5) sc_law_machines.nd rfl (Or.inl rfl) (pe_callTy call_list_of (by rfl) T.n_list (by decide +kernel) (pa_cons (pe_ix ix_tup (pv 1) pe_int (fun _ _ => rfl)) pa_nil)))
      (pss_cons (ps_set (i := 6) sc_law_machines.nd rfl (Or.inl rfl) (pe_callTy call_list_of (by rfl) T.n_list (by decide +kernel) (pa_cons (pe_ix ix_tup (pv 1) pe_int (fun _ _ => rfl)) pa_nil)))
      (pss_cons (ps_set (i := 7) sc_law_machines.nd rfl (Or.inl rfl) (pe_op op_add pe_int (pe_callB call_len_seq (by rfl) T.n_len (by decide +kernel) (pa_cons (pe_ix ix_tup (pv 1) pe_int (fun _ _ => rfl)) pa_nil))))
      (pss_cons (ps_for PassesOwn.never rfl (pi_range1 rfl T.n_range (pa_cons (pe_callB (cr_minN rfl) (by rfl) T.n_min (by decide +kernel) (pa_cons (pv 2) (pa_cons (pe_callB call_len_seq (by rfl) T.n_len (by decide +kernel) (pa_cons (pv 5) pa_nil)) pa_nil))) pa_nil)) (pg_name (i := 8) sc_law_machines.nd rfl (Or.inl rfl)) (pss_cons (ps_asg (pe_ix ix_list (pv 5) (pv 8) (fun _ _ => rfl)) (pg_tup rfl (pgs_cons (pg_name (i := 9) sc_law_machines.nd rfl (Or.inl rfl)) (pgs_cons (pg_name (i := 10) sc_law_machines.nd rfl (Or.inr rfl)) (pgs_cons (pg_name (i := 11) sc_law_machines.nd rfl (Or.inl rfl)) (pgs_cons (pg_name (i := 12) sc_law_machines.nd rfl (Or.inl rfl)) pgs_nil))))))
      (pss_cons (ps_setLc (i := 13) (own := [("_law_n", 16)]) (g := (gName 16)) (tt := tYes) rfl sc_law_machines.nd rfl rfl (sw_true rfl rfl rfl (by decide +kernel)) (pi_range1 rfl T.n_range (pa_cons (pe_op op_add pe_int (pe_dn D_law_draw (hr.mono (by omega)) (by rfl) (pa_cons (pv 0) (pa_cons pe_int pa_nil)))) pa_nil)) (blkOk_by (N := ["_law_d", "_law_graph_here", "_law_many", "_law_longest", "_law_nodes", "_law_regs", "_law_shown", "_law_first", "_law_k", "_law_name", "_law_wide", "_law_start", "_law_after", "_law_words", "_law_word", "_law_more", "_law_n"]) (sc := defScope s_law_machines) (by decide +kernel)) (fun _ _ _ _ _ => (pg_name (i := 16) sc_law_machines.nd rfl (Or.inl rfl))) (fun _ _ _ _ _ => pts_nil) (fun _ _ _ _ _ => (pe_dn D_law_draw (hr.mono (by omega)) (by rfl) (pa_cons (pv 0) (pa_cons (pe_op op_oneShl pe_int (pv 10)) pa_nil)))))
      (pss_cons (ps_for PassesOwn.never rfl (pi_list (pe_slice sl_list (pv 13) po_none (po_some pe_int))) (pg_name (i := 14) sc_law_machines.nd rfl (Or.inl rfl)) (pss_cons (ps_expr (pe_bm PySem.F.plainAttrs_list PySem.F.slot_list_append PySem.F.type_list_append mt_append (pv 4) (pa_cons (pe_tup (pa_cons pe_str (pa_cons (pv 10) (pa_cons (pv 14) pa_nil)))) pa_nil)))
      (pss_one (ps_expr (pe_bm PySem.F.plainAttrs_list PySem.F.slot_list_append PySem.F.type_list_append mt_append (pv 4) (pa_cons (pe_tup (pa_cons (pe_dn D_law_pick (hr.mono (by omega)) (by rfl) (pa_cons (pv 0) (pa_cons (pe_lst (pa_cons pe_str (pa_cons pe_str (pa_cons pe_str pa_nil)))) pa_nil))) (pa_cons pe_int (pa_cons (pe_op op_add (pv 7) (pv 8)) (pa_cons (pe_op op_sub (pe_callB call_len_seq (by rfl) T.n_len (by decide +kernel) (pa_cons (pv 4) pa_nil)) pe_int) pa_nil))))) pa_nil))))))
      (C8.pss_cut (ps_if (pt_cmpR op_eq (pe_dn D_law_draw (hr.mono (by omega)) (by rfl) (pa_cons (pv 0) (pa_cons pe_int pa_nil))) pe_int (nomark _)) (pss_cons (ps_set (i := 15) sc_law_machines.nd rfl (Or.inl rfl) (pe_callB (cr_minN rfl) (by rfl) T.n_min (by decide +kernel) (pa_cons (pv 3) (pa_cons (pe_dn D_law_pick (hr.mono (by omega)) (by rfl) (pa_cons (pv 0) (pa_cons (pe_lst (pa_cons pe_int (pa_cons pe_int (pa_cons pe_int (pa_cons pe_int (pa_cons pe_int (pa_cons pe_int (pa_cons pe_int (pa_cons pe_int pa_nil))))))))) pa_nil))) pa_nil))))
      (pss_cons (ps_set (i := 13) sc_law_machines.nd rfl (Or.inl rfl) (pe_op op_cat (pe_slice sl_list (pv 13) po_none (po_some pe_int)) (pe_slice sl_list (pe_dn D_law_shuffled (hr.mono (by omega)) (by rfl) (pa_cons (pv 0) (pa_cons (pe_listRg rfl (by rfl) T.n_list (prg_1 (by rfl) T.n_range (pe_callB (cr_minN rfl) (by rfl) T.n_min (by decide +kernel) (pa_cons pe_int (pa_cons (pe_op op_oneShl pe_int (pv 10)) pa_nil))))) pa_nil))) po_none (po_some (pv 15)))))
      (pss_one (ps_set (i := 12) sc_law_machines.nd rfl (Or.inl rfl) (pe_dn D_law_chain (hr.mono (by omega)) (by rfl) (pa_cons (pv 0) (pa_cons (pv 4) (pa_cons (pv 8) (pa_cons (pv 10) (pa_cons (pv 13) pa_nil)))))))))) (pss_one (ps_set (i := 12) sc_law_machines.nd rfl (Or.inl rfl) (pe_dn D_law_tree (hr.mono (by omega)) (by rfl) (pa_cons (pv 0) (pa_cons (pv 4) (pa_cons (pv 8) (pa_cons (pv 10) (pa_cons (pv 13) (pa_cons (pe_lst pa_nil) (pa_cons pe_int pa_nil)))))))))))
      (C8.pss_cut (ps_asg (pe_tup (pa_cons (pv 9) (pa_cons (pv 10) (pa_cons (pe_ifExp (pt_cmpR op_eq (pe_dn D_law_draw (hr.mono (by omega)) (by rfl) (pa_cons (pv 0) (pa_cons pe_int pa_nil))) pe_int (nomark _)) (pv 11) (pe_ix ix_list (pv 13) pe_int (fun _ _ => rfl))) (pa_cons (pv 12) pa_nil))))) (pg_sub (pv 5) (pv 8) set_list))
      (pss_cons (ps_expr (pe_bm PySem.F.plainAttrs_list PySem.F.slot_list_append PySem.F.type_list_append mt_append (pv 6) (pa_cons (pe_tup (pa_cons (pe_op op_add_str pe_str (pe_callTy call_str_int (by rfl) T.n_str (by decide +kernel) (pa_cons (pv 8) pa_nil))) (pa_cons (pe_op op_add (pv 7) (pv 8)) pa_nil))) pa_nil)))
      (pss_one (ps_if (pt_cmpR op_eq (pe_dn D_law_draw (hr.mono (by omega)) (by rfl) (pa_cons (pv 0) (pa_cons pe_int pa_nil))) pe_int (nomark _)) (pss_one (ps_expr (pe_bm PySem.F.plainAttrs_list PySem.F.slot_list_append PySem.F.type_list_append mt_append (pv 6) (pa_cons (pe_tup (pa_cons (pe_op op_add_str pe_str (pe_callTy call_str_int (by rfl) T.n_str (by decide +kernel) (pa_cons (pv 8) pa_nil))) (pa_cons (pv 12) pa_nil))) pa_nil)))) pss_nil)))))))))
      (pss_cons (ps_set (i := 6) sc_law_machines.nd rfl (Or.inl rfl) (pe_callTy call_tuple_of (by rfl) T.n_tuple (by decide +kernel) (pa_cons (pe_dn D_law_shuffled (hr.mono (by omega)) (by rfl) (pa_cons (pv 0) (pa_cons (pv 6) pa_nil))) pa_nil)))
      (pss_one (ps_ret (pe_tup (pa_cons pe_str (pa_cons (pe_ix ix_tup (pv 1) pe_int (fun _ _ => rfl)) (pa_cons (pe_callTy call_tuple_of (by rfl) T.n_tuple (by decide +kernel) (pa_cons (pv 4) pa_nil)) (pa_cons (pe_callTy call_tuple_of (by rfl) T.n_tuple (by decide +kernel) (pa_cons (pv 5) pa_nil)) (pa_cons (pe_ix ix_tup (pv 1) pe_int (fun _ _ => rfl)) (pa_cons (pv 6) (pa_cons (pe_ix ix_tup (pv 1) pe_int (fun _ _ => rfl)) pa_nil)))))))))))))))), ?_⟩
  obtain ⟨p, pi, pn, pr, po, v4, v6, xi, vn, vr, xo, rfl, hxo, at_⟩ := hG
  have nlen : vn.length = G.ns.length := by simpa using at_.ln.len
  have rlen : vr.length = G.rs.length := by simpa using at_.lr.len
  refine ⟨_, rfl, p, _, _, _, rfl, rfl, SqT.of at_.top, atI_nat (j := 2) rfl, pn, vn, rfl, .inr (SqT.of at_.hn), fun ln hln => ?_⟩
  have s1 := same_new hln (.lst vn)
  have hd1 := hd.same s1
  obtain ⟨a1, a2⟩ := hd.new hln
  refine ⟨_, rfl, p, _, _, _, rfl, rfl, SqT.of (s1 _ _ at_.top), atI_nat (j := 3) rfl, pr, vr, rfl, .inr (SqT.of (s1 _ _ at_.hr)), fun lr hlr => ?_⟩
  have s2 := s1.trans (same_new hlr (.lst vr))
  obtain ⟨b1, b2⟩ := hd1.new hlr
  have nlr : lr ≠ ln := (ne_of_none upd_same hlr).symm
  have hd2 := hd1.same (same_new hlr (.lst vr))
  refine ⟨_, rfl, p, _, _, _, rfl, rfl, SqT.of (s2 _ _ at_.top), atI_nat (j := 5) rfl, po, xo, rfl, .inr (SqT.of (s2 _ _ at_.ho)), fun lo hlo => ?_⟩
  have s3 := s2.trans (same_new hlo (.lst xo))
  obtain ⟨c1, c2⟩ := hd2.new hlo
  have nl1 : lo ≠ lr := (ne_of_none upd_same hlo).symm
  have nl2 : lo ≠ ln := (ne_of_none (same_new hlr (.lst vr) _ _ upd_same) hlo).symm
  have mw : MW H (upd (upd (upd H ln (.lst vn)) lr (.lst vr)) lo (.lst xo)) d c ln lr lo G.ns G.rs xo.length := ⟨hd2.same (same_new hlo _), ⟨vn, same_new hlo _ _ _ (same_new hlr _ _ _ upd_same), at_.ln.keep' (.same s3)⟩, ⟨vr, same_new hlo _ _ _ upd_same, at_.lr.keep' (.same s3)⟩, ⟨xo, upd_same, rfl⟩,
    ⟨a1, a2, hln⟩, ⟨b1, b2, s1.free hlr⟩, ⟨c1, c2, s2.free hlo⟩, nlr.symm, nl2.symm, nl1.symm, .of_same s3, .same s3, ok.good, ok.w1, ok.regs⟩
  refine ⟨_, rfl, p, _, _, _, rfl, rfl, SqT.of (s3 _ _ at_.top), atI_nat (j := 1) rfl, pi, xi, rfl, .inr (SqT.of (s3 _ _ at_.hi)), _, _, rfl, rfl, ?_⟩
  dsimp only
  rw [show V.int (1 + (xi.length : Int)) = vI (1 + G.ni) from congrArg V.int (by rw [at_.li]; omega)]
  generalize upd (upd (upd H ln (.lst vn)) lr (.lst vr)) lo (.lst xo) = H3 at mw s3 ⊢
  obtain ⟨vr3, er3, lr3, _⟩ := mw.ar.get
  refine ⟨_, rfl, _, rfl, lr, vr3, rfl, .inl (SqL.of er3), many, vr3.length, rfl, ((min many vr3.length : Nat) : Int), rfl, (i62 (by omega)).1, (i62 (by omega)).2, for_it walk_range (fun i σ' H' => ∃ (v8 v9 v10 v11 v12 v13 v14 v15 : Option V) (ns : List Nd) (rs : List (Str × Nat × Nat × Nat)) (no : Nat), σ' = [some (.ref d), some (.ref p), some (vI many), some (.int 9), some (.ref ln), some (.ref lr), some (.ref lo), some (vI (1 + G.ni)), v8, v9, v10, v11, v12, v13, v14, v15, none] ∧
      MW H H' d c ln lr lo ns rs no ∧ ns.length ≤ 100 + 50 * i ∧ rs.length = G.rs.length ∧ (∀ r ∈ rs, r.2.1 ≤ 4) ∧ no ≤ 20 + 2 * i)
    ⟨_, _, _, _, _, _, _, _, _, _, _, rfl, mw, hn1, rfl, hm4, hxo⟩ (fun _ _ _ _ _ => trivial) (fun i x σ' H4 H5 hi pp y => ?_) (fun σ' H' pp => ?_)⟩
  · obtain ⟨v8, v9, v10, v11, v12, v13, v14, v15, ns, rs, no, rfl, mw, bn, br, bm, bo⟩ := pp
    obtain ⟨rfl, ey⟩ := y
    have hi : i < min many vr3.length := by simpa using hi
    have i3 : i ≤ 3 := by omega
    obtain rfl : x = vI i := by rw [ey]; exact congrArg V.int (by omega)
    clear ey
    obtain ⟨vr, er, lvr, lyr⟩ := mw.ar.get
    obtain ⟨r, q1, hr, hv, hq⟩ := regAt lyr (show i < rs.length by omega)
    obtain ⟨w1, w8, ha, hwr⟩ := mw.ro r (List.mem_of_getElem? hr)
    obtain ⟨p1, p2⟩ := pw8 w8
    have hrW : (rs.map fun r => r.2.1)[i]? = some r.2.1 := by rw [List.getElem?_map, hr]; rfl
    refine ⟨_, rfl, _, rfl, lr, vr, _, .ref q1, rfl, rfl, SqL.of er, atI_nat hv, q1, _, rfl, SqT.of hq, rfl, _, _, rfl, _, _, rfl, _, _, rfl, _, _, rfl, rfl, ?_⟩
    refine ⟨_, rfl, d, c, 4, rfl, mw.ds, by decide, by decide, fun u H6 r0 r1 hd6 k6 => ?_⟩
    obtain ⟨u, rfl⟩ := Int.eq_ofNat_of_zero_le r0
    have mw6 := mw.draw hd6 k6
    have i6 := i62 (n := 1 + u) (by omega)
    have u1 : (1 + (u : Int)) = ((1 + u : Nat) : Int) := by omega
    refine ⟨_, _, rfl, rfl, 1 + (u : Int), rfl, by rw [u1]; exact i6.1, by rw [u1]; exact i6.2, fun D hD => ?_⟩
    have fD := mw6.free hD
    have u2 : (1 + (u : Int)).toNat = 1 + u := by omega
    refine lc_range (lo := 0) (n := (1 + (u : Int)).toNat) (fun i H' => ∃ acc : List Nat, H' D = some (.lst (acc.map vI)) ∧ acc.length = i ∧ (∀ x ∈ acc, x < 2 ^ r.2.1) ∧ MW H H' d c ln lr lo ns rs no)
      ⟨[], upd_same, rfl, fun x hx => (by cases hx), mw6.new hD⟩ (fun j H7 hj pp => ?_) (fun H7 pp => ?_)
    · obtain ⟨acc, eD, la, hwk, mw7⟩ := pp
      refine ⟨rfl, _, rfl, _, rfl, r.2.1, rfl, rfl, by omega, d, c, _, rfl, mw7.ds, p1, p2, fun z H8 r0 r1 hd8 k8 => ?_⟩
      obtain ⟨z, rfl⟩ := Int.eq_ofNat_of_zero_le r0
      have e8 := k8 _ _ (by simp [fD.1]) eD
      refine ⟨_, e8, by rw [List.length_map]; exact small1000 (by omega), acc ++ [z], by rw [upd_same, List.map_append]; rfl, by rw [List.length_append, la]; rfl, fun x hx => (by
        rcases List.mem_append.mp hx with q | q
        · exact hwk x q
        · rw [List.mem_singleton.mp q]; exact ltPow (by simpa using r1)), (mw7.draw hd8 k8).put fD e8⟩
    obtain ⟨ws, eD, lw, hwk, mw7⟩ := pp
    rw [u2] at lw
    have fir : V.int (((1 + G.ni : Nat) : Int) + (i : Int)) = vI (1 + G.ni + i) := congrArg V.int (by omega)
    -- two consts and what asks for them
    refine ⟨_, rfl, 2, rfl, D, _, rfl, SqL.of eD, fun S hS => ?_⟩
    rw [show cutV (ws.map vI) none (some 2) = (ws.take 2).map vI from cut_nat ws 2]
    have fS := mw7.free hS
    have nSD : S ≠ D := (ne_of_none eD hS).symm
    refine ⟨S, rfl, ⟨_, SqL.of upd_same⟩, for_it (walk_list (xs := (ws.take 2).map vI)) (fun j σ' H' => ∃ (v14 v15 : Option V) (ns2 : List Nd), σ' = [some (.ref d), some (.ref p), some (vI many), some (.int 9), some (.ref ln), some (.ref lr), some (.ref lo), some (vI (1 + G.ni)), some (vI i), some (.str r.1), some (vI r.2.1), some (vI r.2.2.1), some (vI r.2.2.2), some (.ref D), v14, v15, none] ∧
        MW H H' d c ln lr lo ns2 rs no ∧ ns2.length ≤ ns.length + 2 * j ∧ H' S = some (.lst ((ws.take 2).map vI)) ∧ H' D = some (.lst (ws.map vI)))
      ⟨_, _, ns, rfl, mw7.new hS, Nat.le_refl _, upd_same, same_new hS _ _ _ eD⟩ (fun j σ' H' _ pp => ?_) (fun j x σ' H8 H9 hj pp y => ?_) (fun σ' H8 pp => ?_)⟩
    · obtain ⟨_, _, _, _, _, _, e, _⟩ := pp
      exact SqL.of e
    · obtain ⟨v14, v15, ns2, rfl, mw8, b2, eS, eD8⟩ := pp
      obtain ⟨rfl, ex⟩ := y
      obtain ⟨x, hxm, rfl⟩ := natAt ex
      have hj2 : j < 2 := by
        rw [List.length_map, List.length_take] at hj
        omega
      obtain ⟨vn8, en8, _⟩ := mw8.an
      refine ⟨_, rfl, .inl ⟨rfl, _, SqL.of en8⟩, _, rfl, _, rfl, (by show 3 ≤ sizeLine; decide), fun t ht => ?_⟩
      obtain ⟨vs, e1, hl, mw9, e2, l2, kk⟩ := mw8.node (n := ⟨"const", r.2.1, [x]⟩) ht (okC (hwk x (List.mem_of_mem_take (List.mem_of_getElem? hxm))) w1 w8) ⟨sS.1, .no sR.1⟩ (by omega)
      have nt : t ≠ S ∧ t ≠ D := ⟨(ne_of_none eS ht).symm, (ne_of_none eD8 ht).symm⟩
      have eS9 := kk _ _ (by simp [fS.2.2.1]) eS
      have eD9 := kk _ _ (by simp [fD.2.2.1]) eD8
      refine ⟨ln, vs, _, rfl, rfl, e1, hl, ?_⟩
      refine ⟨_, rfl, .inl ⟨rfl, _, SqL.of e2⟩, _, rfl, (by show 3 ≤ sizeLine; decide), fun L hL => ?_⟩
      have mwL := mw9.new (o := .lst [.str "eq", .str "lt", .str "eq"]) hL
      have fL := mw9.free hL
      refine ⟨d, c, L, _, rfl, mwL.ds, fL.1, SqL.of upd_same, (by show 1 ≤ 3; decide), (by show 3 ≤ 1000; decide), fun z y HA hy hdA kA => ?_⟩
      obtain ⟨o, ho, rfl⟩ := wordAt (ops := ["eq", "lt", "eq"]) hy
      obtain ⟨o1, o2, o3⟩ := (by decide +kernel : ∀ o ∈ (["eq", "lt", "eq"] : List Str), o ≠ "pick" ∧ o ≠ "const" ∧ PyData.strOk o = true ∧ o ≠ "reg") o ho
      have mwA := mwL.draw hdA kA
      obtain ⟨vA, eA, lA, _⟩ := mwA.an.get
      refine ⟨_, rfl, _, rfl, _, _, rfl, rfl, _, rfl, ln, vA, rfl, .inl (SqL.of eA), _, _, rfl, rfl, (by show 4 ≤ sizeLine; decide), fun t2 ht2 => ?_⟩
      dsimp only
      have l3 : vA.length = ns2.length + 1 := by rw [lA, List.length_append]; rfl
      rw [fir, show V.int ((vA.length : Int) - 1) = vI ns2.length from congrArg V.int (by omega)]
      obtain ⟨vs3, e3, hl3, mwB, e4, l4, kk3⟩ := mwA.node (n := ⟨o, 1, [1 + G.ni + i, ns2.length]⟩) ht2 (ok_of o1 o2 (by decide) (by decide) (by simp)) ⟨o3.1, .no o3.2⟩ (by rw [List.length_append]; show ns2.length + 1 ≤ 1000; omega)
      have kS := fun (q : Addr) (o : HO) (h1 : q ≠ d) (h2 : q ≠ ln) (h : _) => kk3 q o (by simp [h2]) (kA q o (by simp [h1]) (same_new hL (.lst [.str "eq", .str "lt", .str "eq"]) q o h))
      exact ⟨ln, vs3, _, rfl, rfl, e3, hl3, _, _, _, rfl, mwB, by rw [List.length_append, List.length_append]; show ns2.length + 1 + 1 ≤ _; omega, kS _ _ fS.1 fS.2.2.1 eS9, kS _ _ fD.1 fD.2.2.1 eD9⟩
    clear mw6 mw7 mw k6 hd6
    obtain ⟨v14, v15, ns2, rfl, mw8, b2, -, eD8⟩ := pp
    rw [List.length_map, List.length_take] at b2
    have hwr8 := (mw8.ro r (List.mem_of_getElem? hr)).2.2.2.1
    have e4 : xi.length = G.ni := at_.li
    refine ⟨fun σ' H' => ∃ (v14 v15 : Option V) (ns3 : List Nd) (ws3 : List Nat) (D3 : Addr) (k : Nat) (n : Nd), σ' = [some (.ref d), some (.ref p), some (vI many), some (.int 9), some (.ref ln), some (.ref lr), some (.ref lo), some (vI (1 + G.ni)), some (vI i), some (.str r.1), some (vI r.2.1), some (vI r.2.2.1), some (vI k), some (.ref D3), v14, v15, none] ∧
      MW H H' d c ln lr lo ns3 rs no ∧ ns3.length ≤ 100 + 50 * i + 45 ∧ H' D3 = some (.lst (ws3.map vI)) ∧ D3 ≠ d ∧ 1 ≤ ws3.length ∧ (∀ x ∈ ws3, x < 2 ^ r.2.1) ∧ ns3[k]? = some n ∧ n.w = r.2.1, ?_, ?_⟩
    · refine ⟨_, rfl, d, c, 3, rfl, mw8.ds, by decide, by decide, fun u H9 r0 r1 hd9 k9 => ?_⟩
      obtain ⟨u, rfl⟩ := Int.eq_ofNat_of_zero_le r0
      have mw9 := mw8.draw hd9 k9
      have eD9 := k9 _ _ (by simp [fD.1]) eD8
      refine ⟨rfl, _, rfl, ite2 (fun _ => ?_) (fun _ => ?_)⟩
      · -- a chain
        refine ⟨_, rfl, _, rfl, (by show 8 ≤ sizeLine; decide), fun L hL => ?_⟩
        have mwL := mw9.new (o := .lst (([1, 2, 4, 7, 8, 8, 9, 13] : List Nat).map vI)) hL
        have fL := mw9.free hL
        have eDL := same_new hL (.lst (([1, 2, 4, 7, 8, 8, 9, 13] : List Nat).map vI)) _ _ eD9
        refine ⟨d, c, L, ([1, 2, 4, 7, 8, 8, 9, 13] : List Nat).map vI, rfl, mwL.ds, fL.1, SqL.of upd_same, (by show 1 ≤ 8; decide), (by show 8 ≤ 1000; decide), fun z y HA hy hdA kA => ?_⟩
        obtain ⟨x, hx, rfl⟩ := natAt hy
        have mwA := mwL.draw hdA kA
        have eDA := kA _ _ (by simp [fD.1]) eDL
        refine ⟨9, x, rfl, ?_⟩
        refine ⟨_, rfl, 1, rfl, D, _, rfl, SqL.of eDA, fun S1 hS1 => ?_⟩
        rw [show cutV (ws.map vI) none (some 1) = (ws.take 1).map vI from cut_nat ws 1]
        have mwB := mwA.new (o := .lst ((ws.take 1).map vI)) hS1
        refine ⟨_, rfl, _, rfl, r.2.1, rfl, rfl, by omega, 16, 2 ^ r.2.1, by simp [vI], ?_⟩
        have m16 : min 16 (2 ^ r.2.1) ≤ 16 := Nat.min_le_left _ _
        have mle : min 16 (2 ^ r.2.1) ≤ 2 ^ r.2.1 := Nat.min_le_right _ _
        generalize min 16 (2 ^ r.2.1) = mm at m16 mle ⊢
        refine ⟨_, rfl, .of_le (by decide) (by omega) (by decide) (by omega), fun R hR => ?_⟩
        have fR := mwB.free hR
        have mwC := mwB.new (o := .lst (rgV 0 (mm : Int))) hR
        have lR : (rgV 0 (mm : Int)).length = mm := by rw [rgV_length]; omega
        refine ⟨d, c, R, _, rfl, mwC.ds, fR.1, .inl (SqL.of upd_same), by rw [lR]; omega, fun p2 ys HD hperm hp0 hp2 hdD kD => ?_⟩
        have mwD := mwC.draw hdD kD
        obtain ⟨zs, rfl⟩ := natsOf ys fun y hy => by
          obtain ⟨j, _, ej⟩ := List.mem_map.mp (hperm.mem_iff.mp hy)
          exact ⟨j, by rw [← ej]; exact congrArg V.int (by omega)⟩
        have hzk : ∀ x ∈ zs, x < 2 ^ r.2.1 := fun x hx => by
          obtain ⟨j, hj, ej⟩ := List.mem_map.mp (hperm.mem_iff.mp (List.mem_map.mpr ⟨x, hx, rfl⟩))
          have hj2 := List.mem_range.mp hj
          have ej2 := V.int.inj ej
          omega
        have lz : zs.length = mm := by
          have := hperm.length_eq
          rw [List.length_map, lR] at this
          exact this
        refine ⟨_, rfl, _, rfl, p2, _, rfl, SqL.of hp2, fun S2 hS2 => ?_⟩
        rw [cut_nat zs (min 9 x)]
        have fS1 := mwA.free hS1
        have eS1 := kD _ _ (by simp [fS1.1]) (same_new hR (.lst (rgV 0 (mm : Int))) _ _ upd_same)
        have mwE := mwD.new (o := .lst ((zs.take (min 9 x)).map vI)) hS2
        refine ⟨S1, S2, _, _, rfl, rfl, same_new hS2 _ _ _ eS1, upd_same, le1000 (by rw [List.length_map, List.length_map, List.length_take, List.length_take]; omega), fun W hW => ?_⟩
        rw [← List.map_append]
        have fW := mwE.free hW
        have mwF := mwE.new (o := .lst ((ws.take 1 ++ zs.take (min 9 x)).map vI)) hW
        have lW : (ws.take 1 ++ zs.take (min 9 x)).length ≤ 17 ∧ 1 ≤ (ws.take 1 ++ zs.take (min 9 x)).length := by
          rw [List.length_append, List.length_take, List.length_take]
          omega
        have hwk3 : ∀ y ∈ ws.take 1 ++ zs.take (min 9 x), y < 2 ^ r.2.1 := fun y hy => by
          rcases List.mem_append.mp hy with q | q
          · exact hwk y (List.mem_of_mem_take q)
          · exact hzk y (List.mem_of_mem_take q)
        generalize ws.take 1 ++ zs.take (min 9 x) = ws3 at mwF lW hwk3 ⊢
        obtain ⟨vn9, en9, _⟩ := mwF.an
        refine ⟨_, rfl, _, rfl, _, rfl, _, rfl, _, rfl, d, c, ln, W, r.2.1, i, (rs.map fun r => r.2.1), ws3, ns2, rfl, hrW, mwF.ds, mwF.an, upd_same, hwk3, mwF.gd, mwF.h1, hwr8, mwF.fn.1, mwF.fn.2.1, fW.1, fW.2.2.1, w1, w8, lW.2, by omega, by omega, fun k n ns' HG dsG aG gG hk hn hlen pre kG => ?_⟩
        exact ⟨_, _, ns', ws3, W, k, n, rfl, mwF.grow (S := [d, ln]) kG (by simp) (kG.tup2 mwF.ds en9) dsG aG gG pre, by omega, kG _ _ (by simp [fW.1, fW.2.2.1]) upd_same, fW.1, lW.2, hwk3, hk, hn⟩
      · -- a tree
        refine ⟨_, rfl, _, rfl, _, rfl, _, rfl, _, rfl, Nat.zero_le _, fun M hM => ?_⟩
        have fM := mw9.free hM
        have mwM := mw9.new (o := .lst []) hM
        have nMD : M ≠ D := (ne_of_none eD9 hM).symm
        obtain ⟨vn9, en9, _⟩ := mwM.an
        refine ⟨d, c, ln, D, M, r.2.1, i, 3, (rs.map fun r => r.2.1), ws, [], ns2, rfl, by decide, ⟨mwM.ds, mwM.an, same_new hM _ _ _ eD9, hwk, upd_same, mwM.gd, mwM.h1, hwr8, fun m hm => (by cases hm), mwM.fn.1, mwM.fn.2.1, fD.1, fM.1, fM.2.1, fD.2.2.1, nMD.symm, fM.2.2.1.symm⟩, hrW, w1, w8, by omega, by omega, by omega, by show 0 + 16 ≤ 900; decide, fun k n ns' ms' HG twG hk hn b1 b2 pz kG => ?_⟩
        have ktG : KeepT (upd H9 M (.lst [])) HG := kG.tups fun b hb => by
          rcases List.mem_cons.mp hb with e | hb
          · rw [e]; exact mwM.ds.at_
          · rcases List.mem_cons.mp hb with e | hb
            · rw [e]; exact ⟨_, en9⟩
            · rw [List.mem_singleton.mp hb]; exact ⟨_, upd_same⟩
        exact ⟨_, _, ns', ws, D, k, n, rfl, mwM.grow (S := [d, ln, M]) kG (fun b hb => by
          rcases List.mem_cons.mp hb with e | hb
          · exact .inl e
          · rcases List.mem_cons.mp hb with e | hb
            · exact .inr (.inl e)
            · rw [List.mem_singleton.mp hb]; exact .inr (.inr ⟨fM.2.2.2.1, fM.2.2.2.2.1, fM.2.2.2.2.2⟩)) ktG twG.ds twG.ac twG.gd pz, by have : ns'.length + 1 ≤ ns2.length + 16 := b1; omega, twG.hw, fD.1, by omega, hwk, hk, hn⟩
    clear mw8 eD8 b2 hwr8
    rintro σ' H9 ⟨v14, v15, ns3, ws3, D3, k, n, rfl, mw9, b3, eD9, nDd, lw3, hwk3, hk, hn⟩
    have hro9 := (mw9.ro r (List.mem_of_getElem? hr)).2.2.2
    have hk9 := (List.getElem?_eq_some_iff.mp hk).1
    have il : i < rs.length := by omega
    refine ⟨fun σ' H' => ∃ (v9 v10 v11 v13 v14 v15 : Option V) (v12 : V) (rs3 : List (Str × Nat × Nat × Nat)), σ' = [some (.ref d), some (.ref p), some (vI many), some (.int 9), some (.ref ln), some (.ref lr), some (.ref lo), some (vI (1 + G.ni)), some (vI i), v9, v10, v11, some v12, v13, v14, v15, none] ∧
      MW H H' d c ln lr lo ns3 rs3 no ∧ rs3.length = G.rs.length ∧ (∀ r ∈ rs3, r.2.1 ≤ 4), ?_, ?_⟩
    · refine ⟨_, rfl, _, rfl, _, rfl, d, c, 2, rfl, mw9.ds, by decide, by decide, fun u HA r0 r1 hdA kA => ?_⟩
      have mwA := mw9.draw hdA kA
      refine ⟨rfl, _, rfl, ite2 (fun _ => ?_) (fun _ => ?_)⟩
      · refine ⟨_, rfl, _, rfl, (by show 4 ≤ sizeLine; decide), fun t ht => ?_⟩
        obtain ⟨vs, e1, l1, mwB⟩ := mwA.reg (r := (r.1, r.2.1, r.2.2.1, k)) (i := i) ht hrW w1 w8 hk9 ⟨hro9.1, hro9.2.1, n, hk, hn⟩
        exact ⟨_, rfl, _, rfl, lr, vs, _, i, rfl, rfl, e1, ixNat (by omega), _, _, _, _, _, _, _, rs.set i (r.1, r.2.1, r.2.2.1, k), rfl, mwB, by rw [List.length_set]; exact br, fun x hx => (List.mem_or_eq_of_mem_set hx).elim (bm x) fun e => by rw [e]; exact bm r (List.mem_of_getElem? hr)⟩
      · refine ⟨_, rfl, D3, _, 0, (ws3.map vI)[0]'(by rw [List.length_map]; omega), rfl, rfl, SqL.of (kA _ _ (by simp [nDd]) eD9), atI_nat (j := 0) (List.getElem?_eq_getElem _), ?_⟩
        rw [List.getElem_map]
        refine ⟨_, rfl, (by show 4 ≤ sizeLine; decide), fun t ht => ?_⟩
        obtain ⟨vs, e1, l1, mwB⟩ := mwA.reg (r := (r.1, r.2.1, ws3[0], k)) (i := i) ht hrW w1 w8 hk9 ⟨hro9.1, hwk3 _ (List.getElem_mem _), n, hk, hn⟩
        exact ⟨_, rfl, _, rfl, lr, vs, _, i, rfl, rfl, e1, ixNat (by omega), _, _, _, _, _, _, _, rs.set i (r.1, r.2.1, ws3[0], k), rfl, mwB, by rw [List.length_set]; exact br, fun x hx => (List.mem_or_eq_of_mem_set hx).elim (bm x) fun e => by rw [e]; exact bm r (List.mem_of_getElem? hr)⟩
    rintro σ' HA ⟨v9, v10, v11, v13, v14, v15, v12, rs3, rfl, mwA, br3, bm3⟩
    have lg : ((i : Int)).natAbs.log2 < 1920 := by
      have : i = 0 ∨ i = 1 ∨ i = 2 ∨ i = 3 := by omega
      rcases this with rfl | rfl | rfl | rfl <;> decide +kernel
    have ls : ∀ z : Str, z.length = 2 → z.length + (Str.ofString (toString (i : Int))).length ≤ sizeLine := fun z hz => le1000 (by have := strK i3; omega)
    obtain ⟨vo, eo, lo_⟩ := mwA.ao
    refine ⟨_, rfl, .inl ⟨rfl, _, SqL.of eo⟩, _, rfl, (i : Int), rfl, lg, _, _, rfl, rfl, ls _ (by decide +kernel), _, rfl, _, rfl, _, _, rfl, rfl, (by show 2 ≤ sizeLine; decide), fun t ht => ?_⟩
    dsimp only
    generalize HO.tup [.str ("q@" ++ Str.ofString (toString (i : Int))), .int (((1 + G.ni : Nat) : Int) + (i : Int))] = ob
    have mwB := mwA.new (o := ob) ht
    obtain ⟨vo2, eo2, lo2, mwC⟩ := mwB.out (y := .ref t) (by omega)
    refine ⟨lo, vo2, _, rfl, rfl, eo2, lo2, ?_⟩
    refine ⟨_, rfl, d, c, 2, rfl, mwC.ds, by decide, by decide, fun u HD r0 r1 hdD kD => ?_⟩
    have mwD := mwC.draw hdD kD
    refine ⟨rfl, _, rfl, ite2 (fun _ => ?_) (fun _ => ?_)⟩
    · obtain ⟨vo, eo, lo_⟩ := mwD.ao
      refine ⟨_, rfl, .inl ⟨rfl, _, SqL.of eo⟩, _, rfl, (i : Int), rfl, lg, _, _, rfl, rfl, ls _ (by decide +kernel), _, rfl, (by show 2 ≤ sizeLine; decide), fun t ht => ?_⟩
      dsimp only
      generalize HO.tup [.str ("n@" ++ Str.ofString (toString (i : Int))), v12] = ob
      have mwE := mwD.new (o := ob) ht
      obtain ⟨vo2, eo2, lo2, mwF⟩ := mwE.out (y := .ref t) (by omega)
      exact ⟨lo, vo2, _, rfl, rfl, eo2, lo2, _, _, _, _, _, _, _, _, ns3, rs3, _, rfl, mwF, by omega, br3, bm3, by omega⟩
    · exact ⟨_, _, _, _, _, _, _, _, ns3, rs3, _, rfl, mwD, by omega, br3, bm3, by omega⟩
  obtain ⟨v8, v9, v10, v11, v12, v13, v14, v15, ns, rs, no, rfl, mw, bn, br, bm, bo⟩ := pp
  have tn : ((min many vr3.length : Nat) : Int).toNat ≤ 3 := by omega
  generalize ((min many vr3.length : Nat) : Int).toNat = tn_ at bn bo tn
  obtain ⟨vo, eo, lo_⟩ := mw.ao
  refine ⟨_, rfl, _, rfl, d, c, lo, vo, rfl, mw.ds, mw.fo.1, .inl (SqL.of eo), by omega, fun S ys H5 hperm hn0 hS hd5 k5 => ⟨S, ys, rfl, .inl ⟨SqL.of hS, fun pS hpS => ?_⟩⟩⟩
  have mw5 := mw.draw hd5 k5
  have mw6 := mw5.new (o := .tup ys) hpS
  obtain ⟨vn, en, lvn, lyn⟩ := mw6.an.get
  obtain ⟨vr, er, lvr, lyr⟩ := mw6.ar.get
  have tp := mw6.kt _ _ at_.top
  refine ⟨_, rfl, p, _, _, _, rfl, rfl, SqT.of tp, atI_nat (j := 1) rfl, _, rfl, ln, vn, rfl, .inl ⟨SqL.of en, fun p1 h1 => ?_⟩⟩
  have s1 := same_new h1 (.tup vn)
  refine ⟨_, rfl, lr, vr, rfl, .inl ⟨SqL.of (s1 _ _ er), fun p2 h2 => ?_⟩⟩
  have s2 := s1.trans (same_new h2 (.tup vr))
  refine ⟨_, rfl, p, _, _, _, rfl, rfl, SqT.of (s2 _ _ tp), atI_nat (j := 4) rfl, _, rfl, _, rfl, p, _, _, _, rfl, rfl, SqT.of (s2 _ _ tp), atI_nat (j := 6) rfl, (by show 7 ≤ sizeLine; decide), fun t ht => ?_⟩
  have s3 := s2.trans (same_new ht (.tup [.str "graph", .ref pi, .ref p1, .ref p2, v4, .ref pS, v6]))
  have q1 := same_new ht (.tup [.str "graph", .ref pi, .ref p1, .ref p2, v4, .ref pS, v6])
  have q2 := (same_new h2 (.tup vr)).trans q1
  refine q _ ⟨G.ni, ns, rs⟩ _ ⟨t, pi, p1, p2, pS, v4, v6, xi, vn, vr, ys, rfl, ⟨upd_same, s3 _ _ (mw6.kt _ _ at_.hi), at_.li, q2 _ _ upd_same, lyn.keep' (.same s3), q1 _ _ upd_same, lyr.keep' (.same s3), s3 _ _ upd_same⟩⟩ ⟨mw6.gd, mw6.h1, mw6.ro, ?_⟩ br bm (by show ns.length ≤ 900; omega) (mw6.ds.same s3) (mw6.kp.trans (.of_same s3))
  obtain ⟨j, nn, e, _⟩ := mw6.h1
  have := (List.getElem?_eq_some_iff.mp e).1
  show 1 ≤ ns.length
  omega
end
end Bf

set_option Elab.async false
set_option linter.all false
set_option maxRecDepth 100000
set_option maxHeartbeats 4000000
namespace Bf
open PySem PySem.Spec PyProof.Rows L2
theorem addN_len {M : List Nat} {x : Nat} : (addN M x).length ≤ M.length + 1 := by
  unfold addN
  split
  · omega
  · rw [List.length_append]; exact Nat.le_refl _
/-! ### dicts as sets of places -/
def setE (x : Nat) : Key × V := (Sum.inl (x : Int), .bl true)
def IS (H : Hp) (a : Addr) (M : List Nat) : Prop := H a = some (.dK (M.map setE))
theorem setE_key {x y : Nat} : (setE y).1 = Sum.inl (x : Int) ↔ y = x := by
  constructor
  · intro h
    have : ((y : Nat) : Int) = (x : Int) := Sum.inl.inj h
    omega
  · rintro rfl; rfl
theorem put_set (M : List Nat) (x : Nat) : putK (M.map setE) (Sum.inl (x : Int)) (.bl true) = (addN M x).map setE := by
  unfold putK addN
  by_cases h : x ∈ M
  · rw [if_pos h, if_pos]
    · conv => rhs; rw [← List.map_id (M.map setE)]
      refine List.map_congr_left fun kv hkv => ?_
      obtain ⟨y, _, rfl⟩ := List.mem_map.mp hkv
      by_cases e : (setE y).1 = Sum.inl (x : Int)
      · rw [if_pos e]; rfl
      · rw [if_neg e]; rfl
    · rw [List.any_eq_true]
      exact ⟨setE x, List.mem_map_of_mem h, decide_eq_true rfl⟩
  · rw [if_neg h, if_neg, List.map_append]
    · rfl
    · rw [List.any_eq_true]
      rintro ⟨kv, hkv, q⟩
      obtain ⟨y, hy, rfl⟩ := List.mem_map.mp hkv
      exact h (setE_key.mp (of_decide_eq_true q) ▸ hy)
theorem val_set : ∀ (M : List Nat) (x : Nat), (valV (M.map setE) (Sum.inl (x : Int))).isSome = decide (x ∈ M)
  | [], x => by rw [List.map_nil, valV_nil]; simp
  | y :: M, x => by
    rw [List.map_cons]
    by_cases e : (setE y).1 = (Sum.inl (x : Int) : Key)
    · rw [valV_pos e]
      have : y = x := setE_key.mp e
      simp [this]
    · rw [valV_neg e, val_set M x]
      have : ¬ x = y := fun q => e (setE_key.mpr q.symm)
      simp [this]
theorem IS.keys (M : List Nat) : (M.map setE).map (·.1) = (M.map fun x : Nat => (x : Int)).map Sum.inl := by rw [List.map_map, List.map_map]; rfl
theorem IS.get {H : Hp} {a : Addr} {M : List Nat} (h : IS H a M) (x : Nat) : DGet H a (vI x) (valV (M.map setE) (Sum.inl (x : Int))) := DGet.k (k := Sum.inl (x : Int)) h
theorem IS.put {H : Hp} {a : Addr} {M : List Nat} (h : IS H a M) (x : Nat) (hl : M.length ≤ 2000) : DPut H a (vI x) (.bl true) (upd H a (.dK ((addN M x).map setE))) := by
  have := DPut.k (k := Sum.inl (x : Int)) (v := .bl true) h (by rw [List.length_map]; exact Nat.lt_of_le_of_lt hl (by show 2000 < sizeLine; decide))
  rwa [put_set] at this
theorem sortedNat {M : List Nat} {ys : List Int} (h : ys.Perm (M.map fun x : Nat => (x : Int))) (hp : ys.Pairwise (· ≤ ·)) (nd : M.Nodup) : ∃ zs : List Nat, ys.map V.int = zs.map vI ∧ zs.Pairwise (· < ·) ∧ (∀ v, v ∈ zs ↔ v ∈ M) ∧ zs.length = M.length := by
  have e : ∀ y ∈ ys, y = ((y.toNat : Nat) : Int) := fun y hy => by
    obtain ⟨x, _, rfl⟩ := List.mem_map.mp (h.mem_iff.mp hy)
    simp
  have pz : (ys.map Int.toNat).Perm M := by
    have := h.map Int.toNat
    rw [List.map_map] at this
    have q : M.map (Int.toNat ∘ fun x : Nat => (x : Int)) = M := by
      conv => rhs; rw [← List.map_id M]
      exact List.map_congr_left fun x _ => by simp
    rwa [q] at this
  refine ⟨ys.map Int.toNat, ?_, ?_, fun v => pz.mem_iff, pz.length_eq⟩
  · rw [List.map_map]
    exact List.map_congr_left fun y hy => congrArg V.int (e y hy)
  · have n : (ys.map Int.toNat).Pairwise (· ≠ ·) := pz.nodup_iff.mpr nd
    have l : (ys.map Int.toNat).Pairwise (· ≤ ·) := List.pairwise_map.mpr (hp.imp fun h => Int.toNat_le_toNat h)
    exact (l.and n).imp fun h => Nat.lt_of_le_of_ne h.1 h.2
/-! ### the least width -/
def IsW (n w : Nat) : Prop := 1 ≤ w ∧ n ≤ 2 ^ w ∧ (w = 1 ∨ 2 ^ (w - 1) < n)
theorem IsW.le {n w : Nat} (h : w = 1 ∨ 2 ^ (w - 1) < n) : w ≤ n + 1 := by
  rcases h with h | h
  · omega
  · have := Nat.lt_two_pow_self (n := w - 1)
    omega
theorem IsW.uniq {n w v : Nat} (h : IsW n w) (k : IsW n v) : w = v := by
  have one : ∀ {a b : Nat}, IsW n a → IsW n b → ¬ a < b := fun {a b} ha hb hab => by
    rcases hb.2.2 with q | q
    · have := ha.1; omega
    · have := Nat.pow_le_pow_right (n := 2) (by decide) (show a ≤ b - 1 by omega)
      have := ha.2.1
      omega
  have := one h k
  have := one k h
  omega
noncomputable def wOf (n : Nat) : Nat := Classical.epsilon (IsW n)
theorem IsW.is {n w : Nat} (h : IsW n w) : wOf n = w := (Classical.epsilon_spec ⟨w, h⟩ : IsW n (wOf n)).uniq h
/-! ### what has not been reached -/
def un (M : List Nat) : Nat → Nat
  | 0 => 0
  | n + 1 => un M n + if n ∈ M then 0 else 1
theorem un_le (M : List Nat) (x : Nat) : ∀ n, un (M ++ [x]) n ≤ un M n
  | 0 => Nat.le_refl _
  | n + 1 => by
    have := un_le M x n
    unfold un
    by_cases h : n ∈ M
    · rw [if_pos h, if_pos (by simp [h])]; omega
    · rw [if_neg h]
      split <;> omega
theorem un_lt {M : List Nat} {x : Nat} (h : x ∉ M) : ∀ n, x < n → un (M ++ [x]) n + 1 ≤ un M n
  | 0, k => absurd k (Nat.not_lt_zero _)
  | n + 1, k => by
    unfold un
    by_cases e : x = n
    · subst e
      rw [if_neg h, if_pos (by simp)]
      have := un_le M x x
      omega
    · have := un_lt h n (by omega)
      by_cases q : n ∈ M
      · rw [if_pos q, if_pos (by simp [q])]; omega
      · rw [if_neg q]
        split <;> omega
theorem un_nil : ∀ n, un [] n = n
  | 0 => rfl
  | n + 1 => by
    unfold un
    rw [un_nil n, if_neg (by simp)]
section
variable {P : Program} {w : World} {K : PySem.W.Frag} {mg : Str → Option Value} {base : Heap} {f : Addr} {fd : FuncData}
/-! ### the nodes of a tree of picks -/
def spPicked : Sp := fun vs H Q _ => ∃ (pn : Addr) (vn : List V) (ns : List Nd) (s : Nat), vs = [.ref pn, vI s] ∧ H pn = some (.tup vn) ∧ LayAll H vn (ns.map nodeD) ∧ NdsOk ns ∧ s < ns.length ∧ ns.length ≤ 900 ∧
  ∀ (l : Addr) (zs : List Nat) (H' : Hp), Same H H' → H' l = some (.lst (zs.map vI)) → zs.Pairwise (· < ·) → zs.length ≤ 900 → (∀ x, x ∈ zs ↔ Rch ns s x) → Q (.ref l) H'
theorem same_put {H H' : Hp} {a : Addr} {o : HO} (s : Same H H') (h : H a = none) : Same H (upd H' a o) := fun b u q => by
  rw [upd_ne (ne_of_none q h)]
  exact s b u q
theorem ok_picked (F : Fun K "picked_nodes" "picked_nodes" s_picked_nodes f fd) (T : Txt mg) :
    FnOk P w K mg base CX0 1 f fd ["nodes", "start"] spPicked := by
  refine F.ok sc_picked_nodes (fun vs H Q E h => ?_) (fun cdv A outer s H vs Q E hr h => ?_)
  · obtain ⟨pn, vn, ns, s, rfl, _⟩ := h
    rfl
  obtain ⟨pn, vn, ns, st, rfl, hpn, lay, ok, hs, h900, q⟩ := h
  refine ⟨_, (pss_cons (ps_set (i := 2) sc_picked_nodes.nd rfl (Or.inl rfl) pe_dnewK)
      (pss_cons (ps_set (i := 3) sc_picked_nodes.nd rfl (Or.inl rfl) (pe_lst (pa_cons (pv 1) pa_nil)))
      (pss_cons (ps_while PassesOwn.never (pt_truth (pv 3) (by intro _; rfl)) (pss_cons (ps_set (i := 4) sc_picked_nodes.nd rfl (Or.inl rfl) (pe_bm0 PySem.F.plainAttrs_list PySem.F.slot_list_pop PySem.F.type_list_pop mt_pop (pv 3)))
      (pss_one (ps_if (pt_cmp (pc_dnotin (hu_of hr) (pv 4) (pv 2))) (pss_cons (ps_dput (hu_of hr) (pv 2) (pv 4) pe_bl rfl)
      (pss_one (ps_if (pt_cmpR op_eq (pe_ix ix_tup (pe_ix ix_tup (pv 0) (pv 4) (fun _ _ => rfl)) pe_int (fun _ _ => rfl)) pe_str (nomark _)) (pss_one (ps_expr (pe_bm PySem.F.plainAttrs_list PySem.F.slot_list_extend PySem.F.type_list_extend mt_extT (pv 3) (pa_cons (pe_slice sl_tupA (pe_ix ix_tup (pv 0) (pv 4) (fun _ _ => rfl)) (po_some pe_int) po_none) pa_nil)))) pss_nil))) pss_nil))))
      (pss_one (ps_ret (pe_callB (cr_sortedKeysI rfl) (by rfl) T.n_sorted (by decide +kernel) (pa_cons (pv 2) pa_nil))))))), ?_⟩
  refine fun R hR => ?_
  refine ⟨_, rfl, (by show 1 ≤ sizeLine; decide), fun D hD => ?_⟩
  have hD0 : H D = none := (same_new hR (.dK [])).free hD
  have nDR : D ≠ R := (ne_of_none upd_same hD).symm
  refine ⟨fun m σ' H' => ∃ (v4 : Option V) (M T : List Nat), σ' = [some (.ref pn), some (vI st), some (.ref R), some (.ref D), v4] ∧ Same H H' ∧ IS H' R M ∧ H' D = some (.lst (T.map vI)) ∧ DInv ns st M T ∧ M.Nodup ∧ M.length + un M ns.length ≤ ns.length ∧ T.length + 2 * un M ns.length ≤ 2 * ns.length + 1 ∧ m = 3 * un M ns.length + T.length,
    ⟨_, _, [], [st], rfl, (same_new hR _).trans (same_new hD _), same_new hD _ _ _ upd_same, upd_same, .start _ _, by simp, by rw [un_nil]; simp, by rw [un_nil]; show 1 + _ ≤ _; omega, rfl⟩, fun m σ' H' p => ?_⟩
  obtain ⟨v4, M, T, rfl, sm, iR, eD, di, nd, b1, b2, rfl⟩ := p
  refine ⟨_, rfl, !(T.map vI).isEmpty, .inl ⟨_, SqL.of eD, rfl⟩, ?_⟩
  rcases List.eq_nil_or_concat T with rfl | ⟨T', x, e⟩
  · -- done
    refine ⟨_, rfl, R, _, _, rfl, .inl iR, IS.keys M, fun ys p hp hw hn => ?_⟩
    obtain ⟨zs, ez, hz, hm, hl⟩ := sortedNat hp hw nd
    rw [ez]
    exact q p zs _ (sm.trans (same_new hn _)) upd_same hz (by omega) fun x => (hm x).trans (di.done ok x)
  · rw [List.concat_eq_append] at e
    subst e
    have eT : (T' ++ [x]).map vI = T'.map vI ++ [vI x] := by rw [List.map_append]; rfl
    have hx := di.t x (by simp)
    have hx2 := (hx.lt ok hs).1
    have lT : (T' ++ [x]).length = T'.length + 1 := by rw [List.length_append]; rfl
    refine ifY (by rw [eT]; simp) ⟨_, fun _ _ h => h, ?_⟩
    rw [eT] at eD
    refine ⟨_, rfl, .inl ⟨rfl, _, SqL.of eD⟩, D, _, vI x, rfl, rfl, eD, by simp, ?_⟩
    rw [List.dropLast_concat]
    have sm1 := same_put (a := D) (o := .lst (T'.map vI)) sm hD0
    have iR1 : IS (upd H' D (.lst (T'.map vI))) R M := by unfold IS; rw [upd_ne nDR.symm]; exact iR
    generalize hH1 : upd H' D (.lst (T'.map vI)) = H1 at sm1 iR1 ⊢
    have eD1 : H1 D = some (.lst (T'.map vI)) := by rw [← hH1]; exact upd_same
    clear hH1
    refine ⟨_, rfl, _, rfl, R, _, rfl, iR1.get x, _, rfl, ?_⟩
    rw [val_set]
    by_cases hm : x ∈ M
    · rw [decide_eq_true hm]
      exact ⟨_, by omega, _, M, T', rfl, sm1, iR1, eD1, di.skip hm, nd, b1, by omega, rfl⟩
    · rw [decide_eq_false hm]
      have ul := un_lt hm ns.length hx2
      have am : addN M x = M ++ [x] := if_neg hm
      have nd2 : (M ++ [x]).Nodup := am ▸ addN_nodup nd
      have lM : (M ++ [x]).length = M.length + 1 := by rw [List.length_append]; rfl
      refine ⟨_, rfl, _, rfl, R, _, rfl, iR1.put x (by omega), ?_⟩
      rw [am]
      have sm2 := same_put (a := R) (o := .dK ((M ++ [x]).map setE)) sm1 hR
      have eD2 : upd H1 R (.dK ((M ++ [x]).map setE)) D = some (.lst (T'.map vI)) := by rw [upd_ne nDR]; exact eD1
      have iR2 : IS (upd H1 R (.dK ((M ++ [x]).map setE))) R (M ++ [x]) := upd_same
      generalize upd H1 R (.dK ((M ++ [x]).map setE)) = H2 at sm2 eD2 iR2 ⊢
      obtain ⟨n, qn, hn, hv, hq⟩ := nodeAt lay hx2
      refine ⟨_, rfl, _, rfl, pn, vn, _, .ref qn, rfl, rfl, SqT.of (sm2 _ _ hpn), atI_nat hv, qn, _, _, _, rfl, rfl, SqT.of (sm2 _ _ hq), atI_nat (j := 0) rfl, rfl, _, rfl, ite2 (fun z => ?_) (fun z => ?_)⟩
      · have hop : n.op = "pick" := V.str.inj (of_decide_eq_true z)
        obtain ⟨c, a, b, ha, hal, hbl⟩ := (ok x n hn).pick hop
        have cv : cutV (V.str n.op :: vI n.w :: n.args.map vI) (some 3) none = [vI a, vI b] := by
          rw [ha]
          show cutV _ (some ((3 : Nat) : Int)) none = _
          unfold cutV
          rw [HT.sIx_nat, HT.sIx_none]
          rfl
        refine ⟨_, rfl, .inl ⟨rfl, _, SqL.of eD2⟩, _, rfl, _, rfl, pn, vn, _, .ref qn, rfl, rfl, SqT.of (sm2 _ _ hpn), atI_nat hv, 3, rfl, qn, _, rfl, SqT.of (sm2 _ _ hq), fun hw => ?_, fun _ t ht => ?_⟩
        · have h3 := hw.1
          rw [show (some 3 : Option Int) = some ((3 : Nat) : Int) from rfl, HT.sIx_nat, ha] at h3
          exact absurd h3 (by simp)
        rw [cv]
        have sm3 := sm2.trans (same_new ht (.tup [vI a, vI b]))
        have eD3 := same_new ht (.tup [vI a, vI b]) _ _ eD2
        refine ⟨D, t, _, _, rfl, rfl, eD3, SqT.of upd_same, Nat.le_trans (m := 2000) (by rw [List.length_map]; show T'.length + 2 ≤ 2000; omega) (by show 2000 ≤ sizeLine; decide), ?_⟩
        exact ⟨3 * un (M ++ [x]) ns.length + (T' ++ [a, b]).length, by rw [lT, List.length_append]; show _ + (T'.length + 2) < _; omega, _, M ++ [x], T' ++ [a, b], rfl, same_put sm3 hD0, (by unfold IS; rw [upd_ne nDR.symm]; exact same_new ht _ _ _ iR2), by rw [upd_same, List.map_append]; rfl, di.pick hn hop ha, nd2, by omega, by rw [List.length_append]; show T'.length + 2 + _ ≤ _; omega, rfl⟩
      · have hop : ¬ n.op = "pick" := fun e => z (decide_eq_true (congrArg V.str e))
        exact ⟨_, by omega, _, M ++ [x], T', rfl, sm2, iR2, eD2, di.leaf hn hop, nd2, by omega, by omega, rfl⟩
/-! ### the words of a register -/
def isBad (ns : List Nd) (r : Str × Nat × Nat × Nat) (j : Nat) : Prop := Bad ns (own r.2.1 j) r.2.2.2
theorem ownTup {H : Hp} {q : Addr} {wd j : Nat} (h : H q = some (.tup [.str "reg", vI wd, vI j])) : Lay H (.ref q) (nodeD ⟨"reg", wd, [j]⟩) := Lay.mkNode (op := "reg") (w := wd) (args := [j]) h
theorem shN (n : Nd) (h : PyData.strOk n.op = true) : SeqAt.shaped (nodeD n) = true := (sh_node n h).shaped (by decide)
def spWords : Sp := fun vs H Q _ => ∃ (v : V) (G : Gr) (j : Nat) (r : Str × Nat × Nat × Nat), vs = [v, vI j] ∧ GrW H v G ∧ G.Ok ∧ G.rs[j]? = some r ∧ G.ns.length ≤ 900 ∧
  (isBad G.ns r j → ∀ H', Same H H' → Q .non H') ∧
  (¬ isBad G.ns r j → ∀ (l : Addr) (zs : List Nat) (H' : Hp), Same H H' → H' l = some (.lst (zs.map vI)) → zs.Pairwise (· < ·) → zs.length ≤ 900 → (∀ v, v ∈ zs ↔ Cv G.ns r.2.2.2 v) → Q (.ref l) H')
theorem ok_words (F : Fun K "picked_words" "picked_words" s_picked_words f fd) (T : Txt mg) (D_picked_nodes : Dn P w K mg base "picked_nodes" ["nodes", "start"] 1 spPicked) :
    FnOk P w K mg base CX0 2 f fd ["graph", "reg"] spWords := by
  refine F.ok sc_picked_words (fun vs H Q E h => ?_) (fun cdv A outer s H vs Q E hr h => ?_)
  · obtain ⟨v, G, j, r, rfl, _⟩ := h
    rfl
  obtain ⟨v, G, j, r, rfl, hG, ok, hr_, h900, qb, qg⟩ := h
  refine ⟨_, (pss_cons (ps_asg (pv 0) (pg_tup rfl (pgs_cons (pg_name (i := 2) sc_picked_words.nd rfl (Or.inl rfl)) (pgs_cons (pg_name (i := 2) sc_picked_words.nd rfl (Or.inl rfl)) (pgs_cons (pg_name (i := 3) sc_picked_words.nd rfl (Or.inl rfl)) (pgs_cons (pg_name (i := 4) sc_picked_words.nd rfl (Or.inl rfl)) (pgs_cons (pg_name (i := 2) sc_picked_words.nd rfl (Or.inl rfl)) (pgs_cons (pg_name (i := 2) sc_picked_words.nd rfl (Or.inl rfl)) (pgs_cons (pg_name (i := 2) sc_picked_words.nd rfl (Or.inl rfl)) pgs_nil)))))))))
      (pss_cons (ps_set (i := 5) sc_picked_words.nd rfl (Or.inl rfl) pe_dnewK)
      (pss_cons (ps_for PassesOwn.never rfl (pi_list (pe_dn D_picked_nodes (hr.mono (by omega)) (by rfl) (pa_cons (pv 3) (pa_cons (pe_ix ix_tup (pe_ix ix_tup (pv 4) (pv 1) (fun _ _ => rfl)) pe_int (fun _ _ => rfl)) pa_nil)))) (pg_name (i := 6) sc_picked_words.nd rfl (Or.inl rfl)) (pss_cons (ps_set (i := 7) sc_picked_words.nd rfl (Or.inl rfl) (pe_ix ix_tup (pv 3) (pv 6) (fun _ _ => rfl)))
      (pss_one (ps_if (pt_cmpR op_eq (pe_ix ix_tup (pv 7) pe_int (fun _ _ => rfl)) pe_str (nomark _)) (pss_one (ps_dput (hu_of hr) (pv 5) (pe_ix ix_tup (pv 7) pe_int (fun _ _ => rfl)) pe_bl rfl)) (pss_one (ps_if (PW.pt (pw_and (pt_cmpR op_ne (pe_ix ix_tup (pv 7) pe_int (fun _ _ => rfl)) pe_str (nomark _)) (pw_and1 (pt_cmpR (op_neD hr.units) (pv 7) (pe_tup (pa_cons pe_str (pa_cons (pe_ix ix_tup (pe_ix ix_tup (pv 4) (pv 1) (fun _ _ => rfl)) pe_int (fun _ _ => rfl)) (pa_cons (pv 1) pa_nil)))) (nomark _))))) (pss_one (ps_ret pe_non)) pss_nil))))))
      (pss_one (ps_ret (pe_callB (cr_sortedKeysI rfl) (by rfl) T.n_sorted (by decide +kernel) (pa_cons (pv 5) pa_nil))))))), ?_⟩
  obtain ⟨p, pi, pn, pr, po, v4, v6, xi, vn, vr, xo, rfl, at_⟩ := hG
  have hj := (List.getElem?_eq_some_iff.mp hr_).1
  obtain ⟨w1, w8, ha, hw⟩ := ok.regs r (List.mem_of_getElem? hr_)
  obtain ⟨r', q1, er, hv, hq⟩ := regAt at_.lr hj
  rw [hr_] at er
  cases er
  refine ⟨_, rfl, p, _, rfl, SqT.of at_.top, rfl, _, _, rfl, _, _, rfl, _, _, rfl, _, _, rfl, _, _, rfl, _, _, rfl, _, _, rfl, rfl, ?_⟩
  refine fun R hR => ?_
  have s1 := same_new hR (.dK [])
  refine ⟨_, rfl, _, rfl, _, rfl, pr, vr, _, .ref q1, rfl, rfl, SqT.of (s1 _ _ at_.hr), atI_nat hv, q1, _, _, _, rfl, rfl, SqT.of (s1 _ _ hq), atI_nat (j := 3) rfl, pn, vn, G.ns, r.2.2.2, rfl, s1 _ _ at_.hn, at_.ln.keep' (.same s1), ok.good.ok, ha, h900, fun l zs H2 s2 el hzs hzl hz => ?_⟩
  have iR0 : IS H2 R [] := s2 _ _ upd_same
  have s12 := s1.trans s2
  refine ⟨l, rfl, ⟨_, SqL.of el⟩, for_it (walk_list (xs := zs.map vI)) (fun i σ' H' => ∃ (v6' v7 : Option V) (M : List Nat), σ' = [some (.ref p), some (vI j), some v6, some (.ref pn), some (.ref pr), some (.ref R), v6', v7] ∧ Same H H' ∧ H' l = some (.lst (zs.map vI)) ∧ IS H' R M ∧ M.Nodup ∧ M.length ≤ i ∧
      (∀ v, v ∈ M ↔ ∃ k x n, k < i ∧ zs[k]? = some x ∧ G.ns[x]? = some n ∧ n.op = "const" ∧ n.args = [v]) ∧ (∀ k x n, k < i → zs[k]? = some x → G.ns[x]? = some n → n.op = "const" ∨ n.op = "pick" ∨ own r.2.1 j n = true))
    ⟨_, _, [], rfl, s12, el, iR0, by simp, Nat.le_refl _, fun v => ⟨fun h => (by cases h), fun ⟨k, x, n, hk, _⟩ => absurd hk (Nat.not_lt_zero _)⟩, fun k x n hk => absurd hk (Nat.not_lt_zero _)⟩ (fun i σ' H' _ p => ?_) (fun i x σ' H3 H4 hi p y => ?_) (fun σ' H' p => ?_)⟩
  · obtain ⟨_, _, _, _, _, e, _⟩ := p
    exact SqL.of e
  · obtain ⟨v6', v7, M, rfl, sm, el, iR, nd, bl, hM, hC⟩ := p
    obtain ⟨rfl, ex⟩ := y
    obtain ⟨x, hx, rfl⟩ := natAt ex
    rw [List.length_map] at hi
    have rx := (hz x).mp (List.mem_of_getElem? hx)
    have hx2 := (rx.lt ok.good.ok ha).1
    obtain ⟨n, qn, hn, hvn, hqn⟩ := nodeAt at_.ln hx2
    have others : ∀ k x' n', k < i + 1 → zs[k]? = some x' → G.ns[x']? = some n' → (k < i) ∨ (x' = x ∧ n' = n) := fun k x' n' hk hx' hn' => by
      by_cases z : k < i
      · exact .inl z
      · obtain rfl : k = i := by omega
        rw [hx] at hx'
        cases hx'
        rw [hn] at hn'
        cases hn'
        exact .inr ⟨rfl, rfl⟩
    refine ⟨_, rfl, _, rfl, pn, vn, _, .ref qn, rfl, rfl, SqT.of (sm _ _ at_.hn), atI_nat hvn, ?_⟩
    refine ⟨_, rfl, qn, _, _, _, rfl, rfl, SqT.of (sm _ _ hqn), atI_nat (j := 0) rfl, rfl, _, rfl, ite2 (fun z => ?_) (fun z => ?_)⟩
    · have hop : n.op = "const" := V.str.inj (of_decide_eq_true z)
      obtain ⟨v, hav, _⟩ := (ok.good.ok x n hn).const hop
      rw [hav] at hqn
      refine ⟨_, rfl, _, rfl, qn, _, _, vI v, rfl, rfl, SqT.of (sm _ _ hqn), atI_nat (j := 2) rfl, R, _, rfl, iR.put v (by omega), ?_⟩
      have nlR : l ≠ R := fun e => by rw [e, iR] at el; cases el
      refine ⟨_, _, addN M v, rfl, same_put sm hR, by rw [upd_ne nlR]; exact el, upd_same, addN_nodup nd, ?_, fun v' => ?_, fun k x' n' hk hx' hn' => ?_⟩
      · unfold addN
        split
        · omega
        · rw [List.length_append]; show M.length + 1 ≤ _; omega
      · rw [mem_addN, hM]
        constructor
        · rintro (⟨k, x', n', hk, h1, h2, h3, h4⟩ | rfl)
          · exact ⟨k, x', n', by omega, h1, h2, h3, h4⟩
          · exact ⟨i, x, n, by omega, hx, hn, hop, hav⟩
        · rintro ⟨k, x', n', hk, h1, h2, h3, h4⟩
          rcases others k x' n' hk h1 h2 with q | ⟨rfl, rfl⟩
          · exact .inl ⟨k, x', n', q, h1, h2, h3, h4⟩
          · rw [hav] at h4
            cases h4
            exact .inr rfl
      · rcases others k x' n' hk hx' hn' with q | ⟨rfl, rfl⟩
        · exact hC k x' n' q hx' hn'
        · exact .inl hop
    · have hop : ¬ n.op = "const" := fun e => z (decide_eq_true (congrArg V.str e))
      have hM2 : ∀ v, v ∈ M ↔ ∃ k x n, k < i + 1 ∧ zs[k]? = some x ∧ G.ns[x]? = some n ∧ n.op = "const" ∧ n.args = [v] := fun v => by
        rw [hM]
        constructor
        · rintro ⟨k, x', n', hk, h1, h2, h3, h4⟩
          exact ⟨k, x', n', by omega, h1, h2, h3, h4⟩
        · rintro ⟨k, x', n', hk, h1, h2, h3, h4⟩
          rcases others k x' n' hk h1 h2 with q | ⟨rfl, rfl⟩
          · exact ⟨k, x', n', q, h1, h2, h3, h4⟩
          · exact absurd h3 hop
      refine ⟨_, rfl, qn, _, _, _, rfl, rfl, SqT.of (sm _ _ hqn), atI_nat (j := 0) rfl, rfl, _, rfl, ite2 (fun z2 => ?_) (fun z2 => ?_)⟩
      · refine ⟨_, rfl, _, rfl, _, rfl, pr, vr, _, .ref q1, rfl, rfl, SqT.of (sm _ _ at_.hr), atI_nat hv, q1, _, _, _, rfl, rfl, SqT.of (sm _ _ hq), atI_nat (j := 1) rfl, _, rfl, (by show 3 ≤ sizeLine; decide), fun t ht => ?_⟩
        have s5 := same_new ht (.tup [.str "reg", vI r.2.1, vI j])
        refine ⟨nodeD n, nodeD ⟨"reg", r.2.1, [j]⟩, Lay.dp _ _ (Lay.mkNode (s5 _ _ (sm _ _ hqn))), Lay.dp _ _ (ownTup upd_same), shN n (ok.good.st n (List.mem_of_getElem? hn)), shN _ sS.2.2.1, _, rfl, ite2 (fun z3 => ?_) (fun z3 => ?_)⟩
        · have ow : own r.2.1 j n = false := by
            show PyData.eqv _ _ = false
            simpa using z3
          exact qb ⟨x, n, rx, hn, hop, fun e => (by rw [e, decide_eq_true rfl] at z2; cases z2), ow⟩ _ (sm.trans s5)
        · have ow : own r.2.1 j n = true := by
            show PyData.eqv _ _ = true
            simpa using z3
          exact ⟨_, _, M, rfl, sm.trans s5, s5 _ _ el, s5 _ _ iR, nd, by omega, hM2, fun k x' n' hk hx' hn' => by
            rcases others k x' n' hk hx' hn' with q | ⟨rfl, rfl⟩
            · exact hC k x' n' q hx' hn'
            · exact .inr (.inr ow)⟩
      · have np : n.op = "pick" := by
          by_cases e : n.op = "pick"
          · exact e
          · exact absurd (by rw [decide_eq_false fun q => e (V.str.inj q)]; rfl) z2
        exact ⟨_, _, M, rfl, sm, el, iR, nd, by omega, hM2, fun k x' n' hk hx' hn' => by
          rcases others k x' n' hk hx' hn' with q | ⟨rfl, rfl⟩
          · exact hC k x' n' q hx' hn'
          · exact .inr (.inl np)⟩
  · obtain ⟨v6', v7, M, rfl, sm, el, iR, nd, bl, hM, hC⟩ := p
    rw [List.length_map] at bl hM hC
    have at' : ∀ x, Rch G.ns r.2.2.2 x → ∃ k, k < zs.length ∧ zs[k]? = some x := fun x hx => by
      obtain ⟨k, hk, e⟩ := List.mem_iff_getElem.mp ((hz x).mpr hx)
      exact ⟨k, hk, by rw [List.getElem?_eq_getElem hk, e]⟩
    refine ⟨_, rfl, R, _, _, rfl, .inl iR, IS.keys M, fun ys p hp hw hn => ?_⟩
    obtain ⟨us, eu, hu, hm, hl⟩ := sortedNat hp hw nd
    rw [eu]
    refine qg (fun ⟨x, n, rx, hn, nc, np, ow⟩ => ?_) p us _ (sm.trans (same_new hn _)) upd_same hu (by omega) fun v => ?_
    · obtain ⟨k, hk, e⟩ := at' x rx
      rcases hC k x n hk e hn with q | q | q
      · exact nc q
      · exact np q
      · rw [ow] at q; cases q
    · rw [hm, hM]
      constructor
      · rintro ⟨k, x, n, hk, h1, h2, h3, h4⟩
        exact ⟨x, n, (hz x).mp (List.mem_of_getElem? h1), h2, h3, h4⟩
      · rintro ⟨x, n, rx, h2, h3, h4⟩
        obtain ⟨k, hk, e⟩ := at' x rx
        exact ⟨k, x, n, hk, e, h2, h3, h4⟩
/-! ### the law's words of a register -/
def OldsIs (ns : List Nd) (r : Str × Nat × Nat × Nat) (j : Nat) (zs : List Nat) : Prop := zs.Pairwise (· < ·) ∧ (isBad ns r j → zs = []) ∧ (¬ isBad ns r j → ∀ v, v ∈ zs ↔ v = r.2.2.1 ∨ Cv ns r.2.2.2 v)
theorem OldsIs.uniq {ns : List Nd} {r : Str × Nat × Nat × Nat} {j : Nat} {xs ys : List Nat} (h : OldsIs ns r j xs) (k : OldsIs ns r j ys) : xs = ys := by
  by_cases b : isBad ns r j
  · rw [h.2.1 b, k.2.1 b]
  · exact asc_same h.1 k.1 fun v => (h.2.2 b v).trans (k.2.2 b v).symm
def spOlds : Sp := fun vs H Q _ => ∃ (v : V) (G : Gr) (j : Nat) (r : Str × Nat × Nat × Nat), vs = [v, vI j] ∧ GrW H v G ∧ G.Ok ∧ G.rs[j]? = some r ∧ G.ns.length ≤ 900 ∧
  ∀ (l : Addr) (zs : List Nat) (H' : Hp), Same H H' → H' l = some (.lst (zs.map vI)) → zs.length ≤ 901 → OldsIs G.ns r j zs → Q (.ref l) H'
theorem rgAt {b : Int} {m : Nat} {x : V} (h : (rgV 0 b)[m]? = some x) : x = vI m := by
  unfold rgV at h
  rw [List.getElem?_map] at h
  cases e : (List.range (b - 0).toNat)[m]? with
  | none => rw [e] at h; cases h
  | some k =>
    rw [e] at h
    have hk : k = m := by
      have hm := (List.getElem?_eq_some_iff.mp e).1
      rw [List.getElem?_eq_getElem hm, List.getElem_range] at e
      exact (Option.some.inj e).symm
    subst hk
    exact ((Option.some.inj h).symm).trans (congrArg V.int (by omega))
theorem ok_olds (F : Fun K "_law_olds" "_law_olds" s_law_olds f fd) (T : Txt mg) :
    FnOk P w K mg base CX0 1 f fd ["_law_graph_here", "_law_reg"] spOlds := by
  refine F.ok sc_law_olds (fun vs H Q E h => ?_) (fun cdv A outer s H vs Q E hr h => ?_)
  · obtain ⟨v, G, j, r, rfl, _⟩ := h
    rfl
  obtain ⟨v, G, j, r, rfl, hG, ok, hr_, h900, q⟩ := h
  refine ⟨_, (pss_cons (ps_asg (pe_ix ix_tup (pe_ix ix_tup (pv 0) pe_int (fun _ _ => rfl)) (pv 1) (fun _ _ => rfl)) (pg_tup rfl (pgs_cons (pg_name (i := 2) sc_law_olds.nd rfl (Or.inl rfl)) (pgs_cons (pg_name (i := 3) sc_law_olds.nd rfl (Or.inl rfl)) (pgs_cons (pg_name (i := 4) sc_law_olds.nd rfl (Or.inl rfl)) (pgs_cons (pg_name (i := 5) sc_law_olds.nd rfl (Or.inl rfl)) pgs_nil))))))
      (pss_cons (ps_set (i := 6) sc_law_olds.nd rfl (Or.inl rfl) (pe_disp (pps_cons (pv 5) pe_bl pps_nil) rfl rfl (by simp) (by simp)))
      (pss_cons (ps_set (i := 7) sc_law_olds.nd rfl (Or.inl rfl) (pe_disp (pps_cons (pv 4) pe_bl pps_nil) rfl rfl (by simp) (by simp)))
      (pss_cons (ps_for PassesOwn.never rfl (pi_reversed (by rfl) T.n_reversed (pa_cons (pe_listRg rfl (by rfl) T.n_list (prg_1 (by rfl) T.n_range (pe_op op_add (pv 5) pe_int))) pa_nil)) (pg_name (i := 8) sc_law_olds.nd rfl (Or.inl rfl)) (pss_one (ps_if (pt_cmp (pc_din (hu_of hr) (pv 8) (pv 6))) (pss_cons (ps_set (i := 9) sc_law_olds.nd rfl (Or.inl rfl) (pe_ix ix_tup (pe_ix ix_tup (pv 0) pe_int (fun _ _ => rfl)) (pv 8) (fun _ _ => rfl)))
      (pss_one (ps_if (pt_cmpR op_eq (pe_ix ix_tup (pv 9) pe_int (fun _ _ => rfl)) pe_str (nomark _)) (pss_cons (ps_dput (hu_of hr) (pv 6) (pe_ix ix_tup (pv 9) pe_int (fun _ _ => rfl)) pe_bl rfl)
      (pss_one (ps_dput (hu_of hr) (pv 6) (pe_ix ix_tup (pv 9) pe_int (fun _ _ => rfl)) pe_bl rfl))) (pss_one (ps_if (pt_cmpR op_eq (pe_ix ix_tup (pv 9) pe_int (fun _ _ => rfl)) pe_str (nomark _)) (pss_one (ps_dput (hu_of hr) (pv 7) (pe_ix ix_tup (pv 9) pe_int (fun _ _ => rfl)) pe_bl rfl)) (pss_one (ps_if (pt_cmpR (op_neD hr.units) (pv 9) (pe_tup (pa_cons pe_str (pa_cons (pv 3) (pa_cons (pv 1) pa_nil)))) (nomark _)) (pss_one (ps_ret (pe_lst pa_nil))) pss_nil))))))) pss_nil)))
      (pss_one (ps_ret (pe_callB (cr_sortedKeysI rfl) (by rfl) T.n_sorted (by decide +kernel) (pa_cons (pv 7) pa_nil)))))))), ?_⟩
  obtain ⟨p, pi, pn, pr, po, v4, v6, xi, vn, vr, xo, rfl, at_⟩ := hG
  have hj := (List.getElem?_eq_some_iff.mp hr_).1
  obtain ⟨w1, w8, ha, hw⟩ := ok.regs r (List.mem_of_getElem? hr_)
  obtain ⟨r', q1, er, hv, hq⟩ := regAt at_.lr hj
  rw [hr_] at er
  cases er
  refine ⟨_, rfl, p, _, _, .ref pr, rfl, rfl, SqT.of at_.top, atI_nat (j := 3) rfl, _, rfl, pr, vr, _, .ref q1, rfl, rfl, SqT.of at_.hr, atI_nat hv, q1, _, rfl, SqT.of hq, rfl, _, _, rfl, _, _, rfl, _, _, rfl, _, _, rfl, rfl, ?_⟩
  refine fun R hR => ⟨_, rfl, upd_same, [(Sum.inl (r.2.2.2 : Int), .bl true)], rfl, by show 1 ≤ 15; decide, ?_⟩
  have iR0 : IS (upd (upd H R (.dK [])) R (.dK (mergeK [] [(Sum.inl (r.2.2.2 : Int), V.bl true)]))) R [r.2.2.2] := upd_same
  have s1 : Same H (upd (upd H R (.dK [])) R (.dK (mergeK [] [(Sum.inl (r.2.2.2 : Int), V.bl true)]))) := same_put (same_new hR _) hR
  generalize upd (upd H R (.dK [])) R (.dK (mergeK [] [(Sum.inl (r.2.2.2 : Int), V.bl true)])) = H1 at iR0 s1 ⊢
  refine fun F' hF => ⟨_, rfl, upd_same, [(Sum.inl (r.2.2.1 : Int), .bl true)], rfl, by show 1 ≤ 15; decide, ?_⟩
  have hF0 : H F' = none := s1.free hF
  have nRF : R ≠ F' := ne_of_none iR0 hF
  have iF0 : IS (upd (upd H1 F' (.dK [])) F' (.dK (mergeK [] [(Sum.inl (r.2.2.1 : Int), V.bl true)]))) F' [r.2.2.1] := upd_same
  have s2' : Same H1 (upd (upd H1 F' (.dK [])) F' (.dK (mergeK [] [(Sum.inl (r.2.2.1 : Int), V.bl true)]))) := same_put (same_new hF _) hF
  have iR1 := s2' _ _ iR0
  have s2 := s1.trans s2'
  generalize upd (upd H1 F' (.dK [])) F' (.dK (mergeK [] [(Sum.inl (r.2.2.1 : Int), V.bl true)])) = H2 at iF0 iR1 s2 ⊢
  refine ⟨_, rfl, _, _, rfl, rfl, _, rfl, .of_le (by decide) (by omega) (by decide) (by omega), fun L hL => ?_⟩
  have lx : (rgV 0 ((r.2.2.2 : Int) + 1)).length = r.2.2.2 + 1 := by rw [rgV_length]; omega
  have nLR : L ≠ R := (ne_of_none iR1 hL).symm
  have nLF : L ≠ F' := (ne_of_none iF0 hL).symm
  have s3 := same_new hL (.lst (rgV 0 ((r.2.2.2 : Int) + 1)))
  have hin := ok.good.ok
  generalize hs : r.2.2.2 = st at ha lx s3 iR0 iR1 q ⊢
  refine ⟨L, _, rfl, SqL.of upd_same, for_it walk_rev (fun i σ' H' => ∃ (v8 v9 : Option V) (M Fs : List Nat), σ' = [some (.ref p), some (vI j), some (.str r.1), some (vI r.2.1), some (vI r.2.2.1), some (vI st), some (.ref R), some (.ref F'), v8, v9] ∧ Same H H' ∧ H' L = some (.lst (rgV 0 ((st : Int) + 1))) ∧ IS H' R M ∧ IS H' F' Fs ∧ M.Nodup ∧ Fs.Nodup ∧ M.length ≤ 1 + 2 * i ∧ Fs.length ≤ 1 + i ∧ SInv G.ns st M (st + 1 - i) ∧
      (∀ x ∈ M, st + 1 - i ≤ x → ∀ n, G.ns[x]? = some n → n.op = "const" ∨ n.op = "pick" ∨ own r.2.1 j n = true) ∧ (∀ v, v ∈ Fs ↔ v = r.2.2.1 ∨ ∃ x ∈ M, st + 1 - i ≤ x ∧ ∃ n, G.ns[x]? = some n ∧ n.op = "const" ∧ n.args = [v]))
    ⟨_, _, [st], [r.2.2.1], rfl, s2.trans s3, upd_same, s3 _ _ iR1, s3 _ _ iF0, by simp, by simp, by simp, by simp, .start _ _, fun x hx h => ?_, fun v => ?_⟩ (fun i σ' H' _ p => ?_) (fun i x σ' H3 H4 hi p y => ?_) (fun σ' H' p => ?_)⟩
  · rw [List.mem_singleton.mp hx] at h
    omega
  · rw [List.mem_singleton]
    constructor
    · exact .inl
    · rintro (e | ⟨x, hx, h, _⟩)
      · exact e
      · rw [List.mem_singleton.mp hx] at h
        omega
  · obtain ⟨_, _, _, _, _, _, e, _⟩ := p
    exact SqL.of e
  · obtain ⟨v8, v9, M, Fs, rfl, sm, eL, iR, iF, ndM, ndF, lM, lF, si, hC, hF2⟩ := p
    obtain ⟨rfl, ex⟩ := y
    obtain rfl := rgAt ex
    rw [lx] at hi ⊢
    obtain ⟨k, hk⟩ : ∃ k, k = st + 1 - 1 - i := ⟨_, rfl⟩
    rw [← hk]
    have k1 : st + 1 - i = k + 1 := by omega
    have k2 : st + 1 - (i + 1) = k := by omega
    rw [k1] at si hC hF2
    refine ⟨_, rfl, _, rfl, R, _, rfl, iR.get k, _, rfl, ?_⟩
    rw [val_set]
    by_cases hm : k ∈ M
    · rw [decide_eq_true hm]
      have rk := si.m k hm
      have hk3 := (rk.lt hin ha).1
      obtain ⟨n, qn, hn, hvn, hqn⟩ := nodeAt at_.ln hk3
      refine ⟨_, rfl, p, _, _, .ref pn, rfl, rfl, SqT.of (sm _ _ at_.top), atI_nat (j := 2) rfl, _, rfl, pn, vn, _, .ref qn, rfl, rfl, SqT.of (sm _ _ at_.hn), atI_nat hvn, ?_⟩
      refine ⟨_, rfl, qn, _, _, _, rfl, rfl, SqT.of (sm _ _ hqn), atI_nat (j := 0) rfl, rfl, _, rfl, ite2 (fun z => ?_) (fun z => ?_)⟩
      · have hop : n.op = "pick" := V.str.inj (of_decide_eq_true z)
        obtain ⟨c, a, b, ha3, hak, hbk⟩ := (hin k n hn).pick hop
        have hak := hak.lt
        have hbk := hbk.lt
        rw [List.length_take] at hak hbk
        have hak : a < k := by omega
        have hbk : b < k := by omega
        rw [ha3] at hqn
        refine ⟨_, rfl, _, rfl, qn, _, _, vI a, rfl, rfl, SqT.of (sm _ _ hqn), atI_nat (j := 3) rfl, R, _, rfl, iR.put a (by omega), ?_⟩
        have sm4 := same_put (a := R) (o := .dK ((addN M a).map setE)) sm hR
        have iR4 : IS (upd H4 R (.dK ((addN M a).map setE))) R (addN M a) := upd_same
        have lM4 : (addN M a).length ≤ M.length + 1 := by
          exact addN_len
        have lM5 : (addN (addN M a) b).length ≤ (addN M a).length + 1 := by
          exact addN_len
        refine ⟨_, rfl, _, rfl, qn, _, _, vI b, rfl, rfl, SqT.of (sm4 _ _ hqn), atI_nat (j := 4) rfl, R, _, rfl, iR4.put b (by omega), ?_⟩
        have old : ∀ x ∈ addN (addN M a) b, k + 1 ≤ x → x ∈ M := fun x hx hkx => by
          rcases mem_addN.mp hx with hx | rfl
          · rcases mem_addN.mp hx with hx | rfl
            · exact hx
            · omega
          · omega
        have up : ∀ x ∈ M, x ∈ addN (addN M a) b := fun x hx => mem_addN.mpr (.inl (mem_addN.mpr (.inl hx)))
        refine ⟨_, _, addN (addN M a) b, Fs, rfl, same_put sm4 hR, by rw [upd_ne nLR, upd_ne nLR]; exact eL, upd_same, (by unfold IS; rw [upd_ne nRF.symm, upd_ne nRF.symm]; exact iF), addN_nodup (addN_nodup ndM), ndF, by omega, by omega, by rw [k2]; exact si.pick hm hn hop ha3 hak hbk, fun x hx hkx n' hn' => ?_, fun v => ?_⟩
        · rw [k2] at hkx
          by_cases e : x = k
          · subst e
            rw [hn] at hn'
            cases hn'
            exact .inr (.inl hop)
          · exact hC x (old x hx (by omega)) (by omega) n' hn'
        · rw [hF2, k2]
          constructor
          · rintro (e | ⟨x, hx, h, n', h1, h2, h3⟩)
            · exact .inl e
            · exact .inr ⟨x, up x hx, by omega, n', h1, h2, h3⟩
          · rintro (e | ⟨x, hx, h, n', h1, h2, h3⟩)
            · exact .inl e
            · by_cases e : x = k
              · subst e
                rw [hn] at h1
                cases h1
                rw [hop] at h2
                exact absurd h2.symm sN.1
              · exact .inr ⟨x, old x hx (by omega), by omega, n', h1, h2, h3⟩
      have hnp : ¬ n.op = "pick" := fun e => z (decide_eq_true (congrArg V.str e))
      refine ⟨_, rfl, qn, _, _, _, rfl, rfl, SqT.of (sm _ _ hqn), atI_nat (j := 0) rfl, rfl, _, rfl, ite2 (fun z => ?_) (fun z => ?_)⟩
      · have hop : n.op = "const" := V.str.inj (of_decide_eq_true z)
        obtain ⟨v, hav, _⟩ := (hin k n hn).const hop
        rw [hav] at hqn
        have lF4 : (addN Fs v).length ≤ Fs.length + 1 := by
          exact addN_len
        refine ⟨_, rfl, _, rfl, qn, _, _, vI v, rfl, rfl, SqT.of (sm _ _ hqn), atI_nat (j := 2) rfl, F', _, rfl, iF.put v (by omega), ?_⟩
        refine ⟨_, _, M, addN Fs v, rfl, same_put sm hF0, by rw [upd_ne nLF]; exact eL, (by unfold IS; rw [upd_ne nRF]; exact iR), upd_same, ndM, addN_nodup ndF, by omega, by omega, by rw [k2]; exact si.leaf hn hnp, fun x hx hkx n' hn' => ?_, fun v' => ?_⟩
        · rw [k2] at hkx
          by_cases e : x = k
          · subst e
            rw [hn] at hn'
            cases hn'
            exact .inl hop
          · exact hC x hx (by omega) n' hn'
        · rw [mem_addN, hF2, k2]
          constructor
          · rintro ((e | ⟨x, hx, h, n', h1, h2, h3⟩) | rfl)
            · exact .inl e
            · exact .inr ⟨x, hx, by omega, n', h1, h2, h3⟩
            · exact .inr ⟨k, hm, Nat.le_refl _, n, hn, hop, hav⟩
          · rintro (e | ⟨x, hx, h, n', h1, h2, h3⟩)
            · exact .inl (.inl e)
            · by_cases e : x = k
              · subst e
                rw [hn] at h1
                cases h1
                rw [hav] at h3
                cases h3
                exact .inr rfl
              · exact .inl (.inr ⟨x, hx, by omega, n', h1, h2, h3⟩)
      have hnc : ¬ n.op = "const" := fun e => z (decide_eq_true (congrArg V.str e))
      refine ⟨_, rfl, _, rfl, _, rfl, (by show 3 ≤ sizeLine; decide), fun t ht => ?_⟩
      have s5 := same_new ht (.tup [.str "reg", vI r.2.1, vI j])
      refine ⟨nodeD n, nodeD ⟨"reg", r.2.1, [j]⟩, Lay.dp _ _ (Lay.mkNode (s5 _ _ (sm _ _ hqn))), Lay.dp _ _ (ownTup upd_same), shN n (ok.good.st n (List.mem_of_getElem? hn)), shN _ sS.2.2.1, _, rfl, ite2 (fun z3 => ?_) (fun z3 => ?_)⟩
      · have ow : own r.2.1 j n = false := by
          show PyData.eqv _ _ = false
          simpa using z3
        refine ⟨Nat.zero_le _, fun l hl => q l [] _ ((sm.trans s5).trans (same_new hl _)) upd_same (Nat.zero_le _) ⟨.nil, fun _ => rfl, fun h => absurd ⟨k, n, hs ▸ rk, hn, hnc, hnp, ow⟩ h⟩⟩
      · have ow : own r.2.1 j n = true := by
          show PyData.eqv _ _ = true
          simpa using z3
        refine ⟨_, _, M, Fs, rfl, sm.trans s5, s5 _ _ eL, s5 _ _ iR, s5 _ _ iF, ndM, ndF, by omega, by omega, by rw [k2]; exact si.leaf hn hnp, fun x hx hkx n' hn' => ?_, fun v => ?_⟩
        · rw [k2] at hkx
          by_cases e : x = k
          · subst e
            rw [hn] at hn'
            cases hn'
            exact .inr (.inr ow)
          · exact hC x hx (by omega) n' hn'
        · rw [hF2, k2]
          constructor
          · rintro (e | ⟨x, hx, h, n', h1, h2, h3⟩)
            · exact .inl e
            · exact .inr ⟨x, hx, by omega, n', h1, h2, h3⟩
          · rintro (e | ⟨x, hx, h, n', h1, h2, h3⟩)
            · exact .inl e
            · by_cases e : x = k
              · subst e
                rw [hn] at h1
                cases h1
                exact absurd h2 hnc
              · exact .inr ⟨x, hx, by omega, n', h1, h2, h3⟩
    · rw [decide_eq_false hm]
      have ne : ∀ x ∈ M, x ≠ k := fun x hx e => hm (e ▸ hx)
      refine ⟨_, _, M, Fs, rfl, sm, eL, iR, iF, ndM, ndF, by omega, by omega, by rw [k2]; exact si.skip hm, fun x hx hkx n' hn' => ?_, fun v => ?_⟩
      · rw [k2] at hkx
        have := ne x hx
        exact hC x hx (by omega) n' hn'
      · rw [hF2, k2]
        constructor
        · rintro (e | ⟨x, hx, h, n', h1, h2, h3⟩)
          · exact .inl e
          · exact .inr ⟨x, hx, by omega, n', h1, h2, h3⟩
        · rintro (e | ⟨x, hx, h, n', h1, h2, h3⟩)
          · exact .inl e
          · have := ne x hx
            exact .inr ⟨x, hx, by omega, n', h1, h2, h3⟩
  · obtain ⟨v8, v9, M, Fs, rfl, sm, eL, iR, iF, ndM, ndF, lM, lF, si, hC, hF2⟩ := p
    rw [lx] at si hC hF2 lF
    rw [show st + 1 - (st + 1) = 0 by omega] at si hC hF2
    have nb : ¬ isBad G.ns r j := fun ⟨x, n, rx, hn, nc, np, ow⟩ => by
      rcases hC x ((si.done x).mpr (hs ▸ rx)) (Nat.zero_le _) n hn with q | q | q
      · exact nc q
      · exact np q
      · rw [ow] at q; cases q
    refine ⟨_, rfl, F', _, _, rfl, .inl iF, IS.keys Fs, fun ys p hp hw hn => ?_⟩
    obtain ⟨us, eu, hu, hm, hl⟩ := sortedNat hp hw ndF
    rw [eu]
    refine q p us _ (sm.trans (same_new hn _)) upd_same (by omega) ⟨hu, fun b => absurd b nb, fun _ v => ?_⟩
    rw [hm, hF2, hs]
    constructor
    · rintro (e | ⟨x, hx, _, n, h1, h2, h3⟩)
      · exact .inl e
      · exact .inr ⟨x, n, si.m x hx, h1, h2, h3⟩
    · rintro (e | ⟨x, n, rx, h1, h2, h3⟩)
      · exact .inl e
      · exact .inr ⟨x, (si.done x).mpr rx, Nat.zero_le _, n, h1, h2, h3⟩
end
end Bf

set_option Elab.async false
set_option linter.all false
set_option maxRecDepth 100000
set_option maxHeartbeats 4000000
namespace Bf
open PySem PySem.Spec PyProof.Rows L2
/-! ### numbers -/
def spThing : Sp := fun vs H Q _ => ∃ a n : Int, vs = [.int a, .int n] ∧ Q (.bl (decide (0 ≤ a ∧ a < n))) H
section
variable {P : Program} {w : World} {K : PySem.W.Frag} {mg : Str → Option Value} {base : Heap} {f : Addr} {fd : FuncData}
theorem ok_thing (F : Fun K "is_thing" "is_thing" s_is_thing f fd) (T : Txt mg) : FnOk P w K mg base CX0 1 f fd ["number", "many"] spThing := by
  refine F.ok sc_is_thing (fun vs H Q E h => ?_) (fun cdv A outer s H vs Q E hr h => ?_)
  · obtain ⟨a, n, rfl, _⟩ := h
    rfl
  obtain ⟨a, n, rfl, q⟩ := h
  refine ⟨_, (pss_one (ps_ret (pe_chain op_le op_lt pe_int (pv 0) (pv 1)))), ?_⟩
  refine ⟨_, rfl, _, _, rfl, rfl, _, rfl, ite2 (fun z => ?_) (fun z => ?_)⟩
  · have z := of_decide_eq_true z
    refine ⟨_, rfl, _, _, rfl, rfl, ?_⟩
    show Q (.bl (decide (a < n))) H
    rw [show decide (a < n) = decide (0 ≤ a ∧ a < n) by rw [Bool.eq_iff_iff, decide_eq_true_eq, decide_eq_true_eq]; omega]
    exact q
  · have z := of_decide_eq_false (Bool.eq_false_iff.mpr z)
    rw [show (false : Bool) = decide (0 ≤ a ∧ a < n) from (decide_eq_false (by omega)).symm]
    exact q
end

/-! ### ascending numbers -/
def spAsc : Sp := fun vs H Q _ => ∃ (a : Addr) (ns : List Int), vs = [.ref a] ∧ H a = some (.lst (ns.map V.int)) ∧ ns.length ≤ 1000 ∧ ∀ (b : Bool) (H' : Hp), Same H H' → (b = true ↔ ns.Pairwise (· < ·)) → Q (.bl b) H'
section
variable {P : Program} {w : World} {K : PySem.W.Frag} {mg : Str → Option Value} {base : Heap} {f : Addr} {fd : FuncData}
theorem ok_asc (F : Fun K "are_ascending" "are_ascending" s_are_ascending f fd) (T : Txt mg) : FnOk P w K mg base CX0 1 f fd ["numbers"] spAsc := by
  refine F.ok sc_are_ascending (fun vs H Q E h => ?_) (fun cdv A outer s H vs Q E hr h => ?_)
  · obtain ⟨a, ns, rfl, _⟩ := h
    rfl
  obtain ⟨a, ns, rfl, ea, hl, q⟩ := h
  refine ⟨_, (pss_one (ps_ret (pe_callB (cr_all rfl) (by rfl) T.n_all (by decide +kernel) (pa_cons (pe_lc (own := [("low", 1), ("high", 2)]) (g := (gTup K 2 (gCons (gName 1) (gCons (gName 2) gNil)))) (tt := tYes) rfl sc_are_ascending.nd (pi_zipX (by rfl) T.n_zip (pa_cons (pv 0) (pa_cons (pe_slice sl_list (pv 0) (po_some pe_int) po_none) pa_nil))) (blkOk_by (N := ["numbers", "low", "high"]) (sc := defScope s_are_ascending) (by decide +kernel)) (fun _ _ _ _ _ => (pg_tup rfl (pgs_cons (pg_name (i := 1) sc_are_ascending.nd rfl (Or.inl rfl)) (pgs_cons (pg_name (i := 2) sc_are_ascending.nd rfl (Or.inl rfl)) pgs_nil)))) (fun _ _ _ _ _ => pts_nil) (fun _ _ _ _ _ => (pe_cmpR op_lt (pv 1) (pv 2) (nomark _)))) pa_nil)))), ?_⟩
  refine ⟨_, rfl, _, rfl, 1, rfl, a, _, rfl, SqL.of ea, fun t ht => ?_⟩
  rw [show cutV (ns.map V.int) (some 1) none = ns.tail.map V.int by
    have := cutV_from (ns.map V.int) 1
    rw [show (some 1 : Option Int) = some ((1 : Nat) : Int) from rfl, this, ← List.map_drop, List.drop_one]]
  have s1 := same_new ht (.lst (ns.tail.map V.int))
  have et := upd_same (H := H) (a := t) (o := .lst (ns.tail.map V.int))
  have ea1 := s1 _ _ ea
  generalize upd H t (.lst (ns.tail.map V.int)) = H1 at s1 et ea1 ⊢
  have tl : (ns.tail.map V.int).length ≤ (ns.map V.int).length := by rw [List.length_map, List.length_map, List.length_tail]; omega
  refine ⟨srcL, srcL, a, t, _, _, rfl, SqL.of ea1, SqL.of et, fun D hD => ?_⟩
  refine lc_it (walk_zipMin srcL srcL tl) (fun i H' => Same H1 H' ∧ H' D = some (.lst (((ascB ns).take i).map V.bl))) ⟨same_new hD _, upd_same⟩ (fun i H' _ p => ⟨SqL.of (p.1 _ _ ea1), SqL.of (p.1 _ _ et)⟩) (fun i x H2 H3 hi p y => ?_) (fun H' p => ?_)
  · obtain ⟨sm, eD⟩ := p
    obtain ⟨T1, x0, y0, rfl, hT, rfl, h1, h2⟩ := y
    have h1 : (ns.map V.int)[i]? = some x0 := h1
    have h2 : (ns.tail.map V.int)[i]? = some y0 := h2
    obtain ⟨u, hu, rfl⟩ := mapAt h1
    obtain ⟨v, hv, rfl⟩ := mapAt h2
    have sT := same_new hT (.tup [V.int u, V.int v])
    have hb := ascB_at hu hv
    refine ⟨T1, _, rfl, SqT.of upd_same, rfl, _, _, rfl, _, _, rfl, rfl, rfl, _, rfl, _, rfl, _, _, rfl, rfl, ?_⟩
    refine ⟨_, sT _ _ eD, ?_, same_two (sm.trans sT) hD, ?_⟩
    · rw [List.length_map, List.length_take]
      exact len1000 (by have := ascB_len ns; rw [List.length_tail] at this; omega)
    · rw [upd_same, take_snoc hb, List.map_append]
      rfl
  · obtain ⟨sm, eD⟩ := p
    rw [List.length_map, ← ascB_len, List.take_length] at eD
    exact ⟨D, ascB ns, rfl, SqL.of eD, q _ _ (s1.trans sm) (ascB_iff ns)⟩
end

/-! ### words of codes -/
def inB (w : Nat) (ns : List Int) : List Bool := ns.map fun x => decide (0 ≤ x ∧ x < 2 ^ w)
def spDiff : Sp := fun vs H Q _ => ∃ (a : Addr) (ns : List Int), vs = [.ref a] ∧ H a = some (.lst (ns.map V.int)) ∧ ns.length ≤ 1000 ∧ ∀ (b : Bool) (H' : Hp), Same H H' → (b = true ↔ ns.Nodup) → Q (.bl b) H'
def spIsWidth : Sp := fun vs H Q _ => ∃ n : Int, vs = [.int n] ∧ Q (.bl (decide (1 ≤ n ∧ n ≤ 8))) H
def spAreWords : Sp := fun vs H Q _ => ∃ (a : Addr) (ns : List Int) (w : Nat), vs = [.ref a, vI w] ∧ H a = some (.lst (ns.map V.int)) ∧ ns.length ≤ 1000 ∧ w ≤ 8 ∧ ∀ (b : Bool) (H' : Hp), Same H H' → (b = true ↔ ns.Nodup ∧ InW ns w) → Q (.bl b) H'
section
variable {P : Program} {w : World} {K : PySem.W.Frag} {mg : Str → Option Value} {base : Heap} {f : Addr} {fd : FuncData}
theorem ok_diff (F : Fun K "all_different" "all_different" s_all_different f fd) (T : Txt mg) : FnOk P w K mg base CX0 1 f fd ["names"] spDiff := by
  refine F.ok sc_all_different (fun vs H Q E h => ?_) (fun cdv A outer s H vs Q E hr h => ?_)
  · obtain ⟨a, ns, rfl, _⟩ := h
    rfl
  obtain ⟨a, ns, rfl, ea, hl, q⟩ := h
  refine ⟨_, (pss_one (ps_ret (pe_cmpR op_eq (pe_callB (cr_lenSetO rfl) (by rfl) T.n_len (by decide +kernel) (pa_cons (pe_callTy (cr_setI rfl) (by rfl) T.n_set (by decide +kernel) (pa_cons (pv 0) pa_nil)) pa_nil)) (pe_callB call_len_seq (by rfl) T.n_len (by decide +kernel) (pa_cons (pv 0) pa_nil)) (nomark _)))), ?_⟩
  refine ⟨_, rfl, a, _, rfl, SqL.of ea, by omega, fun p0 Sb m hp0 hm hS => ⟨p0, Sb, m, rfl, upd_same, fun ks nd hk hlk => ?_⟩⟩
  have s5 := same_new hp0 (SetO w p0 Sb m)
  refine ⟨_, rfl, a, _, rfl, .inl (SqL.of (s5 _ _ ea)), rfl, q _ _ s5 ?_⟩
  have hnl := nodup_iff_len nd fun x => (hk x).trans (hS x)
  rw [decide_eq_true_iff, List.length_map, ← hlk, ← hnl]
  exact ⟨fun e => by have := V.int.inj e; omega, fun e => by rw [e]⟩
theorem ok_isWidth {tM : Tok} (F : Fun K "is_width" "is_width" s_is_width f fd) (T : TxtP mg tM) : FnOk P w K mg base CX0 1 f fd ["width"] spIsWidth := by
  refine F.ok sc_is_width (fun vs H Q E h => ?_) (fun cdv A outer s H vs Q E hr h => ?_)
  · obtain ⟨a, rfl, _⟩ := h
    rfl
  obtain ⟨a, rfl, q⟩ := h
  refine ⟨_, (pss_one (ps_ret (pe_chain op_le op_le pe_int (pv 0) (pe_glob (v := .int 8) rfl T.g_MOST_WIDTH ⟨_, rfl⟩)))), ?_⟩
  refine ⟨_, rfl, _, _, rfl, rfl, _, rfl, ite2 (fun z => ?_) (fun z => ?_)⟩
  · have z := of_decide_eq_true z
    refine ⟨_, _, rfl, rfl, ?_⟩
    show Q (.bl (decide (a ≤ 8))) H
    rw [show decide (a ≤ 8) = decide (1 ≤ a ∧ a ≤ 8) by rw [Bool.eq_iff_iff, decide_eq_true_eq, decide_eq_true_eq]; omega]
    exact q
  · have z := of_decide_eq_false (Bool.eq_false_iff.mpr z)
    rw [show (false : Bool) = decide (1 ≤ a ∧ a ≤ 8) from (decide_eq_false (by omega)).symm]
    exact q
theorem ok_areWords (F : Fun K "are_words" "are_words" s_are_words f fd) (T : Txt mg) (D_all_different : Dn P w K mg base "all_different" ["names"] 1 spDiff) : FnOk P w K mg base CX0 2 f fd ["words", "width"] spAreWords := by
  refine F.ok sc_are_words (fun vs H Q E h => ?_) (fun cdv A outer s H vs Q E hr h => ?_)
  · obtain ⟨a, ns, wd, rfl, _⟩ := h
    rfl
  obtain ⟨a, ns, wd, rfl, ea, hl, h8, q⟩ := h
  refine ⟨_, (pss_one (ps_ret (pe_and (pe_dn D_all_different (hr.mono (by omega)) (by rfl) (pa_cons (pv 0) pa_nil)) (pe_one (pe_callB (cr_all rfl) (by rfl) T.n_all (by decide +kernel) (pa_cons (pe_lc (own := [("word", 2)]) (g := (gName 2)) (tt := tYes) rfl sc_are_words.nd (pi_list (pv 0)) (blkOk_by (N := ["words", "width", "word"]) (sc := defScope s_are_words) (by decide +kernel)) (fun _ _ _ _ _ => (pg_name (i := 2) sc_are_words.nd rfl (Or.inl rfl))) (fun _ _ _ _ _ => pts_nil) (fun _ _ _ _ _ => (pe_chain op_le op_lt pe_int (pv 2) (pe_op op_oneShl pe_int (pv 1))))) pa_nil)))))), ?_⟩
  refine ⟨_, rfl, a, ns, rfl, ea, hl, fun b H1 s1 hb => ⟨b, rfl, ?_⟩⟩
  cases b with
  | false => exact iteF (q _ _ s1 ⟨fun z => Bool.noConfusion z, fun z => hb.mpr z.1⟩)
  | true =>
    refine iteT ?_
    have nd := hb.mp rfl
    have ea1 := s1 _ _ ea
    refine ⟨_, rfl, a, rfl, ⟨_, SqL.of ea1⟩, fun D hD => ?_⟩
    refine lc_it (walk_list (xs := ns.map V.int)) (fun i H' => Same H1 H' ∧ H' D = some (.lst (((inB wd ns).take i).map V.bl))) ⟨same_new hD _, upd_same⟩ (fun i H' _ p => SqL.of (p.1 _ _ ea1)) (fun i x H2 H3 hi p y => ?_) (fun H' p => ?_)
    · obtain ⟨sm, eD⟩ := p
      obtain ⟨rfl, hx⟩ := y
      obtain ⟨u, hu, rfl⟩ := mapAt hx
      have hb : (inB wd ns)[i]? = some (decide (0 ≤ u ∧ u < 2 ^ wd)) := by unfold inB; rw [List.getElem?_map, hu]; rfl
      have fin : ∀ b : Bool, b = decide (0 ≤ u ∧ u < 2 ^ wd) → ∃ acc, H3 D = some (.lst acc) ∧ acc.length < sizeLine ∧ Same H1 (upd H3 D (.lst (acc ++ [V.bl b]))) ∧ upd H3 D (.lst (acc ++ [V.bl b])) D = some (.lst (((inB wd ns).take (i + 1)).map V.bl)) := fun b eb => by
        refine ⟨_, eD, ?_, same_two sm hD, ?_⟩
        · rw [List.length_map, List.length_take]
          exact len1000 (by unfold inB; rw [List.length_map]; omega)
        · rw [upd_same, take_snoc hb, List.map_append, eb]
          rfl
      refine ⟨rfl, _, rfl, _, _, rfl, rfl, _, rfl, ite2 (fun z => ?_) (fun z => ?_)⟩
      · have z := of_decide_eq_true z
        refine ⟨_, rfl, wd, rfl, rfl, by omega, _, _, rfl, rfl, ?_⟩
        exact fin _ (by rw [Bool.eq_iff_iff, decide_eq_true_eq, decide_eq_true_eq]; omega)
      · have z := of_decide_eq_false (Bool.eq_false_iff.mpr z)
        exact fin _ (decide_eq_false (by omega)).symm
    · obtain ⟨sm, eD⟩ := p
      rw [List.length_map, show ns.length = (inB wd ns).length by unfold inB; rw [List.length_map], List.take_length] at eD
      refine ⟨D, inB wd ns, rfl, SqL.of eD, q _ _ (s1.trans sm) ?_⟩
      unfold inB InW
      rw [List.all_map, List.all_eq_true]
      exact ⟨fun h => ⟨nd, fun x hx => of_decide_eq_true (h x hx)⟩, fun h x hx => decide_eq_true (h.2 x hx)⟩
end
end Bf

set_option Elab.async false
set_option linter.all false
set_option maxRecDepth 100000
set_option maxHeartbeats 4000000
namespace Bf
open PySem PySem.Spec PyProof.Rows L2
/-! ### the judge of code papers -/
def spJudgeE : Sp := fun vs H Q _ => ∃ (v ve : V) (G : Gr) (e : Ent), vs = [v, ve] ∧ GrW H v G ∧ G.Ok ∧ G.ns.length ≤ 900 ∧ Lay H ve e.D ∧ e.codes.length ≤ 60 ∧ ∀ (b : Bool) (H' : Hp), Same H H' → (b = true ↔ EntOk G.ns G.rs e) → Q (.bl b) H'
theorem Lay.ent {H : Hp} {v : V} {e : Ent} (h : Lay H v e.D) : ∃ (p pc : Addr) (vc : List V), v = .ref p ∧ H p = some (.tup [.int e.reg, .int e.wid, .ref pc]) ∧ H pc = some (.tup vc) ∧ LayAll H vc (e.codes.map codeD) := by
  obtain ⟨p, vs, rfl, ep, l⟩ := Lay.tup_inv h
  obtain ⟨v1, u1, rfl, l1, l⟩ := l.cons_inv
  obtain ⟨v2, u2, rfl, l2, l⟩ := l.cons_inv
  obtain ⟨v3, u3, rfl, l3, l⟩ := l.cons_inv
  obtain rfl := l.nil_inv
  obtain rfl := l1.int_inv
  obtain rfl := l2.int_inv
  obtain ⟨pc, vc, rfl, ec, lc⟩ := l3.tup_inv
  exact ⟨p, pc, vc, rfl, ep, ec, lc⟩
theorem codeAt {H : Hp} {vs : List V} {cs : List Code} {i : Nat} (h : LayAll H vs (cs.map codeD)) (hi : i < cs.length) : ∃ (c : Code) (q : Addr), cs[i]? = some c ∧ vs[i]? = some (.ref q) ∧ H q = some (.tup [.int c.1, .int c.2]) := by
  have e : (cs.map codeD)[i]? = some (codeD cs[i]) := by rw [List.getElem?_map, List.getElem?_eq_getElem hi]; rfl
  obtain ⟨v, hv, l⟩ := h.at_ i e
  obtain ⟨q, us, rfl, eq, l⟩ := l.tup_inv
  obtain ⟨v1, u1, rfl, l1, l⟩ := l.cons_inv
  obtain ⟨v2, u2, rfl, l2, l⟩ := l.cons_inv
  obtain rfl := l.nil_inv
  obtain rfl := l1.int_inv
  obtain rfl := l2.int_inv
  exact ⟨cs[i], q, List.getElem?_eq_getElem hi, hv, eq⟩
theorem eqVI (a b : Int) : eqV (V.int a) (V.int b) = decide (a = b) := by
  show (a == b) = _
  by_cases h : a = b
  · subst h; simp
  · rw [decide_eq_false h]
    simpa using h
theorem inVI (x : Int) (xs : List Int) : inV (V.int x) (xs.map V.int) = decide (x ∈ xs) := by
  induction xs with
  | nil => rfl
  | cons a r ih =>
    show (eqV (V.int a) (V.int x) || inV (V.int x) (r.map V.int)) = decide (x ∈ a :: r)
    rw [ih, eqVI]
    by_cases h : a = x
    · subst h; simp
    · by_cases h2 : x ∈ r
      · simp [h2]
      · have : x ≠ a := fun e => h e.symm
        simp [h, h2, this]
theorem flatI : ∀ xs : List Int, (xs.map V.int).all flatV = true
  | [] => rfl
  | a :: r => by
    rw [List.map_cons, List.all_cons, flatI r]
    rfl
section
variable {P : Program} {w : World} {K : PySem.W.Frag} {mg : Str → Option Value} {base : Heap} {f : Addr} {fd : FuncData}
theorem ok_judgeE (F : Fun K "judge_entry" "judge_entry" s_judge_entry f fd) (T : Txt mg) (D_picked_words : Dn P w K mg base "picked_words" ["graph", "reg"] 2 spWords) (D_is_thing : Dn P w K mg base "is_thing" ["number", "many"] 1 spThing)
    (D_is_width : Dn P w K mg base "is_width" ["width"] 1 spIsWidth) (D_are_ascending : Dn P w K mg base "are_ascending" ["numbers"] 1 spAsc) (D_are_words : Dn P w K mg base "are_words" ["words", "width"] 2 spAreWords) :
    FnOk P w K mg base CX0 3 f fd ["graph", "entry"] spJudgeE := by
  refine F.ok sc_judge_entry (fun vs H Q E h => ?_) (fun cdv A outer s H vs Q E hr h => ?_)
  · obtain ⟨v, ve, G, e, rfl, _⟩ := h
    rfl
  obtain ⟨v, ve, G, e, rfl, hG, ok, h900, he, h300, q⟩ := h
  refine ⟨_, (pss_cons (ps_asg (pv 1) (pg_tup rfl (pgs_cons (pg_name (i := 2) sc_judge_entry.nd rfl (Or.inl rfl)) (pgs_cons (pg_name (i := 3) sc_judge_entry.nd rfl (Or.inl rfl)) (pgs_cons (pg_name (i := 4) sc_judge_entry.nd rfl (Or.inl rfl)) pgs_nil)))))
      (pss_cons (ps_set (i := 5) sc_judge_entry.nd rfl (Or.inl rfl) (pe_ix ix_tup (pv 0) pe_int (fun _ _ => rfl)))
      (pss_cons (ps_if (PW.pt (pw_or (pt_not (pt_val (pe_dn D_is_thing (hr.mono (by omega)) (by rfl) (pa_cons (pv 2) (pa_cons (pe_callB call_len_seq (by rfl) T.n_len (by decide +kernel) (pa_cons (pv 5) pa_nil)) pa_nil))))) (pw_or1 (pt_not (pt_val (pe_dn D_is_width (hr.mono (by omega)) (by rfl) (pa_cons (pv 3) pa_nil))))))) (pss_one (ps_ret pe_bl)) pss_nil)
      (pss_cons (ps_set (i := 6) sc_judge_entry.nd rfl (Or.inr rfl) (pe_lc (own := [("old", 8), ("_", 9)]) (g := (gTup K 2 (gCons (gName 8) (gCons (gName 9) gNil)))) (tt := tYes) rfl sc_judge_entry.nd (pi_tup (pv 4)) (blkOk_by (N := ["graph", "entry", "reg", "width", "codes", "regs", "olds", "words", "old", "_", "word", "new"]) (sc := defScope s_judge_entry) (by decide +kernel)) (fun _ _ _ _ _ => (pg_tup rfl (pgs_cons (pg_name (i := 8) sc_judge_entry.nd rfl (Or.inl rfl)) (pgs_cons (pg_name (i := 9) sc_judge_entry.nd rfl (Or.inl rfl)) pgs_nil)))) (fun _ _ _ _ _ => pts_nil) (fun _ _ _ _ _ => (pv 8))))
      (pss_cons (ps_if (PW.pt (pw_or (pt_not (pt_val (pe_dn D_are_ascending (hr.mono (by omega)) (by rfl) (pa_cons (pv 6) pa_nil)))) (pw_or1 (pt_not (pt_val (pe_dn D_are_words (hr.mono (by omega)) (by rfl) (pa_cons (pv 6) (pa_cons (pe_ix ix_tup (pe_ix ix_tup (pv 5) (pv 2) (fun _ _ => rfl)) pe_int (fun _ _ => rfl)) pa_nil)))))))) (pss_one (ps_ret pe_bl)) pss_nil)
      (pss_cons (ps_if (PW.pt (pw_or (pt_not (pt_val (pe_dn D_are_words (hr.mono (by omega)) (by rfl) (pa_cons (pe_lc (own := [("_", 9), ("new", 11)]) (g := (gTup K 2 (gCons (gName 9) (gCons (gName 11) gNil)))) (tt := tYes) rfl sc_judge_entry.nd (pi_tup (pv 4)) (blkOk_by (N := ["graph", "entry", "reg", "width", "codes", "regs", "olds", "words", "old", "_", "word", "new"]) (sc := defScope s_judge_entry) (by decide +kernel)) (fun _ _ _ _ _ => (pg_tup rfl (pgs_cons (pg_name (i := 9) sc_judge_entry.nd rfl (Or.inl rfl)) (pgs_cons (pg_name (i := 11) sc_judge_entry.nd rfl (Or.inl rfl)) pgs_nil)))) (fun _ _ _ _ _ => pts_nil) (fun _ _ _ _ _ => (pv 11))) (pa_cons (pv 3) pa_nil))))) (pw_or1 (pt_cmpR op_notIn_seq (pe_ix ix_tup (pe_ix ix_tup (pv 5) (pv 2) (fun _ _ => rfl)) pe_int (fun _ _ => rfl)) (pv 6) (by rfl))))) (pss_one (ps_ret pe_bl)) pss_nil)
      (pss_cons (ps_set (i := 7) sc_judge_entry.nd rfl (Or.inl rfl) (pe_dn D_picked_words (hr.mono (by omega)) (by rfl) (pa_cons (pv 0) (pa_cons (pv 2) pa_nil))))
      (pss_one (ps_ret (pe_and (pe_cmpR op_notN (pv 7) pe_non (nomark _)) (pe_one (pe_callB (cr_all rfl) (by rfl) T.n_all (by decide +kernel) (pa_cons (pe_lc (own := [("word", 10)]) (g := (gName 10)) (tt := tYes) rfl sc_judge_entry.nd (pi_list (pv 7)) (blkOk_by (N := ["graph", "entry", "reg", "width", "codes", "regs", "olds", "words", "old", "_", "word", "new"]) (sc := defScope s_judge_entry) (by decide +kernel)) (fun _ _ _ _ _ => (pg_name (i := 10) sc_judge_entry.nd rfl (Or.inl rfl))) (fun _ _ _ _ _ => pts_nil) (fun _ _ _ _ _ => (pe_cmpR (op_in_seq : OpR _ _ (rIn K false)) (pv 10) (pv 6) (by rfl)))) pa_nil))))))))))))), ?_⟩
  obtain ⟨pe, pc, vc, rfl, epe, epc, lc⟩ := he.ent
  have hG0 := hG
  obtain ⟨p, pi, pn, pr, po, v4, v6, xi, vn, vr, xo, rfl, at_⟩ := hG
  have lvr : vr.length = G.rs.length := by rw [at_.lr.len, List.length_map]
  refine ⟨_, rfl, pe, _, rfl, SqT.of epe, rfl, _, _, rfl, _, _, rfl, _, _, rfl, rfl, ?_⟩
  refine ⟨_, rfl, p, _, _, .ref pr, rfl, rfl, SqT.of at_.top, atI_nat (j := 3) rfl, ?_⟩
  refine ⟨_, rfl, _, rfl, pr, vr, rfl, .inr (SqT.of at_.hr), e.reg, (vr.length : Int), rfl, _, rfl, ite2 (fun z => iteT (q false _ (.refl _) ⟨fun y => Bool.noConfusion y, fun ⟨j, r, h1, h2, _⟩ => ?_⟩)) (fun z => ?_)⟩
  · have h3 := (List.getElem?_eq_some_iff.mp h2).1
    have : decide (0 ≤ e.reg ∧ e.reg < (vr.length : Int)) = true := decide_eq_true (by omega)
    rw [this] at z
    exact z
  refine ⟨_, rfl, e.wid, rfl, _, rfl, ite2 (fun z2 => q false _ (.refl _) ⟨fun y => Bool.noConfusion y, fun ⟨j, r, _, _, h1, h2, _⟩ => ?_⟩) (fun z2 => ?_)⟩
  · have : decide (1 ≤ e.wid ∧ e.wid ≤ 8) = true := decide_eq_true ⟨h1, h2⟩
    rw [this] at z2
    exact z2
  have z : 0 ≤ e.reg ∧ e.reg < (vr.length : Int) := by
    by_cases y : 0 ≤ e.reg ∧ e.reg < (vr.length : Int)
    · exact y
    · exact absurd (by rw [decide_eq_false y]; rfl) z
  have z2 : 1 ≤ e.wid ∧ e.wid ≤ 8 := by
    by_cases y : 1 ≤ e.wid ∧ e.wid ≤ 8
    · exact y
    · exact absurd (by rw [decide_eq_false y]; rfl) z2
  obtain ⟨j, hj⟩ := Int.eq_ofNat_of_zero_le z.1
  have hj2 : j < G.rs.length := by omega
  obtain ⟨r, qr, hr, hvr, hqr⟩ := regAt at_.lr hj2
  obtain ⟨w1, w8, ha, hwr, hst, hwa⟩ := ok.regs r (List.mem_of_getElem? hr)
  refine ⟨_, rfl, pc, rfl, ⟨_, SqT.of epc⟩, fun D hD => ?_⟩
  have lvc : vc.length = e.codes.length := by rw [lc.len, List.length_map]
  refine lc_it (walk_tup (xs := vc)) (fun i H' => Same H H' ∧ H' D = some (.lst ((e.olds.take i).map V.int))) ⟨same_new hD _, upd_same⟩ (fun i H' _ p => SqT.of (p.1 _ _ epc)) (fun i x H2 H3 hi p y => ?_) (fun H1 p => ?_)
  · obtain ⟨sm, eD⟩ := p
    obtain ⟨rfl, hx⟩ := y
    obtain ⟨c, qc, hc, hv, hqc⟩ := codeAt lc (show i < e.codes.length by omega)
    obtain rfl : x = .ref qc := by rw [hx] at hv; exact Option.some.inj hv
    have hb : e.olds[i]? = some c.1 := by unfold Ent.olds; rw [List.getElem?_map, hc]; rfl
    refine ⟨qc, _, rfl, SqT.of (sm _ _ hqc), rfl, _, _, rfl, _, _, rfl, rfl, rfl, _, rfl, ?_⟩
    refine ⟨_, eD, ?_, same_two sm hD, ?_⟩
    · rw [List.length_map, List.length_take]
      exact len1000 (by unfold Ent.olds; rw [List.length_map]; omega)
    · rw [upd_same, take_snoc hb, List.map_append]
      rfl
  obtain ⟨s1, eD⟩ := p
  have lo : e.olds.length = e.codes.length := by unfold Ent.olds; rw [List.length_map]
  rw [lvc, ← lo, List.take_length] at eD
  refine ⟨_, rfl, D, e.olds, rfl, eD, by omega, fun b1 H2 s2 hb1 => ⟨b1, rfl, ?_⟩⟩
  have s02 := s1.trans s2
  have ent : EntOk G.ns G.rs e ↔ (Asc e.olds ∧ InW e.olds r.2.1 ∧ e.news.Nodup ∧ InW e.news e.wid.toNat ∧ (r.2.2.1 : Int) ∈ e.olds ∧ Sty G.ns e.olds j r.2.2.2) := by
    constructor
    · rintro ⟨j', r', h1, h2, _, _, h⟩
      have ej : j' = j := by omega
      subst ej
      obtain rfl : r' = r := Option.some.inj (h2.symm.trans hr)
      exact h
    · intro h
      exact ⟨j, r, hj, hr, z2.1, z2.2, h⟩
  cases b1 with
  | false => exact iteT (q false _ s02 ⟨fun y => Bool.noConfusion y, fun h => hb1.mpr (ent.mp h).1⟩)
  | true =>
  refine iteF ?_
  have a1 := hb1.mp rfl
  have eD2 := s2 _ _ eD
  refine ⟨_, rfl, _, rfl, _, rfl, pr, vr, _, .ref qr, rfl, rfl, SqT.of (s02 _ _ at_.hr), (by rw [hj]; exact atI_nat hvr), qr, _, _, _, rfl, rfl, SqT.of (s02 _ _ hqr), atI_nat (j := 1) rfl, D, e.olds, r.2.1, rfl, eD2, by omega, w8, fun b2 H3 s3 hb2 => ⟨b2, rfl, ?_⟩⟩
  have s03 := s02.trans s3
  have eD3 := s3 _ _ eD2
  cases b2 with
  | false =>
    refine ite2 (fun _ => ?_) (fun y => absurd rfl y)
    exact q false _ s03 ⟨fun y => Bool.noConfusion y, fun h => hb2.mpr ⟨(ent.mp h).1.imp fun h => Int.ne_of_lt h, (ent.mp h).2.1⟩⟩
  | true =>
  refine ite2 (fun y => Bool.noConfusion y) (fun _ => ?_)
  have a2 := (hb2.mp rfl).2
  refine ⟨_, rfl, pc, rfl, ⟨_, SqT.of (s03 _ _ epc)⟩, fun D2 hD2 => ?_⟩
  refine lc_it (walk_tup (xs := vc)) (fun i H' => Same H3 H' ∧ H' D2 = some (.lst ((e.news.take i).map V.int))) ⟨same_new hD2 _, upd_same⟩ (fun i H' _ p => SqT.of (p.1 _ _ (s03 _ _ epc))) (fun i x H4 H5 hi p y => ?_) (fun H4 p => ?_)
  · obtain ⟨sm, eDx⟩ := p
    obtain ⟨rfl, hx⟩ := y
    obtain ⟨c, qc, hc, hv, hqc⟩ := codeAt lc (show i < e.codes.length by omega)
    obtain rfl : x = .ref qc := by rw [hx] at hv; exact Option.some.inj hv
    have hb : e.news[i]? = some c.2 := by unfold Ent.news; rw [List.getElem?_map, hc]; rfl
    refine ⟨qc, _, rfl, SqT.of (sm _ _ (s03 _ _ hqc)), rfl, _, _, rfl, _, _, rfl, rfl, rfl, _, rfl, ?_⟩
    refine ⟨_, eDx, ?_, same_two sm hD2, ?_⟩
    · rw [List.length_map, List.length_take]
      exact len1000 (by unfold Ent.news; rw [List.length_map]; omega)
    · rw [upd_same, take_snoc hb, List.map_append]
      rfl
  obtain ⟨s4, eD4⟩ := p
  have ln : e.news.length = e.codes.length := by unfold Ent.news; rw [List.length_map]
  rw [lvc, ← ln, List.take_length] at eD4
  have s04 := s03.trans s4
  refine ⟨_, rfl, D2, e.news, e.wid.toNat, by rw [show vI e.wid.toNat = V.int e.wid from congrArg V.int (by omega)], eD4, by omega, by omega, fun b3 H5 s5 hb3 => ⟨b3, rfl, ?_⟩⟩
  have s05 := s04.trans s5
  have eD5 := s5 _ _ (s4 _ _ eD3)
  cases b3 with
  | false => exact iteT (q false _ s05 ⟨fun y => Bool.noConfusion y, fun h => hb3.mpr ⟨(ent.mp h).2.2.1, (ent.mp h).2.2.2.1⟩⟩)
  | true =>
  refine iteF ?_
  have a3 := hb3.mp rfl
  refine ⟨_, rfl, _, rfl, pr, vr, _, .ref qr, rfl, rfl, SqT.of (s05 _ _ at_.hr), (by rw [hj]; exact atI_nat hvr), qr, _, _, _, rfl, rfl, SqT.of (s05 _ _ hqr), atI_nat (j := 2) rfl, _, rfl, D, e.olds.map V.int, rfl, .inl (SqL.of eD5), rfl, flatI _, ?_⟩
  refine ⟨!decide ((r.2.2.1 : Int) ∈ e.olds), ?e4, ?_⟩
  case e4 =>
    show V.bl (!inV (V.int (r.2.2.1 : Int)) (e.olds.map V.int)) = _
    rw [inVI]
  by_cases a4 : (r.2.2.1 : Int) ∈ e.olds
  rotate_left
  · rw [decide_eq_false a4]
    exact iteT (q false _ s05 ⟨fun y => Bool.noConfusion y, fun h => absurd (ent.mp h).2.2.2.2.1 a4⟩)
  rw [decide_eq_true a4]
  refine iteF ?_
  have sb := sty_bad (zs := e.olds) ok.good hr sN.1 ⟨sN.2.2.2.2.1, sN.2.2.2.1⟩
  refine ⟨_, rfl, _, rfl, .ref p, G, j, r, by rw [show vI j = V.int e.reg from congrArg V.int hj.symm], ⟨p, pi, pn, pr, po, v4, v6, xi, vn, vr, xo, rfl, at_.keep (.same s05)⟩, ok, hr, h900, fun hbad H6 s6 => ?_, fun hbad l zs H6 s6 el hzs hzl hz => ?_⟩
  · refine ⟨_, rfl, rfl, false, rfl, iteF ?_⟩
    exact q false _ (s05.trans s6) ⟨fun y => Bool.noConfusion y, fun h => absurd hbad (sb.mpr (ent.mp h).2.2.2.2.2).1⟩
  · have s06 := s05.trans s6
    have eD6 := s6 _ _ eD5
    refine ⟨_, rfl, rfl, true, rfl, iteT ?_⟩
    refine ⟨_, rfl, l, rfl, ⟨_, SqL.of el⟩, fun D3 hD3 => ?_⟩
    refine lc_it (walk_list (xs := zs.map vI)) (fun i H' => Same H6 H' ∧ H' D3 = some (.lst (((zs.map fun v : Nat => decide ((v : Int) ∈ e.olds)).take i).map V.bl))) ⟨same_new hD3 _, upd_same⟩ (fun i H' _ p => SqL.of (p.1 _ _ el)) (fun i x H7 H8 hi p y => ?_) (fun H7 p => ?_)
    · obtain ⟨sm, eDx⟩ := p
      obtain ⟨rfl, hx⟩ := y
      obtain ⟨v, hv, rfl⟩ := natAt hx
      have hb : (zs.map fun v : Nat => decide ((v : Int) ∈ e.olds))[i]? = some (decide ((v : Int) ∈ e.olds)) := by rw [List.getElem?_map, hv]; rfl
      refine ⟨rfl, _, rfl, _, rfl, D, e.olds.map V.int, rfl, .inl (SqL.of (sm _ _ eD6)), rfl, flatI _, ?_⟩
      refine ⟨_, eDx, ?_, same_two sm hD3, ?_⟩
      · rw [List.length_map, List.length_take]
        exact len1000 (by rw [List.length_map]; omega)
      · rw [upd_same, take_snoc hb, List.map_append]
        show some (HO.lst (_ ++ [V.bl (inV (V.int (v : Int)) (e.olds.map V.int))])) = _
        rw [inVI]
        rfl
    · obtain ⟨sm, eDx⟩ := p
      rw [List.length_map, show zs.length = (zs.map fun v : Nat => decide ((v : Int) ∈ e.olds)).length by rw [List.length_map], List.take_length] at eDx
      refine ⟨D3, _, rfl, SqL.of eDx, q _ _ (s06.trans sm) ?_⟩
      rw [List.all_map, List.all_eq_true, ent]
      constructor
      · intro h
        exact ⟨a1, a2, a3.1, a3.2, a4, sb.mp ⟨hbad, fun v hv => of_decide_eq_true (h v ((hz v).mpr hv))⟩⟩
      · rintro ⟨_, _, _, _, _, h6⟩ v hv
        exact decide_eq_true ((sb.mpr h6).2 v ((hz v).mp hv))
/-- the whole paper -/
def spJudgeC : Sp := fun vs H Q _ => ∃ (v vp : V) (G : Gr) (p : List Ent), vs = [v, vp] ∧ GrW H v G ∧ G.Ok ∧ G.ns.length ≤ 900 ∧ Lay H vp (papD p) ∧ p.length ≤ 50 ∧ (∀ e ∈ p, e.codes.length ≤ 60) ∧ ∀ (b : Bool) (H' : Hp), Same H H' → (b = true ↔ PapOk G.ns G.rs p) → Q (.bl b) H'
theorem GrW.same {H H' : Hp} {v : V} {G : Gr} (h : GrW H v G) (s : Same H H') : GrW H' v G := by
  obtain ⟨p, pi, pn, pr, po, v4, v6, xi, vn, vr, xo, rfl, at_⟩ := h
  exact ⟨p, pi, pn, pr, po, v4, v6, xi, vn, vr, xo, rfl, at_.keep (.same s)⟩
theorem ok_judgeC (F : Fun K "judge_codes" "judge_codes" s_judge_codes f fd) (T : Txt mg) (D_are_ascending : Dn P w K mg base "are_ascending" ["numbers"] 1 spAsc) (D_judge_entry : Dn P w K mg base "judge_entry" ["graph", "entry"] 3 spJudgeE) :
    FnOk P w K mg base CX0 4 f fd ["graph", "paper"] spJudgeC := by
  refine F.ok sc_judge_codes (fun vs H Q E h => ?_) (fun cdv A outer s H vs Q E hr h => ?_)
  · obtain ⟨v, ve, G, e, rfl, _⟩ := h
    rfl
  obtain ⟨v, vp, G, p, rfl, hG, ok, h900, hp, h50, h300, q⟩ := h
  refine ⟨_, (pss_cons (ps_if (pt_not (pt_val (pe_dn D_are_ascending (hr.mono (by omega)) (by rfl) (pa_cons (pe_lc (own := [("reg", 3), ("_", 4), ("_", 4)]) (g := (gTup K 3 (gCons (gName 3) (gCons (gName 4) (gCons (gName 4) gNil))))) (tt := tYes) rfl sc_judge_codes.nd (pi_tup (pv 1)) (blkOk_by (N := ["graph", "paper", "entry", "reg", "_"]) (sc := defScope s_judge_codes) (by decide +kernel)) (fun _ _ _ _ _ => (pg_tup rfl (pgs_cons (pg_name (i := 3) sc_judge_codes.nd rfl (Or.inl rfl)) (pgs_cons (pg_name (i := 4) sc_judge_codes.nd rfl (Or.inl rfl)) (pgs_cons (pg_name (i := 4) sc_judge_codes.nd rfl (Or.inl rfl)) pgs_nil))))) (fun _ _ _ _ _ => pts_nil) (fun _ _ _ _ _ => (pv 3))) pa_nil)))) (pss_one (ps_ret pe_bl)) pss_nil)
      (pss_one (ps_ret (pe_callB (cr_all rfl) (by rfl) T.n_all (by decide +kernel) (pa_cons (pe_lc (own := [("entry", 2)]) (g := (gName 2)) (tt := tYes) rfl sc_judge_codes.nd (pi_tup (pv 1)) (blkOk_by (N := ["graph", "paper", "entry", "reg", "_"]) (sc := defScope s_judge_codes) (by decide +kernel)) (fun _ _ _ _ _ => (pg_name (i := 2) sc_judge_codes.nd rfl (Or.inl rfl))) (fun _ _ _ _ _ => pts_nil) (fun _ _ _ _ _ => (pe_dn D_judge_entry (hr.mono (by omega)) (by rfl) (pa_cons (pv 0) (pa_cons (pv 2) pa_nil))))) pa_nil))))), ?_⟩
  obtain ⟨pp, vs, rfl, epp, lp⟩ := hp.tup_inv
  have lvs : vs.length = p.length := by rw [lp.len, List.length_map]
  have entAt : ∀ i x, i < p.length → vs[i]? = some x → ∃ e, p[i]? = some e ∧ Lay H x e.D := fun i x hi hx => by
    obtain ⟨d, ed, ld⟩ := lp.get i hx
    rw [List.getElem?_map, List.getElem?_eq_getElem hi] at ed
    obtain rfl := Option.some.inj ed
    exact ⟨p[i], List.getElem?_eq_getElem hi, ld⟩
  refine ⟨_, rfl, pp, rfl, ⟨_, SqT.of epp⟩, fun D hD => ?_⟩
  refine lc_it (walk_tup (xs := vs)) (fun i H' => Same H H' ∧ H' D = some (.lst (((p.map Ent.reg).take i).map V.int))) ⟨same_new hD _, upd_same⟩ (fun i H' _ p => SqT.of (p.1 _ _ epp)) (fun i x H2 H3 hi pp y => ?_) (fun H1 pp => ?_)
  · obtain ⟨sm, eD⟩ := pp
    obtain ⟨rfl, hx⟩ := y
    obtain ⟨e, he, le⟩ := entAt i x (by omega) hx
    obtain ⟨pe, pc, vc, rfl, epe, epc, lc⟩ := le.ent
    have hb : (p.map Ent.reg)[i]? = some e.reg := by rw [List.getElem?_map, he]; rfl
    refine ⟨pe, _, rfl, SqT.of (sm _ _ epe), rfl, _, _, rfl, _, _, rfl, _, _, rfl, rfl, rfl, _, rfl, ?_⟩
    refine ⟨_, eD, ?_, same_two sm hD, ?_⟩
    · rw [List.length_map, List.length_take]
      exact len1000 (by rw [List.length_map]; omega)
    · rw [upd_same, take_snoc hb, List.map_append]
      rfl
  obtain ⟨s1, eD⟩ := pp
  rw [lvs, show p.length = (p.map Ent.reg).length by rw [List.length_map], List.take_length] at eD
  refine ⟨D, p.map Ent.reg, rfl, eD, by rw [List.length_map]; omega, fun b1 H2 s2 hb1 => ⟨b1, rfl, ?_⟩⟩
  have s02 := s1.trans s2
  cases b1 with
  | false => exact ite2 (fun _ => q false _ s02 ⟨fun y => Bool.noConfusion y, fun h => hb1.mpr h.1⟩) (fun y => absurd rfl y)
  | true =>
  refine ite2 (fun y => Bool.noConfusion y) (fun _ => ?_)
  have a1 := hb1.mp rfl
  refine ⟨_, rfl, pp, rfl, ⟨_, SqT.of (s02 _ _ epp)⟩, fun D2 hD2 => ?_⟩
  refine lc_it (walk_tup (xs := vs)) (fun i H' => Same H2 H' ∧ ∃ bs : List Bool, H' D2 = some (.lst (bs.map V.bl)) ∧ bs.length = i ∧ ∀ (k : Nat) (e : Ent) (b : Bool), bs[k]? = some b → p[k]? = some e → (b = true ↔ EntOk G.ns G.rs e)) ⟨same_new hD2 _, [], upd_same, rfl, fun k e b h => by simp at h⟩ (fun i H' _ p => SqT.of (p.1 _ _ (s02 _ _ epp))) (fun i x H3 H4 hi pp y => ?_) (fun H3 pp => ?_)
  · obtain ⟨sm, bs, eD2, lb, hbs⟩ := pp
    obtain ⟨rfl, hx⟩ := y
    obtain ⟨e, he, le⟩ := entAt i x (by omega) hx
    have s04 := s02.trans sm
    refine ⟨rfl, _, rfl, _, rfl, v, x, G, e, rfl, hG.same s04, ok, h900, le.keep' (.same s04), h300 e (List.mem_of_getElem? he), fun b H5 s5 hb => ?_⟩
    refine ⟨_, s5 _ _ eD2, ?_, same_two (sm.trans s5) hD2, bs ++ [b], ?_, by rw [List.length_append, lb]; rfl, fun k e' b' h1 h2 => ?_⟩
    · rw [List.length_map]
      exact len1000 (by omega)
    · rw [upd_same, List.map_append]
      rfl
    · by_cases hk : k < bs.length
      · rw [List.getElem?_append_left hk] at h1
        exact hbs k e' b' h1 h2
      · have hk2 := (List.getElem?_eq_some_iff.mp h1).1
        rw [List.length_append] at hk2
        have hk3 : k < bs.length + 1 := hk2
        have ek : k = i := by omega
        subst ek
        rw [← lb, List.getElem?_append_right (Nat.le_refl _), Nat.sub_self] at h1
        cases h1
        rw [he] at h2
        cases h2
        exact hb
  · obtain ⟨sm, bs, eD2, lb, hbs⟩ := pp
    refine ⟨D2, bs, rfl, SqL.of eD2, q _ _ (s02.trans sm) ?_⟩
    rw [List.all_eq_true]
    constructor
    · intro h
      refine ⟨a1, fun e he => ?_⟩
      obtain ⟨k, hk, rfl⟩ := List.mem_iff_getElem.mp he
      have hk2 : k < bs.length := by omega
      exact (hbs k _ bs[k] (List.getElem?_eq_getElem hk2) (List.getElem?_eq_getElem hk)).mp (h _ (List.getElem_mem hk2))
    · rintro ⟨_, h⟩ b hb
      obtain ⟨k, hk, rfl⟩ := List.mem_iff_getElem.mp hb
      have hk2 : k < p.length := by omega
      exact (hbs k _ _ (List.getElem?_eq_getElem hk) (List.getElem?_eq_getElem hk2)).mpr (h _ (List.getElem_mem hk2))
end
end Bf

set_option Elab.async false
set_option linter.all false
set_option maxRecDepth 100000
set_option maxHeartbeats 4000000
namespace Bf
open PySem PySem.Spec PyProof.Rows L2
/-! ### the law's judge -/
def spStays : Sp := fun vs H Q _ => ∃ (v : V) (G : Gr) (j : Nat) (r : Str × Nat × Nat × Nat) (a : Addr) (zs : List Int), vs = [v, vI j, .ref a] ∧ GrW H v G ∧ G.Ok ∧ G.rs[j]? = some r ∧ G.ns.length ≤ 900 ∧ H a = some (.lst (zs.map V.int)) ∧
  ∀ (b : Bool) (H' : Hp), Same H H' → (b = true ↔ Sty G.ns zs j r.2.2.2) → Q (.bl b) H'
section
variable {P : Program} {w : World} {K : PySem.W.Frag} {mg : Str → Option Value} {base : Heap} {f : Addr} {fd : FuncData}
theorem ok_stays (F : Fun K "_law_stays" "_law_stays" s_law_stays f fd) (T : Txt mg) : FnOk P w K mg base CX0 1 f fd ["_law_graph_here", "_law_reg", "_law_olds_here"] spStays := by
  refine F.ok sc_law_stays (fun vs H Q E h => ?_) (fun cdv A outer s H vs Q E hr h => ?_)
  · obtain ⟨v, G, j, r, a, zs, rfl, _⟩ := h
    rfl
  obtain ⟨v, G, j, r, az, zs, rfl, hG, ok, hr, h900, ez, q⟩ := h
  refine ⟨_, (pss_cons (ps_set (i := 3) sc_law_stays.nd rfl (Or.inl rfl) (pe_lst pa_nil))
      (pss_cons (ps_for PassesOwn.never rfl (pi_tup (pe_ix ix_tup (pv 0) pe_int (fun _ _ => rfl))) (pg_name (i := 4) sc_law_stays.nd rfl (Or.inl rfl)) (pss_one (ps_if (pt_cmpR op_eq (pe_ix ix_tup (pv 4) pe_int (fun _ _ => rfl)) pe_str (nomark _)) (pss_one (ps_expr (pe_bm PySem.F.plainAttrs_list PySem.F.slot_list_append PySem.F.type_list_append mt_append (pv 3) (pa_cons (pe_and (pe_ix ix_list (pv 3) (pe_ix ix_tup (pv 4) pe_int (fun _ _ => rfl)) (fun _ _ => rfl)) (pe_one (pe_ix ix_list (pv 3) (pe_ix ix_tup (pv 4) pe_int (fun _ _ => rfl)) (fun _ _ => rfl)))) pa_nil)))) (pss_one (ps_if (pt_cmpR op_eq (pe_ix ix_tup (pv 4) pe_int (fun _ _ => rfl)) pe_str (nomark _)) (pss_one (ps_expr (pe_bm PySem.F.plainAttrs_list PySem.F.slot_list_append PySem.F.type_list_append mt_append (pv 3) (pa_cons (pe_cmpR op_in_seq (pe_ix ix_tup (pv 4) pe_int (fun _ _ => rfl)) (pv 2) (by rfl)) pa_nil)))) (pss_one (ps_expr (pe_bm PySem.F.plainAttrs_list PySem.F.slot_list_append PySem.F.type_list_append mt_append (pv 3) (pa_cons (pe_and (pe_cmpR op_eq (pe_ix ix_tup (pv 4) pe_int (fun _ _ => rfl)) pe_str (nomark _)) (pe_one (pe_cmpR op_eq (pe_ix ix_tup (pv 4) pe_int (fun _ _ => rfl)) (pv 1) (nomark _)))) pa_nil)))))))))
      (pss_one (ps_ret (pe_ix ix_list (pv 3) (pe_ix ix_tup (pe_ix ix_tup (pe_ix ix_tup (pv 0) pe_int (fun _ _ => rfl)) (pv 1) (fun _ _ => rfl)) pe_int (fun _ _ => rfl)) (fun _ _ => rfl)))))), ?_⟩
  obtain ⟨p, pi, pn, pr, po, v4, v6, xi, vn, vr, xo, rfl, at_⟩ := hG
  have lvn : vn.length = G.ns.length := by rw [at_.ln.len, List.length_map]
  have hj2 := (List.getElem?_eq_some_iff.mp hr).1
  obtain ⟨r0, qr, hr0, hvr, hqr⟩ := regAt at_.lr hj2
  obtain rfl : r0 = r := Option.some.inj (hr0.symm.trans hr)
  obtain ⟨w1, w8, ha, hwr, hst, hwa⟩ := ok.regs _ (List.mem_of_getElem? hr)
  refine ⟨Nat.zero_le _, fun L hL => ?_⟩
  have sL := same_new hL (.lst [])
  refine ⟨_, rfl, p, _, _, .ref pn, rfl, rfl, SqT.of (sL _ _ at_.top), atI_nat (j := 2) rfl, pn, rfl, ⟨_, SqT.of (sL _ _ at_.hn)⟩, ?_⟩
  have put : ∀ (i : Nat) (Hx : Hp) (bs : List Bool) (b : Bool), Same H Hx → Hx L = some (.lst (bs.map V.bl)) → bs.length = i → (∀ (k : Nat) (b : Bool), bs[k]? = some b → (b = true ↔ Sty G.ns zs j k)) → (b = true ↔ Sty G.ns zs j i) →
      ∃ bs' : List Bool, Same H (upd Hx L (.lst (bs.map V.bl ++ [V.bl b]))) ∧ upd Hx L (.lst (bs.map V.bl ++ [V.bl b])) L = some (.lst (bs'.map V.bl)) ∧ bs'.length = i + 1 ∧ ∀ (k : Nat) (b : Bool), bs'[k]? = some b → (b = true ↔ Sty G.ns zs j k) := fun i Hx bs b s eL lb hb h => by
    refine ⟨bs ++ [b], same_put s hL, by rw [upd_same, List.map_append]; rfl, by rw [List.length_append, lb]; rfl, fun k b' h1 => ?_⟩
    by_cases hk : k < bs.length
    · rw [List.getElem?_append_left hk] at h1
      exact hb k b' h1
    · have hk2 := (List.getElem?_eq_some_iff.mp h1).1
      rw [List.length_append] at hk2
      have hk3 : k < bs.length + 1 := hk2
      have ek : k = i := by omega
      subst ek
      rw [← lb, List.getElem?_append_right (Nat.le_refl _), Nat.sub_self] at h1
      cases h1
      exact h
  refine for_it (walk_tup (xs := vn)) (fun i σ' H' => ∃ (v4 : Option V) (bs : List Bool), σ' = [some (.ref p), some (vI j), some (.ref az), some (.ref L), v4] ∧ Same H H' ∧ H' L = some (.lst (bs.map V.bl)) ∧ bs.length = i ∧ ∀ (k : Nat) (b : Bool), bs[k]? = some b → (b = true ↔ Sty G.ns zs j k))
    ⟨_, [], rfl, sL, upd_same, rfl, fun k b h => by simp at h⟩ (fun i σ' H' _ pp => ?_) (fun i x σ' H1 H2 hi pp y => ?_) (fun σ' H' pp => ?_)
  · obtain ⟨_, _, _, s, _⟩ := pp
    exact SqT.of (s _ _ at_.hn)
  · obtain ⟨v4, bs, rfl, s1, eL, lb, hbs⟩ := pp
    obtain ⟨rfl, hx⟩ := y
    obtain ⟨n, qn, hn, hv, hqn⟩ := nodeAt at_.ln (show i < G.ns.length by omega)
    obtain rfl : x = .ref qn := by rw [hx] at hv; exact Option.some.inj hv
    have eq2 := s1 _ _ hqn
    have lb9 : (bs.map V.bl).length < sizeLine := by rw [List.length_map]; exact small1000 (by omega)
    have nok := ok.good.ok i n hn
    refine ⟨_, rfl, qn, _, _, _, rfl, rfl, SqT.of eq2, atI_nat (j := 0) rfl, rfl, _, rfl, ite2 (fun z => ?_) (fun z => ?_)⟩
    · have z := V.str.inj (of_decide_eq_true z)
      obtain ⟨c, a, b, harg, wa, wb⟩ := nok.pick z
      have la := wa.lt
      have lb2 := wb.lt
      rw [List.length_take] at la lb2
      rw [harg] at eq2
      have hba : bs[a]? = some (bs[a]'(by omega)) := List.getElem?_eq_getElem _
      have hbb : bs[b]? = some (bs[b]'(by omega)) := List.getElem?_eq_getElem _
      have va : (bs.map V.bl)[a]? = some (V.bl (bs[a]'(by omega))) := by rw [List.getElem?_map, hba]; rfl
      have vb : (bs.map V.bl)[b]? = some (V.bl (bs[b]'(by omega))) := by rw [List.getElem?_map, hbb]; rfl
      have ia := hbs a _ hba
      have ib := hbs b _ hbb
      have sp := Sty.pick (zs := zs) (j := j) hn z harg sN.1.symm
      generalize bs[a]'(by omega) = ba at va ia
      generalize bs[b]'(by omega) = bb at vb ib
      refine ⟨_, rfl, .inl ⟨rfl, _, SqL.of eL⟩, _, rfl, _, rfl, qn, _, _, _, rfl, rfl, SqT.of eq2, atI_nat (j := 3) rfl, L, _, _, _, rfl, rfl, SqL.of eL, atI_nat va, ba, rfl, ?_⟩
      cases ba with
      | false =>
        refine iteF ?_
        obtain ⟨bs', h1, h2, h3, h4⟩ := put i H2 bs false s1 eL lb hbs ⟨fun y => Bool.noConfusion y, fun h => ia.mpr (sp.mp h).1⟩
        exact ⟨L, _, _, rfl, rfl, eL, lb9, _, bs', rfl, h1, h2, h3, h4⟩
      | true =>
        refine iteT ?_
        obtain ⟨bs', h1, h2, h3, h4⟩ := put i H2 bs bb s1 eL lb hbs ⟨fun y => sp.mpr ⟨ia.mp rfl, ib.mp y⟩, fun h => ib.mpr (sp.mp h).2⟩
        exact ⟨_, rfl, _, rfl, qn, _, _, _, rfl, rfl, SqT.of eq2, atI_nat (j := 4) rfl, L, _, _, _, rfl, rfl, SqL.of eL, atI_nat vb, L, _, _, rfl, rfl, eL, lb9, _, bs', rfl, h1, h2, h3, h4⟩
    have z : n.op ≠ "pick" := fun e => z (decide_eq_true (by rw [e]))
    refine ⟨_, rfl, qn, _, _, _, rfl, rfl, SqT.of eq2, atI_nat (j := 0) rfl, rfl, _, rfl, ite2 (fun z2 => ?_) (fun z2 => ?_)⟩
    · have z2 := V.str.inj (of_decide_eq_true z2)
      obtain ⟨v, harg, _⟩ := nok.const z2
      rw [harg] at eq2
      have sp := Sty.leaf (zs := zs) (j := j) hn z
      obtain ⟨bs', h1, h2, h3, h4⟩ := put i H2 bs (inV (vI v) (zs.map V.int)) s1 eL lb hbs (by
        show inV (V.int (v : Int)) (zs.map V.int) = true ↔ _
        rw [inVI, decide_eq_true_eq, sp]
        refine ⟨fun h => ⟨fun _ => ⟨v, harg, h⟩, fun h => absurd z2 h⟩, fun h => ?_⟩
        obtain ⟨v2, e1, e2⟩ := h.1 z2
        rw [harg] at e1
        cases e1
        exact e2)
      exact ⟨_, rfl, .inl ⟨rfl, _, SqL.of eL⟩, _, rfl, qn, _, _, _, rfl, rfl, SqT.of eq2, atI_nat (j := 2) rfl, _, rfl, az, _, rfl, .inl (SqL.of (s1 _ _ ez)), rfl, flatI _, L, _, _, rfl, rfl, eL, lb9, _, bs', rfl, h1, h2, h3, h4⟩
    have z2 : n.op ≠ "const" := fun e => z2 (decide_eq_true (by rw [e]))
    have sp := Sty.leaf (zs := zs) (j := j) hn z
    refine ⟨_, rfl, .inl ⟨rfl, _, SqL.of eL⟩, _, rfl, qn, _, _, _, rfl, rfl, SqT.of eq2, atI_nat (j := 0) rfl, rfl, _, rfl, ?_⟩
    by_cases z3 : n.op = "reg"
    · obtain ⟨k, harg, _⟩ := ok.good.rg n (List.mem_of_getElem? hn) z3
      rw [harg] at eq2
      rw [show decide (V.str n.op = V.str "reg") = true from decide_eq_true (by rw [z3])]
      refine iteT ?_
      obtain ⟨bs', h1, h2, h3, h4⟩ := put i H2 bs (decide (vI k = vI j)) s1 eL lb hbs (by
        rw [decide_eq_true_eq, sp]
        refine ⟨fun h => ⟨fun h => absurd h z2, fun _ => ⟨z3, ?_⟩⟩, fun h => ?_⟩
        · have : k = j := by have := V.int.inj h; omega
          rw [harg, this]
        · have e1 := (h.2 z2).2
          rw [harg] at e1
          cases e1
          rfl)
      exact ⟨_, rfl, qn, _, _, _, rfl, rfl, SqT.of eq2, atI_nat (j := 2) rfl, _, rfl, rfl, L, _, _, rfl, rfl, eL, lb9, _, bs', rfl, h1, h2, h3, h4⟩
    · rw [show decide (V.str n.op = V.str "reg") = false from decide_eq_false fun e => z3 (V.str.inj e)]
      refine iteF ?_
      obtain ⟨bs', h1, h2, h3, h4⟩ := put i H2 bs false s1 eL lb hbs ⟨fun y => Bool.noConfusion y, fun h => absurd ((sp.mp h).2 z2).1 z3⟩
      exact ⟨L, _, _, rfl, rfl, eL, lb9, _, bs', rfl, h1, h2, h3, h4⟩
  · obtain ⟨v4, bs, rfl, s1, eL, lb, hbs⟩ := pp
    have hk : r0.2.2.2 < bs.length := by omega
    have hb : bs[r0.2.2.2]? = some bs[r0.2.2.2] := List.getElem?_eq_getElem hk
    have vb : (bs.map V.bl)[r0.2.2.2]? = some (V.bl bs[r0.2.2.2]) := by rw [List.getElem?_map, hb]; rfl
    exact ⟨_, rfl, _, rfl, p, _, _, .ref pr, rfl, rfl, SqT.of (s1 _ _ at_.top), atI_nat (j := 3) rfl, _, rfl, pr, vr, _, .ref qr, rfl, rfl, SqT.of (s1 _ _ at_.hr), atI_nat hvr, qr, _, _, _, rfl, rfl, SqT.of (s1 _ _ hqr), atI_nat (j := 3) rfl, L, _, _, _, rfl, rfl, SqL.of eL, atI_nat vb, q _ _ s1 (hbs _ _ hb)⟩
end
end Bf

set_option Elab.async false
set_option linter.all false
set_option maxRecDepth 100000
set_option maxHeartbeats 4000000
namespace Bf
open PySem PySem.Spec PyProof.Rows L2
/-- entries looked at one after the other -/
structure TkI (ns : List Nd) (rs : Rgs) (p : List Ent) (i : Nat) (ah : Int) : Prop where
  asc : Asc ((p.take i).map Ent.reg)
  ok : ∀ e ∈ p.take i, EntOk ns rs e ∧ e.reg ≤ ah
  at_ : ah = -1 ∨ ∃ e ∈ p.take i, e.reg = ah
  lo : -1 ≤ ah
theorem TkI.start (ns : List Nd) (rs : Rgs) (p : List Ent) : TkI ns rs p 0 (-1) := ⟨(by rw [List.take_zero]; exact .nil), fun e h => (by rw [List.take_zero] at h; cases h), .inl rfl, by decide⟩
theorem EntOk.nn {ns : List Nd} {rs : Rgs} {e : Ent} (h : EntOk ns rs e) : 0 ≤ e.reg := by
  obtain ⟨j, _, h, _⟩ := h
  omega
theorem take_snocE {α : Type} {p : List α} {i : Nat} {e : α} (h : p[i]? = some e) : p.take (i + 1) = p.take i ++ [e] := by
  rw [List.take_add_one, h]
  rfl
theorem TkI.step {ns : List Nd} {rs : Rgs} {p : List Ent} {i : Nat} {ah : Int} {e : Ent} (t : TkI ns rs p i ah) (h : p[i]? = some e) (ok : EntOk ns rs e) (lt : ah < e.reg) : TkI ns rs p (i + 1) e.reg := by
  refine ⟨?_, fun x hx => ?_, .inr ⟨e, by rw [take_snocE h]; simp, rfl⟩, by have := ok.nn; omega⟩
  · rw [take_snocE h, List.map_append]
    refine List.pairwise_append.mpr ⟨t.asc, List.pairwise_singleton _ _, fun a ha b hb => ?_⟩
    obtain ⟨x, hx, rfl⟩ := List.mem_map.mp ha
    rw [List.mem_singleton.mp hb]
    have := (t.ok x hx).2
    omega
  · rw [take_snocE h] at hx
    rcases List.mem_append.mp hx with hx | hx
    · have := t.ok x hx
      exact ⟨this.1, by omega⟩
    · rw [List.mem_singleton.mp hx]
      exact ⟨ok, Int.le_refl _⟩
theorem TkI.lt {ns : List Nd} {rs : Rgs} {p : List Ent} {i : Nat} {ah : Int} {e : Ent} (t : TkI ns rs p i ah) (h : p[i]? = some e) (ok : PapOk ns rs p) : ah < e.reg := by
  have he := ok.2 e (List.mem_of_getElem? h)
  rcases t.at_ with rfl | ⟨x, hx, rfl⟩
  · have := he.nn
    omega
  · have a := ok.1
    rw [← List.take_append_drop i p, List.map_append] at a
    have := (List.pairwise_append.mp a).2.2 x.reg (List.mem_map.mpr ⟨x, hx, rfl⟩) e.reg (List.mem_map.mpr ⟨e, by
      refine List.mem_of_getElem? (i := 0) ?_
      rw [List.getElem?_drop]
      exact h, rfl⟩)
    exact this
theorem TkI.done {ns : List Nd} {rs : Rgs} {p : List Ent} {ah : Int} (t : TkI ns rs p p.length ah) : PapOk ns rs p := by
  have a := t.asc
  have o := t.ok
  rw [List.take_length] at a o
  exact ⟨a, fun e he => (o e he).1⟩
end Bf

set_option Elab.async false
set_option linter.all false
set_option maxRecDepth 100000
set_option maxHeartbeats 4000000
namespace Bf
open PySem PySem.Spec PyProof.Rows L2
theorem asc_sameI {xs ys : List Int} (hx : Asc xs) (hy : Asc ys) (h : ∀ v, v ∈ xs ↔ v ∈ ys) : xs = ys := by
  have nx : xs.Nodup := hx.imp fun h => Int.ne_of_lt h
  have ny : ys.Nodup := hy.imp fun h => Int.ne_of_lt h
  exact ((List.perm_ext_iff_of_nodup nx ny).mpr h).eq_of_pairwise (fun a b _ _ h1 h2 => absurd h1 (Int.not_lt.mpr (Int.le_of_lt h2))) hx hy
section
variable {P : Program} {w : World} {K : PySem.W.Frag} {mg : Str → Option Value} {base : Heap} {f : Addr} {fd : FuncData}
theorem ok_takes (F : Fun K "_law_takes" "_law_takes" s_law_takes f fd) (T : Txt mg) (D_law_stays : Dn P w K mg base "_law_stays" ["_law_graph_here", "_law_reg", "_law_olds_here"] 1 spStays) : FnOk P w K mg base CX0 2 f fd ["_law_graph_here", "_law_paper"] spJudgeC := by
  refine F.ok sc_law_takes (fun vs H Q E h => ?_) (fun cdv A outer s H vs Q E hr h => ?_)
  · obtain ⟨v, ve, G, e, rfl, _⟩ := h
    rfl
  obtain ⟨v, vp, G, p, rfl, hG, ok, h900, hp, h50, h300, q⟩ := h
  refine ⟨_, (pss_cons (ps_set (i := 2) sc_law_takes.nd rfl (Or.inl rfl) (pe_un un_neg pe_int))
      (pss_cons (ps_for PassesOwn.never rfl (pi_tup (pv 1)) (pg_tup rfl (pgs_cons (pg_name (i := 3) sc_law_takes.nd rfl (Or.inl rfl)) (pgs_cons (pg_name (i := 4) sc_law_takes.nd rfl (Or.inr rfl)) (pgs_cons (pg_name (i := 5) sc_law_takes.nd rfl (Or.inl rfl)) pgs_nil)))) (pss_cons (ps_if (PW.pt (pw_or (pt_not (pt_chain op_lt op_lt (pv 2) (pv 3) (pe_callB call_len_seq (by rfl) T.n_len (by decide +kernel) (pa_cons (pe_ix ix_tup (pv 0) pe_int (fun _ _ => rfl)) pa_nil)))) (pw_or1 (pt_not (pt_chain op_le op_le pe_int (pv 4) pe_int))))) (pss_one (ps_ret pe_bl)) pss_nil)
      (pss_cons (ps_set (i := 2) sc_law_takes.nd rfl (Or.inl rfl) (pv 3))
      (pss_cons (ps_setLc (i := 6) (own := [("_law_code", 9)]) (g := (gName 9)) (tt := tYes) rfl sc_law_takes.nd rfl rfl (sw_true rfl rfl rfl (by decide +kernel)) (pi_tup (pv 5)) (blkOk_by (N := ["_law_graph_here", "_law_paper", "_law_ahead", "_law_reg", "_law_width", "_law_codes_here", "_law_olds_here", "_law_news", "_law_room", "_law_code", "_law_old", "_law_new"]) (sc := defScope s_law_takes) (by decide +kernel)) (fun _ _ _ _ _ => (pg_name (i := 9) sc_law_takes.nd rfl (Or.inl rfl))) (fun _ _ _ _ _ => pts_nil) (fun _ _ _ _ _ => (pe_ix (ix_tup : IxR _ (rIxT K)) (pv 9) pe_int (fun _ _ => rfl))))
      (pss_cons (ps_setLc (i := 7) (own := [("_law_code", 9)]) (g := (gName 9)) (tt := tYes) rfl sc_law_takes.nd rfl rfl (sw_true rfl rfl rfl (by decide +kernel)) (pi_tup (pv 5)) (blkOk_by (N := ["_law_graph_here", "_law_paper", "_law_ahead", "_law_reg", "_law_width", "_law_codes_here", "_law_olds_here", "_law_news", "_law_room", "_law_code", "_law_old", "_law_new"]) (sc := defScope s_law_takes) (by decide +kernel)) (fun _ _ _ _ _ => (pg_name (i := 9) sc_law_takes.nd rfl (Or.inl rfl))) (fun _ _ _ _ _ => pts_nil) (fun _ _ _ _ _ => (pe_ix (ix_tup : IxR _ (rIxT K)) (pv 9) pe_int (fun _ _ => rfl))))
      (pss_cons (ps_if (PW.pt (pw_or (pt_cmpR (op_neD hr.units) (pv 6) (pe_callB (cr_sortedSet rfl) (by rfl) T.n_sorted (by decide +kernel) (pa_cons (pe_callTy (cr_setI rfl) (by rfl) T.n_set (by decide +kernel) (pa_cons (pv 6) pa_nil)) pa_nil)) (nomark _)) (pw_or1 (pt_cmpR op_ne (pe_callB (cr_lenSetO rfl) (by rfl) T.n_len (by decide +kernel) (pa_cons (pe_callTy (cr_setI rfl) (by rfl) T.n_set (by decide +kernel) (pa_cons (pv 7) pa_nil)) pa_nil)) (pe_callB call_len_seq (by rfl) T.n_len (by decide +kernel) (pa_cons (pv 7) pa_nil)) (nomark _))))) (pss_one (ps_ret pe_bl)) pss_nil)
      (pss_cons (ps_set (i := 8) sc_law_takes.nd rfl (Or.inr rfl) (pe_op op_oneShl pe_int (pe_ix ix_tup (pe_ix ix_tup (pe_ix ix_tup (pv 0) pe_int (fun _ _ => rfl)) (pv 3) (fun _ _ => rfl)) pe_int (fun _ _ => rfl))))
      (pss_cons (ps_if (PW.pt (pw_or (pt_not (pt_val (pe_callB (cr_all rfl) (by rfl) T.n_all (by decide +kernel) (pa_cons (pe_lc (own := [("_law_old", 10)]) (g := (gName 10)) (tt := tYes) rfl sc_law_takes.nd (pi_list (pv 6)) (blkOk_by (N := ["_law_graph_here", "_law_paper", "_law_ahead", "_law_reg", "_law_width", "_law_codes_here", "_law_olds_here", "_law_news", "_law_room", "_law_code", "_law_old", "_law_new"]) (sc := defScope s_law_takes) (by decide +kernel)) (fun _ _ _ _ _ => (pg_name (i := 10) sc_law_takes.nd rfl (Or.inl rfl))) (fun _ _ _ _ _ => pts_nil) (fun _ _ _ _ _ => (pe_chain op_le op_lt pe_int (pv 10) (pv 8)))) pa_nil)))) (pw_or1 (pt_not (pt_val (pe_callB (cr_all rfl) (by rfl) T.n_all (by decide +kernel) (pa_cons (pe_lc (own := [("_law_new", 11)]) (g := (gName 11)) (tt := tYes) rfl sc_law_takes.nd (pi_list (pv 7)) (blkOk_by (N := ["_law_graph_here", "_law_paper", "_law_ahead", "_law_reg", "_law_width", "_law_codes_here", "_law_olds_here", "_law_news", "_law_room", "_law_code", "_law_old", "_law_new"]) (sc := defScope s_law_takes) (by decide +kernel)) (fun _ _ _ _ _ => (pg_name (i := 11) sc_law_takes.nd rfl (Or.inl rfl))) (fun _ _ _ _ _ => pts_nil) (fun _ _ _ _ _ => (pe_chain op_le op_lt pe_int (pv 11) (pe_op op_oneShl pe_int (pv 4))))) pa_nil))))))) (pss_one (ps_ret pe_bl)) pss_nil)
      (pss_one (ps_if (PW.pt (pw_or (pt_cmpR op_notIn_seq (pe_ix ix_tup (pe_ix ix_tup (pe_ix ix_tup (pv 0) pe_int (fun _ _ => rfl)) (pv 3) (fun _ _ => rfl)) pe_int (fun _ _ => rfl)) (pv 6) (by rfl)) (pw_or1 (pt_not (pt_val (pe_dn D_law_stays (hr.mono (by omega)) (by rfl) (pa_cons (pv 0) (pa_cons (pv 3) (pa_cons (pv 6) pa_nil))))))))) (pss_one (ps_ret pe_bl)) pss_nil))))))))))
      (pss_one (ps_ret pe_bl)))), ?_⟩
  obtain ⟨pp, vs, rfl, epp, lp⟩ := hp.tup_inv
  have lvs : vs.length = p.length := by rw [lp.len, List.length_map]
  have entAt : ∀ i x, i < p.length → vs[i]? = some x → ∃ e, p[i]? = some e ∧ Lay H x e.D := fun i x hi hx => by
    obtain ⟨d, ed, ld⟩ := lp.get i hx
    rw [List.getElem?_map, List.getElem?_eq_getElem hi] at ed
    obtain rfl := Option.some.inj ed
    exact ⟨p[i], List.getElem?_eq_getElem hi, ld⟩
  have hG0 := hG
  obtain ⟨pg, pi, pn, pr, po, v4, v6, xi, vn, vr, xo, rfl, at_⟩ := hG
  have lvr : vr.length = G.rs.length := by rw [at_.lr.len, List.length_map]
  refine ⟨_, rfl, ?_⟩
  refine ⟨_, rfl, pp, rfl, ⟨_, SqT.of epp⟩, ?_⟩
  refine for_it (walk_tup (xs := vs)) (fun i σ' H' => ∃ (ah : Int) (v3 v4 v5 v6 v7 v8 v9 v10 v11 : Option V), σ' = [some (.ref pg), some (.ref pp), some (.int ah), v3, v4, v5, v6, v7, v8, v9, v10, v11] ∧ Same H H' ∧ TkI G.ns G.rs p i ah)
    ⟨_, _, _, _, _, _, _, _, _, _, rfl, .refl _, TkI.start _ _ _⟩ (fun i σ' H' _ pp => ?_) (fun i x σ' H1 H2 hi pp y => ?_) (fun σ' H' pp => ?_)
  · obtain ⟨_, _, _, _, _, _, _, _, _, _, _, s, _⟩ := pp
    exact SqT.of (s _ _ epp)
  · obtain ⟨ah, v3, v4, v5, v6, v7, v8, v9, v10, v11, rfl, s1, tk⟩ := pp
    obtain ⟨rfl, hx⟩ := y
    obtain ⟨e, he, le⟩ := entAt i x (by omega) hx
    obtain ⟨pe, pc, vc, rfl, epe, epc, lc⟩ := le.ent
    refine ⟨pe, _, rfl, SqT.of (s1 _ _ epe), rfl, _, _, rfl, _, _, rfl, _, _, rfl, rfl, ?_⟩
    have mem := List.mem_of_getElem? he
    have no : ∀ H' : Hp, Same H H' → ¬ EntOk G.ns G.rs e → Q (.bl false) H' := fun H' s n => q false _ s ⟨fun y => Bool.noConfusion y, fun h => absurd (h.2 e mem) n⟩
    refine ⟨_, rfl, _, rfl, _, _, rfl, rfl, _, rfl, ite2 (fun z => ?_) (fun z => ⟨_, rfl, iteT (q false _ s1 ⟨fun y => Bool.noConfusion y, fun h => absurd (decide_eq_true (tk.lt he h)) z⟩)⟩)⟩
    have z := of_decide_eq_true z
    refine ⟨_, rfl, pg, _, _, .ref pr, rfl, rfl, SqT.of (s1 _ _ at_.top), atI_nat (j := 3) rfl, pr, vr, rfl, .inr (SqT.of (s1 _ _ at_.hr)), _, _, rfl, rfl, ?_⟩
    refine ⟨_, rfl, ite2 (fun z2 => iteT (no _ s1 fun ⟨j, r, h1, h2, _⟩ => ?_)) (fun z2 => ?_)⟩
    · have h3 := (List.getElem?_eq_some_iff.mp h2).1
      have : decide (e.reg < (vr.length : Int)) = true := decide_eq_true (by omega)
      rw [this] at z2
      exact Bool.noConfusion z2
    have z2 : e.reg < (vr.length : Int) := by
      by_cases y : e.reg < (vr.length : Int)
      · exact y
      · exact absurd (by rw [decide_eq_false y]; rfl) z2
    refine ⟨_, rfl, _, _, rfl, rfl, _, rfl, ite2 (fun z3 => ?_) (fun z3 => ⟨_, rfl, iteT (no _ s1 fun ⟨j, r, _, _, h1, h2, _⟩ => absurd (decide_eq_true h1) z3)⟩)⟩
    have z3 := of_decide_eq_true z3
    refine ⟨_, _, rfl, rfl, _, rfl, ite2 (fun z4 => no _ s1 fun ⟨j, r, _, _, h1, h2, _⟩ => ?_) (fun z4 => ?_)⟩
    · have : decide (e.wid ≤ 8) = true := decide_eq_true h2
      rw [this] at z4
      exact Bool.noConfusion z4
    have z4 : e.wid ≤ 8 := by
      by_cases y : e.wid ≤ 8
      · exact y
      · exact absurd (by rw [decide_eq_false y]; rfl) z4
    have r0 : 0 ≤ e.reg := by have := tk.lo; omega
    obtain ⟨j, hj⟩ := Int.eq_ofNat_of_zero_le r0
    obtain ⟨r, qr, hr, hvr, hqr⟩ := regAt at_.lr (show j < G.rs.length by omega)
    obtain ⟨w1, w8, ha, hwr, hst, hwa⟩ := ok.regs r (List.mem_of_getElem? hr)
    have ent : EntOk G.ns G.rs e ↔ (Asc e.olds ∧ InW e.olds r.2.1 ∧ e.news.Nodup ∧ InW e.news e.wid.toNat ∧ (r.2.2.1 : Int) ∈ e.olds ∧ Sty G.ns e.olds j r.2.2.2) := by
      constructor
      · rintro ⟨j', r', h1, h2, _, _, h⟩
        have ej : j' = j := by omega
        subst ej
        obtain rfl : r' = r := Option.some.inj (h2.symm.trans hr)
        exact h
      · intro h
        exact ⟨j, r, hj, hr, z3, z4, h⟩
    have lvc : vc.length = e.codes.length := by rw [lc.len, List.length_map]
    have h60 := h300 e mem
    have lo : e.olds.length = e.codes.length := by unfold Ent.olds; rw [List.length_map]
    have ln : e.news.length = e.codes.length := by unfold Ent.news; rw [List.length_map]
    have codeG : ∀ (k : Nat) (x : V), k < vc.length → vc[k]? = some x → ∃ (c : Code) (q : Addr), e.codes[k]? = some c ∧ x = .ref q ∧ H q = some (.tup [.int c.1, .int c.2]) := fun k x hk hx => by
      obtain ⟨c, qc, hc, hv, hqc⟩ := codeAt lc (show k < e.codes.length by omega)
      exact ⟨c, qc, hc, by rw [hx] at hv; exact Option.some.inj hv, hqc⟩
    refine ⟨_, rfl, ?_⟩
    refine ⟨_, rfl, pc, rfl, ⟨_, SqT.of (s1 _ _ epc)⟩, fun D hD => ?_⟩
    refine lc_it (walk_tup (xs := vc)) (fun i H' => Same H2 H' ∧ H' D = some (.lst ((e.olds.take i).map V.int))) ⟨same_new hD _, upd_same⟩ (fun i H' _ p => SqT.of (p.1 _ _ (s1 _ _ epc))) (fun k x H3 H4 hk pp y => ?_) (fun H3 pp => ?_)
    · obtain ⟨sm, eD⟩ := pp
      obtain ⟨rfl, hx⟩ := y
      obtain ⟨c, qc, hc, rfl, hqc⟩ := codeG k x hk hx
      have hb : e.olds[k]? = some c.1 := by unfold Ent.olds; rw [List.getElem?_map, hc]; rfl
      refine ⟨rfl, _, rfl, qc, _, _, _, rfl, rfl, SqT.of (sm _ _ (s1 _ _ hqc)), atI_nat (j := 0) rfl, ?_⟩
      refine ⟨_, eD, ?_, same_two sm hD, ?_⟩
      · rw [List.length_map, List.length_take]
        exact len1000 (by omega)
      · rw [upd_same, take_snoc hb, List.map_append]
        rfl
    obtain ⟨s2, eD⟩ := pp
    rw [lvc, ← lo, List.take_length] at eD
    have s02 := s1.trans s2
    refine ⟨_, rfl, pc, rfl, ⟨_, SqT.of (s02 _ _ epc)⟩, fun D2 hD2 => ?_⟩
    refine lc_it (walk_tup (xs := vc)) (fun i H' => Same H3 H' ∧ H' D2 = some (.lst ((e.news.take i).map V.int))) ⟨same_new hD2 _, upd_same⟩ (fun i H' _ p => SqT.of (p.1 _ _ (s02 _ _ epc))) (fun k x H4 H5 hk pp y => ?_) (fun H4 pp => ?_)
    · obtain ⟨sm, eDx⟩ := pp
      obtain ⟨rfl, hx⟩ := y
      obtain ⟨c, qc, hc, rfl, hqc⟩ := codeG k x hk hx
      have hb : e.news[k]? = some c.2 := by unfold Ent.news; rw [List.getElem?_map, hc]; rfl
      refine ⟨rfl, _, rfl, qc, _, _, _, rfl, rfl, SqT.of (sm _ _ (s02 _ _ hqc)), atI_nat (j := 1) rfl, ?_⟩
      refine ⟨_, eDx, ?_, same_two sm hD2, ?_⟩
      · rw [List.length_map, List.length_take]
        exact len1000 (by omega)
      · rw [upd_same, take_snoc hb, List.map_append]
        rfl
    obtain ⟨s3, eD2⟩ := pp
    rw [lvc, ← ln, List.take_length] at eD2
    have s03 := s02.trans s3
    have eD3 := s3 _ _ eD
    refine ⟨_, rfl, _, rfl, D, e.olds, rfl, SqL.of eD3, by omega, fun p0 Sb m hp0 hm hS => ⟨p0, Sb, m, rfl, upd_same, by omega, fun ks p1 hpw hks hkl hp1 => ?_⟩⟩
    have s4 := same_new hp0 (SetO w p0 Sb m)
    have s5 := same_new hp1 (.lst (ks.map V.int))
    refine rdNeZ (SqL.of (s5 _ _ (s4 _ _ eD3))) (SqL.of upd_same) ?_
    have s45 := s4.trans s5
    have s05 := s03.trans s45
    have eo : decide (e.olds = ks) = true ↔ Asc e.olds := by
      rw [decide_eq_true_eq]
      refine ⟨fun h => by rw [h]; exact hpw, fun h => asc_sameI h hpw fun v => ((hks v).trans (hS v)).symm⟩
    by_cases a1 : Asc e.olds
    rotate_left
    · have : decide (e.olds = ks) = false := by
        cases h : decide (e.olds = ks) with
        | false => rfl
        | true => exact absurd (eo.mp h) a1
      rw [this]
      exact ⟨_, rfl, iteT (no _ s05 fun h => a1 (ent.mp h).1)⟩
    rw [eo.mpr a1]
    refine ⟨_, rfl, iteF ?_⟩
    have eD25 := s5 _ _ (s4 _ _ eD2)
    have eD35 := s5 _ _ (s4 _ _ eD3)
    refine ⟨_, rfl, D2, e.news, rfl, SqL.of eD25, by omega, fun p2 Sb2 m2 hp2 hm2 hS2 => ⟨p2, Sb2, m2, rfl, upd_same, fun ks2 nd2 hk2 hlk2 => ?_⟩⟩
    have s6 := same_new hp2 (SetO w p2 Sb2 m2)
    have s06 := s05.trans s6
    have hnl := nodup_iff_len nd2 fun x => (hk2 x).trans (hS2 x)
    refine ⟨_, rfl, D2, _, rfl, .inl (SqL.of (s6 _ _ eD25)), rfl, _, rfl, ite2 (fun z5 => no _ s06 fun h => ?_) (fun z5 => ?_)⟩
    · have : V.int (m2 : Int) = V.int (((e.news.map V.int).length : Nat) : Int) := congrArg V.int (by
        rw [List.length_map]
        have := hnl.mpr (ent.mp h).2.2.1
        omega)
      rw [decide_eq_true this] at z5
      exact Bool.noConfusion z5
    have a2 : e.news.Nodup := by
      refine hnl.mp ?_
      by_cases y : V.int (m2 : Int) = V.int (((e.news.map V.int).length : Nat) : Int)
      · have := V.int.inj y
        rw [List.length_map] at this
        omega
      · exact absurd (by rw [decide_eq_false y]; rfl) z5
    have eD26 := s6 _ _ eD25
    have eD36 := s6 _ _ eD35
    clear eD25 eD35 s5 s4 s45 s03 s02 eD3 eD2 eD z5 hnl
    refine ⟨_, rfl, pg, _, _, .ref pr, rfl, rfl, SqT.of (s06 _ _ at_.top), atI_nat (j := 3) rfl, _, rfl, pr, vr, _, .ref qr, rfl, rfl, SqT.of (s06 _ _ at_.hr), (by rw [hj]; exact atI_nat hvr), qr, _, _, _, rfl, rfl, SqT.of (s06 _ _ hqr), atI_nat (j := 1) rfl, r.2.1, rfl, rfl, by omega, ?_⟩
    refine ⟨_, rfl, D, rfl, ⟨_, SqL.of eD36⟩, fun D3 hD3 => ?_⟩
    have hD30 : H D3 = none := s06.free hD3
    have nD3 : D ≠ D3 := ne_of_none eD36 hD3
    have nD23 : D2 ≠ D3 := ne_of_none eD26 hD3
    have s6n := same_new hD3 (.lst [])
    refine lc_it (walk_list (xs := e.olds.map V.int)) (fun i H' => Same H H' ∧ H' D = some (.lst (e.olds.map V.int)) ∧ H' D2 = some (.lst (e.news.map V.int)) ∧ H' D3 = some (.lst (((inB r.2.1 e.olds).take i).map V.bl))) ⟨s06.trans s6n, s6n _ _ eD36, s6n _ _ eD26, upd_same⟩ (fun i H' _ p => SqL.of p.2.1) (fun k x H7 H8 hk pp y => ?_) (fun H7 pp => ?_)
    · obtain ⟨sm, e1, e2, eDx⟩ := pp
      obtain ⟨rfl, hx⟩ := y
      obtain ⟨u, hu, rfl⟩ := mapAt hx
      have hb : (inB r.2.1 e.olds)[k]? = some (decide (0 ≤ u ∧ u < 2 ^ r.2.1)) := by unfold inB; rw [List.getElem?_map, hu]; rfl
      have fin : ∀ b : Bool, b = decide (0 ≤ u ∧ u < 2 ^ r.2.1) → ∃ acc, H8 D3 = some (.lst acc) ∧ acc.length < sizeLine ∧ Same H (upd H8 D3 (.lst (acc ++ [V.bl b]))) ∧ upd H8 D3 (.lst (acc ++ [V.bl b])) D = some (.lst (e.olds.map V.int)) ∧ upd H8 D3 (.lst (acc ++ [V.bl b])) D2 = some (.lst (e.news.map V.int)) ∧ upd H8 D3 (.lst (acc ++ [V.bl b])) D3 = some (.lst (((inB r.2.1 e.olds).take (k + 1)).map V.bl)) := fun b eb => by
        refine ⟨_, eDx, ?_, same_put sm hD30, by rw [upd_ne nD3]; exact e1, by rw [upd_ne nD23]; exact e2, ?_⟩
        · rw [List.length_map, List.length_take]
          exact len1000 (by unfold inB; rw [List.length_map]; omega)
        · rw [upd_same, take_snoc hb, List.map_append, eb]
          rfl
      refine ⟨rfl, _, rfl, _, _, rfl, rfl, _, rfl, ite2 (fun z => ?_) (fun z => ?_)⟩
      · have z := of_decide_eq_true z
        refine ⟨_, rfl, _, _, rfl, rfl, ?_⟩
        exact fin _ (by rw [Bool.eq_iff_iff, decide_eq_true_eq, decide_eq_true_eq]; omega)
      · have z := of_decide_eq_false (Bool.eq_false_iff.mpr z)
        exact fin _ (decide_eq_false (by omega)).symm
    obtain ⟨s07, eD37, eD27, eDb⟩ := pp
    rw [List.length_map, show e.olds.length = (inB r.2.1 e.olds).length by unfold inB; rw [List.length_map], List.take_length] at eDb
    have inW : ∀ (zs : List Int) (wd : Nat), (inB wd zs).all id = true ↔ InW zs wd := fun zs wd => by
      unfold inB InW
      rw [List.all_map, List.all_eq_true]
      exact ⟨fun h x hx => of_decide_eq_true (h x hx), fun h x hx => decide_eq_true (h x hx)⟩
    refine ⟨D3, _, rfl, SqL.of eDb, _, rfl, ?_⟩
    by_cases a3 : InW e.olds r.2.1
    rotate_left
    · have : (inB r.2.1 e.olds).all id = false := by
        cases h : (inB r.2.1 e.olds).all id with
        | false => rfl
        | true => exact absurd ((inW _ _).mp h) a3
      rw [this]
      exact iteT (no _ s07 fun h => a3 (ent.mp h).2.1)
    rw [(inW _ _).mpr a3]
    refine iteF ?_
    refine ⟨_, rfl, D2, rfl, ⟨_, SqL.of eD27⟩, fun D4 hD4 => ?_⟩
    refine lc_it (walk_list (xs := e.news.map V.int)) (fun i H' => Same H7 H' ∧ H' D4 = some (.lst (((inB e.wid.toNat e.news).take i).map V.bl))) ⟨same_new hD4 _, upd_same⟩ (fun i H' _ p => SqL.of (p.1 _ _ eD27)) (fun k x H8 H9 hk pp y => ?_) (fun H8 pp => ?_)
    · obtain ⟨sm, eDx⟩ := pp
      obtain ⟨rfl, hx⟩ := y
      obtain ⟨u, hu, rfl⟩ := mapAt hx
      have hb : (inB e.wid.toNat e.news)[k]? = some (decide (0 ≤ u ∧ u < 2 ^ e.wid.toNat)) := by unfold inB; rw [List.getElem?_map, hu]; rfl
      have fin : ∀ b : Bool, b = decide (0 ≤ u ∧ u < 2 ^ e.wid.toNat) → ∃ acc, H9 D4 = some (.lst acc) ∧ acc.length < sizeLine ∧ Same H7 (upd H9 D4 (.lst (acc ++ [V.bl b]))) ∧ upd H9 D4 (.lst (acc ++ [V.bl b])) D4 = some (.lst (((inB e.wid.toNat e.news).take (k + 1)).map V.bl)) := fun b eb => by
        refine ⟨_, eDx, ?_, same_two sm hD4, ?_⟩
        · rw [List.length_map, List.length_take]
          exact len1000 (by unfold inB; rw [List.length_map]; omega)
        · rw [upd_same, take_snoc hb, List.map_append, eb]
          rfl
      refine ⟨rfl, _, rfl, _, _, rfl, rfl, _, rfl, ite2 (fun z => ?_) (fun z => ?_)⟩
      · have z := of_decide_eq_true z
        refine ⟨_, rfl, e.wid.toNat, rfl, congrArg V.int (by omega), by omega, _, _, rfl, rfl, ?_⟩
        exact fin _ (by rw [Bool.eq_iff_iff, decide_eq_true_eq, decide_eq_true_eq]; omega)
      · have z := of_decide_eq_false (Bool.eq_false_iff.mpr z)
        exact fin _ (decide_eq_false (by omega)).symm
    obtain ⟨s8, eDc⟩ := pp
    rw [List.length_map, show e.news.length = (inB e.wid.toNat e.news).length by unfold inB; rw [List.length_map], List.take_length] at eDc
    have s08 := s07.trans s8
    refine ⟨D4, _, rfl, SqL.of eDc, _, rfl, ?_⟩
    by_cases a4 : InW e.news e.wid.toNat
    rotate_left
    · have : (inB e.wid.toNat e.news).all id = false := by
        cases h : (inB e.wid.toNat e.news).all id with
        | false => rfl
        | true => exact absurd ((inW _ _).mp h) a4
      rw [this]
      exact ite2 (fun _ => no _ s08 fun h => a4 (ent.mp h).2.2.2.1) (fun y => absurd rfl y)
    rw [(inW _ _).mpr a4]
    refine ite2 (fun y => Bool.noConfusion y) (fun _ => ?_)
    have eD38 := s8 _ _ eD37
    refine ⟨_, rfl, pg, _, _, .ref pr, rfl, rfl, SqT.of (s08 _ _ at_.top), atI_nat (j := 3) rfl, _, rfl, pr, vr, _, .ref qr, rfl, rfl, SqT.of (s08 _ _ at_.hr), (by rw [hj]; exact atI_nat hvr), qr, _, _, _, rfl, rfl, SqT.of (s08 _ _ hqr), atI_nat (j := 2) rfl, _, rfl, D, e.olds.map V.int, rfl, .inl (SqL.of eD38), rfl, flatI _, ?_⟩
    refine ⟨!decide ((r.2.2.1 : Int) ∈ e.olds), ?e4, ?_⟩
    case e4 =>
      show V.bl (!inV (V.int (r.2.2.1 : Int)) (e.olds.map V.int)) = _
      rw [inVI]
    by_cases a5 : (r.2.2.1 : Int) ∈ e.olds
    rotate_left
    · rw [decide_eq_false a5]
      exact iteT (no _ s08 fun h => a5 (ent.mp h).2.2.2.2.1)
    rw [decide_eq_true a5]
    refine iteF ?_
    refine ⟨_, rfl, _, rfl, _, rfl, .ref pg, G, j, r, D, e.olds, by rw [show vI j = V.int e.reg from congrArg V.int hj.symm], hG0.same s08, ok, hr, h900, eD38, fun b9 H9 s9 hb9 => ⟨b9, rfl, ?_⟩⟩
    cases b9 with
    | false => exact ite2 (fun _ => no _ (s08.trans s9) fun h => Bool.noConfusion (hb9.mpr (ent.mp h).2.2.2.2.2)) (fun y => absurd rfl y)
    | true =>
      refine ite2 (fun y => Bool.noConfusion y) (fun _ => ?_)
      exact ⟨e.reg, _, _, _, _, _, _, _, _, _, rfl, s08.trans s9, tk.step he (ent.mpr ⟨a1, a3, a2, a4, a5, hb9.mp rfl⟩) z⟩
  · obtain ⟨ah, v3, v4, v5, v6, v7, v8, v9, v10, v11, rfl, s1, tk⟩ := pp
    rw [lvs] at tk
    exact q true _ s1 ⟨fun _ => tk.done, fun _ => rfl⟩
end
end Bf

set_option Elab.async false
set_option linter.all false
set_option maxRecDepth 100000
set_option maxHeartbeats 4000000
namespace Bf
open PySem PySem.Spec PyProof.Rows L2
/-! ### a part of a row exchanged -/
def spPut : Sp := fun vs H Q _ => ∃ (a : Addr) (xs : List V) (k : Nat) (y : V), vs = [.ref a, vI k, y] ∧ H a = some (.tup xs) ∧ k < xs.length ∧ xs.length ≤ 500 ∧ ∀ (r : Addr) (H' : Hp), Same H H' → H' r = some (.tup (xs.take k ++ y :: xs.drop (k + 1))) → Q (.ref r) H'
def spToldC : Sp := fun vs H Q _ => ∃ (v vp : V) (G : Gr) (p : List Ent), vs = [v, vp] ∧ GrW H v G ∧ G.Ok ∧ G.ns.length ≤ 900 ∧ Lay H vp (papD p) ∧ p.length ≤ 50 ∧ (∀ e ∈ p, e.codes.length ≤ 60) ∧ ∀ (H' : Hp), Same H H' → Q (.bl true) H'
section
variable {P : Program} {w : World} {K : PySem.W.Frag} {mg : Str → Option Value} {base : Heap} {f : Addr} {fd : FuncData}
theorem ok_put (F : Fun K "_law_put" "_law_put" s_law_put f fd) (T : Txt mg) : FnOk P w K mg base CX0 1 f fd ["_law_row", "_law_at", "_law_part"] spPut := by
  refine F.ok sc_law_put (fun vs H Q E h => ?_) (fun cdv A outer s H vs Q E hr h => ?_)
  · obtain ⟨a, xs, k, y, rfl, _⟩ := h
    rfl
  obtain ⟨a, xs, k, y, rfl, ea, hk, hl, q⟩ := h
  refine ⟨_, (pss_one (ps_ret (pe_op op_catA (pe_op op_catA (pe_slice sl_tupA (pv 0) po_none (po_some (pv 1))) (pe_tup (pa_cons (pv 2) pa_nil))) (pe_slice sl_tupA (pv 0) (po_some (pe_op op_add (pv 1) pe_int)) po_none)))), ?_⟩
  refine ⟨_, rfl, _, rfl, _, rfl, ?_⟩
  try delta tNoPart
  refine rdSlX ea fun t4 H4 s4 e4 => ?_
  rw [cutV_to] at e4
  refine ⟨_, rfl, by show 1 ≤ sizeLine; decide, fun tE htE => ?_⟩
  have sE := same_new htE (.tup [y])
  refine rdCatX (sE _ _ e4) upd_same (by rw [List.length_take]; show _ + 1 ≤ 1000; omega) fun t6 H6 s6 e6 => ?_
  refine ⟨_, rfl, _, rfl, _, _, rfl, rfl, _, rfl, ?_⟩
  try delta tNoPart
  refine rdSlX (s6 _ _ (sE _ _ (s4 _ _ ea))) fun t7 H7 s7 e7 => ?_
  rw [cutV_succ] at e7
  refine rdCatX (s7 _ _ e6) e7 (by rw [List.length_append, List.length_take, List.length_drop]; show _ + 1 + _ ≤ 1000; omega) fun t8 H8 s8 e8 => ?_
  refine q t8 H8 ((((s4.trans sE).trans s6).trans s7).trans s8) ?_
  rw [e8, List.append_assoc]
  rfl
theorem ok_told (F : Fun K "_law_is_told" "_law_is_told" s_law_is_told f fd) (T : Txt mg) (D_judge_codes : Dn P w K mg base "judge_codes" ["graph", "paper"] 4 spJudgeC) (D_law_takes : Dn P w K mg base "_law_takes" ["_law_graph_here", "_law_paper"] 2 spJudgeC) :
    FnOk P w K mg base CX0 5 f fd ["_law_graph_here", "_law_paper"] spToldC := by
  refine F.ok sc_law_is_told (fun vs H Q E h => ?_) (fun cdv A outer s H vs Q E hr h => ?_)
  · obtain ⟨v, ve, G, e, rfl, _⟩ := h
    rfl
  obtain ⟨v, vp, G, p, rfl, hG, ok, h900, hp, h50, h60, q⟩ := h
  refine ⟨_, (pss_cons (ps_set (i := 2) sc_law_is_told.nd rfl (Or.inl rfl) (pe_dn D_judge_codes (hr.mono (by omega)) (by rfl) (pa_cons (pv 0) (pa_cons (pv 1) pa_nil))))
      (pss_one (ps_ret (pe_and (pe_callB (call_isi : CallR _ _ (rIsi K)) (by rfl) T.n_isinstance (by decide +kernel) (pa_cons (pv 2) (pa_cons (pe_bltn rfl T.n_bool (by decide +kernel) (v := .ty "bool") rfl) pa_nil))) (pe_one (pe_cmpR op_eq (pv 2) (pe_dn D_law_takes (hr.mono (by omega)) (by rfl) (pa_cons (pv 0) (pa_cons (pv 1) pa_nil))) (nomark _))))))), ?_⟩
  refine ⟨_, rfl, _, rfl, v, vp, G, p, rfl, hG, ok, h900, hp, h50, h60, fun b1 H1 s1 hb1 => ?_⟩
  refine ⟨_, rfl, _, _, .type "bool", .type "bool", true, rfl, .ty "bool", .base (.bl b1), kit_ty (by decide +kernel), true, rfl, iteT ?_⟩
  refine ⟨_, rfl, _, rfl, _, rfl, v, vp, G, p, rfl, hG.same s1, ok, h900, hp.keep' (.same s1), h50, h60, fun b2 H2 s2 hb2 => ?_⟩
  have e : b1 = b2 := by rw [Bool.eq_iff_iff, hb1, hb2]
  refine ⟨rfl, ?_⟩
  rw [show decide (V.bl b1 = V.bl b2) = true from decide_eq_true (by rw [e])]
  exact q _ (s1.trans s2)
end
end Bf

set_option Elab.async false
set_option linter.all false
set_option maxRecDepth 100000
set_option maxHeartbeats 4000000
namespace Bf
open PySem PySem.Spec PyProof.Rows L2
/-! ### codes spoilt -/
def spSpoC : Sp := fun vs H Q _ => ∃ (d c pc : Addr) (vc : List V) (cs : List Code) (wide : Nat) (wid : Nat), vs = [.ref d, vI wide, vI wid, .ref pc] ∧ DS H d c ∧ H pc = some (.tup vc) ∧ LayAll H vc (cs.map codeD) ∧ 1 ≤ cs.length ∧ cs.length ≤ 40 ∧ wide ≤ 8 ∧ wid ≤ 8 ∧
  ∀ (r : V) (cs' : List Code) (H' : Hp), DS H' d c → Keep [d] H H' → Lay H' r (.tuple (cs'.map codeD)) → cs'.length ≤ cs.length + 1 → Q r H'
theorem atI_lst {xs : List V} {x : V} (h : xs[xs.length - 1]? = some x) : atI xs (-1) = some x := by
  have hl := (List.getElem?_eq_some_iff.mp h).1
  unfold atI ixN
  rw [if_neg (by omega), if_pos (by omega), show ((-1 : Int) + (xs.length : Int)).toNat = xs.length - 1 by omega]
  exact h
section
variable {P : Program} {w : World} {K : PySem.W.Frag} {mg : Str → Option Value} {base : Heap} {f : Addr} {fd : FuncData}
theorem ok_spoC (F : Fun K "_law_spoilt_codes" "_law_spoilt_codes" s_law_spoilt_codes f fd) (T : Txt mg) (D_law_draw : Dn P w K mg base "_law_draw" ["_law_d", "_law_many"] 1 spDraw) (D_law_pick : Dn P w K mg base "_law_pick" ["_law_d", "_law_row"] 2 (spPick K))
    (D_law_put : Dn P w K mg base "_law_put" ["_law_row", "_law_at", "_law_part"] 1 spPut) : FnOk P w K mg base CX0 3 f fd ["_law_d", "_law_wide", "_law_width", "_law_codes_here"] spSpoC := by
  refine F.ok sc_law_spoilt_codes (fun vs H Q E h => ?_) (fun cdv A outer s H vs Q E hr h => ?_)
  · obtain ⟨d, c, pc, vc, cs, wide, wid, rfl, _⟩ := h
    rfl
  obtain ⟨d, c, pc, vc, cs, wide, wid, rfl, hd, epc, lc, h1, h40, hw1, hw2, q⟩ := h
  refine ⟨_, (pss_cons (ps_set (i := 4) sc_law_spoilt_codes.nd rfl (Or.inl rfl) (pe_dn D_law_draw (hr.mono (by omega)) (by rfl) (pa_cons (pv 0) (pa_cons (pe_callB call_len_seq (by rfl) T.n_len (by decide +kernel) (pa_cons (pv 3) pa_nil)) pa_nil))))
      (pss_cons (ps_asg (pe_ix ix_tup (pv 3) (pv 4) (fun _ _ => rfl)) (pg_tup rfl (pgs_cons (pg_name (i := 5) sc_law_spoilt_codes.nd rfl (Or.inl rfl)) (pgs_cons (pg_name (i := 6) sc_law_spoilt_codes.nd rfl (Or.inl rfl)) pgs_nil))))
      (pss_cons (ps_set (i := 7) sc_law_spoilt_codes.nd rfl (Or.inl rfl) (pe_dn D_law_draw (hr.mono (by omega)) (by rfl) (pa_cons (pv 0) (pa_cons pe_int pa_nil))))
      (pss_cons (ps_if (pt_cmpR op_eq (pv 7) pe_int (nomark _)) (pss_one (ps_ret (pe_op op_catA (pe_slice sl_tupA (pv 3) po_none (po_some (pv 4))) (pe_slice sl_tupA (pv 3) (po_some (pe_op op_add (pv 4) pe_int)) po_none)))) pss_nil)
      (pss_cons (ps_if (pt_cmpR op_eq (pv 7) pe_int (nomark _)) (pss_one (ps_ret (pe_dn D_law_put (hr.mono (by omega)) (by rfl) (pa_cons (pv 3) (pa_cons (pv 4) (pa_cons (pe_tup (pa_cons (pe_dn D_law_pick (hr.mono (by omega)) (by rfl) (pa_cons (pv 0) (pa_cons (pe_lst (pa_cons (pe_un un_neg pe_int) (pa_cons (pe_op op_oneShl pe_int (pv 1)) (pa_cons (pe_op op_add (pv 5) pe_int) (pa_cons (pe_op op_sub (pv 5) pe_int) (pa_cons (pe_ix ix_tup (pe_ix ix_tup (pv 3) pe_int (fun _ _ => rfl)) pe_int (fun _ _ => rfl)) pa_nil)))))) pa_nil))) (pa_cons (pv 6) pa_nil))) pa_nil)))))) pss_nil)
      (pss_cons (ps_if (pt_cmpR op_eq (pv 7) pe_int (nomark _)) (pss_one (ps_ret (pe_dn D_law_put (hr.mono (by omega)) (by rfl) (pa_cons (pv 3) (pa_cons (pv 4) (pa_cons (pe_tup (pa_cons (pv 5) (pa_cons (pe_dn D_law_pick (hr.mono (by omega)) (by rfl) (pa_cons (pv 0) (pa_cons (pe_lst (pa_cons (pe_un un_neg pe_int) (pa_cons (pe_op op_oneShl pe_int (pv 2)) (pa_cons (pe_ix ix_tup (pe_ix ix_tup (pv 3) (pe_un un_neg pe_int) (fun _ _ => rfl)) pe_int (fun _ _ => rfl)) (pa_cons (pe_ix ix_tup (pe_ix ix_tup (pv 3) pe_int (fun _ _ => rfl)) pe_int (fun _ _ => rfl)) (pa_cons (pe_op op_sub (pe_op op_oneShl pe_int (pv 2)) pe_int) pa_nil)))))) pa_nil))) pa_nil))) pa_nil)))))) pss_nil)
      (pss_cons (ps_if (pt_cmpR op_eq (pv 7) pe_int (nomark _)) (pss_one (ps_ret (pe_op op_catA (pe_slice sl_tupA (pv 3) (po_some (pv 4)) po_none) (pe_slice sl_tupA (pv 3) po_none (po_some (pv 4)))))) pss_nil)
      (pss_cons (ps_if (pt_cmpR op_eq (pv 7) pe_int (nomark _)) (pss_one (ps_ret (pe_dn D_law_put (hr.mono (by omega)) (by rfl) (pa_cons (pv 3) (pa_cons (pv 4) (pa_cons (pe_tup (pa_cons (pv 5) (pa_cons (pe_ix ix_tup (pe_ix ix_tup (pv 3) (pe_dn D_law_draw (hr.mono (by omega)) (by rfl) (pa_cons (pv 0) (pa_cons (pe_callB call_len_seq (by rfl) T.n_len (by decide +kernel) (pa_cons (pv 3) pa_nil)) pa_nil))) (fun _ _ => rfl)) pe_int (fun _ _ => rfl)) pa_nil))) pa_nil)))))) pss_nil)
      (pss_one (ps_ret (pe_op op_catA (pv 3) (pe_tup (pa_cons (pe_ix ix_tup (pv 3) (pv 4) (fun _ _ => rfl)) pa_nil))))))))))))), ?_⟩
  have lvc : vc.length = cs.length := by rw [lc.len, List.length_map]
  refine ⟨_, rfl, _, rfl, pc, vc, rfl, .inr (SqT.of epc), d, c, _, rfl, hd, by omega, by omega, fun k H1 k0 k1 hd1 kk1 => ?_⟩
  obtain ⟨k, rfl⟩ := Int.eq_ofNat_of_zero_le k0
  have hk : k < vc.length := by omega
  have kt1 := kk1.tup1 hd
  obtain ⟨co, qc, hco, hvc, hqc⟩ := codeAt lc (show k < cs.length by omega)
  have epc1 := kt1 _ _ epc
  refine ⟨_, rfl, _, rfl, pc, _, _, _, rfl, rfl, SqT.of epc1, atI_nat hvc, qc, _, rfl, SqT.of (kt1 _ _ hqc), rfl, _, _, rfl, _, _, rfl, rfl, ?_⟩
  refine ⟨_, rfl, d, c, 6, rfl, hd1, by decide, by decide, fun t H2 t0 t1 hd2 kk2 => ?_⟩
  have kk02 := kk1.trans kk2
  have kt2 := kk02.tup1 hd
  have epc2 := kt2 _ _ epc
  have lc2 := lc.keep' kt2
  have fin : ∀ (r : Addr) (Hx : Hp) (xs : List V) (cs' : List Code), DS Hx d c → Keep [d] H Hx → Hx r = some (.tup xs) → LayAll Hx xs (cs'.map codeD) → cs'.length ≤ cs.length + 1 → Q (.ref r) Hx := fun r Hx xs cs' hx kx er lx hl => q _ cs' Hx hx kx (.tup er lx) hl
  have ktx : ∀ {Hx : Hp}, Keep [d] H Hx → KeepT H Hx := fun k => k.tup1 hd
  have putTail : ∀ (H4 : Hp), DS H4 d c → Keep [d] H H4 → ∀ a b : Int, 2 ≤ sizeLine ∧ ∀ t, H4 t = none → spPut [.ref pc, vI k, .ref t] (upd H4 t (.tup [.int a, .int b])) Q E0 := fun H4 hd4 k4 a b => by
    refine ⟨by decide, fun t ht => ?_⟩
    have st := same_new ht (.tup [.int a, .int b])
    have kt4 := ktx k4
    refine ⟨pc, vc, k, .ref t, rfl, st _ _ (kt4 _ _ epc), hk, by omega, fun r H6 s6 e6 => ?_⟩
    have s46 := st.trans s6
    refine fin r H6 _ (cs.take k ++ (a, b) :: cs.drop (k + 1)) (hd4.same s46) (k4.trans (.of_same s46)) e6 ?_ ?_
    · have l6 := (lc.keep' kt4).keep' (.same s46)
      rw [List.map_append, List.map_cons, List.map_take, List.map_drop]
      exact (layTake _ _ _ l6).app (.cons (.tup (s6 _ _ upd_same) (.cons (.int _) (.cons (.int _) .nil))) (layDrop _ _ _ l6))
    · rw [List.length_append, List.length_take, List.length_cons, List.length_drop]; omega
  refine ⟨_, rfl, rfl, _, rfl, ite2 (fun _ => ?_) (fun _ => ?_)⟩
  · refine ⟨_, rfl, _, rfl, _, rfl, ?_⟩
    try delta tNoPart
    refine rdSlX epc2 fun t4 H4 s4 e4 => ?_
    rw [cutV_to] at e4
    refine ⟨_, rfl, _, rfl, _, _, rfl, rfl, _, rfl, ?_⟩
    try delta tNoPart
    refine rdSlX (s4 _ _ epc2) fun t7 H7 s7 e7 => ?_
    rw [cutV_succ] at e7
    refine rdCatX (s7 _ _ e4) e7 (by rw [List.length_take, List.length_drop]; omega) fun t8 H8 s8 e8 => ?_
    have s28 := (s4.trans s7).trans s8
    refine fin t8 H8 _ (cs.take k ++ cs.drop (k + 1)) (hd2.same s28) (kk02.trans (.of_same s28)) e8 ?_ ?_
    · rw [List.map_append, List.map_take, List.map_drop]
      exact (layTake _ _ _ (lc2.keep' (.same s28))).app (layDrop _ _ _ (lc2.keep' (.same s28)))
    · rw [List.length_append, List.length_take, List.length_drop]; omega
  obtain ⟨c0, q0, hc0, hv0, hq0⟩ := codeAt lc2 (show 0 < cs.length by omega)
  refine ⟨_, rfl, rfl, _, rfl, ite2 (fun _ => ?_) (fun _ => ?_)⟩
  · refine ⟨_, rfl, _, rfl, _, rfl, _, rfl, _, rfl, wide, rfl, rfl, by omega, _, rfl, _, _, rfl, rfl, _, rfl, _, _, rfl, rfl, _, rfl, pc, _, _, .ref q0, rfl, rfl, SqT.of epc2, atI_nat (j := 0) hv0, q0, _, _, _, rfl, rfl, SqT.of hq0, atI_nat (j := 0) rfl, by show 5 ≤ sizeLine; decide, fun L hL => ?_⟩
    have sL := same_new hL (.lst (([-1, 2 ^ wide, co.1 + 1, co.1 - 1, c0.1] : List Int).map V.int))
    refine ⟨d, c, L, ([-1, 2 ^ wide, co.1 + 1, co.1 - 1, c0.1] : List Int).map V.int, rfl, hd2.same sL, (hd2.new hL).1, SqL.of upd_same, by show 1 ≤ 5; decide, by show 5 ≤ 1000; decide, fun z y H4 hy hd4 k4 => ?_⟩
    obtain ⟨u, _, rfl⟩ := mapAt hy
    exact ⟨_, rfl, putTail H4 hd4 ((kk02.trans (.of_same sL)).trans k4) u co.2⟩
  refine ⟨_, rfl, rfl, _, rfl, ite2 (fun _ => ?_) (fun _ => ?_)⟩
  · obtain ⟨cz, qz, hcz, hvz, hqz⟩ := codeAt lc2 (show cs.length - 1 < cs.length by omega)
    rw [← lvc] at hvz
    refine ⟨_, rfl, _, rfl, _, rfl, _, rfl, _, rfl, _, rfl, wid, rfl, rfl, by omega, _, rfl, _, rfl, pc, _, _, .ref qz, rfl, rfl, SqT.of epc2, atI_lst hvz, qz, _, _, _, rfl, rfl, SqT.of hqz, atI_nat (j := 1) rfl, _, rfl, pc, _, _, .ref q0, rfl, rfl, SqT.of epc2, atI_nat (j := 0) hv0, q0, _, _, _, rfl, rfl, SqT.of hq0, atI_nat (j := 1) rfl, _, rfl, wid, rfl, rfl, by omega, _, _, rfl, rfl, by show 5 ≤ sizeLine; decide, fun L hL => ?_⟩
    have sL := same_new hL (.lst (([-1, 2 ^ wid, cz.2, c0.2, 2 ^ wid - 1] : List Int).map V.int))
    refine ⟨d, c, L, ([-1, 2 ^ wid, cz.2, c0.2, 2 ^ wid - 1] : List Int).map V.int, rfl, hd2.same sL, (hd2.new hL).1, SqL.of upd_same, by show 1 ≤ 5; decide, by show 5 ≤ 1000; decide, fun z y H4 hy hd4 k4 => ?_⟩
    obtain ⟨u, _, rfl⟩ := mapAt hy
    exact putTail H4 hd4 ((kk02.trans (.of_same sL)).trans k4) co.1 u
  refine ⟨_, rfl, rfl, _, rfl, ite2 (fun _ => ?_) (fun _ => ?_)⟩
  · refine ⟨_, rfl, _, rfl, _, rfl, ?_⟩
    try delta tNoPart
    refine rdSlX epc2 fun t4 H4 s4 e4 => ?_
    rw [cutV_from] at e4
    refine ⟨_, rfl, _, rfl, _, rfl, ?_⟩
    try delta tNoPart
    refine rdSlX (s4 _ _ epc2) fun t7 H7 s7 e7 => ?_
    rw [cutV_to] at e7
    refine rdCatX (s7 _ _ e4) e7 (by rw [List.length_take, List.length_drop]; omega) fun t8 H8 s8 e8 => ?_
    have s28 := (s4.trans s7).trans s8
    refine fin t8 H8 _ (cs.drop k ++ cs.take k) (hd2.same s28) (kk02.trans (.of_same s28)) e8 ?_ ?_
    · rw [List.map_append, List.map_take, List.map_drop]
      exact (layDrop _ _ _ (lc2.keep' (.same s28))).app (layTake _ _ _ (lc2.keep' (.same s28)))
    · rw [List.length_append, List.length_take, List.length_drop]; omega
  refine ⟨_, rfl, rfl, _, rfl, ite2 (fun _ => ?_) (fun _ => ?_)⟩
  · refine ⟨_, rfl, _, rfl, _, rfl, _, rfl, _, rfl, _, rfl, pc, vc, rfl, .inr (SqT.of epc2), d, c, _, rfl, hd2, by omega, by omega, fun z H4 z0 z1 hd4 k4 => ?_⟩
    obtain ⟨z, rfl⟩ := Int.eq_ofNat_of_zero_le z0
    have k04 := kk02.trans k4
    obtain ⟨cz, qz, hcz, hvz, hqz⟩ := codeAt (lc.keep' (ktx k04)) (show z < cs.length by omega)
    exact ⟨pc, _, _, .ref qz, rfl, rfl, SqT.of (ktx k04 _ _ epc), atI_nat hvz, qz, _, _, _, rfl, rfl, SqT.of hqz, atI_nat (j := 1) rfl, putTail H4 hd4 k04 co.1 cz.2⟩
  · refine ⟨_, rfl, _, rfl, _, rfl, pc, _, _, .ref qc, rfl, rfl, SqT.of epc2, atI_nat hvc, by show 1 ≤ sizeLine; decide, fun t ht => ?_⟩
    have st := same_new ht (.tup [.ref qc])
    refine rdCatX (st _ _ epc2) upd_same (by show _ + 1 ≤ 1000; omega) fun t8 H8 s8 e8 => ?_
    have s28 := st.trans s8
    refine fin t8 H8 _ (cs ++ [co]) (hd2.same s28) (kk02.trans (.of_same s28)) e8 ?_ ?_
    · rw [List.map_append]
      exact (lc2.keep' (.same s28)).app (.cons (.tup (s28 _ _ (kt2 _ _ hqc)) (.cons (.int _) (.cons (.int _) .nil))) .nil)
    · rw [List.length_append]; exact Nat.le_refl _
end
end Bf

set_option Elab.async false
set_option linter.all false
set_option maxRecDepth 100000
set_option maxHeartbeats 4000000
namespace Bf
open PySem PySem.Spec PyProof.Rows L2
/-! ### sorted of a tuple of alike data -/
section
open PySem.W PySem.Calls
/-- the items of a tuple taken into a new list, with the heap that comes of it -/
theorem collect_tupX {prog : Program} {w : World} {A : Around} {E : Value → Shared → Prop} {s : Shared} {t : Addr} {us : List Value} {Q : List Value → Shared → Prop} (ht : IsTup s.heap t us.toArray) (small : us.length ≤ sizeLine)
    (hq : Q us { s with heap := (s.heap.push (seqObj "list" #[] 0)).update s.heap.objs.size (Obj.mapSeq (· ++ us.toArray)) }) : wpAny (model prog w) A (collect (.ref t)) Q E s := by
  obtain ⟨ob, here, cl, n, da⟩ := id ht
  have later : (s.heap.push (seqObj "list" #[] 0)).get? t = some ob := Heap.get?_push_of_some _ here
  have new : (s.heap.push (seqObj "list" #[] 0)).get? s.heap.objs.size = some (seqObj "list" #[] 0) := Heap.get?_push_size _ rfl
  have room : ((#[] : Array Value) ++ us.toArray).size ≤ sizeLine + 1 := by
    simp only [Array.size_append, List.size_toArray, List.length_nil]
    omega
  unfold collect
  refine wpAny_bind (wpAny_runValue (codeAny_builtin entry_proto_collect' (wpAny_bind (wpAny_newList (wpAny_pure ⟨Code.quiet_builtin _ (by decide +kernel), codeAny_builtin entry_list_iadd' ?_⟩)))))
  show wpAny _ _ (Builtin.List.listExtendWith (.ref s.heap.objs.size) (.ref t) (.ref s.heap.objs.size)) _ _ { s with heap := s.heap.push (seqObj "list" #[] 0) }
  unfold Builtin.List.listExtendWith
  refine wpAny_bind (wpAny_typeOf (T := "tuple") ⟨ob, later, cl⟩ ?_)
  have tt : (Value.type "tuple" == Value.type "tuple") = true := rfl
  rw [if_pos (by rw [tt]; simp)]
  refine wpAny_bind (listItems_at later da (wpAny_bind (listItems_at (xs := #[]) (n := 0) new rfl ?_)))
  rw [if_neg (by simp)]
  refine wpAny_bind (listUpdate_at (xs := #[]) (n := 0) new rfl (wpAny_pure ?_) (Nat.zero_le _) room)
  refine wpAny_bind (wpAny_load (get?_update_seq new _) ?_)
  have same : ((#[] : Array Value) ++ us.toArray).toList = us := by simp
  show wpAny _ _ (pure ((#[] : Array Value) ++ us.toArray).toList) Q E _
  rw [same]
  exact wpAny_pure hq
theorem sorted_tupD {prog : Program} {w : World} {A : Around} {E : Value → Shared → Prop} {s : Shared} {β : Type} {vs : List Value} {bs : List β} {enc : β → PyData} {R : Value → β → Prop} {l : Addr} {Q : Value → Shared → Prop} (ht : IsTup s.heap l vs.toArray)
    (e : EachIs R vs bs) (er : EachIs (fun v b => ∃ as, Reads s.heap v (enc b) as) vs bs) (hal : AllAlike (bs.map enc)) (hk : Sortable (bs.map enc)) (hL : bs.length ≤ sizeLine) (hu : ∀ b, b ∈ bs → A.units + 2 + (enc b).depth < cLine)
    (hq : ∀ out : List Value, out.length = bs.length → EachIs R out (bs.mergeSort (dataLe false enc)) → Q (.ref (s.heap.objs.size + 1)) { s with heap := sortedAll s.heap vs (List.toArray out) }) :
    wpAny (model prog w) A (call (.builtin "sorted") [.ref l]) Q E s := by
  have many : vs.length ≤ sizeLine := by rw [e.length]; exact hL
  have after : EachIs (fun v b => ∃ as, Reads (sortingHeap (copyHeap s.heap vs) (s.heap.objs.size + 1) vs) v (enc b) as) vs bs := er.mono fun _ _ ⟨as, r⟩ => ⟨as, PyProof.Rows.Reads.keeps (fun _ _ => sorting_copy_old) r⟩
  have S := SortsAt.data (prog := prog) (w := w) (A := A.in1.in1) (s := { s with heap := sortingHeap (copyHeap s.heap vs) (s.heap.objs.size + 1) vs }) (each_map (R := fun v d => ∃ as, Reads (sortingHeap (copyHeap s.heap vs) (s.heap.objs.size + 1) vs) v d as) enc after) hal hk (bound_map hu)
  refine call_function_entry_kw kind_sorted plain_sorted entry_sorted (args_sorted1 _) ?_
  unfold Builtin.«sorted»
  refine wpAny_bind (m := checkCount "sorted" 1 1 _) (wpAny_pure (wpAny_bind (collect_tupX ht many (wpAny_bind (wpAny_newList ?_ many)))))
  have at1 : ((s.heap.push (seqObj "list" #[] 0)).update s.heap.objs.size (Obj.mapSeq (· ++ vs.toArray))).objs.size = s.heap.objs.size + 1 := by rw [Heap.size_update, size_push']
  show wpAny _ _ _ _ _ { s with heap := copyHeap s.heap vs }
  rw [at1]
  refine wpAny_bind (wpAny_holding (wpAny_call_entry_kw slot_list_sort ⟨_, copyHeap_at s.heap vs, rfl⟩ entry_list_sort ?run (args_list_sort _)))
  case run =>
    show wpAny (model prog w) A.in1.in1 (Builtin.«list.sort» ⟨[.ref (s.heap.objs.size + 1)], []⟩) _ _ _
    refine wpAny_mono (list_sort_vals (P := fun f s' => f = .done (.ret .none) ∧ Q (.ref (s.heap.objs.size + 1)) s') (s := { s with heap := copyHeap s.heap vs }) (copyHeap_at s.heap vs) S many ⟨rfl, ?_⟩) (fun f t hf => ?_) fun _ _ z => z
    · exact hq _ (by rw [sortVals_length false rfl]; exact e.length) (sortVals_data false e after hal)
    · obtain ⟨rfl, hq2⟩ := hf
      exact ⟨_, rfl, wpAny_pure ⟨_, rfl, hq2⟩⟩
end
def rSortedDT (K : PySem.W.Frag) : List V → Hp → VK → Prop := fun xs H Q => ∃ (β : Type) (a : Addr) (vs : List V) (bs : List β) (enc : β → PyData), xs = [V.ref a] ∧ H a = some (.tup vs) ∧ LayAll H vs (bs.map enc) ∧ PySem.W.AllAlike (bs.map enc) ∧ PySem.W.Sortable (bs.map enc) ∧ (∀ b ∈ bs, (enc b).depth ≤ 32) ∧
  ∀ us p, LayAll H us ((bs.mergeSort (PySem.W.dataLe false enc)).map enc) → H p = none → Q (.ref p) (upd H p (.lst us))
theorem cr_sortedDT {X : Cx} (hu : X.A.units + 64 < cLine) : CallR X (.builtin "sorted") (rSortedDT X.K) := by
  intro pins s σ H vs us Q I r h
  obtain ⟨β, a, xs, bs, enc, rfl, hs, hl, hal, hk, hd, q⟩ := h
  obtain ⟨its, rv, hpl, hz⟩ := I.tuple (SqT.of hs)
  obtain ⟨u, rfl, ru⟩ := vals1 r
  obtain rfl : u = Value.ref a := ru
  have each := each_of rv hl
  have len1 : xs.length = bs.length := by simpa using hl.len
  refine sorted_tupD (R := fun (u : Value) (b : β) => ∃ x : V, RelV x u ∧ Lay H x (enc b)) hpl each (each.mono fun u b ⟨x, rx, lx⟩ => Dp.reads I _ _ _ lx.dp' rx) hal hk (by omega) (fun b hb => by have := hd b hb; omega) fun out many ordered => ?_
  obtain ⟨ys, ry, ly⟩ := each_back ordered
  obtain ⟨n, there⟩ := sortedAll_at s.heap its (List.toArray out)
  have small : ys.length ≤ sizeLine := by
    have : ys.length = out.length := ry.length
    omega
  exact ⟨.ref (s.heap.objs.size + 1), upd H (s.heap.objs.size + 1) (.lst ys), I.laid (t' := s.toks) (fun b o z => sortedAll_old z) (Nat.le_succ _) ⟨small, out, n, ry, there⟩, rfl, q _ _ ly (I.hok.fresh (Nat.le_succ _))⟩
end Bf

set_option Elab.async false
set_option linter.all false
set_option maxRecDepth 100000
set_option maxHeartbeats 4000000
namespace Bf
open PySem PySem.Spec PyProof.Rows L2
/-! ### papers spoilt -/
def spSpoP : Sp := fun vs H Q _ => ∃ (d c : Addr) (v vp : V) (G : Gr) (p : List Ent), vs = [.ref d, v, vp] ∧ DS H d c ∧ GrW H v G ∧ G.Ok ∧ 1 ≤ G.rs.length ∧ G.rs.length ≤ 4 ∧ Lay H vp (papD p) ∧ p.length ≤ 4 ∧ PapOk G.ns G.rs p ∧ (∀ e ∈ p, 1 ≤ e.codes.length ∧ e.codes.length ≤ 20) ∧
  ∀ (r : V) (p' : List Ent) (H' : Hp), DS H' d c → Keep [d] H H' → Lay H' r (papD p') → p'.length ≤ 10 → (∀ e ∈ p', e.codes.length ≤ 60) → Q r H'
theorem alike_codes : ∀ xs ys : List Code, PySem.W.alikeAll (xs.map codeD) (ys.map codeD) = true
  | [], _ => by simp [PySem.W.alikeAll]
  | _ :: _, [] => by simp [PySem.W.alikeAll]
  | x :: xs, y :: ys => by
    rw [List.map_cons, List.map_cons, PySem.W.alikeAll, alike_codes xs ys]
    simp [PySem.W.alike, PySem.W.alikeAll, codeD]
theorem alike_ents (e e' : Ent) : PySem.W.alike e.D e'.D = true := by
  unfold Ent.D
  simp [PySem.W.alike, PySem.W.alikeAll, alike_codes]
theorem sh_ent (e : Ent) : Sh 3 e.D := Sh.tup fun d hd => by
  simp only [List.mem_cons, List.not_mem_nil, or_false] at hd
  rcases hd with rfl | rfl | rfl
  · exact Sh.int _ _
  · exact Sh.int _ _
  · refine Sh.tup fun d hd => ?_
    obtain ⟨c, _, rfl⟩ := List.mem_map.mp hd
    refine Sh.tup fun d hd => ?_
    simp only [List.mem_cons, List.not_mem_nil, or_false] at hd
    rcases hd with rfl | rfl
    · exact Sh.int _ _
    · exact Sh.int _ _
def selfC (n : Nat) : List Code := (List.range n).map fun k : Nat => ((k : Int), (k : Int))
section
variable {P : Program} {w : World} {K : PySem.W.Frag} {mg : Str → Option Value} {base : Heap} {f : Addr} {fd : FuncData}
theorem ok_spoP (F : Fun K "_law_spoilt" "_law_spoilt" s_law_spoilt f fd) (T : Txt mg) (D_law_draw : Dn P w K mg base "_law_draw" ["_law_d", "_law_many"] 1 spDraw) (D_law_pick : Dn P w K mg base "_law_pick" ["_law_d", "_law_row"] 2 (spPick K))
    (D_law_put : Dn P w K mg base "_law_put" ["_law_row", "_law_at", "_law_part"] 1 spPut) (D_law_spoilt_codes : Dn P w K mg base "_law_spoilt_codes" ["_law_d", "_law_wide", "_law_width", "_law_codes_here"] 3 spSpoC) :
    FnOk P w K mg base CX0 4 f fd ["_law_d", "_law_graph_here", "_law_paper"] spSpoP := by
  refine F.ok sc_law_spoilt (fun vs H Q E h => ?_) (fun cdv A outer s H vs Q E hr h => ?_)
  · obtain ⟨d, c, v, vp, G, p, rfl, _⟩ := h
    rfl
  obtain ⟨d, c, v, vp, G, p, rfl, hd, hG, ok, hr1, hr4, hp, hp4, hok, hcs, q⟩ := h
  refine ⟨_, (pss_cons (ps_set (i := 3) sc_law_spoilt.nd rfl (Or.inl rfl) (pe_dn D_law_draw (hr.mono (by omega)) (by rfl) (pa_cons (pv 0) (pa_cons pe_int pa_nil))))
      (pss_cons (ps_if (PW.pt (pw_or (pt_cmpR op_eq (pv 3) pe_int (nomark _)) (pw_or1 (pt_cmpR op_eq (pe_callB call_len_seq (by rfl) T.n_len (by decide +kernel) (pa_cons (pv 2) pa_nil)) pe_int (nomark _))))) (pss_cons (ps_set (i := 4) sc_law_spoilt.nd rfl (Or.inl rfl) (pe_dn D_law_draw (hr.mono (by omega)) (by rfl) (pa_cons (pv 0) (pa_cons (pe_callB call_len_seq (by rfl) T.n_len (by decide +kernel) (pa_cons (pe_ix ix_tup (pv 1) pe_int (fun _ _ => rfl)) pa_nil)) pa_nil))))
      (pss_cons (ps_set (i := 5) sc_law_spoilt.nd rfl (Or.inl rfl) (pe_ix ix_tup (pe_ix ix_tup (pe_ix ix_tup (pv 1) pe_int (fun _ _ => rfl)) (pv 4) (fun _ _ => rfl)) pe_int (fun _ _ => rfl)))
      (pss_cons (ps_set (i := 6) sc_law_spoilt.nd rfl (Or.inl rfl) (pe_tup (pa_cons (pv 4) (pa_cons (pv 5) (pa_cons (pe_callTy call_tuple_of (by rfl) T.n_tuple (by decide +kernel) (pa_cons (pe_lc (own := [("_law_word", 10)]) (g := (gName 10)) (tt := tYes) rfl sc_law_spoilt.nd (pi_range1 rfl T.n_range (pa_cons (pe_callB (cr_minN rfl) (by rfl) T.n_min (by decide +kernel) (pa_cons pe_int (pa_cons (pe_op op_oneShl pe_int (pv 5)) pa_nil))) pa_nil)) (blkOk_by (N := ["_law_d", "_law_graph_here", "_law_paper", "_law_turn", "_law_reg", "_law_wide", "_law_entry", "_law_at", "_law_width", "_law_codes_here", "_law_word"]) (sc := defScope s_law_spoilt) (by decide +kernel)) (fun _ _ _ _ _ => (pg_name (i := 10) sc_law_spoilt.nd rfl (Or.inl rfl))) (fun _ _ _ _ _ => pts_nil) (fun _ _ _ _ _ => (pe_tup (pa_cons (pv 10) (pa_cons (pv 10) pa_nil))))) pa_nil)) pa_nil)))))
      (pss_one (ps_ret (pe_callTy call_tuple_of (by rfl) T.n_tuple (by decide +kernel) (pa_cons (pe_callB (cr_sortedDT hr.units) (by rfl) T.n_sorted (by decide +kernel) (pa_cons (pe_op op_catA (pv 2) (pe_tup (pa_cons (pv 6) pa_nil))) pa_nil)) pa_nil))))))) pss_nil)
      (pss_cons (ps_set (i := 7) sc_law_spoilt.nd rfl (Or.inl rfl) (pe_dn D_law_draw (hr.mono (by omega)) (by rfl) (pa_cons (pv 0) (pa_cons (pe_callB call_len_seq (by rfl) T.n_len (by decide +kernel) (pa_cons (pv 2) pa_nil)) pa_nil))))
      (pss_cons (ps_asg (pe_ix ix_tup (pv 2) (pv 7) (fun _ _ => rfl)) (pg_tup rfl (pgs_cons (pg_name (i := 4) sc_law_spoilt.nd rfl (Or.inl rfl)) (pgs_cons (pg_name (i := 8) sc_law_spoilt.nd rfl (Or.inl rfl)) (pgs_cons (pg_name (i := 9) sc_law_spoilt.nd rfl (Or.inl rfl)) pgs_nil)))))
      (pss_cons (ps_if (pt_cmpR op_eq (pv 3) pe_int (nomark _)) (pss_one (ps_ret (pe_op op_catA (pv 2) (pe_tup (pa_cons (pe_ix ix_tup (pv 2) (pv 7) (fun _ _ => rfl)) pa_nil))))) pss_nil)
      (pss_cons (ps_if (pt_cmpR op_eq (pv 3) pe_int (nomark _)) (pss_one (ps_ret (pe_op op_catA (pe_slice sl_tupA (pv 2) (po_some (pv 7)) po_none) (pe_slice sl_tupA (pv 2) po_none (po_some (pv 7)))))) pss_nil)
      (pss_cons (ps_if (pt_cmpR op_eq (pv 3) pe_int (nomark _)) (pss_one (ps_ret (pe_dn D_law_put (hr.mono (by omega)) (by rfl) (pa_cons (pv 2) (pa_cons (pv 7) (pa_cons (pe_tup (pa_cons (pe_dn D_law_pick (hr.mono (by omega)) (by rfl) (pa_cons (pv 0) (pa_cons (pe_lst (pa_cons (pe_un un_neg pe_int) (pa_cons (pe_callB call_len_seq (by rfl) T.n_len (by decide +kernel) (pa_cons (pe_ix ix_tup (pv 1) pe_int (fun _ _ => rfl)) pa_nil)) (pa_cons pe_int (pa_cons (pe_op op_add (pv 4) pe_int) (pa_cons (pe_op op_sub (pe_un un_neg (pv 4)) pe_int) pa_nil)))))) pa_nil))) (pa_cons (pv 8) (pa_cons (pv 9) pa_nil)))) pa_nil)))))) pss_nil)
      (pss_cons (ps_if (pt_cmpR op_eq (pv 3) pe_int (nomark _)) (pss_one (ps_ret (pe_dn D_law_put (hr.mono (by omega)) (by rfl) (pa_cons (pv 2) (pa_cons (pv 7) (pa_cons (pe_tup (pa_cons (pv 4) (pa_cons (pe_dn D_law_pick (hr.mono (by omega)) (by rfl) (pa_cons (pv 0) (pa_cons (pe_lst (pa_cons pe_int (pa_cons pe_int (pa_cons (pe_op op_sub (pv 8) pe_int) (pa_cons (pe_op op_add (pv 8) pe_int) (pa_cons (pe_un un_neg pe_int) (pa_cons pe_int pa_nil))))))) pa_nil))) (pa_cons (pv 9) pa_nil)))) pa_nil)))))) pss_nil)
      (pss_one (ps_ret (pe_dn D_law_put (hr.mono (by omega)) (by rfl) (pa_cons (pv 2) (pa_cons (pv 7) (pa_cons (pe_tup (pa_cons (pv 4) (pa_cons (pv 8) (pa_cons (pe_dn D_law_spoilt_codes (hr.mono (by omega)) (by rfl) (pa_cons (pv 0) (pa_cons (pe_ix ix_tup (pe_ix ix_tup (pe_ix ix_tup (pv 1) pe_int (fun _ _ => rfl)) (pv 4) (fun _ _ => rfl)) pe_int (fun _ _ => rfl)) (pa_cons (pv 8) (pa_cons (pv 9) pa_nil))))) pa_nil)))) pa_nil)))))))))))))), ?_⟩
  obtain ⟨pg, pi, pn, pr, po, v4, v6, xi, vn, vr, xo, rfl, at_⟩ := hG
  have lvr : vr.length = G.rs.length := by rw [at_.lr.len, List.length_map]
  obtain ⟨pp, vs, rfl, epp, lp⟩ := hp.tup_inv
  have lvs : vs.length = p.length := by rw [lp.len, List.length_map]
  refine ⟨_, rfl, d, c, 8, rfl, hd, by decide, by decide, fun t H1 t0 t1 hd1 k1 => ?_⟩
  have kt1 := k1.tup1 hd
  have at1 := at_.keep kt1
  have lp1 := lp.keep' kt1
  have epp1 := kt1 _ _ epp
  refine (have LA : _ := ?la; (⟨_, rfl, rfl, _, rfl, ite2 (fun _ => iteT LA) (fun z => ⟨_, rfl, pp, vs, rfl, .inr (SqT.of epp1), rfl, _, rfl, ite2 (fun _ => LA) (fun z2 => ?_)⟩)⟩ : _))
  case la =>
    refine ⟨_, rfl, _, rfl, pg, _, _, .ref pr, rfl, rfl, SqT.of at1.top, atI_nat (j := 3) rfl, pr, vr, rfl, .inr (SqT.of at1.hr), d, c, _, rfl, hd1, by omega, by omega, fun j H2 j0 j1 hd2 k2 => ?_⟩
    obtain ⟨j, rfl⟩ := Int.eq_ofNat_of_zero_le j0
    have at2 := at1.keep (k2.tup1 hd1)
    obtain ⟨r, qr, hr9, hvr, hqr⟩ := regAt at2.lr (show j < G.rs.length by omega)
    obtain ⟨w1, w8, _⟩ := ok.regs r (List.mem_of_getElem? hr9)
    refine ⟨_, rfl, pg, _, _, .ref pr, rfl, rfl, SqT.of at2.top, atI_nat (j := 3) rfl, _, rfl, pr, vr, _, .ref qr, rfl, rfl, SqT.of at2.hr, atI_nat hvr, qr, _, _, _, rfl, rfl, SqT.of hqr, atI_nat (j := 1) rfl, ?_⟩
    refine ⟨_, rfl, _, rfl, _, rfl, r.2.1, rfl, rfl, by omega, 16, 2 ^ r.2.1, by simp [vI], ?_⟩
    have m16 : min 16 (2 ^ r.2.1) ≤ 16 := Nat.min_le_left _ _
    generalize min 16 (2 ^ r.2.1) = mm at m16 ⊢
    refine ⟨(mm : Int), rfl, by omega, by omega, fun D hD => ?_⟩
    refine lc_range (lo := 0) (n := mm) (fun i H' => Same H2 H' ∧ Acc D codeD (selfC i) H') ⟨same_new hD _, .nil⟩ (fun i H3 hi pp => ?_) (fun H3 pp => ?_)
    · obtain ⟨sm, hA⟩ := pp
      refine ⟨rfl, _, rfl, _, rfl, by show 2 ≤ sizeLine; decide, fun t ht => ?_⟩
      have st := same_new ht (.tup [.int (0 + (i : Int)), .int (0 + (i : Int))])
      obtain ⟨us, eu, hu, hA2, kt⟩ := (hA.same st).push (y := .ref t) (x := ((i : Int), (i : Int))) (.tup (by rw [upd_same, show (0 + (i : Int)) = (i : Int) by omega]) (.cons (.int _) (.cons (.int _) .nil))) (by unfold selfC; rw [List.length_map, List.length_range]; omega)
      refine ⟨us, eu, hu, ?_, ?_⟩
      · have : H2 D = none := hD
        exact same_put (sm.trans st) this
      · have e : selfC (i + 1) = selfC i ++ [((i : Int), (i : Int))] := by unfold selfC; rw [List.range_succ, List.map_append]; rfl
        rw [e]
        exact hA2
    obtain ⟨s3, us, eu, lu⟩ := pp
    refine ⟨D, us, rfl, .inl ⟨SqL.of eu, fun tq htq => ?_⟩⟩
    have s4 := same_new htq (.tup us)
    refine ⟨by show 3 ≤ sizeLine; decide, fun te hte => ?_⟩
    have s5 := same_new hte (.tup [vI j, vI r.2.1, .ref tq])
    have s25 := (s3.trans s4).trans s5
    have le : Lay (upd (upd H3 tq (.tup us)) te (.tup [vI j, vI r.2.1, .ref tq])) (.ref te) (Ent.D ⟨(j : Int), (r.2.1 : Int), selfC mm⟩) := .tup upd_same (.cons (.int _) (.cons (.int _) (.cons (.tup (s5 _ _ upd_same) (lu.keep' (.same (s4.trans s5)))) .nil)))
    have le60 : (⟨(j : Int), (r.2.1 : Int), selfC mm⟩ : Ent).codes.length ≤ 60 := by show (selfC mm).length ≤ 60; unfold selfC; rw [List.length_map, List.length_range]; omega
    generalize (⟨(j : Int), (r.2.1 : Int), selfC mm⟩ : Ent) = e0 at le le60
    refine ⟨_, rfl, _, rfl, by show 1 ≤ sizeLine; decide, fun t1 ht1 => ?_⟩
    have s6 := same_new ht1 (.tup [.ref te])
    have s26 := s25.trans s6
    have kt2 := k2.tup1 hd1
    refine rdCatX (s26 _ _ (kt2 _ _ epp1)) upd_same (by show _ + 1 ≤ 1000; omega) fun t8 H8 s8 e8 => ?_
    have s28 := s26.trans s8
    have l8 : LayAll H8 (vs ++ [.ref te]) ((p ++ [e0]).map Ent.D) := by
      rw [List.map_append]
      exact ((lp1.keep' kt2).keep' (.same s28)).app (.cons (le.keep' (.same (s6.trans s8))) .nil)
    refine ⟨Ent, t8, _, p ++ [e0], Ent.D, rfl, e8, l8, PySem.W.AllAlike.of alike_ents, PySem.W.Sortable.tuples fun b => ⟨_, _, rfl⟩, fun b _ => Nat.le_trans (sh_ent b).2 (by decide), fun us2 pL lu2 hpL => ?_⟩
    have sp := same_new hpL (.lst us2)
    refine ⟨pL, us2, rfl, .inl ⟨SqL.of upd_same, fun tr htr => ?_⟩⟩
    have sr := same_new htr (.tup us2)
    have perm := sortD_perm Ent.D (p ++ [e0])
    have s2r := (s28.trans sp).trans sr
    refine q _ _ _ (hd2.same s2r) ((k1.trans k2).trans (.of_same s2r)) (.tup upd_same ((lu2.keep' (.same sp)).keep' (.same sr))) ?_ fun e he => ?_
    · rw [perm.length_eq, List.length_append]; show p.length + 1 ≤ 10; omega
    · rcases List.mem_append.mp (perm.mem_iff.mp he) with h | h
      · have := hcs e h; omega
      · rw [List.mem_singleton.mp h]; exact le60
  have z2 : p.length ≠ 0 := fun e => z2 (decide_eq_true (congrArg V.int (by rw [lvs, e]; rfl)))
  refine ⟨_, rfl, _, rfl, pp, vs, rfl, .inr (SqT.of epp1), d, c, _, rfl, hd1, by omega, by omega, fun k H2 k0 k1' hd2 kk2 => ?_⟩
  obtain ⟨k, rfl⟩ := Int.eq_ofNat_of_zero_le k0
  have hk : k < vs.length := by omega
  have k02 := k1.trans kk2
  have ktx : ∀ {Hx : Hp}, Keep [d] H Hx → KeepT H Hx := fun k => k.tup1 hd
  have kt2 := ktx k02
  have at2 := at_.keep kt2
  have lp2 := lp.keep' kt2
  have epp2 := kt2 _ _ epp
  obtain ⟨e, he, hv, le⟩ : ∃ e, p[k]? = some e ∧ vs[k]? = some vs[k] ∧ Lay H2 vs[k] e.D := by
    obtain ⟨dd, ed, ld⟩ := lp2.get k (List.getElem?_eq_getElem hk)
    rw [List.getElem?_map, List.getElem?_eq_getElem (show k < p.length by omega)] at ed
    obtain rfl := Option.some.inj ed
    exact ⟨_, List.getElem?_eq_getElem _, List.getElem?_eq_getElem hk, ld⟩
  have mem := List.mem_of_getElem? he
  obtain ⟨pe, pc, vc, hpe, epe, epc, lc⟩ := le.ent
  rw [hpe] at hv
  obtain ⟨hc1, hc20⟩ := hcs e mem
  obtain ⟨j, r, hj, hr9, hw1, hw8, _⟩ := hok.2 e mem
  refine ⟨_, rfl, _, rfl, pp, _, _, .ref pe, rfl, rfl, SqT.of epp2, atI_nat hv, pe, _, rfl, SqT.of epe, rfl, _, _, rfl, _, _, rfl, _, _, rfl, rfl, ?_⟩
  have fin : ∀ (r : Addr) (Hx : Hp) (xs : List V) (p' : List Ent), DS Hx d c → Keep [d] H Hx → Hx r = some (.tup xs) → LayAll Hx xs (p'.map Ent.D) → p'.length ≤ 10 → (∀ e ∈ p', e.codes.length ≤ 60) → Q (.ref r) Hx := fun r Hx xs p' hx kx er lx hl hl2 => q _ p' Hx hx kx (.tup er lx) hl hl2
  have c60 : ∀ e ∈ p, e.codes.length ≤ 60 := fun e he => by have := hcs e he; omega
  have putTail : ∀ (H4 : Hp) (y : V) (e' : Ent), DS H4 d c → Keep [d] H H4 → Lay H4 y e'.D → e'.codes.length ≤ 60 → spPut [.ref pp, vI k, y] H4 Q E0 := fun H4 y e' hd4 k4 ly hl => by
    have kt4 := ktx k4
    refine ⟨pp, vs, k, y, rfl, kt4 _ _ epp, hk, by omega, fun r H6 s6 e6 => ?_⟩
    refine fin r H6 _ (p.take k ++ e' :: p.drop (k + 1)) (hd4.same s6) (k4.trans (.of_same s6)) e6 ?_ ?_ fun x hx => ?_
    · have l6 := (lp.keep' kt4).keep' (.same s6)
      rw [List.map_append, List.map_cons, List.map_take, List.map_drop]
      exact (layTake _ _ _ l6).app (.cons (ly.keep' (.same s6)) (layDrop _ _ _ l6))
    · rw [List.length_append, List.length_take, List.length_cons, List.length_drop]; omega
    · rcases List.mem_append.mp hx with h | h
      · exact c60 x (List.mem_of_mem_take h)
      · rcases List.mem_cons.mp h with rfl | h
        · exact hl
        · exact c60 x (List.mem_of_mem_drop h)
  have entTail : ∀ (H4 : Hp) (a b : Int), DS H4 d c → Keep [d] H H4 → KeepT H2 H4 → 3 ≤ sizeLine ∧ ∀ t, H4 t = none → spPut [.ref pp, vI k, .ref t] (upd H4 t (.tup [.int a, .int b, .ref pc])) Q E0 := fun H4 a b hd4 k4 kt4 => by
    refine ⟨by decide, fun t ht => ?_⟩
    have st := same_new ht (.tup [.int a, .int b, .ref pc])
    exact putTail _ (.ref t) ⟨a, b, e.codes⟩ (hd4.same st) (k4.trans (.of_same st)) (.tup upd_same (.cons (.int _) (.cons (.int _) (.cons (.tup (st _ _ (kt4 _ _ epc)) ((lc.keep' kt4).keep' (.same st))) .nil)))) (by show e.codes.length ≤ 60; omega)
  refine ⟨_, rfl, rfl, _, rfl, ite2 (fun _ => ?_) (fun _ => ?_)⟩
  · refine ⟨_, rfl, _, rfl, _, rfl, pp, _, _, .ref pe, rfl, rfl, SqT.of epp2, atI_nat hv, by show 1 ≤ sizeLine; decide, fun t ht => ?_⟩
    have st := same_new ht (.tup [.ref pe])
    refine rdCatX (st _ _ epp2) upd_same (by show _ + 1 ≤ 1000; omega) fun t8 H8 s8 e8 => ?_
    have s28 := st.trans s8
    refine fin t8 H8 _ (p ++ [e]) (hd2.same s28) (k02.trans (.of_same s28)) e8 ?_ ?_ fun x hx => ?_
    · rw [List.map_append]
      exact (lp2.keep' (.same s28)).app (.cons ((hpe ▸ le).keep' (.same s28)) .nil)
    · rw [List.length_append]; show p.length + 1 ≤ 10; omega
    · rcases List.mem_append.mp hx with h | h
      · exact c60 x h
      · rw [List.mem_singleton.mp h]; exact c60 e mem
  refine ⟨_, rfl, rfl, _, rfl, ite2 (fun _ => ?_) (fun _ => ?_)⟩
  · refine ⟨_, rfl, _, rfl, _, rfl, ?_⟩
    try delta tNoPart
    refine rdSlX epp2 fun t4 H4 s4 e4 => ?_
    rw [cutV_from] at e4
    refine ⟨_, rfl, _, rfl, _, rfl, ?_⟩
    try delta tNoPart
    refine rdSlX (s4 _ _ epp2) fun t7 H7 s7 e7 => ?_
    rw [cutV_to] at e7
    refine rdCatX (s7 _ _ e4) e7 (by rw [List.length_take, List.length_drop]; omega) fun t8 H8 s8 e8 => ?_
    have s28 := (s4.trans s7).trans s8
    refine fin t8 H8 _ (p.drop k ++ p.take k) (hd2.same s28) (k02.trans (.of_same s28)) e8 ?_ ?_ fun x hx => ?_
    · rw [List.map_append, List.map_take, List.map_drop]
      exact (layDrop _ _ _ (lp2.keep' (.same s28))).app (layTake _ _ _ (lp2.keep' (.same s28)))
    · rw [List.length_append, List.length_take, List.length_drop]; omega
    · rcases List.mem_append.mp hx with h | h
      · exact c60 x (List.mem_of_mem_drop h)
      · exact c60 x (List.mem_of_mem_take h)
  refine ⟨_, rfl, rfl, _, rfl, ite2 (fun _ => ?_) (fun _ => ?_)⟩
  · refine ⟨_, rfl, _, rfl, _, rfl, _, rfl, _, rfl, pg, _, _, .ref pr, rfl, rfl, SqT.of at2.top, atI_nat (j := 3) rfl, pr, vr, rfl, .inr (SqT.of at2.hr), _, rfl, _, _, rfl, rfl, _, rfl, _, rfl, _, _, rfl, rfl, by show 5 ≤ sizeLine; decide, fun L hL => ?_⟩
    have sL := same_new hL (.lst (([-1, (vr.length : Int), 0, e.reg + 1, -e.reg - 1] : List Int).map V.int))
    refine ⟨d, c, L, ([-1, (vr.length : Int), 0, e.reg + 1, -e.reg - 1] : List Int).map V.int, rfl, hd2.same sL, (hd2.new hL).1, SqL.of upd_same, by show 1 ≤ 5; decide, by show 5 ≤ 1000; decide, fun z y H4 hy hd4 k4 => ?_⟩
    obtain ⟨u, _, rfl⟩ := mapAt hy
    have k24 : Keep [d] H2 H4 := (Keep.of_same sL).trans k4
    exact ⟨_, rfl, _, rfl, entTail H4 u e.wid hd4 (k02.trans k24) (k24.tup1 hd2)⟩
  refine ⟨_, rfl, rfl, _, rfl, ite2 (fun _ => ?_) (fun _ => ?_)⟩
  · refine ⟨_, rfl, _, rfl, _, rfl, _, rfl, _, rfl, _, _, rfl, rfl, _, rfl, _, _, rfl, rfl, _, rfl, by show 6 ≤ sizeLine; decide, fun L hL => ?_⟩
    have sL := same_new hL (.lst (([0, 9, e.wid - 1, e.wid + 1, -1, 8] : List Int).map V.int))
    refine ⟨d, c, L, ([0, 9, e.wid - 1, e.wid + 1, -1, 8] : List Int).map V.int, rfl, hd2.same sL, (hd2.new hL).1, SqL.of upd_same, by show 1 ≤ 6; decide, by show 6 ≤ 1000; decide, fun z y H4 hy hd4 k4 => ?_⟩
    obtain ⟨u, _, rfl⟩ := mapAt hy
    have k24 : Keep [d] H2 H4 := (Keep.of_same sL).trans k4
    exact ⟨_, rfl, entTail H4 e.reg u hd4 (k02.trans k24) (k24.tup1 hd2)⟩
  · obtain ⟨r0, qr, hr0, hvr, hqr⟩ := regAt at2.lr (show j < G.rs.length from (List.getElem?_eq_some_iff.mp hr9).1)
    obtain rfl : r0 = r := Option.some.inj (hr0.symm.trans hr9)
    obtain ⟨w1, w8, _⟩ := ok.regs _ (List.mem_of_getElem? hr9)
    refine ⟨_, rfl, _, rfl, _, rfl, _, rfl, _, rfl, _, rfl, pg, _, _, .ref pr, rfl, rfl, SqT.of at2.top, atI_nat (j := 3) rfl, _, rfl, pr, vr, _, .ref qr, rfl, rfl, SqT.of at2.hr, (by rw [hj]; exact atI_nat hvr), qr, _, _, _, rfl, rfl, SqT.of hqr, atI_nat (j := 1) rfl, _, rfl, _, rfl, ?_⟩
    refine ⟨d, c, pc, vc, e.codes, r0.2.1, e.wid.toNat, by rw [show vI e.wid.toNat = V.int e.wid from congrArg V.int (by omega)], hd2, epc, lc, hc1, by omega, w8, by omega, fun y cs' H4 hd4 k4 ly hl => ?_⟩
    refine ⟨by show 3 ≤ sizeLine; decide, fun t ht => ?_⟩
    have st := same_new ht (.tup [.int e.reg, .int e.wid, y])
    exact putTail _ (.ref t) ⟨e.reg, e.wid, cs'⟩ (hd4.same st) ((k02.trans k4).trans (.of_same st)) (.tup upd_same (.cons (.int _) (.cons (.int _) (.cons (ly.keep' (.same st)) .nil)))) (by show cs'.length ≤ 60; omega)
end
end Bf

set_option Elab.async false
set_option linter.all false
set_option maxRecDepth 100000
set_option maxHeartbeats 4000000
namespace Bf
open PySem PySem.Spec PyProof.Rows L2
open Sem (wp)
/-! ### tuple(zip(a, b)) of two lists of one length: each pair is a new tuple -/
theorem nolen_zip : typeLookup (.type "zip") "__len__" = pure none := by rw [typeLookup_type, builtinLookup_eq_fast]; kernel_rfl
theorem nohint_zip : typeLookup (.type "zip") "__length_hint__" = pure none := by rw [typeLookup_type, builtinLookup_eq_fast]; kernel_rfl
theorem nA {z S : Nat} (j : Nat) (h : z < S) : S + 1 + j ≠ z := by omega
theorem nB {z S : Nat} (h : z < S) : S ≠ z := by omega
theorem nC (S j : Nat) : S + 1 + j ≠ S := by omega
def zRefs (S i : Nat) : List Value := (List.range i).map fun j => .ref (S + 1 + j)
theorem zRefs_succ (S i : Nat) : zRefs S (i + 1) = zRefs S i ++ [.ref (S + 1 + i)] := by
  unfold zRefs
  rw [List.range_succ, List.map_append]
  rfl
theorem zRefs_length (S i : Nat) : (zRefs S i).length = i := by unfold zRefs; simp
structure ZJ (z TI TO i1 i2 l1 l2 S : Addr) (xs ys : Array Value) (i : Nat) (h : Heap) : Prop where
  pTI : IsPair h TI (.ref i1) (.ref i2)
  p1 : h.IsListIter i1 l1 i
  p2 : h.IsListIter i2 l2 i
  q1 : h.IsList l1 xs
  q2 : h.IsList l2 ys
  zz : (i = 0 ∧ IsZip h z TI TO .none ∧ ∃ a b, IsPair h TO a b) ∨ (0 < i ∧ ∃ f, IsZipHeld h z TI TO (S + 1) f)
  sz : h.objs.size = S + 1 + i
  it : ∀ j x y, j < i → xs[j]? = some x → ys[j]? = some y → IsPair h (S + 1 + j) x y
structure ZLt (z TI TO i1 i2 l1 l2 S : Addr) : Prop where
  a : z < S
  b : TI < S
  c : TO < S
  d : i1 < S
  e : i2 < S
  f : l1 < S
  g : l2 < S
section
variable {prog : Program} {w : World} {A : Around} {R : Result → Shared → Prop} {z TI TO i1 i2 l1 l2 S : Addr} {xs ys : Array Value}
theorem ZJ.stay {i : Nat} {h h' : Heap} (J : ZJ z TI TO i1 i2 l1 l2 S xs ys i h) (L : ZLt z TI TO i1 i2 l1 l2 S) (k : ∀ c o, c ≠ S → h.get? c = some o → h'.get? c = some o) (hs : h'.objs.size = h.objs.size) : ZJ z TI TO i1 i2 l1 l2 S xs ys i h' := by
  refine ⟨k _ _ (Nat.ne_of_lt L.b) J.pTI, J.p1.at fun o e => k _ o (Nat.ne_of_lt L.d) e, J.p2.at fun o e => k _ o (Nat.ne_of_lt L.e) e, J.q1.at fun o e => k _ o (Nat.ne_of_lt L.f) e, J.q2.at fun o e => k _ o (Nat.ne_of_lt L.g) e, ?_, hs.trans J.sz, fun j x y hj e1 e2 => k _ _ (nC S j) (J.it j x y hj e1 e2)⟩
  rcases J.zz with ⟨e, hz, a, b, ht⟩ | ⟨e, f, hz⟩
  · exact .inl ⟨e, k _ _ (Nat.ne_of_lt L.a) hz, a, b, k _ _ (Nat.ne_of_lt L.c) ht⟩
  · exact .inr ⟨e, f, k _ _ (Nat.ne_of_lt L.a) hz⟩
theorem zip_item {i : Nat} {s : Shared} {x y : Value} {Q : Option Value → Shared → Prop} {E : Value → Shared → Prop} (D : ZipApart z TI TO i1 i2 l1 l2) (L : ZLt z TI TO i1 i2 l1 l2 S) (J : ZJ z TI TO i1 i2 l1 l2 S xs ys i s.heap) (hx : xs[i]? = some x) (hy : ys[i]? = some y)
    (hQ : ∀ h', ZJ z TI TO i1 i2 l1 l2 S xs ys (i + 1) h' → (∀ c o, c ≠ z → c ≠ TO → c ≠ i1 → c ≠ i2 → s.heap.get? c = some o → h'.get? c = some o) → Q (some (.ref (S + 1 + i))) { s with heap := h' }) :
    wpAny (model prog w) A (pyNext (.ref z)) Q E s := by
  have La := L.a
  have Lb := L.b
  have Lc := L.c
  have Ld := L.d
  have Le := L.e
  have fin : ∀ h', IsPair h' TI (.ref i1) (.ref i2) → h'.IsListIter i1 l1 (i + 1) → h'.IsListIter i2 l2 (i + 1) → (∃ f, IsZipHeld h' z TI TO (S + 1) f) → IsPair h' s.heap.objs.size x y → h'.objs.size = s.heap.objs.size + 1 →
      (∀ c o, c ≠ z → c ≠ TO → c ≠ i1 → c ≠ i2 → s.heap.get? c = some o → h'.get? c = some o) → Q (some (.ref s.heap.objs.size)) { s with heap := h' } := by
    intro h' a1 a2 a3 a4 a5 a6 hk
    rw [J.sz]
    refine hQ h' ⟨a1, a2, a3, J.q1.at fun o e => hk _ o D.l1z D.l1TO D.l1i1 D.l1i2 e, J.q2.at fun o e => hk _ o D.l2z D.l2TO D.l2i1 D.l2i2 e, .inr ⟨Nat.succ_pos _, a4⟩, by rw [a6, J.sz]; rfl, fun j u v hj e1 e2 => ?_⟩ hk
    by_cases hji : j = i
    · subst hji
      rw [hx] at e1
      rw [hy] at e2
      cases e1
      cases e2
      rw [J.sz] at a5
      exact a5
    · exact hk _ _ (nA j La) (nA j Lc) (nA j Ld) (nA j Le) (J.it j u v (by omega) e1 e2)
  rcases J.zz with ⟨rfl, hz, a, b, hTO⟩ | ⟨hi, f, hz⟩
  · refine wpAny_pyNext_zip_item D hz J.pTI hTO J.p1 J.p2 J.q1 J.q2 hx hy fun h' a1 a2 a3 a4 a5 a6 hk => ?_
    refine fin h' (hk _ _ D.TIz D.TITO D.TIi1 D.TIi2 J.pTI) a3 a4 ⟨false, ?_⟩ a5 a6 hk
    rw [J.sz] at a1
    exact a1
  · have h0 : 0 < xs.size := by
      obtain ⟨q, _⟩ := Array.getElem?_eq_some_iff.mp hx
      omega
    have h1 : 0 < ys.size := by
      obtain ⟨q, _⟩ := Array.getElem?_eq_some_iff.mp hy
      omega
    have hT := J.it 0 _ _ hi (Array.getElem?_eq_getElem h0) (Array.getElem?_eq_getElem h1)
    refine wpAny_pyNext_zip_item_held D hz hT J.pTI J.p1 J.p2 J.q1 J.q2 hx hy fun h' a1 a3 a4 a5 a6 hk => ?_
    exact fin h' (hk _ _ D.TIz D.TIi1 D.TIi2 J.pTI) a3 a4 ⟨true, a1⟩ a5 a6 fun c o c1 _ c3 c4 e => hk c o c1 c3 c4 e
theorem zip_end {i : Nat} {s : Shared} {Q : Option Value → Shared → Prop} {E : Value → Shared → Prop} (hh : A.handled = none) (D : ZipApart z TI TO i1 i2 l1 l2) (J : ZJ z TI TO i1 i2 l1 l2 S xs ys i s.heap) (he : xs.size = ys.size) (hi : i = xs.size)
    (hQ : ∀ h', (∀ c o, c ≠ z → c ≠ TO → c ≠ i1 → c ≠ i2 → s.heap.get? c = some o → h'.get? c = some o) → Q none { s with heap := h' }) :
    wpAny (model prog w) A (pyNext (.ref z)) Q E s := by
  have hend : xs[i]? = none ∨ ys[i]? = none := .inl (Array.getElem?_eq_none (by omega))
  rcases J.zz with ⟨e0, hz, a, b, hTO⟩ | ⟨h0, f, hz⟩
  · exact wpAny_pyNext_zip_end hh D hz J.pTI hTO J.p1 J.p2 J.q1 J.q2 hend hQ
  · have hT := J.it 0 _ _ h0 (Array.getElem?_eq_getElem (by omega : 0 < xs.size)) (Array.getElem?_eq_getElem (by omega : 0 < ys.size))
    exact wpAny_pyNext_zip_end_held hh D hz hT J.pTI J.p1 J.p2 J.q1 J.q2 hend fun h' hk => hQ h' fun c o c1 _ c3 c4 e => hk c o c1 c3 c4 e
theorem codeAny_extend_zip (hh : A.handled = none) (D : ZipApart z TI TO i1 i2 l1 l2) (L : ZLt z TI TO i1 i2 l1 l2 S) (he : xs.size = ys.size) (hn : xs.size ≤ sizeLine) (res : Value) :
    ∀ (k i : Nat) (s : Shared) (acc : Array Value) (c : Nat), xs.size - i = k → i ≤ xs.size → ZJ z TI TO i1 i2 l1 l2 S xs ys i s.heap → s.heap.get? S = some { cls := .type "list", dict := none, data := .seq acc c, slots := #[] } → acc.toList = zRefs S i →
    (∀ h' acc' c', h'.get? S = some { cls := .type "list", dict := none, data := .seq acc' c', slots := #[] } → acc'.toList = zRefs S xs.size → (∀ j x y, xs[j]? = some x → ys[j]? = some y → IsPair h' (S + 1 + j) x y) →
      (∀ c o, c ≠ z → c ≠ TO → c ≠ i1 → c ≠ i2 → c ≠ S → s.heap.get? c = some o → h'.get? c = some o) → R (.ok (.ret res)) { s with heap := h' }) →
    codeAny (model prog w) A (.builtin "list.extend.loop" ⟨[.ref S, .ref z, res], []⟩) R s := by
  have La := L.a
  have Lb := L.b
  have Lc := L.c
  have Ld := L.d
  have Le := L.e
  intro k
  induction k with
  | zero =>
    intro i s acc c hk hi J hS hacc hR
    have hin : i = xs.size := by omega
    refine codeAny_builtin F.entry_extend_loop ?_
    rw [Around.under_plainId F.plain_extend_loop _]
    show wpAny _ A.in1 (pyNext (.ref z) >>= _) _ _ s
    refine wpAny_bind (zip_end (A := A.in1) hh D J he hin fun h' hk' => ?_)
    have it := J.it
    subst hin
    refine wpAny_pure (hR h' acc c (hk' S _ (nB La) (nB Lc) (nB Ld) (nB Le) hS) hacc (fun j x y e1 e2 => ?_) fun c o c1 c2 c3 c4 _ e => hk' c o c1 c2 c3 c4 e)
    have hj : j < xs.size := (Array.getElem?_eq_some_iff.mp e1).1
    exact hk' _ _ (nA j La) (nA j Lc) (nA j Ld) (nA j Le) (it j x y hj e1 e2)
  | succ k ih =>
    intro i s acc c hk hi J hS hacc hR
    have hlt : i < xs.size := by omega
    have hsz : acc.size = i := by
      rw [← Array.length_toList, hacc, zRefs_length]
    refine codeAny_builtin F.entry_extend_loop ?_
    rw [Around.under_plainId F.plain_extend_loop _]
    show wpAny _ A.in1 (pyNext (.ref z) >>= _) _ _ s
    refine wpAny_bind (zip_item (A := A.in1) D L J (Array.getElem?_eq_getElem hlt) (Array.getElem?_eq_getElem (by omega : i < ys.size)) fun h' J' hk' => ?_)
    have hS' : h'.get? S = some { cls := .type "list", dict := none, data := .seq acc c, slots := #[] } := hk' S _ (nB La) (nB Lc) (nB Ld) (nB Le) hS
    show wpAny _ A.in1 (updateSeq S (·.push (.ref (S + 1 + i))) >>= _) _ _ _
    refine wpAny_bind ?_
    refine wpAny_updateSeq hS' rfl (wpAny_pure ⟨plainId_quiet F.plain_extend_loop _, ih (i + 1) _ (acc.push (.ref (S + 1 + i))) _ (by omega) hlt (J'.stay L (fun b o hb e => (Heap.get?_update_other _ _ (Ne.symm hb)).trans e) (by rw [Heap.size_update])) (Heap.get?_update_self _ hS' rfl) (by rw [Array.toList_push, hacc, zRefs_succ]) fun h'' acc' c' e1 e2 e3 e4 => ?_⟩)
      (by rw [hsz]; omega) (by show (acc.push _).size ≤ sizeLine + 1; rw [Array.size_push, hsz]; omega)
    exact hR h'' acc' c' e1 e2 e3 fun b o b1 b2 b3 b4 b5 e => e4 b o b1 b2 b3 b4 b5 ((Heap.get?_update_other _ _ (Ne.symm b5)).trans (hk' b o b1 b2 b3 b4 e))
end

section
variable {prog : Program} {w : World} {A : Around} {E : Value → Shared → Prop} {s : Shared} {z TI TO i1 i2 l1 l2 : Addr} {xs ys : Array Value}
/-- what the new list of pairs leaves behind -/
def ZDone (z TO i1 i2 : Addr) (S : Addr) (xs ys : Array Value) (h h' : Heap) : Prop :=
  (∀ j x y, xs[j]? = some x → ys[j]? = some y → IsPair h' (S + 1 + j) x y) ∧ ∀ c o, c ≠ z → c ≠ TO → c ≠ i1 → c ≠ i2 → c ≠ S → h.get? c = some o → h'.get? c = some o
theorem collect_zip {Q : List Value → Shared → Prop} (hh : A.handled = none) (D : ZipApart z TI TO i1 i2 l1 l2) (L : ZLt z TI TO i1 i2 l1 l2 s.heap.objs.size) (he : xs.size = ys.size) (hn : xs.size ≤ sizeLine)
    (pTI : IsPair s.heap TI (.ref i1) (.ref i2)) (p1 : s.heap.IsListIter i1 l1 0) (p2 : s.heap.IsListIter i2 l2 0) (q1 : s.heap.IsList l1 xs) (q2 : s.heap.IsList l2 ys) (hz : IsZip s.heap z TI TO .none) (hTO : ∃ a b, IsPair s.heap TO a b)
    (hQ : ∀ h', ZDone z TO i1 i2 s.heap.objs.size xs ys s.heap h' → Q (zRefs s.heap.objs.size xs.size) { s with heap := h' }) : wpAny (model prog w) A (collect (.ref z)) Q E s := by
  unfold collect
  refine wpAny_bind (wpAny_runValue (codeAny_builtin F.entry_proto_collect ?_))
  rw [Around.under_plainId F.plain_proto_collect _]
  show wpAny _ A.in1 (newList [] >>= fun l => again (.builtin "list.__iadd__" ⟨[l, .ref z], []⟩)) _ _ s
  refine wpAny_bind (wpAny_newObj_type ?_)
  refine wpAny_pure ⟨plainId_quiet F.plain_list_iadd _, codeAny_builtin F.entry_list_iadd ?_⟩
  rw [Around.under_plainId F.plain_list_iadd _]
  have J0 : ZJ z TI TO i1 i2 l1 l2 s.heap.objs.size xs ys 0 (s.heap.push { cls := .type "list", data := .seq ([] : List Value).toArray }) := by
    refine ⟨Heap.get?_push_of_some _ pTI, p1.at fun o e => Heap.get?_push_of_some _ e, p2.at fun o e => Heap.get?_push_of_some _ e, q1.at fun o e => Heap.get?_push_of_some _ e, q2.at fun o e => Heap.get?_push_of_some _ e, .inl ⟨rfl, Heap.get?_push_of_some _ hz, ?_⟩, Heap.size_push .., fun j x y hj => absurd hj (Nat.not_lt_zero _)⟩
    obtain ⟨a, b, e⟩ := hTO
    exact ⟨a, b, Heap.get?_push_of_some _ e⟩
  have hT : ({ s with heap := s.heap.push { cls := .type "list", data := .seq ([] : List Value).toArray } } : Shared).TypeIs (.ref z) "zip" := ⟨_, Heap.get?_push_of_some _ hz, rfl⟩
  show wpAny _ A.in1 (Builtin.List.listExtendWith (.ref s.heap.objs.size) (.ref z) (.ref s.heap.objs.size)) _ _ _
  unfold Builtin.List.listExtendWith
  refine wpAny_bind (wpAny_typeOf hT ?_)
  have hSI : s.heap.objs.size ≠ z := Nat.ne_of_gt L.a
  have h1 : Builtin.List.listSameRef (.ref s.heap.objs.size) (.ref z) = false := by simp [Builtin.List.listSameRef, hSI]
  have h2 : (Value.type "zip" == Value.type "list") = false := by decide
  have h3 : (Value.type "zip" == Value.type "tuple") = false := by decide
  simp only [h1, h2, h3, Bool.or_false, Bool.false_eq_true, if_false]
  refine wpAny_bind (wpAny_pyIter_zip (Heap.get?_push_of_some _ hz) ?_)
  refine wpAny_bind (wpAny_holding ?_)
  unfold Builtin.List.listLengthHint
  refine wpAny_bind (wpAny_specialOf hT nolen_zip ?_)
  show wpAny _ A.in1 (specialOf (Value.ref z) (Str.ofString "__length_hint__") >>= _) _ _ _
  refine wpAny_bind (wpAny_specialOf hT nohint_zip ?_)
  refine wpAny_pure ?_
  show wpAny _ A.in1 (rule "list.extend.makes-room" >>= fun _ => Builtin.List.listTouch (.ref s.heap.objs.size) >>= fun _ =>
    again (.builtin "list.extend.loop" ⟨[.ref s.heap.objs.size, .ref z, .ref s.heap.objs.size], []⟩)) _ _ _
  refine wpAny_bind (wpAny_rule ?_)
  have hS₁ : (s.heap.push { cls := .type "list", data := .seq ([] : List Value).toArray }).get? s.heap.objs.size = some { cls := .type "list", data := .seq ([] : List Value).toArray } := Heap.get?_push_size _ rfl
  refine wpAny_bind ?_
  show wpAny _ A.in1 (updateSeq s.heap.objs.size (·.push .none) >>= fun _ => updateSeq s.heap.objs.size (·.pop)) _ _ _
  refine wpAny_bind (wpAny_updateSeq hS₁ rfl ?_)
  have hS₂ := Heap.get?_update_self (Obj.mapSeq (·.push Value.none)) hS₁ rfl
  refine wpAny_updateSeq hS₂ rfl ?_
  have hS₃ := Heap.get?_update_self (Obj.mapSeq (·.pop)) hS₂ rfl
  have oth : ∀ b o, b ≠ s.heap.objs.size → (s.heap.push { cls := .type "list", data := .seq ([] : List Value).toArray }).get? b = some o →
      (((s.heap.push { cls := .type "list", data := .seq ([] : List Value).toArray }).update s.heap.objs.size (Obj.mapSeq (·.push Value.none))).update s.heap.objs.size (Obj.mapSeq (·.pop))).get? b = some o :=
    fun b o hb e => (Heap.get?_update_other _ _ (Ne.symm hb)).trans ((Heap.get?_update_other _ _ (Ne.symm hb)).trans e)
  refine wpAny_pure ⟨plainId_quiet F.plain_extend_loop _, codeAny_extend_zip hh D L he hn _ xs.size 0 _ _ _ rfl (Nat.zero_le _)
    (J0.stay L oth (by rw [Heap.size_update, Heap.size_update])) hS₃ rfl fun h' acc' c' e1 e2 e3 e4 => ?_⟩
  show wpAny _ A (load s.heap.objs.size >>= _) _ _ _
  refine wpAny_bind (wpAny_load e1 ?_)
  have e5 : acc'.toList = zRefs s.heap.objs.size xs.size := e2
  show wpAny _ A (pure acc'.toList) _ _ _
  rw [e5]
  exact wpAny_pure (hQ h' ⟨e3, fun c o c1 c2 c3 c4 c5 e => e4 c o c1 c2 c3 c4 c5 (oth c o c5 (Heap.get?_push_of_some _ e))⟩)
theorem code_tuple_new_zip {Q₁ : Value → Shared → Prop} (hh : A.handled = none) (D : ZipApart z TI TO i1 i2 l1 l2) (L : ZLt z TI TO i1 i2 l1 l2 s.heap.objs.size) (he : xs.size = ys.size) (hn : xs.size ≤ sizeLine)
    (pTI : IsPair s.heap TI (.ref i1) (.ref i2)) (p1 : s.heap.IsListIter i1 l1 0) (p2 : s.heap.IsListIter i2 l2 0) (q1 : s.heap.IsList l1 xs) (q2 : s.heap.IsList l2 ys) (hz : IsZip s.heap z TI TO .none) (hTO : ∃ a b, IsPair s.heap TO a b)
    (h : ∀ h', ZDone z TO i1 i2 s.heap.objs.size xs ys s.heap h' → Q₁ (.ref h'.objs.size) { s with heap := h'.push { cls := .type "tuple", data := .seq (zRefs s.heap.objs.size xs.size).toArray } }) :
    codeAny (model prog w) A (.call (.builtin "tuple.__new__") ⟨[.type "tuple", .ref z], []⟩) (wants Q₁ E) s := by
  refine codeAny_of_tree ?_
  show wpAny _ A.in1 (do checkBuiltinCall "tuple.__new__" ⟨[.type "tuple", .ref z], []⟩; again (.builtin "tuple.__new__" ⟨[.type "tuple", .ref z], []⟩)) _ _ s
  refine wpAny_bind (wpAny_of_eq (F.newCall_tuple_1 _) (wpAny_pure ⟨plainId_quiet F.plain_tuple_new _, codeAny_builtin F.entry_tuple_new ?_⟩))
  rw [Around.under_plainId F.plain_tuple_new _]
  have hsub := sub_tuple_self
  have hinit := init_tuple_lookup
  have hmh := madeHere_tuple
  have hTI : s.TypeIs (.ref z) "zip" := ⟨_, hz, rfl⟩
  have hh1 : A.in1.handled = none := hh
  wp_walk using wpAny_typeOf hTI, collect_zip (A := A.in1) hh1 D L he hn pTI p1 p2 q1 q2 hz hTO
  intro h' hk
  show wpAny _ _ (Builtin.Tuple.tupleExact (zRefs s.heap.objs.size xs.size).toArray >>= fun v => ret v) _ _ _
  unfold Builtin.Tuple.tupleExact
  refine wpAny_bind (wpAny_newObj_type ?_ (by show (zRefs s.heap.objs.size xs.size).toArray.size ≤ sizeLine; rw [List.size_toArray, zRefs_length]; exact hn))
  refine wpAny_pure ?_
  exact h h' hk
theorem call_tuple_zip {Q : Value → Shared → Prop} (hh : A.handled = none) (D : ZipApart z TI TO i1 i2 l1 l2) (L : ZLt z TI TO i1 i2 l1 l2 s.heap.objs.size) (he : xs.size = ys.size) (hn : xs.size ≤ sizeLine)
    (pTI : IsPair s.heap TI (.ref i1) (.ref i2)) (p1 : s.heap.IsListIter i1 l1 0) (p2 : s.heap.IsListIter i2 l2 0) (q1 : s.heap.IsList l1 xs) (q2 : s.heap.IsList l2 ys) (hz : IsZip s.heap z TI TO .none) (hTO : ∃ a b, IsPair s.heap TO a b)
    (hQ : ∀ h', ZDone z TO i1 i2 s.heap.objs.size xs ys s.heap h' → Q (.ref h'.objs.size) { s with heap := h'.push { cls := .type "tuple", data := .seq (zRefs s.heap.objs.size xs.size).toArray } }) :
    wpAny (model prog w) A (call (.type "tuple") [.ref z]) Q E s := by
  refine callType_codes (Q₁ := fun obj s₁ => s₁.TypeIs obj "tuple" ∧ Q obj s₁) F.called_tuple (F.typeCall_tuple_1 _) F.entry_object_init
    (code_tuple_new_zip (A := A.in1) hh D L he hn pTI p1 p2 q1 q2 hz hTO fun h' hk => ⟨⟨_, Heap.get?_push_size _ rfl, rfl⟩, hQ h' hk⟩) fun obj s₁ h₁ => ?_
  exact ⟨h₁.1, F.args_object_init_2 obj _, object_init_meets F.called_tuple.init.lookup F.called_tuple.made (by decide) prog w A.in1 _ s₁ ⟨h₁.1, rfl, h₁.2⟩⟩
end
/-- several new tuples laid at once -/
theorem inv_many {X : Cx} {pins : List (Addr × Obj)} {σ : L2.St} {H H' : Hp} {s : Shared} {h' : Heap} {t' : Nat} (I : Inv X pins σ H s) (k : ∀ b u, s.heap.get? b = some u → h'.get? b = some u) (hx : ∀ b o, H b = some o → H' b = some o)
    (new : ∀ b o, H' b = some o → H b = none → s.heap.objs.size ≤ b ∧ ObjOk X.prog X.w H' h' b o) : Inv X pins σ H' { s with heap := h', toks := t' } := by
  refine I.un ⟨fun b o e _ _ _ => k b o e, fun b o e _ _ _ => ⟨o.slots, k b o e⟩, fun b o e n _ => ?_, fun b o e _ => ⟨o, k b o e⟩, fun b xs e => hx b _ e, fun b o u e => hx b _ e, fun b ps e => ⟨#[], by rw [hx b _ e]; simp⟩⟩ fun b u e => ?_
  · cases q : H' b with
    | none => rfl
    | some u => exact absurd (Nat.lt_of_lt_of_le (Heap.lt_size e) (new b u q n).1) (Nat.lt_irrefl _)
  · cases q : H b with
    | none => exact (new b u e q).2
    | some u' =>
      have := hx b u' q
      rw [e] at this
      cases this
      exact (I.hok b u q).stay (fun c v _ z => k c v z) (fun c z => hx c _ z) fun c xs z => hx c _ z
end Bf

set_option Elab.async false
set_option linter.all false
set_option maxRecDepth 100000
set_option maxHeartbeats 4000000
namespace Bf
open PySem PySem.Spec PyProof.Rows L2
def tTupZip (K : PySem.W.Frag) (ta : TA) : TE := fun σ H Q => ta σ H fun vs H1 => ∃ a b xs ys, vs = [.ref a, .ref b] ∧ SqL K H1 a xs ∧ SqL K H1 b ys ∧ xs.length = ys.length ∧
  ∀ (H' : Hp) (q : Addr) (ps : List Addr), (∀ b o, H1 b = some o → H' b = some o) → H1 q = none → H' q = some (.tup (ps.map V.ref)) → ps.length = xs.length →
    (∀ (j : Nat) (x y : V), xs[j]? = some x → ys[j]? = some y → ∃ p, ps[j]? = some p ∧ H' p = some (.tup [x, y])) → Q (.ref q) H'
def zHp (H : Hp) (S q : Nat) (xs ys : List V) : Hp := fun b => if b = q then some (.tup ((List.range xs.length).map fun j => V.ref (S + 1 + j))) else if (S + 1 ≤ b) ∧ b - (S + 1) < xs.length then
  (match xs[b - (S + 1)]?, ys[b - (S + 1)]? with | some x, some y => some (.tup [x, y]) | _, _ => none) else H b
theorem zHp_q (H : Hp) (S q : Nat) (xs ys : List V) : zHp H S q xs ys q = some (.tup ((List.range xs.length).map fun j => V.ref (S + 1 + j))) := by unfold zHp; rw [if_pos rfl]
theorem zHp_at {H : Hp} {S q : Nat} {xs ys : List V} {j : Nat} {x y : V} (hx : xs[j]? = some x) (hy : ys[j]? = some y) (hq : q ≠ S + 1 + j) : zHp H S q xs ys (S + 1 + j) = some (.tup [x, y]) := by
  have hj := (List.getElem?_eq_some_iff.mp hx).1
  unfold zHp
  rw [if_neg (Ne.symm hq), if_pos ⟨Nat.le_add_right _ _, by rw [Nat.add_sub_cancel_left]; exact hj⟩, show S + 1 + j - (S + 1) = j from Nat.add_sub_cancel_left .., hx, hy]
theorem zHp_old {H : Hp} {S q : Nat} {xs ys : List V} {b : Addr} (h1 : b ≠ q) (h2 : b < S + 1) : zHp H S q xs ys b = H b := by
  unfold zHp
  rw [if_neg h1, if_neg fun z => Nat.not_lt.mpr z.1 h2]
theorem zHp_new {H : Hp} {S q : Nat} {xs ys : List V} {b : Addr} {o : HO} (h : zHp H S q xs ys b = some o) (n : H b = none) : (b = q ∧ o = .tup ((List.range xs.length).map fun j => V.ref (S + 1 + j))) ∨ ∃ j x y, b = S + 1 + j ∧ xs[j]? = some x ∧ ys[j]? = some y ∧ o = .tup [x, y] := by
  unfold zHp at h
  split at h
  · exact .inl ⟨‹_›, (Option.some.inj h).symm⟩
  · split at h
    · rename_i hb
      split at h
      · rename_i x y e1 e2
        have e3 : b = S + 1 + (b - (S + 1)) := (Nat.add_sub_of_le hb.1).symm
        exact .inr ⟨b - (S + 1), x, y, e3, e1, e2, (Option.some.inj h).symm⟩
      · cases h
    · rw [n] at h
      cases h
theorem vals_zRefs (S n : Nat) : Vals ((List.range n).map fun j => V.ref (S + 1 + j)) (zRefs S n) := by
  unfold zRefs
  generalize List.range n = l
  induction l with
  | nil => exact .nil
  | cons x l ih => exact .cons rfl ih
theorem pe_tupZip {X : Cx} {e e2 : Expr} {ta : TA} {p pos p2 pos2 : Pos} (hc : X.calm = true) (hg : Gl X "tuple") (hm : X.mg "tuple" = none) (hg2 : Gl X "zip") (hm2 : X.mg "zip" = none) (ha : PA X [e, e2] ta)
    (na : starEach [.Call (.Name "zip" p2) [e, e2] [] pos2] X.env = (false, eval (.Call (.Name "zip" p2) [e, e2] [] pos2) X.env) :: starEach [] X.env := by rfl)
    (hs : starEach [e, e2] X.env = (false, eval e X.env) :: starEach [e2] X.env := by rfl) (hpl : (backTo pos2 (starEach [e2] X.env)).any (·.1) = false := by rfl) :
    PE X (.Call (.Name "tuple" p) [.Call (.Name "zip" p2) [e, e2] [] pos2] [] pos) (tTupZip X.K ta) := by
  refine ⟨fun pins s σ H Q I h => ?_⟩
  have inner : wpAny (model X.prog X.w) X.A (eval (.Call (.Name "zip" p2) [e, e2] [] pos2) X.env) (fun v s' => ∃ (s1 : Shared) (H1 : Hp) (a b : Addr) (xs ys : List V) (its its2 : List Value) (h' : Heap), s' = { s1 with heap := h' } ∧ v = .ref (s1.heap.objs.size + 4) ∧
      Inv X pins σ H1 s1 ∧ Vals xs its ∧ Vals ys its2 ∧ s1.heap.IsList a its.toArray ∧ s1.heap.IsList b its2.toArray ∧ a < s1.heap.objs.size ∧ b < s1.heap.objs.size ∧ xs.length ≤ sizeLine ∧
      IsZip h' (s1.heap.objs.size + 4) (s1.heap.objs.size + 2) (s1.heap.objs.size + 3) .none ∧ IsPair h' (s1.heap.objs.size + 2) (.ref s1.heap.objs.size) (.ref (s1.heap.objs.size + 1)) ∧ IsPair h' (s1.heap.objs.size + 3) .none .none ∧
      h'.IsListIter s1.heap.objs.size a 0 ∧ h'.IsListIter (s1.heap.objs.size + 1) b 0 ∧ h'.objs.size = s1.heap.objs.size + 5 ∧ (∀ c o, s1.heap.get? c = some o → h'.get? c = some o) ∧ xs.length = ys.length ∧
      ∀ (H' : Hp) (q : Addr) (ps : List Addr), (∀ b o, H1 b = some o → H' b = some o) → H1 q = none → H' q = some (.tup (ps.map V.ref)) → ps.length = xs.length →
        (∀ (j : Nat) (x y : V), xs[j]? = some x → ys[j]? = some y → ∃ p, ps[j]? = some p ∧ H' p = some (.tup [x, y])) → Q (.ref q) H') X.xe s := by
    refine Call_ (ld_blt I hg2 hm2 PyProof.Rows.boot_zip (PyProof.Rows.callWith_type1 (thn (ha.run pos2 pins s σ H _ I h) fun us s1 ⟨vs, H1, I1, r1, q1⟩ => ?_) hs hpl))
    obtain ⟨a, b, xs, ys, ex, hqx, hqy, hl, q1⟩ := q1
    subst ex
    cases r1 with
    | cons r rr =>
      cases rr with
      | cons r' rr =>
        cases rr
        cases r
        cases r'
        obtain ⟨its, rv, p1, hz1⟩ := I1.list hqx
        obtain ⟨its2, rv2, p2, _⟩ := I1.list hqy
        refine call_zip_2 p1.isList p2.isList fun h' hz hTI hTO h1 h2 hsz hk => ?_
        exact ⟨s1, H1, a, b, xs, ys, its, its2, h', rfl, rfl, I1, rv, rv2, p1.isList, p2.isList, p1.lt, p2.lt, hz1, hz, hTI, hTO, h1, h2, hsz, hk, hl, q1⟩
  refine Call_ (ld_blt I hg hm boot_tuple (PyProof.Rows.callWith_type1 (args_cons (thn inner fun v s' hv => args_nil ?_) na) na))
  obtain ⟨s1, H1, a, b, xs, ys, its, its2, h', rfl, rfl, I1, rv, rv2, p1, p2, la, lb, hzl, hz, hTI, hTO, h1, h2, hsz, hk, hl, q⟩ := hv
  have el1 := rv.length
  have el2 := rv2.length
  refine call_tuple_zip (s := { s1 with heap := h' }) (I1.ok.hd hc) (PySem.W.ktu_apart s1.heap.objs.size a b la lb) ⟨?_, ?_, ?_, ?_, ?_, ?_, ?_⟩ (xs := its.toArray) (ys := its2.toArray) (by rw [List.size_toArray, List.size_toArray, ← el1, ← el2, hl]) (by rw [List.size_toArray, ← el1]; exact hzl)
    hTI h1 h2 (p1.at fun o e => hk _ o e) (p2.at fun o e => hk _ o e) hz ⟨_, _, hTO⟩ fun h'' hd => ?_
  · show s1.heap.objs.size + 4 < h'.objs.size
    rw [hsz]; exact Nat.lt_succ_self _
  · show s1.heap.objs.size + 2 < h'.objs.size
    rw [hsz]; exact Nat.add_lt_add_left (by decide) _
  · show s1.heap.objs.size + 3 < h'.objs.size
    rw [hsz]; exact Nat.add_lt_add_left (by decide) _
  · show s1.heap.objs.size < h'.objs.size
    rw [hsz]; exact Nat.lt_add_of_pos_right (by decide)
  · show s1.heap.objs.size + 1 < h'.objs.size
    rw [hsz]; exact Nat.add_lt_add_left (by decide) _
  · show a < h'.objs.size
    rw [hsz]; exact Nat.lt_add_right _ la
  · show b < h'.objs.size
    rw [hsz]; exact Nat.lt_add_right _ lb
  · have hsz' : (its.toArray.size : Nat) = xs.length := by rw [List.size_toArray, el1]
    obtain ⟨hp, hkp⟩ := hd
    have hS : ({ s1 with heap := h' } : Shared).heap.objs.size = s1.heap.objs.size + 5 := hsz
    rw [hS] at hp hkp
    rw [hS, hsz']
    have lt5 : ∀ (c : Addr) (o : Obj) (k : Nat), s1.heap.get? c = some o → c ≠ s1.heap.objs.size + k := fun c o k e => Nat.ne_of_lt (Nat.lt_of_lt_of_le (Heap.lt_size e) (Nat.le_add_right _ _))
    have kept : ∀ c o, s1.heap.get? c = some o → h''.get? c = some o := fun c o e => hkp c o (lt5 c o 4 e) (lt5 c o 3 e) (lt5 c o 0 e) (lt5 c o 1 e) (lt5 c o 5 e) (hk c o e)
    have pair : ∀ j x y, xs[j]? = some x → ys[j]? = some y → ∃ u u2, RelV x u ∧ RelV y u2 ∧ IsPair h'' (s1.heap.objs.size + 5 + 1 + j) u u2 := fun j x y e1 e2 => by
      obtain ⟨u, hu, ru⟩ := rv.get e1
      obtain ⟨u2, hu2, ru2⟩ := rv2.get e2
      exact ⟨u, u2, ru, ru2, hp j u u2 (by simpa using hu) (by simpa using hu2)⟩
    have apart : ∀ j x y, xs[j]? = some x → ys[j]? = some y → h''.objs.size ≠ s1.heap.objs.size + 5 + 1 + j := fun j x y e1 e2 => by
      obtain ⟨u, u2, _, _, e⟩ := pair j x y e1 e2
      exact Nat.ne_of_gt (Heap.lt_size e)
    have fr : ∀ c, s1.heap.objs.size ≤ c → H1 c = none := fun c hc => I1.hok.fresh hc
    have le'' : s1.heap.objs.size ≤ h''.objs.size := by
      have e := hkp (s1.heap.objs.size + 2) _ (by simp) (by simp) (by simp) (by simp) (by simp) hTI
      exact Nat.le_of_lt (Nat.lt_of_le_of_lt (Nat.le_add_right _ 2) (Heap.lt_size e))
    refine ⟨.ref h''.objs.size, zHp H1 (s1.heap.objs.size + 5) h''.objs.size xs ys, ?_, rfl, q _ h''.objs.size ((List.range xs.length).map fun j => s1.heap.objs.size + 5 + 1 + j) (fun b o e => ?_) (fr _ le'') ?_ (by simp) fun j x y e1 e2 => ⟨s1.heap.objs.size + 5 + 1 + j, ?_, zHp_at e1 e2 (apart j x y e1 e2)⟩⟩
    · refine inv_many (s := s1) (t' := s1.toks) I1 (fun b u e => Heap.get?_push_of_some _ (kept b u e)) (fun b o e => ?_) fun b o e n => ?_
      · have := I1.hok.lt e
        exact (zHp_old (Nat.ne_of_lt (Nat.lt_of_lt_of_le this le'')) (Nat.lt_of_lt_of_le this (Nat.le_add_right _ 6))).trans e
      · rcases zHp_new e n with ⟨rfl, rfl⟩ | ⟨j, x, y, rfl, e1, e2, rfl⟩
        · refine ⟨le'', ?_, zRefs (s1.heap.objs.size + 5) xs.length, vals_zRefs _ _, IsTup.new _ _⟩
          simpa using hzl
        · obtain ⟨u, u2, r1, r2, e3⟩ := pair j x y e1 e2
          refine ⟨Nat.le_trans (Nat.le_add_right _ 6) (Nat.le_add_right _ _), by show 2 ≤ sizeLine; decide, [u, u2], .cons r1 (.cons r2 .nil), ⟨_, Heap.get?_push_of_some _ e3, rfl, _, rfl⟩⟩
    · have := I1.hok.lt e
      exact (zHp_old (Nat.ne_of_lt (Nat.lt_of_lt_of_le this le'')) (Nat.lt_of_lt_of_le this (Nat.le_add_right _ 6))).trans e
    · rw [zHp_q, List.map_map]
      rfl
    · have hj := (List.getElem?_eq_some_iff.mp e1).1
      rw [List.getElem?_map, List.getElem?_range hj]
      rfl
end Bf

set_option Elab.async false
set_option linter.all false
set_option maxRecDepth 100000
set_option maxHeartbeats 4000000
namespace Bf
open PySem PySem.Spec PyProof.Rows L2
/-! ### codes drawn -/
theorem odd_dvd : ∀ (w s d : Nat), s % 2 = 1 → 2 ^ w ∣ s * d → 2 ^ w ∣ d
  | 0, _, d, _, _ => by simp
  | w + 1, s, d, hs, h => by
    have h2 : 2 ∣ s * d := Nat.dvd_trans ⟨2 ^ w, by rw [Nat.pow_succ, Nat.mul_comm]⟩ h
    have hd : d % 2 = 0 := by
      have := Nat.mod_eq_zero_of_dvd h2
      rw [Nat.mul_mod, hs] at this
      omega
    obtain ⟨e, rfl⟩ : ∃ e, d = 2 * e := ⟨d / 2, by omega⟩
    have h3 : 2 ^ w ∣ s * e := by
      obtain ⟨q, hq⟩ := h
      refine ⟨q, ?_⟩
      have : 2 * (s * e) = 2 * (2 ^ w * q) := by
        rw [← Nat.mul_assoc, Nat.mul_comm 2 s, Nat.mul_assoc, hq, Nat.pow_succ, Nat.mul_comm (2 ^ w) 2, Nat.mul_assoc]
      omega
    obtain ⟨q, hq⟩ := odd_dvd w s e hs h3
    exact ⟨q, by rw [hq, Nat.pow_succ, ← Nat.mul_assoc, Nat.mul_comm 2 (2 ^ w)]⟩
theorem lin_inj {w s t j k : Nat} (hs : s % 2 = 1) (hk : k < 2 ^ w) (hjk : j < k) (h : (s * j + t) % 2 ^ w = (s * k + t) % 2 ^ w) : False := by
  have h1 := Nat.sub_mod_eq_zero_of_mod_eq h.symm
  have h2 : s * k + t - (s * j + t) = s * (k - j) := by
    rw [Nat.mul_sub]
    omega
  rw [h2] at h1
  have h3 := Nat.le_of_dvd (by omega) (odd_dvd w s (k - j) hs (Nat.dvd_of_mod_eq_zero h1))
  omega
def linW (w s t n : Nat) : List Nat := (List.range n).map fun k => (s * k + t) % 2 ^ w
theorem linW_nodup {w s t n : Nat} (hs : s % 2 = 1) (hn : n ≤ 2 ^ w) : (linW w s t n).Nodup := by
  unfold linW List.Nodup
  rw [List.pairwise_map]
  refine List.Pairwise.imp_of_mem (R := fun a b => a < b) (fun {a b} ha hb hab => ?_) List.pairwise_lt_range
  have := List.mem_range.mp hb
  exact fun h => lin_inj hs (by omega) hab h
theorem linW_lt {w s t n : Nat} : ∀ x ∈ linW w s t n, x < 2 ^ w := fun x hx => by
  obtain ⟨k, _, rfl⟩ := List.mem_map.mp hx
  exact Nat.mod_lt _ (Nat.two_pow_pos w)
theorem linW_succ (w s t n : Nat) : linW w s t (n + 1) = linW w s t n ++ [(s * n + t) % 2 ^ w] := by
  unfold linW
  rw [List.range_succ, List.map_append]
  rfl
theorem asc_len : ∀ (xs : List Int) (a b : Int), xs.Pairwise (· < ·) → (∀ x ∈ xs, a ≤ x ∧ x < b) → xs.length ≤ (b - a).toNat
  | [], _, _, _, _ => Nat.zero_le _
  | x :: xs, a, b, hp, hm => by
    rw [List.pairwise_cons] at hp
    have h0 := hm x (by simp)
    have := asc_len xs (x + 1) b hp.2 fun y hy => by
      have := hp.1 y hy
      have := hm y (by simp [hy])
      omega
    rw [List.length_cons]
    omega
theorem ws_len {ws : List Int} {wide : Nat} (h : Asc ws) (hw : InW ws wide) (w4 : wide ≤ 4) : ws.length ≤ 16 := by
  have h1 := asc_len ws 0 (2 ^ wide) h hw
  have h2 : 2 ^ wide ≤ 2 ^ 4 := Nat.pow_le_pow_right (by decide) w4
  have h3 : ((2 ^ wide : Nat) : Int) = (2 : Int) ^ wide := by simp
  omega
def spCodes : Sp := fun vs H Q _ => ∃ (d c l : Addr) (wide : Nat) (zs : List Nat), vs = [.ref d, vI wide, .ref l] ∧ DS H d c ∧ l ≠ d ∧ H l = some (.lst (zs.map vI)) ∧ 1 ≤ wide ∧ wide ≤ 4 ∧ 1 ≤ zs.length ∧ zs.Pairwise (· < ·) ∧ (∀ z ∈ zs, z < 2 ^ wide) ∧
  ∀ (r pc : Addr) (wid : Nat) (vc : List V) (cs : List Code) (H' : Hp), DS H' d c → Keep [d] H H' → H' r = some (.tup [vI wid, .ref pc]) → H' pc = some (.tup vc) → LayAll H' vc (cs.map codeD) → 1 ≤ wid → wid ≤ 8 → 1 ≤ cs.length → cs.length ≤ 16 → Asc (cs.map (·.1)) →
    (∀ z ∈ zs, (z : Int) ∈ cs.map (·.1)) → InW (cs.map (·.1)) wide → (cs.map (·.2)).Nodup → InW (cs.map (·.2)) wid → Q (.ref r) H'
theorem lay_of_at {H : Hp} : ∀ (vs : List V) (ds : List PyData), vs.length = ds.length → (∀ (j : Nat) (v : V) (d : PyData), vs[j]? = some v → ds[j]? = some d → Lay H v d) → LayAll H vs ds
  | [], [], _, _ => .nil
  | v :: vs, d :: ds, hl, h => .cons (h 0 v d rfl rfl) (lay_of_at vs ds (by simpa using hl) fun j v d h1 h2 => h (j + 1) v d h1 h2)
theorem rgV_nodup (n : Nat) : (rgV 0 n).Nodup := by
  unfold rgV List.Nodup
  rw [List.pairwise_map]
  exact List.pairwise_lt_range.imp fun h e => by
    have := V.int.inj e
    omega
theorem nodup_vI {zs : List Nat} (h : (zs.map vI).Nodup) : zs.Nodup := by
  unfold List.Nodup at h ⊢
  rw [List.pairwise_map] at h
  exact h.imp fun h e => h (by rw [e])
theorem nodup_castL {zs : List Nat} (h : zs.Nodup) : (castL zs).Nodup := by
  unfold List.Nodup castL at *
  rw [List.pairwise_map]
  exact h.imp fun h e => h (by omega)
theorem zip_fst {α β : Type} : ∀ (xs : List α) (ys : List β), xs.length = ys.length → (xs.zip ys).map (·.1) = xs
  | [], [], _ => rfl
  | x :: xs, y :: ys, h => by rw [List.zip_cons_cons, List.map_cons, zip_fst xs ys (by simpa using h)]
theorem zip_snd {α β : Type} : ∀ (xs : List α) (ys : List β), xs.length = ys.length → (xs.zip ys).map (·.2) = ys
  | [], [], _ => rfl
  | x :: xs, y :: ys, h => by rw [List.zip_cons_cons, List.map_cons, zip_snd xs ys (by simpa using h)]
theorem zip_at {α β : Type} : ∀ (xs : List α) (ys : List β) (j : Nat) (z : α × β), (xs.zip ys)[j]? = some z → xs[j]? = some z.1 ∧ ys[j]? = some z.2
  | [], _, _, _, h => by simp at h
  | _ :: _, [], _, _, h => by simp at h
  | x :: xs, y :: ys, 0, z, h => by
    cases h
    exact ⟨rfl, rfl⟩
  | x :: xs, y :: ys, j + 1, z, h => zip_at xs ys j z h
theorem keepPut {S : List Addr} {H H' : Hp} {a : Addr} {o : HO} (k : Keep S H H') (n : H a = none) : Keep S H (L2.upd H' a o) := fun b u hb e => by
  rw [upd_ne (ne_of_none e n)]
  exact k b u hb e
section
variable {P : Program} {w : World} {K : PySem.W.Frag} {mg : Str → Option Value} {base : Heap} {f : Addr} {fd : FuncData}
theorem ok_codes (F : Fun K "_law_codes" "_law_codes" s_law_codes f fd) (T : Txt mg) (D_law_draw : Dn P w K mg base "_law_draw" ["_law_d", "_law_many"] 1 spDraw) (D_law_shuffled : Dn P w K mg base "_law_shuffled" ["_law_d", "_law_row"] 2 (spShuf K)) : FnOk P w K mg base CX0 3 f fd ["_law_d", "_law_wide", "_law_olds_here"] spCodes := by
  refine F.ok sc_law_codes (fun vs H Q E h => ?_) (fun cdv A outer s H vs Q E hr h => ?_)
  · obtain ⟨d, c, l, wide, zs, rfl, _⟩ := h
    rfl
  obtain ⟨d, c, l, wide, zs, rfl, hd, nld, el, w1, w4, z1, asc, hz, q⟩ := h
  refine ⟨_, (C8.pss_cut (ps_set (i := 3) sc_law_codes.nd rfl (Or.inl rfl) (pe_callB (cr_sortedSet rfl) (by rfl) T.n_sorted (by decide +kernel) (pa_cons (pe_callTy (cr_setI rfl) (by rfl) T.n_set (by decide +kernel) (pa_cons (pe_op op_cat (pv 2) (pe_lc (own := [("_law_n", 9)]) (g := (gName 9)) (tt := tYes) rfl sc_law_codes.nd (pi_range1 rfl T.n_range (pa_cons (pe_dn D_law_draw (hr.mono (by omega)) (by rfl) (pa_cons (pv 0) (pa_cons pe_int pa_nil))) pa_nil)) (blkOk_by (N := ["_law_d", "_law_wide", "_law_olds_here", "_law_told", "_law_width", "_law_step", "_law_shift", "_law_news", "_law_k", "_law_n"]) (sc := defScope s_law_codes) (by decide +kernel)) (fun _ _ _ _ _ => (pg_name (i := 9) sc_law_codes.nd rfl (Or.inl rfl))) (fun _ _ _ _ _ => pts_nil) (fun _ _ _ _ _ => (pe_dn D_law_draw (hr.mono (by omega)) (by rfl) (pa_cons (pv 0) (pa_cons (pe_op op_oneShl pe_int (pv 1)) pa_nil)))))) pa_nil)) pa_nil)))
      (pss_cons (ps_set (i := 4) sc_law_codes.nd rfl (Or.inr rfl) pe_int)
      (C8.pss_cut (ps_while PassesOwn.never (pt_cmpR op_lt (pe_op op_oneShl pe_int (pv 4)) (pe_callB call_len_seq (by rfl) T.n_len (by decide +kernel) (pa_cons (pv 3) pa_nil)) (nomark _)) (pss_one (ps_aug (i := 4) sc_law_codes.nd rfl (Or.inr rfl) pe_int ip_add)))
      (C8.pss_cut (ps_set (i := 4) sc_law_codes.nd rfl (Or.inr rfl) (pe_ifExp (pt_cmpR op_gt (pe_dn D_law_draw (hr.mono (by omega)) (by rfl) (pa_cons (pv 0) (pa_cons pe_int pa_nil))) pe_int (nomark _)) (pe_callB (cr_minN rfl) (by rfl) T.n_min (by decide +kernel) (pa_cons pe_int (pa_cons (pe_op op_add (pv 4) (pe_dn D_law_draw (hr.mono (by omega)) (by rfl) (pa_cons (pv 0) (pa_cons pe_int pa_nil)))) pa_nil))) pe_int))
      (pss_cons (ps_set (i := 5) sc_law_codes.nd rfl (Or.inr rfl) (pe_op op_add pe_int (pe_op op_mul pe_int (pe_dn D_law_draw (hr.mono (by omega)) (by rfl) (pa_cons (pv 0) (pa_cons (pe_op op_oneShl pe_int (pe_op op_sub (pv 4) pe_int)) pa_nil))))))
      (pss_cons (ps_set (i := 6) sc_law_codes.nd rfl (Or.inr rfl) (pe_dn D_law_draw (hr.mono (by omega)) (by rfl) (pa_cons (pv 0) (pa_cons (pe_op op_oneShl pe_int (pv 4)) pa_nil))))
      (C8.pss_cut (ps_setLc (i := 7) (own := [("_law_k", 8)]) (g := (gName 8)) (tt := tYes) rfl sc_law_codes.nd rfl rfl (sw_true rfl rfl rfl (by decide +kernel)) (pi_range1 rfl T.n_range (pa_cons (pe_callB call_len_seq (by rfl) T.n_len (by decide +kernel) (pa_cons (pv 3) pa_nil)) pa_nil)) (blkOk_by (N := ["_law_d", "_law_wide", "_law_olds_here", "_law_told", "_law_width", "_law_step", "_law_shift", "_law_news", "_law_k", "_law_n"]) (sc := defScope s_law_codes) (by decide +kernel)) (fun _ _ _ _ _ => (pg_name (i := 8) sc_law_codes.nd rfl (Or.inl rfl))) (fun _ _ _ _ _ => pts_nil) (fun _ _ _ _ _ => (pe_op op_andM (pe_op op_add (pe_op op_mul (pv 5) (pv 8)) (pv 6)) (pe_op op_sub (pe_op op_oneShl pe_int (pv 4)) pe_int))))
      (C8.pss_cut (ps_if (pt_cmpR op_lt (pv 4) pe_int (nomark _)) (pss_one (ps_set (i := 7) sc_law_codes.nd rfl (Or.inl rfl) (pe_slice sl_list (pe_dn D_law_shuffled (hr.mono (by omega)) (by rfl) (pa_cons (pv 0) (pa_cons (pe_listRg rfl (by rfl) T.n_list (prg_1 (by rfl) T.n_range (pe_op op_oneShl pe_int (pv 4)))) pa_nil))) po_none (po_some (pe_callB call_len_seq (by rfl) T.n_len (by decide +kernel) (pa_cons (pv 3) pa_nil)))))) pss_nil)
      (pss_one (ps_ret (pe_tup (pa_cons (pv 4) (pa_cons (pe_tupZip rfl (by rfl) T.n_tuple (by rfl) T.n_zip (pa_cons (pv 3) (pa_cons (pv 7) pa_nil))) pa_nil))))))))))))), ?_⟩
  refine ⟨fun σ' H' => ∃ (v9 : Option V) (t : Addr) (ws : List Int), σ' = [some (.ref d), some (vI wide), some (.ref l), some (.ref t), none, none, none, none, none, v9] ∧ DS H' d c ∧ Keep [d] H H' ∧ H' t = some (.lst (ws.map V.int)) ∧ t ≠ d ∧ Asc ws ∧ (∀ z ∈ zs, (z : Int) ∈ ws) ∧ InW ws wide ∧ 1 ≤ ws.length ∧ ws.length ≤ 16, ?_, fun σ1 H1 p1 => ?_⟩
  · refine ⟨_, rfl, _, rfl, d, c, 3, rfl, hd, by decide, by decide, fun u H2 r0 r1 hd2 k2 => ?_⟩
    obtain ⟨u, rfl⟩ := Int.eq_ofNat_of_zero_le r0
    have i6 := i62 (n := u) (by omega)
    refine ⟨_, rfl, i6.1, i6.2, fun D hD => ?_⟩
    have nDd := (hd2.new hD).1
    have nDl : D ≠ l := (ne_of_none (k2 _ _ (by simp [nld]) el) hD).symm
    refine lc_range (lo := 0) (n := (u : Int).toNat) (fun i H' => ∃ acc : List Nat, H' D = some (.lst (acc.map vI)) ∧ acc.length = i ∧ (∀ x ∈ acc, x < 2 ^ wide) ∧ DS H' d c ∧ Keep [d] H H' ∧ H' l = some (.lst (zs.map vI)))
      ⟨[], upd_same, rfl, fun x hx => (by cases hx), hd2.same (same_new hD _), k2.trans (.of_same (same_new hD _)), same_new hD _ _ _ (k2 _ _ (by simp [nld]) el)⟩ (fun j H7 hj pp => ?_) (fun H7 pp => ?_)
    · obtain ⟨acc, eD, la, hwk, hd7, k7, el7⟩ := pp
      refine ⟨rfl, _, rfl, _, rfl, wide, rfl, rfl, by omega, d, c, _, rfl, hd7, (pw8 (by omega : wide ≤ 8)).1, (pw8 (by omega : wide ≤ 8)).2, fun z H8 r0 r1 hd8 k8 => ?_⟩
      obtain ⟨z, rfl⟩ := Int.eq_ofNat_of_zero_le r0
      have e8 := k8 _ _ (by simp [nDd]) eD
      have el8 := k8 _ _ (by simp [nld]) el7
      have nDc := (hd2.new hD).2
      exact ⟨_, e8, by rw [List.length_map]; exact small1000 (by omega), acc ++ [z], by rw [upd_same, List.map_append]; rfl, by rw [List.length_append, la]; rfl, fun x hx => (by
        rcases List.mem_append.mp hx with q | q
        · exact hwk x q
        · rw [List.mem_singleton.mp q]; exact ltPow (by simpa using r1)), hd8.keep (S := [D]) (Keep.upd (by simp)) (by simp [Ne.symm nDd]) (by simp [Ne.symm nDc]), keepPut (k7.trans k8) (k2.free hD (by simp [nDd])), (upd_ne (Ne.symm nDl)).trans el8⟩
    · obtain ⟨acc, eD, la, hwk, hd7, k7, el7⟩ := pp
      have lz : zs.length ≤ 16 := by
        have := ws_len (ws := castL zs) (wide := wide) (by unfold castL Asc; rw [List.pairwise_map]; exact asc.imp fun h => by omega) (fun x hx => by
          obtain ⟨z, hm, rfl⟩ := List.mem_map.mp hx
          have := hz z hm
          have e : ((2 ^ wide : Nat) : Int) = (2 : Int) ^ wide := by simp
          exact ⟨by omega, by omega⟩) w4
        rwa [castL_len] at this
      have la3 : acc.length ≤ 2 := by
        have : (u : Int).toNat = u := Int.toNat_natCast u
        omega
      refine ⟨l, D, _, _, rfl, rfl, el7, eD, by rw [List.length_map, List.length_map, sizeLine_eq]; omega, fun p hp => ?_⟩
      refine ⟨p, castL (zs ++ acc), rfl, by rw [castL_V, List.map_append]; exact SqL.of upd_same, by rw [castL_len, List.length_append]; omega, fun p0 Sb m hp0 hm hS => ⟨p0, Sb, m, rfl, upd_same, by rw [castL_len, List.length_append] at hm; omega, fun ns t pw hk hn ht => ?_⟩⟩
      have s1 := same_new hp (.lst (zs.map vI ++ acc.map vI))
      have s2 := s1.trans (same_new hp0 (SetO w p0 Sb m))
      have s3 := s2.trans (same_new ht (.lst (ns.map V.int)))
      have hin : InW ns wide := fun x hx => by
        have h1 := (hS x).mp ((hk x).mp hx)
        obtain ⟨z, hm, rfl⟩ := List.mem_map.mp h1
        have e : ((2 ^ wide : Nat) : Int) = (2 : Int) ^ wide := by simp
        rcases List.mem_append.mp hm with q | q
        · have := hz z q
          exact ⟨by omega, by omega⟩
        · have := hwk z q
          exact ⟨by omega, by omega⟩
      have hmem : ∀ z ∈ zs, (z : Int) ∈ ns := fun z hm => (hk _).mpr ((hS _).mpr (List.mem_map.mpr ⟨z, List.mem_append_left _ hm, rfl⟩))
      have hd9 := hd7.same s3
      refine ⟨_, t, ns, rfl, hd9, k7.trans (.of_same s3), upd_same, fun e => ?_, pw, hmem, hin, ?_, ws_len pw hin w4⟩
      · subst e
        exact ((hd7.same s2).new ht).1 rfl
      · cases zs with
        | nil => cases z1
        | cons z zs => exact List.length_pos_of_mem (hmem z (by simp))
  obtain ⟨v9, t, ws, rfl, hd1, k1, et, ntd, pw, hmem, hin, l1, l16⟩ := p1
  refine ⟨fun σ' H' => ∃ wd : Nat, σ' = [some (.ref d), some (vI wide), some (.ref l), some (.ref t), some (vI wd), none, none, none, none, v9] ∧ H' = H1 ∧ 1 ≤ wd ∧ wd ≤ 4 ∧ ws.length ≤ 2 ^ wd, ?_, fun σ2 H2 p2 => ?_⟩
  · refine ⟨fun m σ' H' => ∃ wd : Nat, σ' = [some (.ref d), some (vI wide), some (.ref l), some (.ref t), some (vI wd), none, none, none, none, v9] ∧ H' = H1 ∧ 1 ≤ wd ∧ wd ≤ 4 ∧ m = 4 - wd, ⟨_, 1, rfl, rfl, by decide, by decide, rfl⟩, fun m σ' H' p => ?_⟩
    obtain ⟨wd, rfl, rfl, w1', w4', rfl⟩ := p
    refine ⟨_, rfl, wd, rfl, rfl, by omega, _, rfl, t, _, rfl, .inl (SqL.of et), _, _, rfl, rfl, _, rfl, ite2 (fun z => ?_) (fun z => ?_)⟩
    · have z1 : ((2 : Int) ^ wd) < ((ws.map V.int).length : Int) := of_decide_eq_true z
      rw [List.length_map] at z1
      have z2 : 2 ^ wd < ws.length := by
        have e : ((2 ^ wd : Nat) : Int) = (2 : Int) ^ wd := by simp
        omega
      have z3 : wd < 4 := by
        refine Nat.lt_of_not_le fun h => ?_
        have := Nat.pow_le_pow_right (n := 2) (by decide) h
        omega
      refine ⟨fun σ' H'' => σ' = [some (.ref d), some (vI wide), some (.ref l), some (.ref t), some (vI (wd + 1)), none, none, none, none, v9] ∧ H'' = H', fun σ' H'' h => ⟨4 - (wd + 1), by omega, wd + 1, h.1, h.2, by omega, by omega, rfl⟩, ?_⟩
      exact ⟨_, rfl, _, _, rfl, rfl, congrArg (fun z : Int => ([some (V.ref d), some (vI wide), some (V.ref l), some (V.ref t), some (V.int z), none, none, none, none, v9] : List (Option V))) (show (wd : Int) + 1 = ((wd + 1 : Nat) : Int) by omega), rfl⟩
    · have z1 : ¬ ((2 : Int) ^ wd) < ((ws.map V.int).length : Int) := fun h => z (decide_eq_true h)
      rw [List.length_map] at z1
      have z2 : ws.length ≤ 2 ^ wd := by
        have e : ((2 ^ wd : Nat) : Int) = (2 : Int) ^ wd := by simp
        omega
      exact ⟨wd, rfl, rfl, w1', w4', z2⟩
  obtain ⟨wd, rfl, rfl, d1, d4, lw⟩ := p2
  refine ⟨fun σ' H' => ∃ wid : Nat, σ' = [some (.ref d), some (vI wide), some (.ref l), some (.ref t), some (vI wid), none, none, none, none, v9] ∧ DS H' d c ∧ Keep [d] H H' ∧ H' t = some (.lst (ws.map V.int)) ∧ 1 ≤ wid ∧ wid ≤ 8 ∧ ws.length ≤ 2 ^ wid, ?_, fun σ3 H3 p3 => ?_⟩
  · refine ⟨_, rfl, d, c, 6, rfl, hd1, by decide, by decide, fun u H5 r0 r1 hd5 k5 => ?_⟩
    have et5 := k5 _ _ (by simp [ntd]) et
    refine ⟨_, _, rfl, rfl, _, rfl, ite2 (fun z => ?_) (fun z => ?_)⟩
    · refine ⟨_, rfl, _, rfl, d, c, 3, rfl, hd5, by decide, by decide, fun v H6 v0 v1 hd6 k6 => ?_⟩
      obtain ⟨v, rfl⟩ := Int.eq_ofNat_of_zero_le v0
      refine ⟨_, _, rfl, rfl, 8, wd + v, rfl, ?_⟩
      exact ⟨min 8 (wd + v), rfl, hd6, (k1.trans k5).trans k6, k6 _ _ (by simp [ntd]) et5, by omega, by omega, Nat.le_trans lw (Nat.pow_le_pow_right (by decide) (by omega))⟩
    · exact ⟨8, rfl, hd5, k1.trans k5, et5, by decide, by decide, Nat.le_trans l16 (by decide)⟩
  obtain ⟨wid, rfl, hd3, k3, et3, e1, e8, lwid⟩ := p3
  obtain ⟨p1w, p2w⟩ := pw8 e8
  obtain ⟨p1v, p2v⟩ := pw8 (show wid - 1 ≤ 8 by omega)
  refine ⟨_, rfl, _, rfl, _, _, rfl, rfl, wid - 1, rfl, congrArg V.int (by omega), by omega, d, c, _, rfl, hd3, p1v, p2v, fun a H5 a0 a1 hd5 k5 => ?_⟩
  obtain ⟨a, rfl⟩ := Int.eq_ofNat_of_zero_le a0
  refine ⟨_, _, rfl, rfl, ?cm, _, _, rfl, rfl, _, rfl, _, rfl, wid, rfl, rfl, by omega, d, c, _, rfl, hd5, p1w, p2w, fun b H6 b0 b1 hd6 k6 => ?_⟩
  case cm => exact .inl ⟨by decide, by decide⟩
  obtain ⟨b, rfl⟩ := Int.eq_ofNat_of_zero_le b0
  have et6 := k6 _ _ (by simp [ntd]) (k5 _ _ (by simp [ntd]) et3)
  have k06 := (k3.trans k5).trans k6
  refine ⟨fun σ' H' => ∃ (v5 v6 v8 : Option V) (n : Addr) (ms : List Nat), σ' = [some (.ref d), some (vI wide), some (.ref l), some (.ref t), some (vI wid), v5, v6, some (.ref n), v8, v9] ∧ DS H' d c ∧ Keep [d] H H' ∧ H' t = some (.lst (ws.map V.int)) ∧ H' n = some (.lst (ms.map vI)) ∧ n ≠ d ∧ ms.Nodup ∧ (∀ x ∈ ms, x < 2 ^ wid) ∧ ms.length = ws.length, ?_, fun σ7 H7 p7 => ?_⟩
  · refine ⟨_, rfl, t, _, rfl, .inl (SqL.of et6), ?_⟩
    have i6 := i62 (n := (ws.map V.int).length) (by rw [List.length_map]; omega)
    refine ⟨_, rfl, i6.1, i6.2, fun D hD => ?_⟩
    refine lc_range (lo := 0) (n := ((ws.map V.int).length : Int).toNat) (fun i H' => H' D = some (.lst ((linW wid (1 + 2 * a) b i).map vI)) ∧ Same H6 H')
      ⟨upd_same, same_new hD _⟩ (fun j H7 hj pp => ?_) (fun H7 pp => ?_)
    · obtain ⟨eD, sm⟩ := pp
      have hj16 : j < 16 := by
        rw [Int.toNat_natCast, List.length_map] at hj
        omega
      refine ⟨rfl, _, rfl, _, rfl, _, _, rfl, rfl, .inl ⟨by omega, by omega⟩, _, rfl, _, _, rfl, rfl, _, rfl, wid, rfl, rfl, by omega, _, _, rfl, rfl, _, wid, rfl, rfl, ?_⟩
      refine ⟨_, eD, by rw [List.length_map]; unfold linW; rw [List.length_map, List.length_range, sizeLine_eq]; omega, ?_, same_put sm hD⟩
      rw [upd_same, linW_succ, List.map_append]
      have e : ((1 + 2 * (a : Int)) * (0 + (j : Int)) + (b : Int)) % 2 ^ wid = (((((1 + 2 * a) * j + b) % 2 ^ wid : Nat)) : Int) := by
        rw [Int.natCast_emod, Int.natCast_add, Int.natCast_mul, Int.natCast_add, Int.natCast_mul, Int.zero_add]
        simp
      exact congrArg (fun z => some (HO.lst ((linW wid (1 + 2 * a) b j).map vI ++ [V.int z]))) e
    · obtain ⟨eD, sm⟩ := pp
      have el : ((ws.map V.int).length : Int).toNat = ws.length := by rw [Int.toNat_natCast, List.length_map]
      rw [el] at eD
      exact ⟨_, _, _, D, _, rfl, hd6.same sm, k06.trans (.of_same sm), sm _ _ et6, eD, (hd6.new hD).1, linW_nodup (by omega) lwid, linW_lt, by unfold linW; rw [List.length_map, List.length_range]⟩
  obtain ⟨v5, v6, v8, n, ms, rfl, hd7, k7, et7, en7, nnd, nd, mlt, mlen⟩ := p7
  refine ⟨fun σ' H' => ∃ (v5 v6 v8 : Option V) (n : Addr) (ms : List Nat), σ' = [some (.ref d), some (vI wide), some (.ref l), some (.ref t), some (vI wid), v5, v6, some (.ref n), v8, v9] ∧ DS H' d c ∧ Keep [d] H H' ∧ H' t = some (.lst (ws.map V.int)) ∧ H' n = some (.lst (ms.map vI)) ∧ ms.Nodup ∧ (∀ x ∈ ms, x < 2 ^ wid) ∧ ms.length = ws.length, ?_, fun σ8 H8 p8 => ?_⟩
  · refine ⟨_, rfl, _, _, rfl, rfl, _, rfl, ite2 (fun z => ?_) (fun z => ?_)⟩
    · have z5 : wid < 5 := by
        have : (wid : Int) < 5 := of_decide_eq_true z
        omega
      have hw32 : 2 ^ wid ≤ 2 ^ 4 := Nat.pow_le_pow_right (by decide) (by omega)
      have ew : ((2 ^ wid : Nat) : Int) = (2 : Int) ^ wid := by simp
      refine ⟨_, rfl, _, rfl, wid, rfl, rfl, by omega, _, rfl, .of_le (by decide) (by omega) (by decide) (by omega), fun R hR => ?_⟩
      rw [← ew]
      have nRd := (hd7.new hR).1
      have sR := same_new hR (.lst (rgV 0 ((2 ^ wid : Nat) : Int)))
      have lR : (rgV 0 ((2 ^ wid : Nat) : Int)).length = 2 ^ wid := by rw [rgV_length]; omega
      refine ⟨d, c, R, _, rfl, hd7.same sR, nRd, .inl (SqL.of upd_same), by rw [lR]; omega, fun p2 ys HD hperm hp0 hp2 hdD kD => ?_⟩
      obtain ⟨us, rfl⟩ := natsOf ys fun y hy => by
        obtain ⟨j, _, ej⟩ := List.mem_map.mp (hperm.mem_iff.mp hy)
        exact ⟨j, by rw [← ej]; exact congrArg V.int (by omega)⟩
      have hzk : ∀ x ∈ us, x < 2 ^ wid := fun x hx => by
        obtain ⟨j, hj, ej⟩ := List.mem_map.mp (hperm.mem_iff.mp (List.mem_map.mpr ⟨x, hx, rfl⟩))
        have hj2 := List.mem_range.mp hj
        have ej2 := V.int.inj ej
        omega
      have lus : us.length = 2 ^ wid := by
        have := hperm.length_eq
        rw [List.length_map, lR] at this
        exact this
      have hnd : us.Nodup := nodup_vI (hperm.nodup_iff.mpr (rgV_nodup _))
      have etD := kD _ _ (by simp [ntd]) (sR _ _ et7)
      refine ⟨_, rfl, t, _, rfl, .inl (SqL.of etD), _, rfl, p2, _, rfl, SqL.of hp2, fun S2 hS2 => ?_⟩
      rw [cut_nat us (ws.map V.int).length, List.length_map]
      have sS := same_new hS2 (.lst ((us.take ws.length).map vI))
      exact ⟨_, _, _, S2, us.take ws.length, rfl, hdD.same sS, ((k7.trans (.of_same sR)).trans kD).trans (.of_same sS), sS _ _ etD, upd_same, hnd.sublist (List.take_sublist _ _), fun x hx => hzk x (List.mem_of_mem_take hx), by rw [List.length_take]; omega⟩
    · exact ⟨v5, v6, v8, n, ms, rfl, hd7, k7, et7, en7, nd, mlt, mlen⟩
  obtain ⟨v5, v6, v8, n, ms, rfl, hd8, k8, et8, en8, nd, mlt, mlen⟩ := p8
  have lcm : ws.length = (castL ms).length := by rw [castL_len, mlen]
  refine ⟨_, rfl, _, rfl, _, rfl, t, n, _, _, rfl, SqL.of et8, SqL.of en8, by rw [List.length_map, List.length_map, mlen], fun H9 p ps hx hn hp hlen hat => ⟨by show 2 ≤ sizeLine; decide, fun r hr => ?_⟩⟩
  have s9 := same_new hr (.tup [vI wid, .ref p])
  have kx : Same H8 (upd H9 r (.tup [vI wid, .ref p])) := (show Same H8 H9 from hx).trans s9
  refine q r p wid (ps.map V.ref) (ws.zip (castL ms)) _ (hd8.same kx) (k8.trans (.of_same kx)) upd_same (s9 _ _ hp) ?_ e1 e8 ?_ ?_ ?_ ?_ ?_ ?_ ?_
  · refine lay_of_at _ _ ?_ fun j v dd h1 h2 => ?_
    · rw [List.length_map, List.length_map, List.length_zip, ← lcm, Nat.min_self, hlen, List.length_map]
    · rw [List.getElem?_map] at h2
      cases hz2 : (ws.zip (castL ms))[j]? with
      | none => rw [hz2] at h2; cases h2
      | some co =>
        rw [hz2] at h2
        cases h2
        obtain ⟨c1, c2⟩ := zip_at _ _ _ _ hz2
        obtain ⟨pp, e1', e2'⟩ := hat j (.int co.1) (.int co.2) (by rw [List.getElem?_map, c1]; rfl) (by rw [← castL_V, List.getElem?_map, c2]; rfl)
        rw [List.getElem?_map, e1'] at h1
        cases h1
        exact .tup (s9 _ _ e2') (.cons (.int _) (.cons (.int _) .nil))
  · rw [List.length_zip, ← lcm, Nat.min_self]; exact l1
  · rw [List.length_zip, ← lcm, Nat.min_self]; exact l16
  · rw [zip_fst _ _ lcm]; exact pw
  · rw [zip_fst _ _ lcm]; exact hmem
  · rw [zip_fst _ _ lcm]; exact hin
  · rw [zip_snd _ _ lcm]; exact nodup_castL nd
  · rw [zip_snd _ _ lcm]
    intro x hx
    obtain ⟨m, hm, rfl⟩ := List.mem_map.mp hx
    have := mlt m hm
    have ew : ((2 ^ wid : Nat) : Int) = (2 : Int) ^ wid := by simp
    exact ⟨by omega, by omega⟩
end
end Bf

set_option Elab.async false
set_option linter.all false
set_option maxRecDepth 100000
set_option maxHeartbeats 4000000
namespace Bf
open PySem PySem.Spec PyProof.Rows L2
/-! ### a paper drawn -/
theorem WAt.ofTake {ns : List Nd} {i a w : Nat} (h : WAt (ns.take i) a w) : WAt ns a w := by
  have := h.app (ms := ns.drop i)
  rwa [List.take_append_drop] at this
theorem Rch.width {ns : List Nd} {s x w : Nat} (G : NdsOk ns) (hw : WAt ns s w) (h : Rch ns s x) : WAt ns x w := by
  induction h with
  | base => exact hw
  | step _ e p q z ih =>
    obtain ⟨c', a', b', e', h1, h2⟩ := (G _ _ e).pick p
    rw [q] at e'
    cases e'
    obtain ⟨m, em, wm⟩ := ih
    rw [e] at em
    cases em
    rcases z with rfl | rfl
    · rw [← wm]; exact h1.ofTake
    · rw [← wm]; exact h2.ofTake
theorem Cv.lt {ns : List Nd} {s v w : Nat} (G : NdsOk ns) (hw : WAt ns s w) (h : Cv ns s v) : v < 2 ^ w := by
  obtain ⟨x, n, rx, hn, hop, hv⟩ := h
  obtain ⟨m, em, wm⟩ := rx.width G hw
  rw [hn] at em
  cases em
  obtain ⟨u, hu, hlt⟩ := (G x n hn).const hop
  rw [hv] at hu
  cases hu
  rw [← wm]
  exact hlt
theorem OldsIs.lt {ns : List Nd} {r : Str × Nat × Nat × Nat} {j : Nat} {zs : List Nat} (h : OldsIs ns r j zs) (G : NdsOk ns) (hs : r.2.2.1 < 2 ^ r.2.1) (hw : WAt ns r.2.2.2 r.2.1) (h1 : 1 ≤ zs.length) : ∀ z ∈ zs, z < 2 ^ r.2.1 := fun z hz => by
  have nb : ¬ isBad ns r j := fun b => by rw [h.2.1 b] at h1; cases h1
  rcases (h.2.2 nb z).mp hz with rfl | q
  · exact hs
  · exact q.lt G hw
theorem OldsIs.ent {ns : List Nd} {rs : Rgs} {r : Str × Nat × Nat × Nat} {j wid : Nat} {zs : List Nat} {cs : List Code} (h : OldsIs ns r j zs) (g : Good (rs.map fun r => r.2.1) ns) (hr : rs[j]? = some r) (h1 : 1 ≤ zs.length)
    (sR : ("const" : Str) ≠ "pick") (sQ : ("reg" : Str) ≠ "const" ∧ ("reg" : Str) ≠ "pick") (w1 : 1 ≤ wid) (w8 : wid ≤ 8) (asc : Asc (cs.map (·.1))) (hm : ∀ z ∈ zs, (z : Int) ∈ cs.map (·.1)) (hin : InW (cs.map (·.1)) r.2.1) (nd : (cs.map (·.2)).Nodup) (hn : InW (cs.map (·.2)) wid) :
    EntOk ns rs ⟨(j : Int), (wid : Int), cs⟩ := by
  have nb : ¬ isBad ns r j := fun b => by rw [h.2.1 b] at h1; cases h1
  refine ⟨j, r, rfl, hr, by show (1 : Int) ≤ (wid : Int); omega, by show (wid : Int) ≤ 8; omega, asc, hin, nd, ?_, hm _ ((h.2.2 nb _).mpr (.inl rfl)), (sty_bad g hr sR sQ).mp ⟨nb, fun v hv => hm v ((h.2.2 nb v).mpr (.inr hv))⟩⟩
  exact hn
theorem PapOk.snoc {ns : List Nd} {rs : Rgs} {p : List Ent} {e : Ent} {i : Nat} (h : PapOk ns rs p) (hi : ∀ x ∈ p, x.reg < (i : Int)) (he : EntOk ns rs e) (hr : e.reg = (i : Int)) : PapOk ns rs (p ++ [e]) := by
  refine ⟨?_, fun x hx => ?_⟩
  · rw [List.map_append]
    refine List.pairwise_append.mpr ⟨h.1, List.pairwise_singleton _ _, fun a ha b hb => ?_⟩
    obtain ⟨x, hx, rfl⟩ := List.mem_map.mp ha
    rw [List.mem_singleton.mp hb, hr]
    exact hi x hx
  · rcases List.mem_append.mp hx with q | q
    · exact h.2 x q
    · rw [List.mem_singleton.mp q]; exact he
def spDrawnP : Sp := fun vs H Q _ => ∃ (d c : Addr) (v : V) (G : Gr), vs = [.ref d, v] ∧ DS H d c ∧ GrW H v G ∧ G.Ok ∧ G.rs.length ≤ 4 ∧ G.ns.length ≤ 900 ∧ (∀ r ∈ G.rs, r.2.1 ≤ 4) ∧
  ∀ (r : V) (p : List Ent) (H' : Hp), DS H' d c → Keep [d] H H' → Lay H' r (papD p) → PapOk G.ns G.rs p → p.length ≤ 4 → (∀ e ∈ p, 1 ≤ e.codes.length ∧ e.codes.length ≤ 16) → Q r H'
section
variable {P : Program} {w : World} {K : PySem.W.Frag} {mg : Str → Option Value} {base : Heap} {f : Addr} {fd : FuncData}
theorem ok_drawnP (F : Fun K "_law_drawn_paper" "_law_drawn_paper" s_law_drawn_paper f fd) (T : Txt mg) (D_law_olds : Dn P w K mg base "_law_olds" ["_law_graph_here", "_law_reg"] 1 spOlds) (D_law_codes : Dn P w K mg base "_law_codes" ["_law_d", "_law_wide", "_law_olds_here"] 3 spCodes) (D_law_draw : Dn P w K mg base "_law_draw" ["_law_d", "_law_many"] 1 spDraw) : FnOk P w K mg base CX0 4 f fd ["_law_d", "_law_graph_here"] spDrawnP := by
  refine F.ok sc_law_drawn_paper (fun vs H Q E h => ?_) (fun cdv A outer s H vs Q E hr h => ?_)
  · obtain ⟨d, c, v, G, rfl, _⟩ := h
    rfl
  obtain ⟨d, c, v, G, rfl, hd, hG0, ok, r4, h900, w4, q⟩ := h
  refine ⟨_, (pss_cons (ps_set (i := 2) sc_law_drawn_paper.nd rfl (Or.inl rfl) (pe_lst pa_nil))
      (pss_cons (ps_for PassesOwn.never rfl (pi_range1 rfl T.n_range (pa_cons (pe_callB call_len_seq (by rfl) T.n_len (by decide +kernel) (pa_cons (pe_ix ix_tup (pv 1) pe_int (fun _ _ => rfl)) pa_nil)) pa_nil)) (pg_name (i := 3) sc_law_drawn_paper.nd rfl (Or.inl rfl)) (pss_cons (ps_set (i := 4) sc_law_drawn_paper.nd rfl (Or.inl rfl) (pe_dn D_law_olds (hr.mono (by omega)) (by rfl) (pa_cons (pv 1) (pa_cons (pv 3) pa_nil))))
      (pss_one (ps_if (PW.pt (pw_and (pt_cmpR op_gt (pe_callB call_len_seq (by rfl) T.n_len (by decide +kernel) (pa_cons (pv 4) pa_nil)) pe_int (nomark _)) (pw_and1 (PW.pt (pw_or (pt_cmpR op_eq (pe_callB call_len_seq (by rfl) T.n_len (by decide +kernel) (pa_cons (pv 2) pa_nil)) pe_int (nomark _)) (pw_or1 (pt_cmpR op_gt (pe_dn D_law_draw (hr.mono (by omega)) (by rfl) (pa_cons (pv 0) (pa_cons pe_int pa_nil))) pe_int (nomark _)))))))) (pss_cons (ps_asg (pe_dn D_law_codes (hr.mono (by omega)) (by rfl) (pa_cons (pv 0) (pa_cons (pe_ix ix_tup (pe_ix ix_tup (pe_ix ix_tup (pv 1) pe_int (fun _ _ => rfl)) (pv 3) (fun _ _ => rfl)) pe_int (fun _ _ => rfl)) (pa_cons (pv 4) pa_nil)))) (pg_tup rfl (pgs_cons (pg_name (i := 5) sc_law_drawn_paper.nd rfl (Or.inl rfl)) (pgs_cons (pg_name (i := 6) sc_law_drawn_paper.nd rfl (Or.inl rfl)) pgs_nil))))
      (pss_one (ps_expr (pe_bm PySem.F.plainAttrs_list PySem.F.slot_list_append PySem.F.type_list_append mt_append (pv 2) (pa_cons (pe_tup (pa_cons (pv 3) (pa_cons (pv 5) (pa_cons (pv 6) pa_nil)))) pa_nil))))) pss_nil))))
      (pss_one (ps_ret (pe_callTy call_tuple_of (by rfl) T.n_tuple (by decide +kernel) (pa_cons (pv 2) pa_nil)))))), ?_⟩
  have hG0' := hG0
  obtain ⟨pg, pi, pn, pr, po, v4, v6, xi, vn, vr, xo, rfl, at_⟩ := hG0'
  have lvr : vr.length = G.rs.length := by rw [at_.lr.len, List.length_map]
  refine ⟨Nat.zero_le _, fun L hL => ?_⟩
  obtain ⟨nLd, nLc⟩ := hd.new hL
  have s0 := same_new hL (.lst [])
  refine ⟨_, rfl, pg, _, _, .ref pr, rfl, rfl, SqT.of (s0 _ _ at_.top), atI_nat (j := 3) rfl, pr, vr, rfl, .inr (SqT.of (s0 _ _ at_.hr)), ?_⟩
  have i6 := i62 (n := vr.length) (by omega)
  have hR4 : ∀ {j : Nat} {r : Str × Nat × Nat × Nat}, G.rs[j]? = some r → r ∈ G.rs := fun e => List.mem_of_getElem? e
  refine ⟨_, rfl, i6.1, i6.2, for_it walk_range (fun i σ' H' => ∃ (v3 v4 v5 v6 : Option V) (us : List V) (p : List Ent), σ' = [some (.ref d), some (.ref pg), some (.ref L), v3, v4, v5, v6] ∧ DS H' d c ∧ Keep [d] H H' ∧ H' L = some (.lst us) ∧ LayAll H' us (p.map Ent.D) ∧ PapOk G.ns G.rs p ∧ (∀ e ∈ p, e.reg < (i : Int)) ∧ p.length ≤ i ∧ (∀ e ∈ p, 1 ≤ e.codes.length ∧ e.codes.length ≤ 16))
    ⟨_, _, _, _, [], [], rfl, hd.same s0, .of_same s0, upd_same, .nil, ⟨.nil, fun e he => (by cases he)⟩, fun e he => (by cases he), Nat.le_refl _, fun e he => (by cases he)⟩ (fun i σ' H' _ pp => trivial) (fun i x σ' H3 H4 hi pp y => ?_) (fun σ' H' pp => ?_)⟩
  · obtain ⟨v3, v4', v5, v6', us, p, rfl, hd3, k3, eL, lay, pok, hlt, hpl, hcl⟩ := pp
    obtain ⟨rfl, ey⟩ := y
    have hi : i < vr.length := by simpa using hi
    obtain rfl : x = vI i := by rw [ey]; exact congrArg V.int (by omega)
    clear ey
    have hG4 : GrW H4 (.ref pg) G := ⟨pg, pi, pn, pr, po, v4, v6, xi, vn, vr, xo, rfl, at_.keep (k3.tup1 hd)⟩
    obtain ⟨r, q1, hr_, hv, hq⟩ := regAt (at_.keep (k3.tup1 hd)).lr (show i < G.rs.length by omega)
    obtain ⟨wr1, wr8, _, _, hstart, hafter⟩ := ok.regs r (hR4 hr_)
    refine ⟨_, rfl, _, rfl, .ref pg, G, i, r, rfl, hG4, ok, hr_, h900, fun l zs H5 s5 e5 l901 hold => ?_⟩
    have hd5 := hd3.same s5
    have k5 := k3.trans (.of_same s5)
    have eL5 := s5 _ _ eL
    have skip : ∀ (v3 v4 v5 v6 : Option V) (H9 : Hp), DS H9 d c → Keep [d] H H9 → H9 L = some (.lst us) → KeepT H4 H9 → ∃ (v3' v4' v5' v6' : Option V) (us : List V) (p : List Ent), [some (.ref d), some (.ref pg), some (.ref L), v3, v4, v5, v6] = [some (.ref d), some (.ref pg), some (.ref L), v3', v4', v5', v6'] ∧ DS H9 d c ∧ Keep [d] H H9 ∧ H9 L = some (.lst us) ∧ LayAll H9 us (p.map Ent.D) ∧ PapOk G.ns G.rs p ∧ (∀ e ∈ p, e.reg < ((i + 1 : Nat) : Int)) ∧ p.length ≤ i + 1 ∧ (∀ e ∈ p, 1 ≤ e.codes.length ∧ e.codes.length ≤ 16) :=
      fun v3 v4 v5 v6 H9 h1 h2 h3 h4 => ⟨_, _, _, _, us, p, rfl, h1, h2, h3, lay.keep' h4, pok, fun e he => by have := hlt e he; omega, by omega, hcl⟩
    refine ⟨_, rfl, l, _, rfl, .inl (SqL.of e5), _, _, rfl, rfl, _, rfl, ?_⟩
    have el := hd5
    refine ite2 (fun z => ?_) (fun _ => ?_)
    rotate_left
    · exact skip _ _ _ _ _ hd5 k5 eL5 (.same s5)
    have z1 : 1 ≤ zs.length := by
      have := of_decide_eq_true z
      rw [List.length_map] at this
      omega
    have hzlt := hold.lt ok.good.ok hstart hafter z1
    have nld : l ≠ d := fun e => by
      obtain ⟨_, _, _, _, ed, _⟩ := hd5
      rw [e, ed] at e5
      cases zs with
      | nil => cases z1
      | cons a b =>
        have := HO.lst.inj (Option.some.inj e5)
        rw [List.map_cons] at this
        exact nomatch (List.cons.inj this).1
    have kt5 : KeepT H4 H5 := .same s5
    refine ⟨_, rfl, L, us, rfl, .inl (SqL.of eL5), rfl, _, rfl, ite2 (fun _ => ?_) (fun _ => ?_)⟩
    · have hd6 := hd5
      have k6 := k5
      have kt6 := kt5
      have e6 := e5
      have eL6 := eL5
      refine ite2 (fun _ => ?_) (fun y => absurd rfl y)
      have at6 := (at_.keep (k3.tup1 hd)).keep kt6
      refine ⟨_, rfl, _, rfl, pg, _, _, .ref pr, rfl, rfl, SqT.of at6.top, atI_nat (j := 3) rfl, _, rfl, pr, vr, _, .ref q1, rfl, rfl, SqT.of at6.hr, atI_nat hv, q1, _, _, _, rfl, rfl, SqT.of (kt6 _ _ hq), atI_nat (j := 1) rfl, _, rfl, d, c, l, r.2.1, zs, rfl, hd6, nld, e6, wr1, w4 r (hR4 hr_), z1, hold.1, hzlt, fun R pc wid vc cs H7 hd7 k7 eR epc lc a1 a8 c1 c16 asc hm hin nd hnw => ?_⟩
      have eL7 := k7 _ _ (by simp [nLd]) eL6
      have kt7 : KeepT H4 H7 := kt6.trans (k7.tup1 hd6)
      refine ⟨R, _, rfl, SqT.of eR, rfl, _, _, rfl, _, _, rfl, rfl, ?_⟩
      refine ⟨_, rfl, .inl ⟨rfl, _, SqL.of eL7⟩, _, rfl, _, rfl, _, rfl, (by show 3 ≤ sizeLine; decide), fun t ht => ?_⟩
      have st := same_new ht (.tup [vI i, vI wid, .ref pc])
      have eLt := st _ _ eL7
      refine ⟨L, us, _, rfl, rfl, eLt, by have := lay.len; rw [List.length_map] at this; rw [sizeLine_eq]; omega, ?_⟩
      have nLt : L ≠ t := ne_of_none eL7 ht
      have kf := KeepT.trans (KeepT.trans kt7 (.same st)) (KeepT.lst (o := .lst (us ++ [.ref t])) eLt)
      have kl : KeepT H7 (upd (upd H7 t (.tup [vI i, vI wid, .ref pc])) L (.lst (us ++ [.ref t]))) := KeepT.trans (.same st) (KeepT.lst eLt)
      refine ⟨_, _, _, _, us ++ [.ref t], p ++ [⟨(i : Int), (wid : Int), cs⟩], rfl, (hd7.same st).keep (S := [L]) (Keep.upd (by simp)) (by simp [Ne.symm nLd]) (by simp [Ne.symm nLc]), keepPut ((k6.trans k7).trans (.of_same st)) hL, upd_same, ?_, PapOk.snoc pok hlt (hold.ent ok.good hr_ z1 (by decide) (by decide) a1 a8 asc hm hin nd hnw) rfl, fun e he => ?_, ?_, fun e he => ?_⟩
      · rw [List.map_append]
        refine (lay.keep' kf).app (.cons (.tup ((upd_ne (Ne.symm nLt)).trans upd_same) (.cons (.int _) (.cons (.int _) (.cons (.tup (kl _ _ epc) (lc.keep' kl)) .nil)))) .nil)
      · rcases List.mem_append.mp he with q | q
        · have := hlt e q
          omega
        · rw [List.mem_singleton.mp q]
          show (i : Int) < ((i + 1 : Nat) : Int)
          omega
      · rw [List.length_append]
        exact Nat.add_le_add_right hpl 1
      · rcases List.mem_append.mp he with q | q
        · exact hcl e q
        · rw [List.mem_singleton.mp q]
          exact ⟨c1, c16⟩
    · refine ⟨_, rfl, d, c, 5, rfl, hd5, by decide, by decide, fun u H6 u0 u1 hd6 kk => ⟨_, _, rfl, rfl, ?_⟩⟩
      have k6 := k5.trans kk
      have kt6 := kt5.trans (kk.tup1 hd5)
      have e6 := kk _ _ (by simp [nld]) e5
      have eL6 := kk _ _ (by simp [nLd]) eL5
      refine ⟨_, rfl, ite2 (fun _ => ?_) (fun _ => skip _ _ _ _ _ hd6 k6 eL6 kt6)⟩
      have at6 := (at_.keep (k3.tup1 hd)).keep kt6
      refine ⟨_, rfl, _, rfl, pg, _, _, .ref pr, rfl, rfl, SqT.of at6.top, atI_nat (j := 3) rfl, _, rfl, pr, vr, _, .ref q1, rfl, rfl, SqT.of at6.hr, atI_nat hv, q1, _, _, _, rfl, rfl, SqT.of (kt6 _ _ hq), atI_nat (j := 1) rfl, _, rfl, d, c, l, r.2.1, zs, rfl, hd6, nld, e6, wr1, w4 r (hR4 hr_), z1, hold.1, hzlt, fun R pc wid vc cs H7 hd7 k7 eR epc lc a1 a8 c1 c16 asc hm hin nd hnw => ?_⟩
      have eL7 := k7 _ _ (by simp [nLd]) eL6
      have kt7 : KeepT H4 H7 := kt6.trans (k7.tup1 hd6)
      refine ⟨R, _, rfl, SqT.of eR, rfl, _, _, rfl, _, _, rfl, rfl, ?_⟩
      refine ⟨_, rfl, .inl ⟨rfl, _, SqL.of eL7⟩, _, rfl, _, rfl, _, rfl, (by show 3 ≤ sizeLine; decide), fun t ht => ?_⟩
      have st := same_new ht (.tup [vI i, vI wid, .ref pc])
      have eLt := st _ _ eL7
      refine ⟨L, us, _, rfl, rfl, eLt, by have := lay.len; rw [List.length_map] at this; rw [sizeLine_eq]; omega, ?_⟩
      have nLt : L ≠ t := ne_of_none eL7 ht
      have kf := KeepT.trans (KeepT.trans kt7 (.same st)) (KeepT.lst (o := .lst (us ++ [.ref t])) eLt)
      have kl : KeepT H7 (upd (upd H7 t (.tup [vI i, vI wid, .ref pc])) L (.lst (us ++ [.ref t]))) := KeepT.trans (.same st) (KeepT.lst eLt)
      refine ⟨_, _, _, _, us ++ [.ref t], p ++ [⟨(i : Int), (wid : Int), cs⟩], rfl, (hd7.same st).keep (S := [L]) (Keep.upd (by simp)) (by simp [Ne.symm nLd]) (by simp [Ne.symm nLc]), keepPut ((k6.trans k7).trans (.of_same st)) hL, upd_same, ?_, PapOk.snoc pok hlt (hold.ent ok.good hr_ z1 (by decide) (by decide) a1 a8 asc hm hin nd hnw) rfl, fun e he => ?_, ?_, fun e he => ?_⟩
      · rw [List.map_append]
        refine (lay.keep' kf).app (.cons (.tup ((upd_ne (Ne.symm nLt)).trans upd_same) (.cons (.int _) (.cons (.int _) (.cons (.tup (kl _ _ epc) (lc.keep' kl)) .nil)))) .nil)
      · rcases List.mem_append.mp he with q | q
        · have := hlt e q
          omega
        · rw [List.mem_singleton.mp q]
          show (i : Int) < ((i + 1 : Nat) : Int)
          omega
      · rw [List.length_append]
        exact Nat.add_le_add_right hpl 1
      · rcases List.mem_append.mp he with q | q
        · exact hcl e q
        · rw [List.mem_singleton.mp q]
          exact ⟨c1, c16⟩
  · obtain ⟨v3, v4', v5, v6', us, p, rfl, hd3, k3, eL, lay, pok, hlt, hpl, hcl⟩ := pp
    refine ⟨_, rfl, L, us, rfl, .inl ⟨SqL.of eL, fun r hr => ?_⟩⟩
    have s9 := same_new hr (.tup us)
    exact q (.ref r) p _ (hd3.same s9) (k3.trans (.of_same s9)) (.tup upd_same (lay.keep' (.same s9))) pok (by have : (vr.length : Int).toNat = vr.length := Int.toNat_natCast _; omega) hcl
end
end Bf

set_option Elab.async false
set_option linter.all false
set_option maxRecDepth 100000
set_option maxHeartbeats 4000000
namespace Bf
open PySem PySem.Spec PyProof.Rows L2
/-! ### the law -/
def spLaw (K : PySem.W.Frag) : Sp := fun vs H Q _ => ∃ (a : Addr) (ns : List Int), vs = [.ref a] ∧ SqL K H a (ns.map V.int) ∧ ns.length ≤ 63 ∧ ∀ H', Q (.bl true) H'
theorem GrW.keep {H H' : Hp} {v : V} {G : Gr} (h : GrW H v G) (k : KeepT H H') : GrW H' v G := by
  obtain ⟨p, pi, pn, pr, po, v4, v6, xi, vn, vr, xo, e, at_⟩ := h
  exact ⟨p, pi, pn, pr, po, v4, v6, xi, vn, vr, xo, e, at_.keep k⟩
section
variable {P : Program} {w : World} {K : PySem.W.Frag} {mg : Str → Option Value} {base : Heap} {f : Addr} {fd : FuncData}
theorem ok_law (F : Fun K "law" "law" s_law f fd) (T : Txt mg) (D_law_begin : Dn P w K mg base "_law_begin" ["_law_script"] 1 (spBegin K)) (D_law_draw : Dn P w K mg base "_law_draw" ["_law_d", "_law_many"] 1 spDraw) (D_law_pick : Dn P w K mg base "_law_pick" ["_law_d", "_law_row"] 2 (spPick K))
    (D_law_graph : Dn P w K mg base "_law_graph" ["_law_d", "_law_inputs", "_law_regs", "_law_mems", "_law_nodes", "_law_most"] 5 spGraph)
    (D_law_machines : Dn P w K mg base "_law_machines" ["_law_d", "_law_graph_here", "_law_many", "_law_longest"] 9 spMach) (D_law_drawn_paper : Dn P w K mg base "_law_drawn_paper" ["_law_d", "_law_graph_here"] 4 spDrawnP)
    (D_judge_codes : Dn P w K mg base "judge_codes" ["graph", "paper"] 4 spJudgeC) (D_law_spoilt : Dn P w K mg base "_law_spoilt" ["_law_d", "_law_graph_here", "_law_paper"] 4 spSpoP) (D_law_is_told : Dn P w K mg base "_law_is_told" ["_law_graph_here", "_law_paper"] 5 spToldC) :
    FnOk P w K mg base CX0 10 f fd ["_law_script"] (spLaw K) := by
  refine F.ok sc_law (fun vs H Q E h => ?_) (fun cdv A outer s H vs Q E hr h => ?_)
  · obtain ⟨a, ns, rfl, _⟩ := h
    rfl
  obtain ⟨a, ns, rfl, hS, hl63, q⟩ := h
  refine ⟨_, (pss_cons (ps_set (i := 1) sc_law.nd rfl (Or.inl rfl) (pe_dn D_law_begin (hr.mono (by omega)) (by rfl) (pa_cons (pv 0) pa_nil)))
      (pss_cons (ps_set (i := 2) sc_law.nd rfl (Or.inl rfl) (pe_dn D_law_graph (hr.mono (by omega)) (by rfl) (pa_cons (pv 1) (pa_cons (pe_op op_add pe_int (pe_dn D_law_draw (hr.mono (by omega)) (by rfl) (pa_cons (pv 1) (pa_cons pe_int pa_nil)))) (pa_cons (pe_op op_add pe_int (pe_dn D_law_draw (hr.mono (by omega)) (by rfl) (pa_cons (pv 1) (pa_cons pe_int pa_nil)))) (pa_cons pe_int (pa_cons (pe_op op_add pe_int (pe_dn D_law_draw (hr.mono (by omega)) (by rfl) (pa_cons (pv 1) (pa_cons pe_int pa_nil)))) (pa_cons (pe_dn D_law_pick (hr.mono (by omega)) (by rfl) (pa_cons (pv 1) (pa_cons (pe_lst (pa_cons pe_int (pa_cons pe_int (pa_cons pe_int pa_nil)))) pa_nil))) pa_nil))))))))
      (pss_cons (ps_set (i := 2) sc_law.nd rfl (Or.inl rfl) (pe_dn D_law_machines (hr.mono (by omega)) (by rfl) (pa_cons (pv 1) (pa_cons (pv 2) (pa_cons (pe_op op_add pe_int (pe_dn D_law_draw (hr.mono (by omega)) (by rfl) (pa_cons (pv 1) (pa_cons pe_int pa_nil)))) (pa_cons pe_int pa_nil))))))
      (pss_cons (ps_set (i := 3) sc_law.nd rfl (Or.inl rfl) (pe_dn D_law_drawn_paper (hr.mono (by omega)) (by rfl) (pa_cons (pv 1) (pa_cons (pv 2) pa_nil))))
      (pss_cons (ps_if (PW.pt (pw_or (pt_not (pt_val (pe_dn D_judge_codes (hr.mono (by omega)) (by rfl) (pa_cons (pv 2) (pa_cons (pv 3) pa_nil))))) (pw_or1 (pt_not (pt_val (pe_dn D_judge_codes (hr.mono (by omega)) (by rfl) (pa_cons (pv 2) (pa_cons (pe_tup pa_nil) pa_nil)))))))) (pss_one (ps_ret pe_bl)) pss_nil)
      (pss_cons (ps_for PassesOwn.never rfl (pi_range1 rfl T.n_range (pa_cons pe_int pa_nil)) (pg_name (i := 4) sc_law.nd rfl (Or.inl rfl)) (pss_one (ps_if (pt_not (pt_val (pe_dn D_law_is_told (hr.mono (by omega)) (by rfl) (pa_cons (pv 2) (pa_cons (pe_dn D_law_spoilt (hr.mono (by omega)) (by rfl) (pa_cons (pv 1) (pa_cons (pv 2) (pa_cons (pv 3) pa_nil)))) pa_nil))))) (pss_one (ps_ret pe_bl)) pss_nil)))
      (pss_one (ps_ret (pe_dn D_law_is_told (hr.mono (by omega)) (by rfl) (pa_cons (pv 2) (pa_cons (pv 3) pa_nil))))))))))), ?_⟩
  refine ⟨_, rfl, a, ns, rfl, hS, hl63, fun d c H1 nd nc hd1 s1 => ?_⟩
  refine ⟨_, rfl, _, rfl, d, c, 2, rfl, hd1, by decide, by decide, fun u1 H3 r0 r1 hd3 k3 => ?_⟩
  obtain ⟨u1, rfl⟩ := Int.eq_ofNat_of_zero_le r0
  refine ⟨_, _, rfl, rfl, _, rfl, d, c, 3, rfl, hd3, by decide, by decide, fun u2 H4 r0 r2 hd4 k4 => ?_⟩
  obtain ⟨u2, rfl⟩ := Int.eq_ofNat_of_zero_le r0
  refine ⟨_, _, rfl, rfl, _, rfl, d, c, 7, rfl, hd4, by decide, by decide, fun u4 H6 r0 r4 hd6 k6 => ?_⟩
  obtain ⟨u4, rfl⟩ := Int.eq_ofNat_of_zero_le r0
  refine ⟨_, _, rfl, rfl, _, rfl, (by show 3 ≤ sizeLine; decide), fun L hL => ?_⟩
  refine ⟨d, c, L, ([2, 4, 3] : List Nat).map vI, rfl, hd6.same (same_new hL _), (hd6.new hL).1, SqL.of upd_same, (by show 1 ≤ 3; decide), (by show 3 ≤ 1000; decide), fun k y H7 hy hd7 k7 => ?_⟩
  obtain ⟨m, hm, rfl⟩ := natAt hy
  obtain ⟨m1, m4⟩ := (by decide : ∀ x ∈ ([2, 4, 3] : List Nat), 1 ≤ x ∧ x ≤ 4) m (List.mem_of_getElem? hm)
  refine ⟨d, c, 1 + u1, 1 + u2, 0, 2 + u4, m, ?_, hd7, by omega, by omega, by omega, by omega, m1, by omega, fun v G H8 hG ok g1 g2 g3 gm hd8 k8 => ?_⟩
  · dsimp only
    rw [show V.int (1 + (u1 : Int)) = vI (1 + u1) from congrArg V.int (by omega), show V.int (1 + (u2 : Int)) = vI (1 + u2) from congrArg V.int (by omega), show V.int (2 + (u4 : Int)) = vI (2 + u4) from congrArg V.int (by omega)]
    rfl
  refine ⟨_, rfl, _, rfl, _, rfl, d, c, 3, rfl, hd8, by decide, by decide, fun u5 H9 r0 r5 hd9 k9 => ?_⟩
  obtain ⟨u5, rfl⟩ := Int.eq_ofNat_of_zero_le r0
  refine ⟨_, _, rfl, rfl, d, c, v, G, 1 + u5, ?_, hd9, (show GrV H9 v G from by
    obtain ⟨p, pi, pn, pr, po, v4, v6, xi, vn, vr, xo, e, l, at_⟩ := hG
    exact ⟨p, pi, pn, pr, po, v4, v6, xi, vn, vr, xo, e, l, at_.keep (k9.tup1 hd8)⟩), ok, by omega, fun r hr => Nat.le_trans (gm r hr) m4, g3, by omega, by omega, fun v' G' H10 hG' ok' e1 e2 e3 hd10 k10 => ?_⟩
  · dsimp only
    rw [show V.int (1 + (u5 : Int)) = vI (1 + u5) from congrArg V.int (by omega)]
  clear hG ok hd9 hd8 hd7 hd6 hd4 hd3 k3 k4 k6 k7 k8 k9
  refine ⟨_, rfl, _, rfl, d, c, v', G', rfl, hd10, hG', ok', by omega, e3, e2, fun r p H11 hd11 k11 lay pok p4 pc => ?_⟩
  have hG11 : GrW H11 v' G' := GrW.keep hG' (k11.tup1 hd10)
  refine ⟨_, rfl, _, rfl, v', r, G', p, rfl, hG11, ok', e3, lay, by omega, fun e he => by have := pc e he; omega, fun b1 H12 s12 hb1 => ?_⟩
  obtain rfl : b1 = true := hb1.mpr pok
  refine ⟨true, rfl, iteF ?_⟩
  refine ⟨_, rfl, Nat.zero_le _, fun t ht => ?_⟩
  have st := same_new ht (.tup [])
  have s1t := s12.trans st
  refine ⟨v', .ref t, G', [], rfl, hG11.keep (.same s1t), ok', e3, .tup upd_same .nil, Nat.zero_le _, fun e he => (by cases he), fun b2 H13 s13 hb2 => ?_⟩
  obtain rfl : b2 = true := hb2.mpr ⟨.nil, fun e he => (by cases he)⟩
  refine ⟨true, rfl, iteF ?_⟩
  have s113 := s1t.trans s13
  refine ⟨8, rfl, by decide, by decide, for_it walk_range (fun i σ' H' => ∃ v4 : Option V, σ' = [some (.ref a), some (.ref d), some v', some r, v4] ∧ DS H' d c ∧ KeepT H11 H')
    ⟨_, rfl, hd11.same s113, .same s113⟩ (fun i σ' H' _ pp => trivial) (fun i x σ' H3 H4 hi pp y => ?_) (fun σ' H' pp => ?_)⟩
  · obtain ⟨w4, rfl, hdX, kX⟩ := pp
    obtain ⟨rfl, ey⟩ := y
    refine ⟨_, rfl, _, rfl, _, rfl, _, rfl, d, c, v', r, G', p, rfl, hdX, GrW.keep hG11 kX, ok', by omega, by omega, lay.keep kX, p4, pok, fun e he => by have := pc e he; omega, fun z p' H5 hd5 k5 lz lp lc => ?_⟩
    have kY := kX.trans (k5.tup1 hdX)
    refine ⟨v', z, G', p', rfl, GrW.keep hG11 kY, ok', e3, lz, by omega, lc, fun H6 s6 => ⟨true, rfl, iteF ?_⟩⟩
    exact ⟨_, rfl, hd5.same s6, kY.trans (.same s6)⟩
  · obtain ⟨w4, rfl, hdX, kX⟩ := pp
    exact ⟨_, rfl, _, rfl, v', r, G', p, rfl, GrW.keep hG11 kX, ok', e3, lay.keep kX, by omega, fun e he => by have := pc e he; omega, fun H6 s6 => q _⟩
end
end Bf

set_option Elab.async false
set_option linter.all false
set_option maxRecDepth 100000
set_option maxHeartbeats 4000000
namespace Bf
open PySem PySem.Spec PyProof.Rows L2
/-! ### what the top has written -/
theorem all_mk {l : PySem.W.OpenLaw} {w : World} {K : PySem.W.Frag} {h : Heap} {mg : Str → Option Value} {fa f_is_thing f_all_different f_are_ascending f_is_width f_picked_nodes f__law_begin f__law_draw f__law_pool f__law_olds f__law_stays f__law_put f_picked_words f_are_words f__law_pick f__law_pop f__law_shuffled f__law_takes f_judge_entry f__law_of_width f__law_codes f__law_spoilt_codes f_judge_codes f__law_new_node f__law_chain f__law_drawn_paper f__law_spoilt f__law_graph f__law_is_told f__law_tree f__law_machines f_law : Addr} (X : K.In h) (G : h.Ns mainGlobals mg) (hfa : mg "law" = some (.ref fa))
    {od2 an2 : Option Addr} {sl2 : Array (Option Value)} {oc2 kV2 dc2 pm2 cd2 ct2 : Value}
    {od4 an4 : Option Addr} {sl4 : Array (Option Value)} {oc4 kV4 dc4 pm4 cd4 ct4 : Value}
    {od6 an6 : Option Addr} {sl6 : Array (Option Value)} {oc6 kV6 dc6 pm6 cd6 ct6 : Value}
    {od8 an8 : Option Addr} {sl8 : Array (Option Value)} {oc8 kV8 dc8 pm8 cd8 ct8 : Value}
    {od10 an10 : Option Addr} {sl10 : Array (Option Value)} {oc10 kV10 dc10 pm10 cd10 ct10 : Value}
    {od12 an12 : Option Addr} {sl12 : Array (Option Value)} {oc12 kV12 dc12 pm12 cd12 ct12 : Value}
    {od14 an14 : Option Addr} {sl14 : Array (Option Value)} {oc14 kV14 dc14 pm14 cd14 ct14 : Value}
    {od16 an16 : Option Addr} {sl16 : Array (Option Value)} {oc16 kV16 dc16 pm16 cd16 ct16 : Value}
    {od18 an18 : Option Addr} {sl18 : Array (Option Value)} {oc18 kV18 dc18 pm18 cd18 ct18 : Value}
    {od20 an20 : Option Addr} {sl20 : Array (Option Value)} {oc20 kV20 dc20 pm20 cd20 ct20 : Value}
    {od22 an22 : Option Addr} {sl22 : Array (Option Value)} {oc22 kV22 dc22 pm22 cd22 ct22 : Value}
    {od24 an24 : Option Addr} {sl24 : Array (Option Value)} {oc24 kV24 dc24 pm24 cd24 ct24 : Value}
    {od26 an26 : Option Addr} {sl26 : Array (Option Value)} {oc26 kV26 dc26 pm26 cd26 ct26 : Value}
    {od28 an28 : Option Addr} {sl28 : Array (Option Value)} {oc28 kV28 dc28 pm28 cd28 ct28 : Value}
    {od30 an30 : Option Addr} {sl30 : Array (Option Value)} {oc30 kV30 dc30 pm30 cd30 ct30 : Value}
    {od32 an32 : Option Addr} {sl32 : Array (Option Value)} {oc32 kV32 dc32 pm32 cd32 ct32 : Value}
    {od34 an34 : Option Addr} {sl34 : Array (Option Value)} {oc34 kV34 dc34 pm34 cd34 ct34 : Value}
    {od36 an36 : Option Addr} {sl36 : Array (Option Value)} {oc36 kV36 dc36 pm36 cd36 ct36 : Value}
    {od38 an38 : Option Addr} {sl38 : Array (Option Value)} {oc38 kV38 dc38 pm38 cd38 ct38 : Value}
    {od40 an40 : Option Addr} {sl40 : Array (Option Value)} {oc40 kV40 dc40 pm40 cd40 ct40 : Value}
    {od42 an42 : Option Addr} {sl42 : Array (Option Value)} {oc42 kV42 dc42 pm42 cd42 ct42 : Value}
    {od44 an44 : Option Addr} {sl44 : Array (Option Value)} {oc44 kV44 dc44 pm44 cd44 ct44 : Value}
    {od46 an46 : Option Addr} {sl46 : Array (Option Value)} {oc46 kV46 dc46 pm46 cd46 ct46 : Value}
    {od48 an48 : Option Addr} {sl48 : Array (Option Value)} {oc48 kV48 dc48 pm48 cd48 ct48 : Value}
    {od50 an50 : Option Addr} {sl50 : Array (Option Value)} {oc50 kV50 dc50 pm50 cd50 ct50 : Value}
    {od52 an52 : Option Addr} {sl52 : Array (Option Value)} {oc52 kV52 dc52 pm52 cd52 ct52 : Value}
    {od54 an54 : Option Addr} {sl54 : Array (Option Value)} {oc54 kV54 dc54 pm54 cd54 ct54 : Value}
    {od56 an56 : Option Addr} {sl56 : Array (Option Value)} {oc56 kV56 dc56 pm56 cd56 ct56 : Value}
    {od58 an58 : Option Addr} {sl58 : Array (Option Value)} {oc58 kV58 dc58 pm58 cd58 ct58 : Value}
    {od60 an60 : Option Addr} {sl60 : Array (Option Value)} {oc60 kV60 dc60 pm60 cd60 ct60 : Value}
    {od62 an62 : Option Addr} {sl62 : Array (Option Value)} {oc62 kV62 dc62 pm62 cd62 ct62 : Value}
    {tM : Tok}
    (a1 : PySem.W.nsIn K mainGlobals "is_thing" = some (some (.ref f_is_thing)))
    (l2 : K.lookup f_is_thing = some ⟨oc2, od2, .func (PySem.W.fnOf "is_thing" "is_thing" (defArgs s_is_thing) (defBody s_is_thing) (defScope s_is_thing) .none kV2 dc2 pm2 an2 cd2 ct2), sl2⟩) (c2 : PySem.W.codeIn K cd2 "is_thing" = true) (k2 : PySem.W.keepIn K (.ref f_is_thing) = true)
    (a3 : PySem.W.nsIn K mainGlobals "all_different" = some (some (.ref f_all_different)))
    (l4 : K.lookup f_all_different = some ⟨oc4, od4, .func (PySem.W.fnOf "all_different" "all_different" (defArgs s_all_different) (defBody s_all_different) (defScope s_all_different) .none kV4 dc4 pm4 an4 cd4 ct4), sl4⟩) (c4 : PySem.W.codeIn K cd4 "all_different" = true) (k4 : PySem.W.keepIn K (.ref f_all_different) = true)
    (a5 : PySem.W.nsIn K mainGlobals "are_ascending" = some (some (.ref f_are_ascending)))
    (l6 : K.lookup f_are_ascending = some ⟨oc6, od6, .func (PySem.W.fnOf "are_ascending" "are_ascending" (defArgs s_are_ascending) (defBody s_are_ascending) (defScope s_are_ascending) .none kV6 dc6 pm6 an6 cd6 ct6), sl6⟩) (c6 : PySem.W.codeIn K cd6 "are_ascending" = true) (k6 : PySem.W.keepIn K (.ref f_are_ascending) = true)
    (a7 : PySem.W.nsIn K mainGlobals "is_width" = some (some (.ref f_is_width)))
    (l8 : K.lookup f_is_width = some ⟨oc8, od8, .func (PySem.W.fnOf "is_width" "is_width" (defArgs s_is_width) (defBody s_is_width) (defScope s_is_width) .none kV8 dc8 pm8 an8 cd8 ct8), sl8⟩) (c8 : PySem.W.codeIn K cd8 "is_width" = true) (k8 : PySem.W.keepIn K (.ref f_is_width) = true)
    (a9 : PySem.W.nsIn K mainGlobals "picked_nodes" = some (some (.ref f_picked_nodes)))
    (l10 : K.lookup f_picked_nodes = some ⟨oc10, od10, .func (PySem.W.fnOf "picked_nodes" "picked_nodes" (defArgs s_picked_nodes) (defBody s_picked_nodes) (defScope s_picked_nodes) .none kV10 dc10 pm10 an10 cd10 ct10), sl10⟩) (c10 : PySem.W.codeIn K cd10 "picked_nodes" = true) (k10 : PySem.W.keepIn K (.ref f_picked_nodes) = true)
    (a11 : PySem.W.nsIn K mainGlobals "_law_begin" = some (some (.ref f__law_begin)))
    (l12 : K.lookup f__law_begin = some ⟨oc12, od12, .func (PySem.W.fnOf "_law_begin" "_law_begin" (defArgs s_law_begin) (defBody s_law_begin) (defScope s_law_begin) .none kV12 dc12 pm12 an12 cd12 ct12), sl12⟩) (c12 : PySem.W.codeIn K cd12 "_law_begin" = true) (k12 : PySem.W.keepIn K (.ref f__law_begin) = true)
    (a13 : PySem.W.nsIn K mainGlobals "_law_draw" = some (some (.ref f__law_draw)))
    (l14 : K.lookup f__law_draw = some ⟨oc14, od14, .func (PySem.W.fnOf "_law_draw" "_law_draw" (defArgs s_law_draw) (defBody s_law_draw) (defScope s_law_draw) .none kV14 dc14 pm14 an14 cd14 ct14), sl14⟩) (c14 : PySem.W.codeIn K cd14 "_law_draw" = true) (k14 : PySem.W.keepIn K (.ref f__law_draw) = true)
    (a15 : PySem.W.nsIn K mainGlobals "_law_pool" = some (some (.ref f__law_pool)))
    (l16 : K.lookup f__law_pool = some ⟨oc16, od16, .func (PySem.W.fnOf "_law_pool" "_law_pool" (defArgs s_law_pool) (defBody s_law_pool) (defScope s_law_pool) .none kV16 dc16 pm16 an16 cd16 ct16), sl16⟩) (c16 : PySem.W.codeIn K cd16 "_law_pool" = true) (k16 : PySem.W.keepIn K (.ref f__law_pool) = true)
    (a17 : PySem.W.nsIn K mainGlobals "_law_olds" = some (some (.ref f__law_olds)))
    (l18 : K.lookup f__law_olds = some ⟨oc18, od18, .func (PySem.W.fnOf "_law_olds" "_law_olds" (defArgs s_law_olds) (defBody s_law_olds) (defScope s_law_olds) .none kV18 dc18 pm18 an18 cd18 ct18), sl18⟩) (c18 : PySem.W.codeIn K cd18 "_law_olds" = true) (k18 : PySem.W.keepIn K (.ref f__law_olds) = true)
    (a19 : PySem.W.nsIn K mainGlobals "_law_stays" = some (some (.ref f__law_stays)))
    (l20 : K.lookup f__law_stays = some ⟨oc20, od20, .func (PySem.W.fnOf "_law_stays" "_law_stays" (defArgs s_law_stays) (defBody s_law_stays) (defScope s_law_stays) .none kV20 dc20 pm20 an20 cd20 ct20), sl20⟩) (c20 : PySem.W.codeIn K cd20 "_law_stays" = true) (k20 : PySem.W.keepIn K (.ref f__law_stays) = true)
    (a21 : PySem.W.nsIn K mainGlobals "_law_put" = some (some (.ref f__law_put)))
    (l22 : K.lookup f__law_put = some ⟨oc22, od22, .func (PySem.W.fnOf "_law_put" "_law_put" (defArgs s_law_put) (defBody s_law_put) (defScope s_law_put) .none kV22 dc22 pm22 an22 cd22 ct22), sl22⟩) (c22 : PySem.W.codeIn K cd22 "_law_put" = true) (k22 : PySem.W.keepIn K (.ref f__law_put) = true)
    (a23 : PySem.W.nsIn K mainGlobals "picked_words" = some (some (.ref f_picked_words)))
    (l24 : K.lookup f_picked_words = some ⟨oc24, od24, .func (PySem.W.fnOf "picked_words" "picked_words" (defArgs s_picked_words) (defBody s_picked_words) (defScope s_picked_words) .none kV24 dc24 pm24 an24 cd24 ct24), sl24⟩) (c24 : PySem.W.codeIn K cd24 "picked_words" = true) (k24 : PySem.W.keepIn K (.ref f_picked_words) = true)
    (a25 : PySem.W.nsIn K mainGlobals "are_words" = some (some (.ref f_are_words)))
    (l26 : K.lookup f_are_words = some ⟨oc26, od26, .func (PySem.W.fnOf "are_words" "are_words" (defArgs s_are_words) (defBody s_are_words) (defScope s_are_words) .none kV26 dc26 pm26 an26 cd26 ct26), sl26⟩) (c26 : PySem.W.codeIn K cd26 "are_words" = true) (k26 : PySem.W.keepIn K (.ref f_are_words) = true)
    (a27 : PySem.W.nsIn K mainGlobals "_law_pick" = some (some (.ref f__law_pick)))
    (l28 : K.lookup f__law_pick = some ⟨oc28, od28, .func (PySem.W.fnOf "_law_pick" "_law_pick" (defArgs s_law_pick) (defBody s_law_pick) (defScope s_law_pick) .none kV28 dc28 pm28 an28 cd28 ct28), sl28⟩) (c28 : PySem.W.codeIn K cd28 "_law_pick" = true) (k28 : PySem.W.keepIn K (.ref f__law_pick) = true)
    (a29 : PySem.W.nsIn K mainGlobals "_law_pop" = some (some (.ref f__law_pop)))
    (l30 : K.lookup f__law_pop = some ⟨oc30, od30, .func (PySem.W.fnOf "_law_pop" "_law_pop" (defArgs s_law_pop) (defBody s_law_pop) (defScope s_law_pop) .none kV30 dc30 pm30 an30 cd30 ct30), sl30⟩) (c30 : PySem.W.codeIn K cd30 "_law_pop" = true) (k30 : PySem.W.keepIn K (.ref f__law_pop) = true)
    (a31 : PySem.W.nsIn K mainGlobals "_law_shuffled" = some (some (.ref f__law_shuffled)))
    (l32 : K.lookup f__law_shuffled = some ⟨oc32, od32, .func (PySem.W.fnOf "_law_shuffled" "_law_shuffled" (defArgs s_law_shuffled) (defBody s_law_shuffled) (defScope s_law_shuffled) .none kV32 dc32 pm32 an32 cd32 ct32), sl32⟩) (c32 : PySem.W.codeIn K cd32 "_law_shuffled" = true) (k32 : PySem.W.keepIn K (.ref f__law_shuffled) = true)
    (a33 : PySem.W.nsIn K mainGlobals "_law_takes" = some (some (.ref f__law_takes)))
    (l34 : K.lookup f__law_takes = some ⟨oc34, od34, .func (PySem.W.fnOf "_law_takes" "_law_takes" (defArgs s_law_takes) (defBody s_law_takes) (defScope s_law_takes) .none kV34 dc34 pm34 an34 cd34 ct34), sl34⟩) (c34 : PySem.W.codeIn K cd34 "_law_takes" = true) (k34 : PySem.W.keepIn K (.ref f__law_takes) = true)
    (a35 : PySem.W.nsIn K mainGlobals "judge_entry" = some (some (.ref f_judge_entry)))
    (l36 : K.lookup f_judge_entry = some ⟨oc36, od36, .func (PySem.W.fnOf "judge_entry" "judge_entry" (defArgs s_judge_entry) (defBody s_judge_entry) (defScope s_judge_entry) .none kV36 dc36 pm36 an36 cd36 ct36), sl36⟩) (c36 : PySem.W.codeIn K cd36 "judge_entry" = true) (k36 : PySem.W.keepIn K (.ref f_judge_entry) = true)
    (a37 : PySem.W.nsIn K mainGlobals "_law_of_width" = some (some (.ref f__law_of_width)))
    (l38 : K.lookup f__law_of_width = some ⟨oc38, od38, .func (PySem.W.fnOf "_law_of_width" "_law_of_width" (defArgs s_law_of_width) (defBody s_law_of_width) (defScope s_law_of_width) .none kV38 dc38 pm38 an38 cd38 ct38), sl38⟩) (c38 : PySem.W.codeIn K cd38 "_law_of_width" = true) (k38 : PySem.W.keepIn K (.ref f__law_of_width) = true)
    (a39 : PySem.W.nsIn K mainGlobals "_law_codes" = some (some (.ref f__law_codes)))
    (l40 : K.lookup f__law_codes = some ⟨oc40, od40, .func (PySem.W.fnOf "_law_codes" "_law_codes" (defArgs s_law_codes) (defBody s_law_codes) (defScope s_law_codes) .none kV40 dc40 pm40 an40 cd40 ct40), sl40⟩) (c40 : PySem.W.codeIn K cd40 "_law_codes" = true) (k40 : PySem.W.keepIn K (.ref f__law_codes) = true)
    (a41 : PySem.W.nsIn K mainGlobals "_law_spoilt_codes" = some (some (.ref f__law_spoilt_codes)))
    (l42 : K.lookup f__law_spoilt_codes = some ⟨oc42, od42, .func (PySem.W.fnOf "_law_spoilt_codes" "_law_spoilt_codes" (defArgs s_law_spoilt_codes) (defBody s_law_spoilt_codes) (defScope s_law_spoilt_codes) .none kV42 dc42 pm42 an42 cd42 ct42), sl42⟩) (c42 : PySem.W.codeIn K cd42 "_law_spoilt_codes" = true) (k42 : PySem.W.keepIn K (.ref f__law_spoilt_codes) = true)
    (a43 : PySem.W.nsIn K mainGlobals "judge_codes" = some (some (.ref f_judge_codes)))
    (l44 : K.lookup f_judge_codes = some ⟨oc44, od44, .func (PySem.W.fnOf "judge_codes" "judge_codes" (defArgs s_judge_codes) (defBody s_judge_codes) (defScope s_judge_codes) .none kV44 dc44 pm44 an44 cd44 ct44), sl44⟩) (c44 : PySem.W.codeIn K cd44 "judge_codes" = true) (k44 : PySem.W.keepIn K (.ref f_judge_codes) = true)
    (a45 : PySem.W.nsIn K mainGlobals "_law_new_node" = some (some (.ref f__law_new_node)))
    (l46 : K.lookup f__law_new_node = some ⟨oc46, od46, .func (PySem.W.fnOf "_law_new_node" "_law_new_node" (defArgs s_law_new_node) (defBody s_law_new_node) (defScope s_law_new_node) .none kV46 dc46 pm46 an46 cd46 ct46), sl46⟩) (c46 : PySem.W.codeIn K cd46 "_law_new_node" = true) (k46 : PySem.W.keepIn K (.ref f__law_new_node) = true)
    (a47 : PySem.W.nsIn K mainGlobals "_law_chain" = some (some (.ref f__law_chain)))
    (l48 : K.lookup f__law_chain = some ⟨oc48, od48, .func (PySem.W.fnOf "_law_chain" "_law_chain" (defArgs s_law_chain) (defBody s_law_chain) (defScope s_law_chain) .none kV48 dc48 pm48 an48 cd48 ct48), sl48⟩) (c48 : PySem.W.codeIn K cd48 "_law_chain" = true) (k48 : PySem.W.keepIn K (.ref f__law_chain) = true)
    (a49 : PySem.W.nsIn K mainGlobals "_law_drawn_paper" = some (some (.ref f__law_drawn_paper)))
    (l50 : K.lookup f__law_drawn_paper = some ⟨oc50, od50, .func (PySem.W.fnOf "_law_drawn_paper" "_law_drawn_paper" (defArgs s_law_drawn_paper) (defBody s_law_drawn_paper) (defScope s_law_drawn_paper) .none kV50 dc50 pm50 an50 cd50 ct50), sl50⟩) (c50 : PySem.W.codeIn K cd50 "_law_drawn_paper" = true) (k50 : PySem.W.keepIn K (.ref f__law_drawn_paper) = true)
    (a51 : PySem.W.nsIn K mainGlobals "_law_spoilt" = some (some (.ref f__law_spoilt)))
    (l52 : K.lookup f__law_spoilt = some ⟨oc52, od52, .func (PySem.W.fnOf "_law_spoilt" "_law_spoilt" (defArgs s_law_spoilt) (defBody s_law_spoilt) (defScope s_law_spoilt) .none kV52 dc52 pm52 an52 cd52 ct52), sl52⟩) (c52 : PySem.W.codeIn K cd52 "_law_spoilt" = true) (k52 : PySem.W.keepIn K (.ref f__law_spoilt) = true)
    (a53 : PySem.W.nsIn K mainGlobals "_law_graph" = some (some (.ref f__law_graph)))
    (l54 : K.lookup f__law_graph = some ⟨oc54, od54, .func (PySem.W.fnOf "_law_graph" "_law_graph" (defArgs s_law_graph) (defBody s_law_graph) (defScope s_law_graph) .none kV54 dc54 pm54 an54 cd54 ct54), sl54⟩) (c54 : PySem.W.codeIn K cd54 "_law_graph" = true) (k54 : PySem.W.keepIn K (.ref f__law_graph) = true)
    (a55 : PySem.W.nsIn K mainGlobals "_law_is_told" = some (some (.ref f__law_is_told)))
    (l56 : K.lookup f__law_is_told = some ⟨oc56, od56, .func (PySem.W.fnOf "_law_is_told" "_law_is_told" (defArgs s_law_is_told) (defBody s_law_is_told) (defScope s_law_is_told) .none kV56 dc56 pm56 an56 cd56 ct56), sl56⟩) (c56 : PySem.W.codeIn K cd56 "_law_is_told" = true) (k56 : PySem.W.keepIn K (.ref f__law_is_told) = true)
    (a57 : PySem.W.nsIn K mainGlobals "_law_tree" = some (some (.ref f__law_tree)))
    (l58 : K.lookup f__law_tree = some ⟨oc58, od58, .func (PySem.W.fnOf "_law_tree" "_law_tree" (defArgs s_law_tree) (defBody s_law_tree) (defScope s_law_tree) .none kV58 dc58 pm58 an58 cd58 ct58), sl58⟩) (c58 : PySem.W.codeIn K cd58 "_law_tree" = true) (k58 : PySem.W.keepIn K (.ref f__law_tree) = true)
    (a59 : PySem.W.nsIn K mainGlobals "_law_machines" = some (some (.ref f__law_machines)))
    (l60 : K.lookup f__law_machines = some ⟨oc60, od60, .func (PySem.W.fnOf "_law_machines" "_law_machines" (defArgs s_law_machines) (defBody s_law_machines) (defScope s_law_machines) .none kV60 dc60 pm60 an60 cd60 ct60), sl60⟩) (c60 : PySem.W.codeIn K cd60 "_law_machines" = true) (k60 : PySem.W.keepIn K (.ref f__law_machines) = true)
    (a61 : PySem.W.nsIn K mainGlobals "law" = some (some (.ref f_law)))
    (l62 : K.lookup f_law = some ⟨oc62, od62, .func (PySem.W.fnOf "law" "law" (defArgs s_law) (defBody s_law) (defScope s_law) .none kV62 dc62 pm62 an62 cd62 ct62), sl62⟩) (c62 : PySem.W.codeIn K cd62 "law" = true) (k62 : PySem.W.keepIn K (.ref f_law) = true)
    (x63 : PySem.W.nsIn K mainGlobals "MOST_WIDTH" = some (some (.int 8 tM)))
    (z64 : PySem.W.nsIn K mainGlobals "int" = some none)
    (z65 : PySem.W.nsIn K mainGlobals "len" = some none)
    (z66 : PySem.W.nsIn K mainGlobals "abs" = some none)
    (z67 : PySem.W.nsIn K mainGlobals "isinstance" = some none)
    (z68 : PySem.W.nsIn K mainGlobals "range" = some none)
    (z69 : PySem.W.nsIn K mainGlobals "tuple" = some none)
    (z70 : PySem.W.nsIn K mainGlobals "all" = some none)
    (z71 : PySem.W.nsIn K mainGlobals "list" = some none)
    (z72 : PySem.W.nsIn K mainGlobals "enumerate" = some none)
    (z73 : PySem.W.nsIn K mainGlobals "bool" = some none)
    (z74 : PySem.W.nsIn K mainGlobals "max" = some none)
    (z75 : PySem.W.nsIn K mainGlobals "min" = some none)
    (z76 : PySem.W.nsIn K mainGlobals "str" = some none)
    (z77 : PySem.W.nsIn K mainGlobals "sorted" = some none)
    (z78 : PySem.W.nsIn K mainGlobals "zip" = some none)
    (z79 : PySem.W.nsIn K mainGlobals "reversed" = some none)
    (z80 : PySem.W.nsIn K mainGlobals "set" = some none) :
    ∃ fd : FuncData, (∀ (s : Shared) (v : Value), BindsTo s fd ⟨[v], []⟩ [("_law_script", v)]) ∧ ∀ base : Heap, K.In base → base.Ns mainGlobals mg → FnOk l.prog w K mg base CX0 10 fa fd ["_law_script"] (spLaw K) := by
  have e := hfa.symm.trans (PySem.W.mg_of X G a61)
  cases e
  have T : Txt mg := ⟨PySem.W.mg_none_of X G z64, PySem.W.mg_none_of X G z65, PySem.W.mg_none_of X G z66, PySem.W.mg_none_of X G z67, PySem.W.mg_none_of X G z68, PySem.W.mg_none_of X G z69, PySem.W.mg_none_of X G z70, PySem.W.mg_none_of X G z71, PySem.W.mg_none_of X G z72, PySem.W.mg_none_of X G z73, PySem.W.mg_none_of X G z74, PySem.W.mg_none_of X G z75, PySem.W.mg_none_of X G z76, PySem.W.mg_none_of X G z77, PySem.W.mg_none_of X G z78, PySem.W.mg_none_of X G z79, PySem.W.mg_none_of X G z80⟩
  have TP : TxtP mg tM := ⟨T, PySem.W.mg_of X G x63⟩
  have F_is_thing := fun_mk (st := s_is_thing) l2 c2 k2
  have F_all_different := fun_mk (st := s_all_different) l4 c4 k4
  have F_are_ascending := fun_mk (st := s_are_ascending) l6 c6 k6
  have F_is_width := fun_mk (st := s_is_width) l8 c8 k8
  have F_picked_nodes := fun_mk (st := s_picked_nodes) l10 c10 k10
  have F_law_begin := fun_mk (st := s_law_begin) l12 c12 k12
  have F_law_draw := fun_mk (st := s_law_draw) l14 c14 k14
  have F_law_pool := fun_mk (st := s_law_pool) l16 c16 k16
  have F_law_olds := fun_mk (st := s_law_olds) l18 c18 k18
  have F_law_stays := fun_mk (st := s_law_stays) l20 c20 k20
  have F_law_put := fun_mk (st := s_law_put) l22 c22 k22
  have F_picked_words := fun_mk (st := s_picked_words) l24 c24 k24
  have F_are_words := fun_mk (st := s_are_words) l26 c26 k26
  have F_law_pick := fun_mk (st := s_law_pick) l28 c28 k28
  have F_law_pop := fun_mk (st := s_law_pop) l30 c30 k30
  have F_law_shuffled := fun_mk (st := s_law_shuffled) l32 c32 k32
  have F_law_takes := fun_mk (st := s_law_takes) l34 c34 k34
  have F_judge_entry := fun_mk (st := s_judge_entry) l36 c36 k36
  have F_law_of_width := fun_mk (st := s_law_of_width) l38 c38 k38
  have F_law_codes := fun_mk (st := s_law_codes) l40 c40 k40
  have F_law_spoilt_codes := fun_mk (st := s_law_spoilt_codes) l42 c42 k42
  have F_judge_codes := fun_mk (st := s_judge_codes) l44 c44 k44
  have F_law_new_node := fun_mk (st := s_law_new_node) l46 c46 k46
  have F_law_chain := fun_mk (st := s_law_chain) l48 c48 k48
  have F_law_drawn_paper := fun_mk (st := s_law_drawn_paper) l50 c50 k50
  have F_law_spoilt := fun_mk (st := s_law_spoilt) l52 c52 k52
  have F_law_graph := fun_mk (st := s_law_graph) l54 c54 k54
  have F_law_is_told := fun_mk (st := s_law_is_told) l56 c56 k56
  have F_law_tree := fun_mk (st := s_law_tree) l58 c58 k58
  have F_law_machines := fun_mk (st := s_law_machines) l60 c60 k60
  have F_law := fun_mk (st := s_law) l62 c62 k62
  refine ⟨PySem.W.fnOf "law" "law" (defArgs s_law) (defBody s_law) (defScope s_law) .none kV62 dc62 pm62 an62 cd62 ct62, fun s v => .of_eq rfl, fun base _ _ => ?_⟩
  have D_is_thing : Dn l.prog w K mg base "is_thing" ["number", "many"] 1 spThing := ⟨f_is_thing, _, ok_thing F_is_thing T, PySem.W.mg_of X G a1, k2, (F_is_thing.binds (ps := ["number", "many"]) fun _ _ _ _ _ _ us hl => match us, hl with | [_, _], _ => rfl)⟩
  have D_all_different : Dn l.prog w K mg base "all_different" ["names"] 1 spDiff := ⟨f_all_different, _, ok_diff F_all_different T, PySem.W.mg_of X G a3, k4, (F_all_different.binds (ps := ["names"]) fun _ _ _ _ _ _ us hl => match us, hl with | [_], _ => rfl)⟩
  have D_are_ascending : Dn l.prog w K mg base "are_ascending" ["numbers"] 1 spAsc := ⟨f_are_ascending, _, ok_asc F_are_ascending T, PySem.W.mg_of X G a5, k6, (F_are_ascending.binds (ps := ["numbers"]) fun _ _ _ _ _ _ us hl => match us, hl with | [_], _ => rfl)⟩
  have D_is_width : Dn l.prog w K mg base "is_width" ["width"] 1 spIsWidth := ⟨f_is_width, _, ok_isWidth F_is_width TP, PySem.W.mg_of X G a7, k8, (F_is_width.binds (ps := ["width"]) fun _ _ _ _ _ _ us hl => match us, hl with | [_], _ => rfl)⟩
  have D_picked_nodes : Dn l.prog w K mg base "picked_nodes" ["nodes", "start"] 1 spPicked := ⟨f_picked_nodes, _, ok_picked F_picked_nodes T, PySem.W.mg_of X G a9, k10, (F_picked_nodes.binds (ps := ["nodes", "start"]) fun _ _ _ _ _ _ us hl => match us, hl with | [_, _], _ => rfl)⟩
  have D_law_begin : Dn l.prog w K mg base "_law_begin" ["_law_script"] 1 (spBegin K) := ⟨f__law_begin, _, ok_begin F_law_begin T, PySem.W.mg_of X G a11, k12, (F_law_begin.binds (ps := ["_law_script"]) fun _ _ _ _ _ _ us hl => match us, hl with | [_], _ => rfl)⟩
  have D_law_draw : Dn l.prog w K mg base "_law_draw" ["_law_d", "_law_many"] 1 spDraw := ⟨f__law_draw, _, ok_draw F_law_draw T, PySem.W.mg_of X G a13, k14, (F_law_draw.binds (ps := ["_law_d", "_law_many"]) fun _ _ _ _ _ _ us hl => match us, hl with | [_, _], _ => rfl)⟩
  have D_law_pool : Dn l.prog w K mg base "_law_pool" [] 1 spPool := ⟨f__law_pool, _, ok_pool F_law_pool , PySem.W.mg_of X G a15, k16, (F_law_pool.binds (ps := []) fun _ _ _ _ _ _ us hl => match us, hl with | [], _ => rfl)⟩
  have D_law_olds : Dn l.prog w K mg base "_law_olds" ["_law_graph_here", "_law_reg"] 1 spOlds := ⟨f__law_olds, _, ok_olds F_law_olds T, PySem.W.mg_of X G a17, k18, (F_law_olds.binds (ps := ["_law_graph_here", "_law_reg"]) fun _ _ _ _ _ _ us hl => match us, hl with | [_, _], _ => rfl)⟩
  have D_law_stays : Dn l.prog w K mg base "_law_stays" ["_law_graph_here", "_law_reg", "_law_olds_here"] 1 spStays := ⟨f__law_stays, _, ok_stays F_law_stays T, PySem.W.mg_of X G a19, k20, (F_law_stays.binds (ps := ["_law_graph_here", "_law_reg", "_law_olds_here"]) fun _ _ _ _ _ _ us hl => match us, hl with | [_, _, _], _ => rfl)⟩
  have D_law_put : Dn l.prog w K mg base "_law_put" ["_law_row", "_law_at", "_law_part"] 1 spPut := ⟨f__law_put, _, ok_put F_law_put T, PySem.W.mg_of X G a21, k22, (F_law_put.binds (ps := ["_law_row", "_law_at", "_law_part"]) fun _ _ _ _ _ _ us hl => match us, hl with | [_, _, _], _ => rfl)⟩
  have D_picked_words : Dn l.prog w K mg base "picked_words" ["graph", "reg"] 2 spWords := ⟨f_picked_words, _, ok_words F_picked_words T D_picked_nodes, PySem.W.mg_of X G a23, k24, (F_picked_words.binds (ps := ["graph", "reg"]) fun _ _ _ _ _ _ us hl => match us, hl with | [_, _], _ => rfl)⟩
  have D_are_words : Dn l.prog w K mg base "are_words" ["words", "width"] 2 spAreWords := ⟨f_are_words, _, ok_areWords F_are_words T D_all_different, PySem.W.mg_of X G a25, k26, (F_are_words.binds (ps := ["words", "width"]) fun _ _ _ _ _ _ us hl => match us, hl with | [_, _], _ => rfl)⟩
  have D_law_pick : Dn l.prog w K mg base "_law_pick" ["_law_d", "_law_row"] 2 (spPick K) := ⟨f__law_pick, _, ok_pick F_law_pick T D_law_draw, PySem.W.mg_of X G a27, k28, (F_law_pick.binds (ps := ["_law_d", "_law_row"]) fun _ _ _ _ _ _ us hl => match us, hl with | [_, _], _ => rfl)⟩
  have D_law_pop : Dn l.prog w K mg base "_law_pop" ["_law_d", "_law_row"] 2 spPop := ⟨f__law_pop, _, ok_pop F_law_pop T D_law_draw, PySem.W.mg_of X G a29, k30, (F_law_pop.binds (ps := ["_law_d", "_law_row"]) fun _ _ _ _ _ _ us hl => match us, hl with | [_, _], _ => rfl)⟩
  have D_law_shuffled : Dn l.prog w K mg base "_law_shuffled" ["_law_d", "_law_row"] 2 (spShuf K) := ⟨f__law_shuffled, _, ok_shuf F_law_shuffled T D_law_draw, PySem.W.mg_of X G a31, k32, (F_law_shuffled.binds (ps := ["_law_d", "_law_row"]) fun _ _ _ _ _ _ us hl => match us, hl with | [_, _], _ => rfl)⟩
  have D_law_takes : Dn l.prog w K mg base "_law_takes" ["_law_graph_here", "_law_paper"] 2 spJudgeC := ⟨f__law_takes, _, ok_takes F_law_takes T D_law_stays, PySem.W.mg_of X G a33, k34, (F_law_takes.binds (ps := ["_law_graph_here", "_law_paper"]) fun _ _ _ _ _ _ us hl => match us, hl with | [_, _], _ => rfl)⟩
  have D_judge_entry : Dn l.prog w K mg base "judge_entry" ["graph", "entry"] 3 spJudgeE := ⟨f_judge_entry, _, ok_judgeE F_judge_entry T D_picked_words D_is_thing D_is_width D_are_ascending D_are_words, PySem.W.mg_of X G a35, k36, (F_judge_entry.binds (ps := ["graph", "entry"]) fun _ _ _ _ _ _ us hl => match us, hl with | [_, _], _ => rfl)⟩
  have D_law_of_width : Dn l.prog w K mg base "_law_of_width" ["_law_d", "_law_nodes", "_law_width"] 3 spOfW := ⟨f__law_of_width, _, ok_ofW F_law_of_width T D_law_pick, PySem.W.mg_of X G a37, k38, (F_law_of_width.binds (ps := ["_law_d", "_law_nodes", "_law_width"]) fun _ _ _ _ _ _ us hl => match us, hl with | [_, _, _], _ => rfl)⟩
  have D_law_codes : Dn l.prog w K mg base "_law_codes" ["_law_d", "_law_wide", "_law_olds_here"] 3 spCodes := ⟨f__law_codes, _, ok_codes F_law_codes T D_law_draw D_law_shuffled, PySem.W.mg_of X G a39, k40, (F_law_codes.binds (ps := ["_law_d", "_law_wide", "_law_olds_here"]) fun _ _ _ _ _ _ us hl => match us, hl with | [_, _, _], _ => rfl)⟩
  have D_law_spoilt_codes : Dn l.prog w K mg base "_law_spoilt_codes" ["_law_d", "_law_wide", "_law_width", "_law_codes_here"] 3 spSpoC := ⟨f__law_spoilt_codes, _, ok_spoC F_law_spoilt_codes T D_law_draw D_law_pick D_law_put, PySem.W.mg_of X G a41, k42, (F_law_spoilt_codes.binds (ps := ["_law_d", "_law_wide", "_law_width", "_law_codes_here"]) fun _ _ _ _ _ _ us hl => match us, hl with | [_, _, _, _], _ => rfl)⟩
  have D_judge_codes : Dn l.prog w K mg base "judge_codes" ["graph", "paper"] 4 spJudgeC := ⟨f_judge_codes, _, ok_judgeC F_judge_codes T D_are_ascending D_judge_entry, PySem.W.mg_of X G a43, k44, (F_judge_codes.binds (ps := ["graph", "paper"]) fun _ _ _ _ _ _ us hl => match us, hl with | [_, _], _ => rfl)⟩
  have D_law_new_node : Dn l.prog w K mg base "_law_new_node" ["_law_d", "_law_nodes", "_law_stores", "_law_most"] 4 spNewNode := ⟨f__law_new_node, _, ok_newNode F_law_new_node T D_law_draw D_law_pick D_law_of_width, PySem.W.mg_of X G a45, k46, (F_law_new_node.binds (ps := ["_law_d", "_law_nodes", "_law_stores", "_law_most"]) fun _ _ _ _ _ _ us hl => match us, hl with | [_, _, _, _], _ => rfl)⟩
  have D_law_chain : Dn l.prog w K mg base "_law_chain" ["_law_d", "_law_nodes", "_law_reg", "_law_wide", "_law_words"] 4 spChain := ⟨f__law_chain, _, ok_chain F_law_chain T D_law_draw D_law_of_width, PySem.W.mg_of X G a47, k48, (F_law_chain.binds (ps := ["_law_d", "_law_nodes", "_law_reg", "_law_wide", "_law_words"]) fun _ _ _ _ _ _ us hl => match us, hl with | [_, _, _, _, _], _ => rfl)⟩
  have D_law_drawn_paper : Dn l.prog w K mg base "_law_drawn_paper" ["_law_d", "_law_graph_here"] 4 spDrawnP := ⟨f__law_drawn_paper, _, ok_drawnP F_law_drawn_paper T D_law_olds D_law_codes D_law_draw, PySem.W.mg_of X G a49, k50, (F_law_drawn_paper.binds (ps := ["_law_d", "_law_graph_here"]) fun _ _ _ _ _ _ us hl => match us, hl with | [_, _], _ => rfl)⟩
  have D_law_spoilt : Dn l.prog w K mg base "_law_spoilt" ["_law_d", "_law_graph_here", "_law_paper"] 4 spSpoP := ⟨f__law_spoilt, _, ok_spoP F_law_spoilt T D_law_draw D_law_pick D_law_put D_law_spoilt_codes, PySem.W.mg_of X G a51, k52, (F_law_spoilt.binds (ps := ["_law_d", "_law_graph_here", "_law_paper"]) fun _ _ _ _ _ _ us hl => match us, hl with | [_, _, _], _ => rfl)⟩
  have D_law_graph : Dn l.prog w K mg base "_law_graph" ["_law_d", "_law_inputs", "_law_regs", "_law_mems", "_law_nodes", "_law_most"] 5 spGraph := ⟨f__law_graph, _, ok_graph F_law_graph T D_law_draw D_law_pop D_law_pool D_law_of_width D_law_new_node, PySem.W.mg_of X G a53, k54, (F_law_graph.binds (ps := ["_law_d", "_law_inputs", "_law_regs", "_law_mems", "_law_nodes", "_law_most"]) fun _ _ _ _ _ _ us hl => match us, hl with | [_, _, _, _, _, _], _ => rfl)⟩
  have D_law_is_told : Dn l.prog w K mg base "_law_is_told" ["_law_graph_here", "_law_paper"] 5 spToldC := ⟨f__law_is_told, _, ok_told F_law_is_told T D_judge_codes D_law_takes, PySem.W.mg_of X G a55, k56, (F_law_is_told.binds (ps := ["_law_graph_here", "_law_paper"]) fun _ _ _ _ _ _ us hl => match us, hl with | [_, _], _ => rfl)⟩
  have D_law_tree : Dn l.prog w K mg base "_law_tree" ["_law_d", "_law_nodes", "_law_reg", "_law_wide", "_law_words", "_law_made", "_law_depth"] 8 (spTree 4) := ⟨f__law_tree, _, ok_tree F_law_tree T D_law_draw D_law_pick D_law_of_width (PySem.W.mg_of X G a57) k58 (F_law_tree.binds (ps := ["_law_d", "_law_nodes", "_law_reg", "_law_wide", "_law_words", "_law_made", "_law_depth"]) fun _ _ _ _ _ _ us hl => match us, hl with | [_, _, _, _, _, _, _], _ => rfl) 4, PySem.W.mg_of X G a57, k58, (F_law_tree.binds (ps := ["_law_d", "_law_nodes", "_law_reg", "_law_wide", "_law_words", "_law_made", "_law_depth"]) fun _ _ _ _ _ _ us hl => match us, hl with | [_, _, _, _, _, _, _], _ => rfl)⟩
  have D_law_machines : Dn l.prog w K mg base "_law_machines" ["_law_d", "_law_graph_here", "_law_many", "_law_longest"] 9 spMach := ⟨f__law_machines, _, ok_mach F_law_machines T D_law_draw D_law_pick D_law_shuffled D_law_chain D_law_tree, PySem.W.mg_of X G a59, k60, (F_law_machines.binds (ps := ["_law_d", "_law_graph_here", "_law_many", "_law_longest"]) fun _ _ _ _ _ _ us hl => match us, hl with | [_, _, _, _], _ => rfl)⟩
  exact ok_law F_law T D_law_begin D_law_draw D_law_pick D_law_graph D_law_machines D_law_drawn_paper D_judge_codes D_law_spoilt D_law_is_told
end Bf
open PySem PySem.W PyProof.Rows
set_option maxRecDepth 100000 in
set_option maxHeartbeats 0 in
theorem PySem.Challenge.cw_beatfabric_k29_codes_judged_holds : PySem.Challenge.rw_beatfabric_k29_codes_judged.Holds := by
  w_on; o_law; k_head; (case hw => w_witness2)
  k_fill
  refine L2.walk_of (l := PySem.Challenge.rw_beatfabric_k29_codes_judged) (n := 63) (k := 10) (x := "_law_script") (CX := fun _ => L2.CX0) (sp := fun w => Bf.spLaw _) rfl (by decide) rfl ⟨rfl, by decide, by decide⟩ (fun w h Y => PySem.W.kIn_of Y) ?F (fun _ _ a ns hl _ hS => ⟨a, ns, rfl, hS, hl, fun _ => rfl⟩) (fun _ _ _ _ _ h => h)
  case F =>
    intro w mg fa h KX G hmg
    refine' Bf.all_mk KX G hmg ?a1 ?l2 ?c2 ?k2 ?a3 ?l4 ?c4 ?k4 ?a5 ?l6 ?c6 ?k6 ?a7 ?l8 ?c8 ?k8 ?a9 ?l10 ?c10 ?k10 ?a11 ?l12 ?c12 ?k12 ?a13 ?l14 ?c14 ?k14 ?a15 ?l16 ?c16 ?k16 ?a17 ?l18 ?c18 ?k18 ?a19 ?l20 ?c20 ?k20 ?a21 ?l22 ?c22 ?k22 ?a23 ?l24 ?c24 ?k24 ?a25 ?l26 ?c26 ?k26 ?a27 ?l28 ?c28 ?k28 ?a29 ?l30 ?c30 ?k30 ?a31 ?l32 ?c32 ?k32 ?a33 ?l34 ?c34 ?k34 ?a35 ?l36 ?c36 ?k36 ?a37 ?l38 ?c38 ?k38 ?a39 ?l40 ?c40 ?k40 ?a41 ?l42 ?c42 ?k42 ?a43 ?l44 ?c44 ?k44 ?a45 ?l46 ?c46 ?k46 ?a47 ?l48 ?c48 ?k48 ?a49 ?l50 ?c50 ?k50 ?a51 ?l52 ?c52 ?k52 ?a53 ?l54 ?c54 ?k54 ?a55 ?l56 ?c56 ?k56 ?a57 ?l58 ?c58 ?k58 ?a59 ?l60 ?c60 ?k60 ?a61 ?l62 ?c62 ?k62 ?x63 ?z64 ?z65 ?z66 ?z67 ?z68 ?z69 ?z70 ?z71 ?z72 ?z73 ?z74 ?z75 ?z76 ?z77 ?z78 ?z79 ?z80
    (case a1 => k_is)
    (case l2 => k_is)
    (case c2 => k_is)
    (case k2 => k_is)
    (case a3 => k_is)
    (case l4 => k_is)
    (case c4 => k_is)
    (case k4 => k_is)
    (case a5 => k_is)
    (case l6 => k_is)
    (case c6 => k_is)
    (case k6 => k_is)
    (case a7 => k_is)
    (case l8 => k_is)
    (case c8 => k_is)
    (case k8 => k_is)
    (case a9 => k_is)
    (case l10 => k_is)
    (case c10 => k_is)
    (case k10 => k_is)
    (case a11 => k_is)
    (case l12 => k_is)
    (case c12 => k_is)
    (case k12 => k_is)
    (case a13 => k_is)
    (case l14 => k_is)
    (case c14 => k_is)
    (case k14 => k_is)
    (case a15 => k_is)
    (case l16 => k_is)
    (case c16 => k_is)
    (case k16 => k_is)
    (case a17 => k_is)
    (case l18 => k_is)
    (case c18 => k_is)
    (case k18 => k_is)
    (case a19 => k_is)
    (case l20 => k_is)
    (case c20 => k_is)
    (case k20 => k_is)
    (case a21 => k_is)
    (case l22 => k_is)
    (case c22 => k_is)
    (case k22 => k_is)
    (case a23 => k_is)
    (case l24 => k_is)
    (case c24 => k_is)
    (case k24 => k_is)
    (case a25 => k_is)
    (case l26 => k_is)
    (case c26 => k_is)
    (case k26 => k_is)
    (case a27 => k_is)
    (case l28 => k_is)
    (case c28 => k_is)
    (case k28 => k_is)
    (case a29 => k_is)
    (case l30 => k_is)
    (case c30 => k_is)
    (case k30 => k_is)
    (case a31 => k_is)
    (case l32 => k_is)
    (case c32 => k_is)
    (case k32 => k_is)
    (case a33 => k_is)
    (case l34 => k_is)
    (case c34 => k_is)
    (case k34 => k_is)
    (case a35 => k_is)
    (case l36 => k_is)
    (case c36 => k_is)
    (case k36 => k_is)
    (case a37 => k_is)
    (case l38 => k_is)
    (case c38 => k_is)
    (case k38 => k_is)
    (case a39 => k_is)
    (case l40 => k_is)
    (case c40 => k_is)
    (case k40 => k_is)
    (case a41 => k_is)
    (case l42 => k_is)
    (case c42 => k_is)
    (case k42 => k_is)
    (case a43 => k_is)
    (case l44 => k_is)
    (case c44 => k_is)
    (case k44 => k_is)
    (case a45 => k_is)
    (case l46 => k_is)
    (case c46 => k_is)
    (case k46 => k_is)
    (case a47 => k_is)
    (case l48 => k_is)
    (case c48 => k_is)
    (case k48 => k_is)
    (case a49 => k_is)
    (case l50 => k_is)
    (case c50 => k_is)
    (case k50 => k_is)
    (case a51 => k_is)
    (case l52 => k_is)
    (case c52 => k_is)
    (case k52 => k_is)
    (case a53 => k_is)
    (case l54 => k_is)
    (case c54 => k_is)
    (case k54 => k_is)
    (case a55 => k_is)
    (case l56 => k_is)
    (case c56 => k_is)
    (case k56 => k_is)
    (case a57 => k_is)
    (case l58 => k_is)
    (case c58 => k_is)
    (case k58 => k_is)
    (case a59 => k_is)
    (case l60 => k_is)
    (case c60 => k_is)
    (case k60 => k_is)
    (case a61 => k_is)
    (case l62 => k_is)
    (case c62 => k_is)
    (case k62 => k_is)
    (case x63 => k_is)
    (case z64 => k_is)
    (case z65 => k_is)
    (case z66 => k_is)
    (case z67 => k_is)
    (case z68 => k_is)
    (case z69 => k_is)
    (case z70 => k_is)
    (case z71 => k_is)
    (case z72 => k_is)
    (case z73 => k_is)
    (case z74 => k_is)
    (case z75 => k_is)
    (case z76 => k_is)
    (case z77 => k_is)
    (case z78 => k_is)
    (case z79 => k_is)
    (case z80 => k_is)
