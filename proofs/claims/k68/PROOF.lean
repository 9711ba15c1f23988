import PyProof.Rows.All
import Wide.All
import OpenK.AllK
import Wide.FinOn
import HandS.Base
import HandS.Call
import HandS.List
import HandS.Comp
import HandS.Ends
import HandS.Words
import HandS.Wide
import HandS.WideBits
import HandS.More
import HandS.IsInst
import HandS.CallLocal
import HandS.Text
import HandS.Iter
import HandS.Dict
import HandS.Defaults
import HandS.DeepEq
import HandS.Codes
import HandS.Zip
import HandS.Walk
import HandS.TupAny
import KE.GoesEnum
import KE.GoesMore
import HandS.Style
import HandS.Conv
import HandS.Rev
import HandS.Strs
import HandS.SortKw
import KE.DataMinMax
import KE.KDictList
import HandS.Remove
import HandS.SetKeys
import HandS.SortInts
import HandS.NoneIn
import PySem.Challenge.RW_beatfabric_k68_packings
set_option Elab.async false
set_option linter.all false
set_option maxRecDepth 100000
set_option maxHeartbeats 4000000
namespace Bf
open PySem PySem.Spec PyProof.Rows L2

/-! ### rules that the layer lacks -/
section
variable {X : Cx}
def rGetL : V → V → Hp → VK → Prop := fun o i H Q => ∃ p xs k v, o = .ref p ∧ i = .int k ∧ H p = some (.lst xs) ∧ atI xs k = some v ∧ Q v H
theorem get_list : PGet X rGetL := by
  intro pins s σ H o i ov iv Q I ro ri h
  obtain ⟨p, xs, k, z, rfl, rfl, hp, he, q⟩ := h
  cases ro
  obtain ⟨t, rfl⟩ := ri
  obtain ⟨its, r, pl, hz⟩ := I.list (SqL.of hp)
  obtain ⟨j, h1, h2, h3, h4, h5⟩ := atI_get he
  obtain ⟨w, ew, rw'⟩ := r.get h2
  have hl := r.length
  have hn := line63
  have fin : EP X pins σ Q w s := ⟨z, H, I, rw', q⟩
  by_cases h0 : 0 ≤ k
  · have hj : k.toNat = j := by
      rw [seqIndex_of h0 h5] at h1
      exact Option.some.inj h1
    refine PySem.wpAny_getItem_list pl.isList h0 (by omega) (by rw [hj]; simpa using ew) fin
  · have hj : (k + (its.toArray.size : Int)).toNat = j := by
      rw [seqIndex_neg (by omega) h4] at h1
      rw [List.size_toArray, ← hl]
      exact Option.some.inj h1
    exact wpAny_getItem_list_neg pl.isList (by omega) (by rw [List.size_toArray] <;> omega) (by omega) (by rw [hj]; simpa using ew) fin

/-- max, min of two numbers that are not negative -/
theorem cr_maxN (hc : X.calm = true) : CallR X (.builtin "max") (fun xs H Q => ∃ i j : Nat, xs = [V.int i, V.int j] ∧ Q (V.int ((max i j : Nat) : Int)) H) := by
  intro pins s σ H vs us Q I r h
  obtain ⟨i, j, rfl, q⟩ := h
  refine call_max2 hc pins s σ H _ us Q I r ⟨i, j, rfl, ?_⟩
  have e : (if (j : Int) > (i : Int) then (j : Int) else (i : Int)) = ((max i j : Nat) : Int) := by
    by_cases h : (j : Int) > i
    · rw [if_pos h, Nat.max_eq_right (by omega)]
    · rw [if_neg h, Nat.max_eq_left (by omega)]
  rw [e]
  exact q
theorem cr_minN (hc : X.calm = true) : CallR X (.builtin "min") (fun xs H Q => ∃ i j : Nat, xs = [V.int i, V.int j] ∧ Q (V.int ((min i j : Nat) : Int)) H) := by
  intro pins s σ H vs us Q I r h
  obtain ⟨i, j, rfl, q⟩ := h
  refine call_min2 hc pins s σ H _ us Q I r ⟨i, j, rfl, ?_⟩
  have e : (if (j : Int) < (i : Int) then (j : Int) else (i : Int)) = ((min i j : Nat) : Int) := by
    by_cases h : (j : Int) < i
    · rw [if_pos h, Nat.min_eq_right (by omega)]
    · rw [if_neg h, Nat.min_eq_left (by omega)]
  rw [e]
  exact q
/-- sum of a tuple of ints -/
def rSumT (K : PySem.W.Frag) : List V → Hp → VK → Prop := fun vs H Q => ∃ (a : Addr) (ns : List Int), vs = [V.ref a] ∧ SqT K H a (ns.map V.int) ∧ Q (.int ns.sum) H
theorem cr_sumT (hc : X.calm = true) : CallR X (.builtin "sum") (rSumT X.K) := by
  intro pins s σ H vs us Q I r h
  obtain ⟨a, ns, rfl, hs, q⟩ := h
  obtain ⟨its, rv, hl, _⟩ := I.tuple hs
  rw [Vals.ref1 r]
  obtain ⟨xs, e⟩ := rv.ints.allInts.items
  have hn : numsOf (intItems xs).toList = ns := by rw [← e]; exact rv.ints.numsOf
  rw [nums_intItems] at hn
  have hl' : s.heap.IsTuple a (intItems xs) := by
    rw [← e]
    exact hl
  refine PySem.W.ktm_sumG (I.ok.hd hc) hl' fun h' tk t' hk => ?_
  rw [preSum_eq, List.take_of_length_le (by simp), hn]
  exact ⟨.int _, H, I.kept hk, ⟨_, rfl⟩, q⟩
end

/-- a def that stands, with its promise -/
def vI (n : Nat) : V := .int (n : Int)
structure Dn (P : Program) (w : World) (K : PySem.W.Frag) (mg : Str → Option Value) (base : Heap) (x : Str) (ps : List Str) (k : Nat) (sp : Sp) : Prop where
  ex : ∃ (f : Addr) (fd : FuncData), FnOk P w K mg base CX0 k f fd ps sp ∧ mg x = some (.ref f) ∧ PySem.W.keepIn K (.ref f) = true ∧ Binds K fd ps []
def tCallD (sp : Sp) (t : TA) : TE := fun σ H Q => t σ H fun vs H1 => sp vs H1 Q E0
section
variable {X : Cx} {x : Str} {ps : List Str} {k : Nat} {sp : Sp} {e : Expr} {es : List Expr} {t : TA} {p pos : Pos}
theorem pe_dn (D : Dn X.prog X.w X.K X.mg X.base x ps k sp) (hr : Room k X.A) (hg : Gl X x) (ha : PA X (e :: es) t) (hdb : (x == ("__debug__" : Str)) = false := by decide)
    (he : starEach (e :: es) X.env = (false, eval e X.env) :: starEach es X.env := by rfl) (hpl : (backTo pos (starEach es X.env)).any (·.1) = false := by rfl) :
    PE X (.Call (.Name x p) (e :: es) [] pos) (tCallD sp t) := by
  obtain ⟨f, fd, F, hm, hk, hb⟩ := D.ex
  refine ⟨fun pins s σ H Q I h => (pe_call (E := E0) F hr hg hm hk hb .nil pass0 ha hdb he hpl).run pins s σ H Q I ?_⟩
  have e0 : (fun (vs : List V) (H1 : Hp) => sp (vs ++ []) H1 Q E0) = fun vs H1 => sp vs H1 Q E0 := by
    funext vs H1
    rw [List.append_nil]
  show t σ H (fun vs H1 => sp (vs ++ []) H1 Q E0)
  rw [e0]
  exact h
theorem pe_dn0 (D : Dn X.prog X.w X.K X.mg X.base x ps k sp) (hr : Room k X.A) (hg : Gl X x) (hdb : (x == ("__debug__" : Str)) = false := by decide) :
    PE X (.Call (.Name x p) [] [] pos) (tCallD sp tNil) := by
  obtain ⟨f, fd, F, hm, hk, hb⟩ := D.ex
  exact ⟨fun pins s σ H Q I h => (pe_call0 (E := E0) F hr hg hm hk hb .nil pass0 hdb).run pins s σ H Q I h⟩
end
/-- the same where the last arguments are defaults -/
structure DnD (P : Program) (w : World) (K : PySem.W.Frag) (mg : Str → Option Value) (base : Heap) (x : Str) (ps : List Str) (dvs : List V) (k : Nat) (sp : Sp) : Prop where
  ex : ∃ (f : Addr) (fd : FuncData) (ds : List Value), FnOk P w K mg base CX0 k f fd ps sp ∧ mg x = some (.ref f) ∧ PySem.W.keepIn K (.ref f) = true ∧ Binds K fd ps ds ∧ Vals dvs ds
theorem pe_dnD {X : Cx} {x : Str} {ps : List Str} {dvs : List V} {k : Nat} {sp : Sp} {e : Expr} {es : List Expr} {t : TA} {p pos : Pos} (D : DnD X.prog X.w X.K X.mg X.base x ps dvs k sp) (hr : Room k X.A) (hg : Gl X x) (ha : PA X (e :: es) t) (hdb : (x == ("__debug__" : Str)) = false := by decide)
    (he : starEach (e :: es) X.env = (false, eval e X.env) :: starEach es X.env := by rfl) (hpl : (backTo pos (starEach es X.env)).any (·.1) = false := by rfl) :
    PE X (.Call (.Name x p) (e :: es) [] pos) (tCall sp dvs E0 t) := by
  obtain ⟨f, fd, ds, F, hm, hk, hb, hv⟩ := D.ex
  exact pe_call (E := E0) F hr hg hm hk hb hv pass0 ha hdb he hpl
/-- a def of the text, its promise: the level a letter -/
theorem Dn.mk' {P : Program} {w : World} {K : PySem.W.Frag} {mg : Str → Option Value} {base : Heap} {x : Str} {st : Stmt} {ps : List Str} {k : Nat} {sp : Sp} {f : Addr} {fd : FuncData}
    (F : Fun K x x st f fd) (hm : mg x = some (.ref f)) (hb : Binds K fd ps []) (ok : FnOk P w K mg base CX0 k f fd ps sp) : Dn P w K mg base x ps k sp :=
  ⟨f, fd, ok, hm, F.kp, hb⟩
end Bf
namespace Bf
open PySem PySem.Spec PyProof.Rows L2
section
variable {X : Cx} {d : Addr} {es : Array DictEntry} {n : Nat}
/-- d[k], d a dict of the module with text keys -/
theorem ix_kd (D : KDict X.K X.w d es n) : IxR X (fun x y H Q => ∃ (z : Str) (u0 : Value) (v0 : V), x = .ref d ∧ y = .str z ∧ PySem.W.nsIn X.K d z = some (some u0) ∧ RelV v0 u0 ∧ Q v0 H) := by
  intro value slice pins s σ H x y v u Q I rx ry h hs
  have h0 := h
  obtain ⟨z, u0, v0, rfl, rfl, e, r, q⟩ := h
  cases rx
  exact tail_any (kd_type D I) PySem.slot_dict_getitem.lookup (op_item_kd D pins s σ H (V.ref d) (V.str z) _ u Q I (show RelV (V.ref d) (Value.ref d) from rfl) ry h0) hs
/-- of several defs that the slot may hold: the def and its promise are told in the reading -/
def tCallH (P : Program) (w : World) (K : PySem.W.Frag) (mg : Str → Option Value) (base : Heap) (k i : Nat) (t : TA) : TE := fun σ H Q => ∃ f sp fd ps, σ[i]? = some (some (.ref f)) ∧ FnOk P w K mg base CX0 k f fd ps sp ∧ PySem.W.keepIn K (.ref f) = true ∧ Binds K fd ps [] ∧ t σ H fun vs H1 => sp vs H1 Q E0
theorem pe_held {i k : Nat} {x : Str} {p pos : Pos} {e : Expr} {es : List Expr} {t : TA} (hr : Room k X.A) (hN : X.N[i]? = some x) (hv : Vis X.env.scope x) (ha : PA X (e :: es) t)
    (hdb : (x == ("__debug__" : Str)) = false := by decide) (hcd : (x == ("__classdict__" : Str)) = false := by decide)
    (he : starEach (e :: es) X.env = (false, eval e X.env) :: starEach es X.env := by rfl) (hpl : (backTo pos (starEach es X.env)).any (·.1) = false := by rfl) : PE X (.Call (.Name x p) (e :: es) [] pos) (tCallH X.prog X.w X.K X.mg X.base k i t) := by
  refine ⟨fun pins s σ H Q I h => ?_⟩
  obtain ⟨f, sp, fd, ps, hs, F, hk, hb, ht⟩ := h
  refine (pe_callL (i := i) (f := f) (sp := sp) (dvs := []) (E := E0) F hr hN hv hk hb .nil pass0 ha hdb hcd he hpl).run pins s σ H Q I ⟨hs, ?_⟩
  have e0 : (fun (vs : List V) (H1 : Hp) => sp (vs ++ []) H1 Q E0) = fun vs H1 => sp vs H1 Q E0 := by
    funext vs H1
    rw [List.append_nil]
  show t σ H (fun vs H1 => sp (vs ++ []) H1 Q E0)
  rw [e0]
  exact ht
end
end Bf

set_option Elab.async false
set_option linter.all false
set_option maxRecDepth 100000
set_option maxHeartbeats 4000000
namespace Bf
open PySem PySem.Spec PyProof.Rows L2
/-! ### small steps of a reading -/
theorem ifY {c : Bool} {A B : Prop} (e : c = true) (h : A) : if c = true then A else B := by
  rw [if_pos e]
  exact h
theorem ifN {c : Bool} {A B : Prop} (e : c = false) (h : B) : if c = true then A else B := by
  rw [e]
  exact iteF h
theorem rdL {K : PySem.W.Frag} {H : Hp} {a : Addr} {xs : List V} {i : Int} {v : V} {Q : VK} (h : SqL K H a xs) (e : atI xs i = some v) (k : Q v H) : rIxL K (.ref a) (.int i) H Q := ⟨a, xs, _, v, rfl, rfl, h, e, k⟩
theorem rdC {v : V} {σ : L2.St} {H : Hp} {Q : VK} (k : Q v H) : tC v σ H Q := k
theorem seqNew {K : PySem.W.Frag} {H : Hp} {a p : Addr} {o : HO} {xs : List V} (hp : H p = none) (h : SqL K H a xs) : SqL K (upd H p o) a xs := by
  rcases h with (h | ⟨u, h⟩) | h
  · exact .inl (.inl (by rw [upd_ne (ne_of_none h hp)]; exact h))
  · exact .inl (.inr ⟨u, by rw [upd_ne (ne_of_none h hp)]; exact h⟩)
  · exact .inr h
theorem le1000 {n : Nat} (h : n ≤ 1000) : n ≤ sizeLine := Nat.le_of_lt (small1000 h)
end Bf

set_option Elab.async false
set_option linter.all false
set_option maxRecDepth 100000
set_option maxHeartbeats 4000000
namespace Bf
open PySem PySem.Spec PyProof.Rows L2

/-! ### what enumerate and zip walk: a list or a tuple -/
structure Src where
  sq : PySem.W.Frag → Hp → Addr → List V → Prop
  itr : Heap → Addr → Addr → Nat → Prop
  isS : Heap → Addr → Array Value → Prop
  ob : Addr → Obj
  inv : ∀ {X : Cx} {pins : List (Addr × Obj)} {σ : L2.St} {H : Hp} {s : Shared} {a : Addr} {xs : List V}, Inv X pins σ H s → sq X.K H a xs → ∃ its : List Value, Vals xs its ∧ isS s.heap a its.toArray
  inj : ∀ {X : Cx} {pins : List (Addr × Obj)} {σ : L2.St} {H : Hp} {s : Shared} {a : Addr} {xs ys : List V}, Inv X pins σ H s → sq X.K H a xs → sq X.K H a ys → xs = ys
  draws : ∀ {prog : Program} {w : World} {A : Around}, A.handled = none → ∀ (it l : Addr), l ≠ it → ∀ (items : Array Value), Draws prog w A it [it, l] items.size (fun i v => items[i]? = some v) (fun i h => itr h it l i ∧ isS h l items)
  obj : ∀ {h : Heap} {it a : Addr} {i : Nat}, itr h it a i → ∃ o, h.get? it = some o ∧ ∀ v, o.data ≠ .cell v
  at_ : ∀ {h h' : Heap} {it a : Addr} {i : Nat}, itr h it a i → (∀ o, h.get? it = some o → h'.get? it = some o) → itr h' it a i
  beg : ∀ (a : Addr) (items : Array Value), Begins (.ref a) (ob a) (fun h => isS h a items)
  start : ∀ {h : Heap} {it a : Addr}, h.get? it = some (ob a) → itr h it a 0
  lt : ∀ {h : Heap} {a : Addr} {items : Array Value}, isS h a items → a < h.objs.size
  keep : ∀ {K : PySem.W.Frag} {H H' : Hp} {a : Addr} {xs : List V}, Same H H' → sq K H a xs → sq K H' a xs
theorem seqT_same {K : PySem.W.Frag} {H H' : Hp} {a : Addr} {xs : List V} (k : Same H H') (h : SqT K H a xs) : SqT K H' a xs := by
  rcases h with (h | ⟨u, h⟩) | h
  · exact .inl (.inl (k _ _ h))
  · exact .inl (.inr ⟨u, k _ _ h⟩)
  · exact .inr h

def srcL : Src where
  sq := fun K H a xs => SqL K H a xs
  itr := fun h it a i => h.IsListIter it a i
  isS := fun h a items => h.IsList a items
  ob := fun a => { cls := .type "list_iterator", data := .fields #[.ref a, .int 0 0] }
  inv := fun I h => let ⟨its, r, p, _⟩ := I.list h; ⟨its, r, p.isList⟩
  inj := fun I h h' => I.list_inj h h'
  draws := fun hh it l hne items => Draws.list hh it l hne items
  obj := fun ⟨o, e, c, d⟩ => ⟨o, e, fun v z => by rw [d] at z; cases z⟩
  at_ := fun x k => x.at k
  beg := fun a items => begins_list a items
  start := fun e => ⟨_, e, rfl, rfl⟩
  lt := fun ⟨o, e, _⟩ => Heap.lt_size e
  keep := fun k h => k.seq h

def srcT : Src where
  sq := fun K H a xs => SqT K H a xs
  itr := fun h it a i => h.IsTupleIter it a i
  isS := fun h a items => h.IsTuple a items
  ob := fun a => { cls := .type "tuple_iterator", data := .fields #[.ref a, .int 0 0] }
  inv := fun I h => let ⟨its, r, p, _⟩ := I.tuple h; ⟨its, r, p⟩
  inj := fun I h h' => I.tuple_inj h h'
  draws := fun hh it l hne items => Draws.tuple hh it l hne items
  obj := fun ⟨o, e, c, d⟩ => ⟨o, e, fun v z => by rw [d] at z; cases z⟩
  at_ := fun x k => x.at k
  beg := fun a items => begins_tuple a items
  start := fun e => ⟨_, e, rfl, rfl⟩
  lt := fun ⟨o, e, _⟩ => Heap.lt_size e
  keep := fun k h => seqT_same k h

/-! ### enumerate -/
def ItE (S : Src) (K : PySem.W.Frag) (a : Addr) : It :=
  ⟨fun i H => ∃ (xs : List V) (x : V), S.sq K H a xs ∧ xs[i]? = some x, fun i H v H' => ∃ T x, v = .ref T ∧ H T = none ∧ H' = upd H T (.tup [.int (i : Nat), x]) ∧ ∀ xs, S.sq K H a xs → xs[i]? = some x, fun i H => ∃ xs : List V, S.sq K H a xs ∧ xs.length = i⟩

theorem turn_enumG (S : Src) {P : Program} {w : World} {K : PySem.W.Frag} {elts : List Expr} {kk : Nat} {tpos : Pos} (a e it : Addr) :
    Turn P w K (.Tuple elts kk tpos) (ItE S K a) [e, it] e (fun i h => (∃ old, IsEnum h e it ((i : Nat) : Int) old) ∧ S.itr h it a i ∧ e ≠ it ∧ e ≠ a ∧ a ≠ it) where
  mem := by simp
  obj := fun i h st b hb => by
    obtain ⟨⟨old, he⟩, hi, _⟩ := st
    have e' : b = e ∨ b = it := by simpa using hb
    rcases e' with z | z
    · rw [z]; exact ⟨_, he, fun v q => nomatch q⟩
    · rw [z]; exact S.obj hi
  keep := fun i h h' st k => let ⟨⟨old, he⟩, hi, r⟩ := st; ⟨⟨old, k e (by simp) _ he⟩, S.at_ hi fun o q => k it (by simp) o q, r⟩
  item := by
    intro X hP hw hK hc i pins s σ H E I hf st hg
    subst hP hw hK
    obtain ⟨⟨old, he⟩, hit, hne, hea, hai⟩ := st
    obtain ⟨xs, x, hq, hx⟩ := hg
    obtain ⟨its, rv, p⟩ := S.inv I hq
    obtain ⟨u, hu, ru⟩ := rv.get hx
    have hel : e < s.heap.objs.size := Heap.lt_size he
    have hil : it < s.heap.objs.size := by obtain ⟨_, q, _⟩ := S.obj hit; exact Heap.lt_size q
    have hlt : i < its.toArray.size := by
      have q := (List.getElem?_eq_some_iff.mp hu).1
      simpa using q
    refine wpAny_pyNext_enum_itemD (S.draws (show X.A.in1.handled = none from I.ok.hd hc) it a hai its.toArray) he ⟨hit, p⟩ hlt hne (by simp [hne, hea]) fun v h' tk hv ho hst hT hsz hk => ?_
    have ev : u = v := by
      have q : its[i]? = some v := by simpa using hv
      rw [hu] at q; cases q; rfl
    subst ev
    refine ⟨_, rfl, wpAny_letOwnedTupleGo_enum (s := { s with heap := h', toks := tk + 1 }) ho fun h'' he' sb => ?_⟩
    have hT2 : h''.get? s.heap.objs.size = some { cls := .type "tuple", data := .seq #[.int i tk, u] } := (sb.2 _ (Nat.ne_of_gt hel)).trans hT
    have new : ObjOk X.prog X.w (upd H s.heap.objs.size (.tup [.int (i : Nat), x])) h'' s.heap.objs.size (.tup [.int (i : Nat), x]) :=
      ⟨by show 2 ≤ sizeLine; decide, [.int i tk, u], .cons ⟨_, rfl⟩ (.cons ru .nil), ⟨_, hT2, rfl, _, rfl⟩⟩
    have I1 : Inv X pins σ (upd H s.heap.objs.size (.tup [.int (i : Nat), x])) { s with heap := h'', toks := tk + 1 } :=
      I.turnedNew (ch := [e, it]) (fun b ob hb q => (sb.2 b (fun z => hb (by simp [z]))).trans (hk b ob (fun z => hb (by simp [z])) (fun z => hb (by simp [z])) q)) hf (Nat.le_refl _) new
    refine ⟨.ref s.heap.objs.size, _, I1, rfl, ⟨_, x, rfl, I.hok.fresh (Nat.le_refl _), rfl, fun ys hy => by rw [S.inj I hy hq]; exact hx⟩, ⟨⟨u, ?_⟩, S.at_ hst.1 fun o q => (sb.2 it (Ne.symm hne)).trans q, hne, hea, hai⟩, fun b hb => ?_⟩
    · have e1 : ((i + 1 : Nat) : Int) = (i : Int) + 1 := by omega
      rw [e1]; exact he'
    · have hb' : b < s.heap.objs.size := by
        have e' : b = e ∨ b = it := by simpa using hb
        rcases e' with z | z
        · rw [z]; exact hel
        · rw [z]; exact hil
      rw [upd_ne (Nat.ne_of_lt hb')]
      exact (hf b hb).1
  done := by
    intro X hP hw hK hc i pins s σ H E I hf st hg
    subst hP hw hK
    obtain ⟨⟨old, he⟩, hit, hne, hea, hai⟩ := st
    obtain ⟨xs, hq, hx⟩ := hg
    obtain ⟨its, rv, p⟩ := S.inv I hq
    obtain ⟨f0, f1, f2, f3, f4, f5⟩ := hf it (by simp)
    have hl := rv.length
    have hn : its.toArray.size = i := by rw [List.size_toArray]; omega
    subst hn
    exact wpAny_pyNext_enum_endD (S.draws (show X.A.in1.handled = none from I.ok.hd hc) it a hai its.toArray) he ⟨hit, p⟩ fun h' eb => ⟨rfl, I.turned (t' := s.toks) (fun b o hb q => eb b o hb q) f0 f1 f3 f4 f5⟩
  self := fun A i s Q E st h => let ⟨⟨_, he⟩, _⟩ := st; wpAny_pyIter_enum he h

theorem meets_enum_new0 {v : Value} {o : Obj} {H : Heap → Prop} (B : Begins v o H) :
    Meets (Builtin.«enumerate.__new__» ⟨[.type "enumerate", v], []⟩) (fun _ R s => H s.heap ∧
      R (.ok (.ret (.ref (s.heap.push o).objs.size))) { s with heap := (s.heap.push o).push { cls := .type "enumerate", data := .fields #[.none, .bool false, .ref s.heap.objs.size, rawInt 0, .none, .none] } }) :=
  .of_wp fun prog w A R s h => by
    obtain ⟨hp, g, d, tk, os⟩ := s; obtain ⟨h1, h⟩ := h
    have hsub := sub_enumerate
    have q1 : ∀ {A' : Around} {E : Value → Shared → Prop} {Q : Value → Shared → Prop}, Q (.ref hp.objs.size) ⟨hp.push o, g, d, tk, os⟩ → wpAny (model prog w) A' (pyIter v) Q E ⟨hp, g, d, tk, os⟩ :=
      fun q => B.iter prog w _ _ ⟨hp, g, d, tk, os⟩ _ h1 q
    wp_walk using q1
    refine wpAny_stack_any fun st => wpAny_pure ?_
    split
    · rename_i c _ _ _ _ _
      cases (c == Value.type "enumerate")
      · wp_walk using q1
        exact ⟨_, rfl, h⟩
      · wp_walk using q1
        exact ⟨_, rfl, h⟩
    · wp_walk using q1
      exact ⟨_, rfl, h⟩
section
variable {prog : Program} {w : World} {A : Around} {E : Value → Shared → Prop} {s : Shared}
theorem enum_begins0 {v : Value} {o : Obj} {H : Heap → Prop} {Q : Value → Shared → Prop} (B : Begins v o H) (h1 : H s.heap)
    (h : ∀ h', IsEnum h' (s.heap.objs.size + 1) s.heap.objs.size 0 .none → h'.get? s.heap.objs.size = some o → h'.objs.size = s.heap.objs.size + 2 →
      (∀ b o, s.heap.get? b = some o → h'.get? b = some o) → Q (.ref (s.heap.objs.size + 1)) { s with heap := h' }) :
    wpAny (model prog w) A (call (.type "enumerate") [v]) Q E s := by
  refine callType_new F.called_enumerate (by decide) (F.typeCall_enumerate_1 _) (F.newCall_enumerate_1 _) (fun obj => F.args_object_init_2 obj _) F.entry_enumerate_new
    (meets_enum_new0 B) ⟨h1, ?_⟩
  have hz : (s.heap.push o).objs.size = s.heap.objs.size + 1 := Heap.size_push ..
  show _ ∧ _
  rw [hz]
  have he : IsEnum ((s.heap.push o).push { cls := .type "enumerate", data := .fields #[.none, .bool false, .ref s.heap.objs.size, rawInt 0, .none, .none] }) (s.heap.objs.size + 1) s.heap.objs.size 0 .none := by
    have := Heap.get?_push_size (s.heap.push o) (o := { cls := .type "enumerate", data := .fields #[.none, .bool false, .ref s.heap.objs.size, rawInt 0, .none, .none] }) rfl
    rw [hz] at this; exact this
  exact ⟨⟨_, he, rfl⟩, h _ he (Heap.get?_push_of_some _ (Heap.get?_push_size _ B.free)) (by rw [Heap.size_push, hz]) fun b o x => Heap.get?_push_of_some _ (Heap.get?_push_of_some _ x)⟩
end
def iEnG (S : Src) (K : PySem.W.Frag) (ta : TA) : TI := fun σ H R => ta σ H fun vs H1 => ∃ a xs, vs = [.ref a] ∧ S.sq K H1 a xs ∧ R (ItE S K a) H1
theorem enumG_run (S : Src) {X : Cx} {pins : List (Addr × Obj)} {σ : L2.St} {H1 : Hp} {s1 : Shared} {us : List Value} {vs : List V} {elts : List Expr} {kk : Nat} {tpos : Pos} {R : It → Hp → Prop} (I1 : Inv X pins σ H1 s1) (r1 : Vals vs us)
    (q1 : ∃ (a : Addr) (xs : List V), vs = [.ref a] ∧ S.sq X.K H1 a xs ∧ R (ItE S X.K a) H1) :
    wpAny (model X.prog X.w) X.A (call (.type "enumerate") us) (fun v s1 => wpAny (model X.prog X.w) X.A (pyIter v) (PIE X pins σ (.Tuple elts kk tpos) R) X.xe s1) X.xe s1 := by
  obtain ⟨a, xs, ex, hq, q⟩ := q1
  subst ex
  cases r1 with
  | cons r rr =>
    cases rr
    cases r
    obtain ⟨its, rv, p'⟩ := S.inv I1 hq
    have la := S.lt p'
    refine enum_begins0 (S.beg a its.toArray) p' fun h' he hit hsz hk => wpAny_pyIter_enum he ?_
    have I2 : Inv X pins σ H1 { s1 with heap := h' } := I1.kept (t' := s1.toks) hk
    refine ⟨s1.heap.objs.size + 1, [s1.heap.objs.size + 1, s1.heap.objs.size], _, _, H1, rfl, I2, turn_enumG S a (s1.heap.objs.size + 1) s1.heap.objs.size, ⟨⟨.none, he⟩, S.start hit, Nat.succ_ne_self _, Nat.ne_of_gt (Nat.lt_succ_of_lt la), Nat.ne_of_lt la⟩, fun b hb => ?_, q⟩
    have e' : b = s1.heap.objs.size + 1 ∨ b = s1.heap.objs.size := by simpa using hb
    have hle : s1.heap.objs.size ≤ b := by
      rcases e' with z | z
      · rw [z]; exact Nat.le_add_right _ _
      · rw [z]; exact Nat.le_refl _
    exact I1.fpOk hle (I1.hok.fresh hle)

/-! ### zip of two -/
def ItZ (S1 S2 : Src) (K : PySem.W.Frag) (a b : Addr) : It :=
  ⟨fun i H => ∃ (xs ys : List V) (x y : V), S1.sq K H a xs ∧ S2.sq K H b ys ∧ xs[i]? = some x ∧ ys[i]? = some y,
    fun i H v H' => ∃ T x y, v = .ref T ∧ H T = none ∧ H' = upd H T (.tup [x, y]) ∧ (∀ xs, S1.sq K H a xs → xs[i]? = some x) ∧ ∀ ys, S2.sq K H b ys → ys[i]? = some y,
    fun i H => ∃ xs ys : List V, S1.sq K H a xs ∧ S2.sq K H b ys ∧ i ≤ xs.length ∧ i ≤ ys.length ∧ (i = xs.length ∨ i = ys.length)⟩
theorem turn_zipG (S1 S2 : Src) {P : Program} {w : World} {K : PySem.W.Frag} {elts : List Expr} {kk : Nat} {tpos : Pos} {a b z TI TO i1 i2 : Addr} (D : ZipSep2 z TI TO i1 i2 [i1, a] [i2, b]) (ha1 : a ≠ i1) (hb2 : b ≠ i2) :
    Turn P w K (.Tuple elts kk tpos) (ItZ S1 S2 K a b) [z, TI, TO, i1, i2] z (fun i h => IsZip h z TI TO .none ∧ IsTupOf2 h TI (.ref i1) (.ref i2) ∧ (∃ x y, IsTupOf2 h TO x y) ∧ S1.itr h i1 a i ∧ S2.itr h i2 b i) where
  mem := by simp
  obj := fun i h st c hc => by
    obtain ⟨hz, hTI, ⟨x, y, hTO⟩, h1, h2⟩ := st
    have e' : c = z ∨ c = TI ∨ c = TO ∨ c = i1 ∨ c = i2 := by simpa using hc
    rcases e' with q | q | q | q | q
    · rw [q]; exact ⟨_, hz, fun v q => nomatch q⟩
    · rw [q]; exact ⟨_, hTI, fun v q => nomatch q⟩
    · rw [q]; exact ⟨_, hTO, fun v q => nomatch q⟩
    · rw [q]; exact S1.obj h1
    · rw [q]; exact S2.obj h2
  keep := fun i h h' st k => by
    obtain ⟨hz, hTI, ⟨x, y, hTO⟩, h1, h2⟩ := st
    exact ⟨k z (by simp) _ hz, k TI (by simp) _ hTI, ⟨x, y, k TO (by simp) _ hTO⟩, S1.at_ h1 fun o q => k i1 (by simp) o q, S2.at_ h2 fun o q => k i2 (by simp) o q⟩
  item := by
    intro X hP hw hK hc i pins s σ H E I hf st hg
    subst hP hw hK
    obtain ⟨hz, hTI, ⟨x0, y0, hTO⟩, h1, h2⟩ := st
    obtain ⟨xs, ys, x, y, hqx, hqy, hx, hy⟩ := hg
    obtain ⟨its, rv, p⟩ := S1.inv I hqx
    obtain ⟨its2, rv2, p2⟩ := S2.inv I hqy
    obtain ⟨u, hu, ru⟩ := rv.get hx
    obtain ⟨u2, hu2, ru2⟩ := rv2.get hy
    have hzl : z < s.heap.objs.size := Heap.lt_size hz
    have hlt : i < its.toArray.size := by
      have q := (List.getElem?_eq_some_iff.mp hu).1
      simpa using q
    have hlt2 : i < its2.toArray.size := by
      have q := (List.getElem?_eq_some_iff.mp hu2).1
      simpa using q
    have hh : X.A.in1.handled = none := I.ok.hd hc
    refine wpAny_pyNext_zipD2_item D (S1.draws hh i1 a ha1 its.toArray) (S2.draws hh i2 b hb2 its2.toArray) hz hTI hTO ⟨h1, p⟩ ⟨h2, p2⟩ hlt hlt2 fun v v2 h' tk hv hv2 z' TO' st1 st2 hT hsz hk => ?_
    have ev : u = v := by
      have q : its[i]? = some v := by simpa using hv
      rw [hu] at q; cases q; rfl
    have ev2 : u2 = v2 := by
      have q : its2[i]? = some v2 := by simpa using hv2
      rw [hu2] at q; cases q; rfl
    subst ev ev2
    refine ⟨_, rfl, wpAny_letOwnedTupleGo_zip (s := { s with heap := h', toks := tk }) z' fun h'' z'' sb => ?_⟩
    have hT2 : h''.get? s.heap.objs.size = some { cls := .type "tuple", data := .seq #[u, u2] } := (sb.2 _ (Nat.ne_of_gt hzl)).trans hT
    have new : ObjOk X.prog X.w (upd H s.heap.objs.size (.tup [x, y])) h'' s.heap.objs.size (.tup [x, y]) :=
      ⟨by show 2 ≤ sizeLine; decide, [u, u2], .cons ru (.cons ru2 .nil), ⟨_, hT2, rfl, _, rfl⟩⟩
    have I1 : Inv X pins σ (upd H s.heap.objs.size (.tup [x, y])) { s with heap := h'', toks := tk } :=
      I.turnedNew (ch := [z, TI, TO, i1, i2]) (fun c o hb q => (sb.2 c (fun q' => hb (by simp [q']))).trans (hk c o (fun q' => hb (by simp [q'])) (fun q' => hb (by simp [q'])) (fun q' => hb (by simp [q'])) (fun q' => hb (by simp [q'])) q)) hf (Nat.le_refl _) new
    have zi1 : i1 ≠ z := fun q => D.zf1 (by simp [q])
    have zi2 : i2 ≠ z := fun q => D.zf2 (by simp [q])
    refine ⟨.ref s.heap.objs.size, _, I1, rfl, ⟨_, x, y, rfl, I.hok.fresh (Nat.le_refl _), rfl, fun l hl => by rw [S1.inj I hl hqx]; exact hx, fun l hl => by rw [S2.inj I hl hqy]; exact hy⟩, ⟨z'', ?_, ⟨u, u2, ?_⟩, ?_, ?_⟩, fun c hcm => ?_⟩
    · exact (sb.2 _ D.TIz).trans (hk _ _ D.TIz D.TITO D.TIi1 D.TIi2 hTI)
    · exact (sb.2 _ D.TOz).trans TO'
    · exact S1.at_ st1.1 fun o q => (sb.2 _ zi1).trans q
    · exact S2.at_ st2.1 fun o q => (sb.2 _ zi2).trans q
    · have hlt : c < s.heap.objs.size := by
        have e' : c = z ∨ c = TI ∨ c = TO ∨ c = i1 ∨ c = i2 := by simpa using hcm
        rcases e' with q | q | q | q | q
        · rw [q]; exact hzl
        · rw [q]; exact Heap.lt_size hTI
        · rw [q]; exact Heap.lt_size hTO
        · rw [q]; obtain ⟨_, e1, _⟩ := S1.obj h1; exact Heap.lt_size e1
        · rw [q]; obtain ⟨_, e2, _⟩ := S2.obj h2; exact Heap.lt_size e2
      rw [upd_ne (Nat.ne_of_lt hlt)]
      exact (hf c hcm).1
  done := by
    intro X hP hw hK hc i pins s σ H E I hf st hg
    subst hP hw hK
    obtain ⟨hz, hTI, ⟨x0, y0, hTO⟩, h1, h2⟩ := st
    obtain ⟨xs, ys, hqx, hqy, le1, le2, hend⟩ := hg
    obtain ⟨its, rv, p⟩ := S1.inv I hqx
    obtain ⟨its2, rv2, p2⟩ := S2.inv I hqy
    have l1 := rv.length
    have l2 := rv2.length
    have hh : X.A.in1.handled = none := I.ok.hd hc
    exact wpAny_pyNext_zipD2_end D (S1.draws hh i1 a ha1 its.toArray) (S2.draws hh i2 b hb2 its2.toArray) hz hTI hTO ⟨h1, p⟩ ⟨h2, p2⟩ (by rw [List.size_toArray]; omega) (by rw [List.size_toArray]; omega)
      (by rw [List.size_toArray, List.size_toArray]; omega) fun h' tk hk => ⟨rfl, I.turnedL (t' := tk) (ch := [z, TI, TO, i1, i2]) (fun c o hb q =>
      hk c o (fun q' => hb (by simp [q'])) (fun q' => hb (by simp [q'])) (fun q' => hb (by simp [q'])) (fun q' => hb (by simp [q'])) q) hf⟩
  self := fun A i s Q E st h => wpAny_pyIter_zip st.1 h
def iZpG (S1 S2 : Src) (K : PySem.W.Frag) (ta : TA) : TI := fun σ H R => ta σ H fun vs H1 => ∃ a b xs ys, vs = [.ref a, .ref b] ∧ S1.sq K H1 a xs ∧ S2.sq K H1 b ys ∧ R (ItZ S1 S2 K a b) H1
theorem zipG_run (S1 S2 : Src) {X : Cx} {pins : List (Addr × Obj)} {σ : L2.St} {H1 : Hp} {s1 : Shared} {us : List Value} {vs : List V} {elts : List Expr} {kk : Nat} {tpos : Pos} {R : It → Hp → Prop} (I1 : Inv X pins σ H1 s1) (r1 : Vals vs us)
    (q1 : ∃ (a b : Addr) (xs ys : List V), vs = [.ref a, .ref b] ∧ S1.sq X.K H1 a xs ∧ S2.sq X.K H1 b ys ∧ R (ItZ S1 S2 X.K a b) H1) :
    wpAny (model X.prog X.w) X.A (call (.type "zip") us) (fun v s1 => wpAny (model X.prog X.w) X.A (pyIter v) (PIE X pins σ (.Tuple elts kk tpos) R) X.xe s1) X.xe s1 := by
  obtain ⟨a, b, xs, ys, ex, hqx, hqy, q⟩ := q1
  subst ex
  cases r1 with
  | cons r rr =>
    cases rr with
    | cons r' rr =>
      cases rr
      cases r
      cases r'
      obtain ⟨its, rv, p1⟩ := S1.inv I1 hqx
      obtain ⟨its2, rv2, p2⟩ := S2.inv I1 hqy
      have la := S1.lt p1
      have lb := S2.lt p2
      refine zip_begins2 (S1.beg a its.toArray) (S2.beg b its2.toArray) p1 p2 fun h' hz hTI hTO h1 h2 hsz hk => wpAny_pyIter_zip hz ?_
      have I2 : Inv X pins σ H1 { s1 with heap := h' } := I1.kept (t' := s1.toks) hk
      refine ⟨s1.heap.objs.size + 4, [s1.heap.objs.size + 4, s1.heap.objs.size + 2, s1.heap.objs.size + 3, s1.heap.objs.size, s1.heap.objs.size + 1], _, _, H1, rfl, I2,
        turn_zipG S1 S2 (zip_sep2 (fp1 := [a]) (fp2 := [b]) (by intro c hc; rw [List.mem_singleton.mp hc]; exact la) (by intro c hc; rw [List.mem_singleton.mp hc]; exact lb)) (Nat.ne_of_lt la) (Nat.ne_of_lt (Nat.lt_succ_of_lt lb)),
        ⟨hz, hTI, ⟨_, _, hTO⟩, S1.start h1, S2.start h2⟩, fun c hcm => ?_, q⟩
      have e' : c = s1.heap.objs.size + 4 ∨ c = s1.heap.objs.size + 2 ∨ c = s1.heap.objs.size + 3 ∨ c = s1.heap.objs.size ∨ c = s1.heap.objs.size + 1 := by simpa using hcm
      have hle : s1.heap.objs.size ≤ c := by
        rcases e' with z | z | z | z | z
        · rw [z]; exact Nat.le_add_right _ _
        · rw [z]; exact Nat.le_add_right _ _
        · rw [z]; exact Nat.le_add_right _ _
        · rw [z]; exact Nat.le_refl _
        · rw [z]; exact Nat.le_add_right _ _
      exact I1.fpOk hle (I1.hok.fresh hle)

/-! ### for over them -/
theorem for_enumG (S : Src) {K : PySem.W.Frag} {a : Addr} {xs : List V} {g : TG} {tb : TS} {D : Ends} {σ : L2.St} {H : Hp} (Pv : Nat → L2.St → Hp → Prop) (h0 : Pv 0 σ H) (hq : ∀ i σ H, Pv i σ H → S.sq K H a xs)
    (hs : ∀ (i : Nat) (x : V) (T : Addr) (σ : L2.St) (H : Hp), xs[i]? = some x → Pv i σ H → H T = none → g (.ref T) σ (upd H T (.tup [.int (i : Nat), x])) fun σ2 H2 => tb { D with nx := Pv (i + 1), ct := Pv (i + 1), bk := D.nx } σ2 H2) (hd : ∀ σ H, Pv xs.length σ H → D.nx σ H) :
    ∃ W : Nat → Nat → L2.St → Hp → Prop, (∃ m, W 0 m σ H) ∧ ∀ i m σ H, W i m σ H →
      ((ItE S K a).stop i H ∧ D.nx σ H) ∨ ((ItE S K a).go i H ∧ ∃ N : L2.St → Hp → Prop, (∀ σ' H', N σ' H' → ∃ m', m' < m ∧ W (i + 1) m' σ' H') ∧ ∀ v H', (ItE S K a).yld i H v H' → g v σ H' fun σ2 H2 => tb { D with nx := N, ct := N, bk := D.nx } σ2 H2) := by
  refine ⟨fun i m σ H => m = xs.length - i ∧ i ≤ xs.length ∧ Pv i σ H, ⟨xs.length, rfl, Nat.zero_le _, h0⟩, ?_⟩
  rintro i m σ H ⟨rfl, hi, p⟩
  have qx := hq i σ H p
  by_cases hlt : i < xs.length
  · have hx : xs[i]? = some xs[i] := List.getElem?_eq_getElem hlt
    refine .inr ⟨⟨xs, _, qx, hx⟩, Pv (i + 1), fun σ' H' p' => ⟨xs.length - (i + 1), by omega, rfl, hlt, p'⟩, fun v H' y => ?_⟩
    obtain ⟨T, x', rfl, hT, rfl, f1⟩ := y
    exact hs i x' T σ H (f1 xs qx) p hT
  · have e : i = xs.length := by omega
    subst e
    exact .inl ⟨⟨xs, qx, rfl⟩, hd σ H p⟩
theorem for_zipG (S1 S2 : Src) {K : PySem.W.Frag} {a b : Addr} {xs ys : List V} {g : TG} {tb : TS} {D : Ends} {σ : L2.St} {H : Hp} (hl : xs.length = ys.length) (Pv : Nat → L2.St → Hp → Prop) (h0 : Pv 0 σ H) (hq : ∀ i σ H, Pv i σ H → S1.sq K H a xs ∧ S2.sq K H b ys)
    (hs : ∀ (i : Nat) (x y : V) (T : Addr) (σ : L2.St) (H : Hp), xs[i]? = some x → ys[i]? = some y → Pv i σ H → H T = none → g (.ref T) σ (upd H T (.tup [x, y])) fun σ2 H2 => tb { D with nx := Pv (i + 1), ct := Pv (i + 1), bk := D.nx } σ2 H2) (hd : ∀ σ H, Pv xs.length σ H → D.nx σ H) :
    ∃ W : Nat → Nat → L2.St → Hp → Prop, (∃ m, W 0 m σ H) ∧ ∀ i m σ H, W i m σ H →
      ((ItZ S1 S2 K a b).stop i H ∧ D.nx σ H) ∨ ((ItZ S1 S2 K a b).go i H ∧ ∃ N : L2.St → Hp → Prop, (∀ σ' H', N σ' H' → ∃ m', m' < m ∧ W (i + 1) m' σ' H') ∧ ∀ v H', (ItZ S1 S2 K a b).yld i H v H' → g v σ H' fun σ2 H2 => tb { D with nx := N, ct := N, bk := D.nx } σ2 H2) := by
  refine ⟨fun i m σ H => m = xs.length - i ∧ i ≤ xs.length ∧ Pv i σ H, ⟨xs.length, rfl, Nat.zero_le _, h0⟩, ?_⟩
  rintro i m σ H ⟨rfl, hi, p⟩
  obtain ⟨qx, qy⟩ := hq i σ H p
  by_cases hlt : i < xs.length
  · have hx : xs[i]? = some xs[i] := List.getElem?_eq_getElem hlt
    have hlt2 : i < ys.length := by omega
    have hy : ys[i]? = some ys[i] := List.getElem?_eq_getElem hlt2
    refine .inr ⟨⟨xs, ys, _, _, qx, qy, hx, hy⟩, Pv (i + 1), fun σ' H' p' => ⟨xs.length - (i + 1), by omega, rfl, hlt, p'⟩, fun v H' y => ?_⟩
    obtain ⟨T, x', y', rfl, hT, rfl, f1, f2⟩ := y
    exact hs i x' y' T σ H (f1 xs qx) (f2 ys qy) p hT
  · have e : i = xs.length := by omega
    subst e
    exact .inl ⟨⟨xs, ys, qx, qy, Nat.le_refl _, by omega, .inl rfl⟩, hd σ H p⟩

theorem for_zipLe (S1 S2 : Src) {K : PySem.W.Frag} {a b : Addr} {xs ys : List V} {g : TG} {tb : TS} {D : Ends} {σ : L2.St} {H : Hp} (hl : xs.length ≤ ys.length) (Pv : Nat → L2.St → Hp → Prop) (h0 : Pv 0 σ H) (hq : ∀ i σ H, Pv i σ H → S1.sq K H a xs ∧ S2.sq K H b ys)
    (hs : ∀ (i : Nat) (x y : V) (T : Addr) (σ : L2.St) (H : Hp), xs[i]? = some x → ys[i]? = some y → Pv i σ H → H T = none → g (.ref T) σ (upd H T (.tup [x, y])) fun σ2 H2 => tb { D with nx := Pv (i + 1), ct := Pv (i + 1), bk := D.nx } σ2 H2) (hd : ∀ σ H, Pv xs.length σ H → D.nx σ H) :
    ∃ W : Nat → Nat → L2.St → Hp → Prop, (∃ m, W 0 m σ H) ∧ ∀ i m σ H, W i m σ H →
      ((ItZ S1 S2 K a b).stop i H ∧ D.nx σ H) ∨ ((ItZ S1 S2 K a b).go i H ∧ ∃ N : L2.St → Hp → Prop, (∀ σ' H', N σ' H' → ∃ m', m' < m ∧ W (i + 1) m' σ' H') ∧ ∀ v H', (ItZ S1 S2 K a b).yld i H v H' → g v σ H' fun σ2 H2 => tb { D with nx := N, ct := N, bk := D.nx } σ2 H2) := by
  refine ⟨fun i m σ H => m = xs.length - i ∧ i ≤ xs.length ∧ Pv i σ H, ⟨xs.length, rfl, Nat.zero_le _, h0⟩, ?_⟩
  rintro i m σ H ⟨rfl, hi, p⟩
  obtain ⟨qx, qy⟩ := hq i σ H p
  by_cases hlt : i < xs.length
  · have hx : xs[i]? = some xs[i] := List.getElem?_eq_getElem hlt
    have hlt2 : i < ys.length := by omega
    have hy : ys[i]? = some ys[i] := List.getElem?_eq_getElem hlt2
    refine .inr ⟨⟨xs, ys, _, _, qx, qy, hx, hy⟩, Pv (i + 1), fun σ' H' p' => ⟨xs.length - (i + 1), by omega, rfl, hlt, p'⟩, fun v H' y => ?_⟩
    obtain ⟨T, x', y', rfl, hT, rfl, f1, f2⟩ := y
    exact hs i x' y' T σ H (f1 xs qx) (f2 ys qy) p hT
  · have e : i = xs.length := by omega
    subst e
    exact .inl ⟨⟨xs, ys, qx, qy, Nat.le_refl _, by omega, .inl rfl⟩, hd σ H p⟩

/-! ### two tuples of the same numbers -/
theorem canLay_ints : ∀ ns : List Nat, PyData.canLayAll0 (ns.map fun n : Nat => PyData.int (n : Int)) = true
  | [] => by simp [PyData.canLayAll0]
  | n :: r => by
    rw [List.map_cons, PyData.canLayAll0, canLay_ints r]
    simp [PyData.canLay0]
theorem depth_ints : ∀ ns : List Nat, PyData.depthAll (ns.map fun n : Nat => PyData.int (n : Int)) ≤ 1
  | [] => by simp [PyData.depthAll]
  | n :: r => by
    have := depth_ints r
    rw [List.map_cons, PyData.depthAll]
    simp [PyData.depth] <;> omega
theorem dp_ints {K : PySem.W.Frag} {H : Hp} : ∀ ns : List Nat, DpAll K H (ns.map vI) (ns.map fun n : Nat => PyData.int (n : Int))
  | [] => .nil
  | n :: r => .cons (.int _) (dp_ints r)
theorem shaped_ints (ns : List Nat) : SeqAt.shaped (.tuple (ns.map fun n : Nat => PyData.int (n : Int))) = true := by
  have h := depth_ints ns
  unfold SeqAt.shaped
  rw [PyData.canLay0, canLay_ints, Bool.true_and]
  refine decide_eq_true ?_
  rw [PyData.depth]
  omega
def rNeI (K : PySem.W.Frag) : R2 := fun x y H Q => ∃ (a b : Addr) (ns : List Nat), x = .ref a ∧ y = .ref b ∧ SqT K H a (ns.map vI) ∧ SqT K H b (ns.map vI) ∧ Q (.bl false) H
theorem op_neI {X : Cx} (hu : X.A.units + 64 < cLine) : OpR X (compareOp .NotEq) (rNeI X.K) := by
  intro pins s σ H x y v u Q I rx ry h
  obtain ⟨a, b, ns, rfl, rfl, ha, hb, q⟩ := h
  refine op_neD hu pins s σ H _ _ v u Q I rx ry ⟨_, _, .tup ha (dp_ints ns), .tup hb (dp_ints ns), shaped_ints ns, shaped_ints ns, ?_⟩
  rw [SeqAt.eqv_refl _ (SeqAt.canLay_of_shaped (shaped_ints ns))]
  exact q
def rEqI (K : PySem.W.Frag) : R2 := fun x y H Q => ∃ (a b : Addr) (ns : List Nat), x = .ref a ∧ y = .ref b ∧ SqT K H a (ns.map vI) ∧ SqT K H b (ns.map vI) ∧ Q (.bl true) H
theorem op_eqI {X : Cx} (hu : X.A.units + 64 < cLine) : OpR X (compareOp .Eq) (rEqI X.K) := by
  intro pins s σ H x y v u Q I rx ry h
  obtain ⟨a, b, ns, rfl, rfl, ha, hb, q⟩ := h
  refine op_eqD hu pins s σ H _ _ v u Q I rx ry ⟨_, _, .tup ha (dp_ints ns), .tup hb (dp_ints ns), shaped_ints ns, shaped_ints ns, ?_⟩
  rw [SeqAt.eqv_refl _ (SeqAt.canLay_of_shaped (shaped_ints ns))]
  exact q

/-! ### list.extend(tuple) -/
theorem ext_tupA (l : Addr) (items : Array Value) (n : Nat) (b : Addr) (items2 : Array Value) (n2 : Nat) (dd : Option Addr) (sl : Array (Option Value)) (hs0 : ¬(!items.isEmpty && Builtin.List.listTooLong (items.size + items2.size)) = true) (hs1 : items.size ≤ sizeLine) (hs2 : items.size + items2.size ≤ sizeLine + 1) :
    Meets (Builtin.«list.extend» ⟨[.ref l, .ref b], []⟩) (fun _ R s => s.heap.get? l = some { cls := .type "list", dict := none, data := .seq items n, slots := #[] } ∧ s.heap.get? b = some { cls := .type "tuple", dict := dd, data := .seq items2 n2, slots := sl } ∧ R (.ok (.ret Value.none)) { s with heap := s.heap.update l (Obj.mapSeq fun x => x ++ items2), toks := s.toks }) :=
  .of_wp fun prog w A R s h => by
    obtain ⟨hp, g, d, tk, os⟩ := s; obtain ⟨hl, hb, h⟩ := h; have f2 := sub_tuple_tuple; have f3 := sub_list_list; have f4 := sub_tuple_list; have f5 := sub_list_tuple
    have hz' : (items ++ items2).size ≤ sizeLine + 1 := by rw [Array.size_append]; exact hs2
    wp_walk using (wpAny_updateSeq hl rfl (hz := hs1) (_hz' := hz')), wpAny_loadPart' hl, wpAny_loadPart' hb
    exact ⟨_, rfl, h⟩
def rExtT (K : PySem.W.Frag) : V → List V → Hp → VK → Prop := fun x vs H Q => ∃ l b xs zs, x = .ref l ∧ vs = [.ref b] ∧ H l = some (.lst xs) ∧ SqT K H b zs ∧ xs.length + zs.length ≤ sizeLine ∧ Q .non (upd H l (.lst (xs ++ zs)))
theorem mt_extT {X : Cx} : MtM X "list.extend" (rExtT X.K) := by
  intro pins s σ H x vs v us Q I rx rv h
  obtain ⟨l, b, xs, zs, rfl, rfl, hH, hB, hz, q⟩ := h
  cases rx
  obtain ⟨u, rfl, ru⟩ := rv.one
  cases ru
  obtain ⟨z, its, n, r, hl, e⟩ := I.lstM hH
  obtain ⟨its2, r2, p2, hl2⟩ := I.tuple hB
  obtain ⟨⟨cls, dd, data, sl⟩, ho, hc, n2, hd⟩ := id p2
  simp only at hc hd
  subst hc hd
  have len2 := r2.length
  have hsz : its.toArray.size + its2.toArray.size ≤ sizeLine := by rw [List.size_toArray, List.size_toArray]; omega
  have hlong : ¬ (!its.toArray.isEmpty && Builtin.List.listTooLong (its.toArray.size + its2.toArray.size)) = true := by
    rw [notLongL hsz, Bool.and_false]
    exact Bool.false_ne_true
  refine call_meets F.slot_list_extend ⟨_, e, rfl⟩ F.entry_list_extend (F.args_list_extend_2 _ _)
    (ext_tupA l its.toArray n b its2.toArray n2 dd sl hlong (by rw [List.size_toArray]; omega) (by omega)) ⟨e, ho, ?_⟩
  refine ⟨.non, _, I.lset (its' := its ++ its2) hH e (by simp) (r.append r2) ?_, rfl, q⟩
  rw [List.length_append]
  omega

/-! ### the source as it comes -/
def iEnX (K : PySem.W.Frag) (ta : TA) : TI := fun σ H R => ta σ H fun vs H1 => ∃ (S : Src) (a : Addr) (xs : List V), vs = [.ref a] ∧ S.sq K H1 a xs ∧ R (ItE S K a) H1
theorem pi_enumX {X : Cx} {e : Expr} {ta : TA} {p pos tpos : Pos} {elts : List Expr} {kk : Nat} (hg : Gl X "enumerate") (hm : X.mg "enumerate" = none) (ha : PA X [e] ta) (hs : starEach [e] X.env = [(false, eval e X.env)] := by rfl) :
    PI X (.Tuple elts kk tpos) (.Call (.Name "enumerate" p) [e] [] pos) (iEnX X.K ta) := by
  refine ⟨fun pins s σ H R I h => ?_⟩
  have h' : ta σ H fun vs H1 => ∃ S : Src, ∃ (a : Addr) (xs : List V), vs = [.ref a] ∧ S.sq X.K H1 a xs ∧ R (ItE S X.K a) H1 := h
  refine Call_ (ld_blt I hg hm boot_enumerate (PyProof.Rows.callWith_type1 (thn (ha.run pos pins s σ H _ I h') fun us s1 ⟨vs, H1, I1, r1, q1⟩ => ?_) hs rfl))
  obtain ⟨S, a, xs, ex, hq, q⟩ := q1
  exact enumG_run S I1 r1 ⟨a, xs, ex, hq, q⟩
def iZpX (K : PySem.W.Frag) (ta : TA) : TI := fun σ H R => ta σ H fun vs H1 => ∃ (S1 S2 : Src) (a b : Addr) (xs ys : List V), vs = [.ref a, .ref b] ∧ S1.sq K H1 a xs ∧ S2.sq K H1 b ys ∧ R (ItZ S1 S2 K a b) H1
theorem pi_zipX {X : Cx} {e e2 : Expr} {ta : TA} {p pos tpos : Pos} {elts : List Expr} {kk : Nat} (hg : Gl X "zip") (hm : X.mg "zip" = none) (ha : PA X [e, e2] ta)
    (hs : starEach [e, e2] X.env = (false, eval e X.env) :: starEach [e2] X.env := by rfl) (hpl : (backTo pos (starEach [e2] X.env)).any (·.1) = false := by rfl) :
    PI X (.Tuple elts kk tpos) (.Call (.Name "zip" p) [e, e2] [] pos) (iZpX X.K ta) := by
  refine ⟨fun pins s σ H R I h => ?_⟩
  have h' : ta σ H fun vs H1 => ∃ S1 S2 : Src, ∃ (a b : Addr) (xs ys : List V), vs = [.ref a, .ref b] ∧ S1.sq X.K H1 a xs ∧ S2.sq X.K H1 b ys ∧ R (ItZ S1 S2 X.K a b) H1 := h
  refine Call_ (ld_blt I hg hm PyProof.Rows.boot_zip (PyProof.Rows.callWith_type1 (thn (ha.run pos pins s σ H _ I h') fun us s1 ⟨vs, H1, I1, r1, q1⟩ => ?_) hs hpl))
  obtain ⟨S1, S2, a, b, xs, ys, ex, hqx, hqy, q⟩ := q1
  exact zipG_run S1 S2 I1 r1 ⟨a, b, xs, ys, ex, hqx, hqy, q⟩
end Bf

set_option Elab.async false
set_option linter.all false
set_option maxRecDepth 100000
set_option maxHeartbeats 4000000
namespace Bf
open PySem PySem.Spec PyProof.Rows L2
/-! ### d.get(k, x), d a dict of the module with text keys -/
def tKGet2 (K : PySem.W.Frag) (d : Addr) (td ty tx : TE) : TE := fun σ H Q => td σ H fun x H1 => x = .ref d ∧ ty σ H1 fun y H2 => tx σ H2 fun z H3 => ∃ (k : Str) (r : Option Value) (v : V), y = .str k ∧ PySem.W.nsIn K d k = some r ∧ (∀ u, r = some u → RelV v u) ∧ (r = none → v = z) ∧ Q v H3
theorem pe_kget2 {X : Cx} {d : Addr} {es : Array DictEntry} {n : Nat} {o e f : Expr} {apos cpos : Pos} {td ty tx : TE} (D : KDict X.K X.w d es n) (ho : PE X o td) (he : PE X e ty) (hf : PE X f tx) (m : M2 X o "get" apos e f cpos) :
    PE X (.Call (.Attribute o "get" apos) [e, f] [] cpos) (tKGet2 X.K d td ty tx) := by
  refine ⟨fun pins s σ H Q I h => ?_⟩
  refine wpAny_Call_method m.base m.few m.line PySem.F.plainAttrs_dict PySem.F.slot_dict_get PySem.F.type_dict_get (thn (ho.run pins s σ H _ I h) fun u s1 ⟨x, H1, I1, rx, ex, q1⟩ => ?_)
  subst ex
  obtain rfl : u = Value.ref d := rx
  have hm := PySem.W.mapOf_K (prog := X.prog) (w := X.w) I1.kIn D.at_ D.lit
  refine ⟨hm.typeIs, hm.noDict, ?_⟩
  rw [m.trees]
  refine Calls.callWith_builtin rfl (Calls.evalArgs_plain (Calls.spliced_cons (thn (he.run pins s1 σ H1 _ I1 q1) fun iv s2 ⟨y, H2, I2, ry, q2⟩ =>
    Calls.spliced_cons (thn (hf.run pins s2 σ H2 _ I2 q2) fun fv s3 ⟨z, H3, I3, rz, k, r, v, ey, ek, e1, e2, q3⟩ => Calls.spliced_nil ?_))))
  subst ey
  obtain ⟨t, rfl⟩ := ry
  have hm3 := PySem.W.mapOf_K (prog := X.prog) (w := X.w) I3.kIn D.at_ D.lit
  refine call_meetsIn PySem.F.slot_dict_get hm3.typeIs PySem.F.entry_dict_get (PySem.F.args_dict_get_3 _ _ _) (meets_dict_get_default (strKind X.prog X.w) d (PySem.strKind_is X.prog X.w k t) D.low fv) ⟨_, hm3, ?_⟩
  rw [PySem.W.find_K D.at_ ek]
  refine ⟨v, H3, I3.tok _, ?_, q3⟩
  cases r with
  | none =>
    rw [e2 rfl]
    exact rz
  | some u => exact e1 u rfl
/-! ### a < b < c < d as a test -/
def tChain3 (r r' r'' : R2) (ta tb tc td : TE) : TT := fun σ H Q => ta σ H fun x H1 => tb σ H1 fun y H2 => r x y H2 fun z H3 => ∃ k, z = .bl k ∧
  if k = true then (tc σ H3 fun w H4 => r' y w H4 fun z' H5 => ∃ k', z' = .bl k' ∧ if k' = true then (td σ H5 fun u H6 => r'' w u H6 fun z'' H7 => ∃ k'', z'' = .bl k'' ∧ Q k'' H7) else Q false H5) else Q false H3
theorem pt_chain3 {X : Cx} {op op' op'' : CmpOp} {r r' r'' : R2} {a b c d : Expr} {pos : Pos} {ta tb tc td : TE} (ho : OpR X (compareOp op) r) (ho' : OpR X (compareOp op') r') (ho'' : OpR X (compareOp op'') r'') (ha : PE X a ta) (hb : PE X b tb) (hc : PE X c tc) (hd : PE X d td)
    (hm : lastMarks [op, op', op''] [b, c, d] = false := by with_unfolding_all rfl) : PT X (.Compare a [op, op', op''] [b, c, d] pos) (tChain3 r r' r'' ta tb tc td) := by
  refine ⟨fun pins s σ H Q I h => ?_⟩
  refine isTrue_chain (thn (ha.run pins s σ H _ I h) fun v s1 ⟨x, H1, I1, r1, q1⟩ => test_link (thn (hb.run pins s1 σ H1 _ I1 q1) fun u s2 ⟨y, H2, I2, r2, q2⟩ =>
    thn (ho pins s2 σ H2 x y v u _ I2 r1 r2 q2) fun d s3 ⟨z, H3, I3, r3, k, e, q3⟩ => ?_)) hm
  subst e
  cases r3
  refine wpAny_truthy_bool ?_
  cases k with
  | false => exact ite_ff ⟨H3, I3, q3⟩
  | true =>
    refine ite_tt (test_link (thn (hc.run pins s3 σ H3 _ I3 q3) fun w s4 ⟨z', H4, I4, r4, q4⟩ => thn (ho' pins s4 σ H4 y z' u w _ I4 r2 r4 q4) fun d' s5 ⟨z2, H5, I5, r5, k', e', q5⟩ => ?_))
    subst e'
    cases r5
    refine wpAny_truthy_bool ?_
    cases k' with
    | false => exact ite_ff ⟨H5, I5, q5⟩
    | true =>
      refine ite_tt (test_last (thn (hd.run pins s5 σ H5 _ I5 q5) fun w2 s6 ⟨z3, H6, I6, r6, q6⟩ => thn (ho'' pins s6 σ H6 z' z3 w w2 _ I6 r4 r6 q6) fun d2 s7 ⟨z4, H7, I7, r7, k2, e2, q7⟩ => ?_))
      subst e2
      cases r7
      exact wpAny_truthy_bool ⟨H7, I7, q7⟩
end Bf

set_option Elab.async false
set_option linter.all false
set_option maxRecDepth 100000
set_option maxHeartbeats 4000000
namespace Bf
open PySem PySem.Spec PyProof.Rows L2
/-! ### data of tuples, ints and texts, as they lie -/
mutual
inductive Lay (H : Hp) : V → PyData → Prop
  | non : Lay H .non .none
  | bl (b : Bool) : Lay H (.bl b) (.bool b)
  | int (i : Int) : Lay H (.int i) (.int i)
  | str (x : Str) : Lay H (.str x) (.str x)
  | tup {a : Addr} {xs : List V} {ds : List PyData} : H a = some (.tup xs) → LayAll H xs ds → Lay H (.ref a) (.tuple ds)
inductive LayAll (H : Hp) : List V → List PyData → Prop
  | nil : LayAll H [] []
  | cons {v : V} {vs : List V} {d : PyData} {ds : List PyData} : Lay H v d → LayAll H vs ds → LayAll H (v :: vs) (d :: ds)
end
/-- what is tracked as a tuple in H is so in H' -/
def KeepT (H H' : Hp) : Prop := ∀ b xs, H b = some (.tup xs) → H' b = some (.tup xs)
theorem KeepT.refl (H : Hp) : KeepT H H := fun _ _ h => h
theorem KeepT.same {H H' : Hp} (k : Same H H') : KeepT H H' := fun b xs h => k _ _ h
theorem KeepT.trans {H H1 H2 : Hp} (a : KeepT H H1) (b : KeepT H1 H2) : KeepT H H2 := fun c o h => b c o (a c o h)
theorem KeepT.new {H : Hp} {p : Addr} {o : HO} (h : H p = none) : KeepT H (upd H p o) := fun b u q => by rw [upd_ne (ne_of_none q h)]; exact q
theorem KeepT.lst {H : Hp} {p : Addr} {o : HO} {l : List V} (h : H p = some (.lst l)) : KeepT H (upd H p o) := fun b u q => by
  rw [upd_ne (fun e => by rw [e, h] at q; cases q)]
  exact q
mutual
theorem Lay.keep {H H' : Hp} (k : KeepT H H') : ∀ (d : PyData) (v : V), Lay H v d → Lay H' v d
  | .none, _, h => by cases h; exact .non
  | .bool b, _, h => by cases h; exact .bl b
  | .int i, _, h => by cases h; exact .int i
  | .str x, _, h => by cases h; exact .str x
  | .list ds, _, h => by cases h
  | .tuple ds, _, h => by
    cases h with
    | tup e a => exact .tup (k _ _ e) (LayAll.keep k ds _ a)
  | .dict _, _, h => by cases h
theorem LayAll.keep {H H' : Hp} (k : KeepT H H') : ∀ (ds : List PyData) (vs : List V), LayAll H vs ds → LayAll H' vs ds
  | [], _, h => by cases h; exact .nil
  | d :: ds, _, h => by
    cases h with
    | cons a b => exact .cons (Lay.keep k d _ a) (LayAll.keep k ds _ b)
end
mutual
theorem Lay.dp {K : PySem.W.Frag} {H : Hp} : ∀ (d : PyData) (v : V), Lay H v d → Dp K H v d
  | .none, _, h => by cases h; exact .non
  | .bool b, _, h => by cases h; exact .bl b
  | .int i, _, h => by cases h; exact .int i
  | .str x, _, h => by cases h; exact .str x
  | .list ds, _, h => by cases h
  | .tuple ds, _, h => by
    cases h with
    | tup e a => exact .tup (SqT.of e) (LayAll.dp ds _ a)
  | .dict _, _, h => by cases h
theorem LayAll.dp {K : PySem.W.Frag} {H : Hp} : ∀ (ds : List PyData) (vs : List V), LayAll H vs ds → DpAll K H vs ds
  | [], _, h => by cases h; exact .nil
  | d :: ds, _, h => by
    cases h with
    | cons a b => exact .cons (Lay.dp d _ a) (LayAll.dp ds _ b)
end
theorem Lay.keep' {H H' : Hp} {d : PyData} {v : V} (h : Lay H v d) (k : KeepT H H') : Lay H' v d := Lay.keep k d v h
theorem LayAll.keep' {H H' : Hp} {ds : List PyData} {vs : List V} (h : LayAll H vs ds) (k : KeepT H H') : LayAll H' vs ds := LayAll.keep k ds vs h
theorem Lay.dp' {K : PySem.W.Frag} {H : Hp} {d : PyData} {v : V} (h : Lay H v d) : Dp K H v d := Lay.dp d v h
theorem LayAll.len {H : Hp} : ∀ {vs : List V} {ds : List PyData}, LayAll H vs ds → vs.length = ds.length
  | _, _, .nil => rfl
  | _, _, .cons _ h => by rw [List.length_cons, List.length_cons, h.len]
theorem LayAll.get {H : Hp} {v : V} : ∀ {vs : List V} {ds : List PyData} (i : Nat), LayAll H vs ds → vs[i]? = some v → ∃ d, ds[i]? = some d ∧ Lay H v d
  | [], _, _, _, e => by simp at e
  | _ :: _, _, 0, h, e => by
    cases h with
    | cons a b => cases e; exact ⟨_, rfl, a⟩
  | x :: vs, ds, i + 1, h, e => by
    cases h with
    | cons a b =>
      obtain ⟨d, q, l⟩ := LayAll.get (vs := vs) i b (by simpa using e)
      exact ⟨d, by simpa using q, l⟩
theorem LayAll.at_ {H : Hp} {d : PyData} : ∀ {vs : List V} {ds : List PyData} (i : Nat), LayAll H vs ds → ds[i]? = some d → ∃ v, vs[i]? = some v ∧ Lay H v d
  | _, [], _, _, e => by simp at e
  | _, _ :: _, 0, h, e => by
    cases h with
    | cons a b => cases e; exact ⟨_, rfl, a⟩
  | vs, x :: ds, i + 1, h, e => by
    cases h with
    | cons a b =>
      obtain ⟨d, q, l⟩ := LayAll.at_ (ds := ds) i b (by simpa using e)
      exact ⟨d, by simpa using q, l⟩
theorem LayAll.app {H : Hp} : ∀ {vs us : List V} {ds es : List PyData}, LayAll H vs ds → LayAll H us es → LayAll H (vs ++ us) (ds ++ es)
  | _, _, _, _, .nil, h => h
  | _, _, _, _, .cons a b, h => .cons a (b.app h)
theorem LayAll.snoc {H : Hp} {vs : List V} {ds : List PyData} {v : V} {d : PyData} (h : LayAll H vs ds) (a : Lay H v d) : LayAll H (vs ++ [v]) (ds ++ [d]) := h.app (.cons a .nil)
theorem LayAll.ints {H : Hp} : ∀ ns : List Nat, LayAll H (ns.map vI) (ns.map fun n : Nat => PyData.int (n : Int))
  | [] => .nil
  | n :: ns => .cons (.int _) (LayAll.ints ns)
theorem LayAll.ints_inv {H : Hp} : ∀ {ns : List Nat} {vs : List V}, LayAll H vs (ns.map fun n : Nat => PyData.int (n : Int)) → vs = ns.map vI
  | [], _, .nil => rfl
  | n :: ns, _, .cons (.int _) h => by rw [LayAll.ints_inv h]; rfl
theorem LayAll.strs_inv {H : Hp} : ∀ {ns : List Str} {vs : List V}, LayAll H vs (ns.map PyData.str) → vs = ns.map V.str
  | [], _, .nil => rfl
  | n :: ns, _, .cons (.str _) h => by rw [LayAll.strs_inv h]; rfl
theorem LayAll.strs {H : Hp} : ∀ ns : List Str, LayAll H (ns.map V.str) (ns.map PyData.str)
  | [] => .nil
  | n :: ns => .cons (.str _) (LayAll.strs ns)
theorem Lay.tup_inv {H : Hp} {v : V} {ds : List PyData} (h : Lay H v (.tuple ds)) : ∃ p vs, v = .ref p ∧ H p = some (.tup vs) ∧ LayAll H vs ds := by
  cases h with
  | tup e a => exact ⟨_, _, rfl, e, a⟩
theorem Lay.int_inv {H : Hp} {v : V} {i : Int} (h : Lay H v (.int i)) : v = .int i := by cases h; rfl
theorem Lay.str_inv {H : Hp} {v : V} {z : Str} (h : Lay H v (.str z)) : v = .str z := by cases h; rfl
theorem LayAll.nil_inv {H : Hp} {vs : List V} (h : LayAll H vs []) : vs = [] := by cases h; rfl
theorem LayAll.cons_inv {H : Hp} {vs : List V} {d : PyData} {ds : List PyData} (h : LayAll H vs (d :: ds)) : ∃ v us, vs = v :: us ∧ Lay H v d ∧ LayAll H us ds := by
  cases h with
  | cons a b => exact ⟨_, _, rfl, a, b⟩
/-! ### the shapes that == serves -/
def Sh (k : Nat) (d : PyData) : Prop := d.canLay0 = true ∧ d.depth ≤ k
theorem Sh.int (k : Nat) (i : Int) : Sh k (.int i) := ⟨by simp only [PyData.canLay0], by simp only [PyData.depth]; omega⟩
theorem Sh.all {k : Nat} : ∀ {ds : List PyData}, (∀ d ∈ ds, Sh k d) → PyData.canLayAll0 ds = true ∧ PyData.depthAll ds ≤ k
  | [], _ => ⟨by simp only [PyData.canLayAll0], by simp only [PyData.depthAll]; omega⟩
  | d :: ds, h => by
    have a := h d (by simp)
    have b := Sh.all (ds := ds) fun e he => h e (by simp [he])
    refine ⟨?_, ?_⟩
    · simp only [PyData.canLayAll0]
      rw [a.1, b.1]
      rfl
    · simp only [PyData.depthAll]
      have := a.2
      have := b.2
      omega
theorem Sh.tup {k : Nat} {ds : List PyData} (h : ∀ d ∈ ds, Sh k d) : Sh (k + 1) (.tuple ds) := by
  have q := Sh.all h
  exact ⟨by simp only [PyData.canLay0]; exact q.1, by simp only [PyData.depth]; omega⟩
theorem Sh.lst {k : Nat} {ds : List PyData} (h : ∀ d ∈ ds, Sh k d) : Sh (k + 1) (.list ds) := by
  have q := Sh.all h
  exact ⟨by simp only [PyData.canLay0]; exact q.1, by simp only [PyData.depth]; omega⟩
theorem Sh.shaped {k : Nat} {d : PyData} (h : Sh k d) (hk : k ≤ 64) : SeqAt.shaped d = true := by
  show (d.canLay0 && decide (d.depth ≤ 64)) = true
  rw [Bool.and_eq_true]
  exact ⟨h.1, decide_eq_true (by have := h.2; omega)⟩
mutual
theorem eqv_self : ∀ d : PyData, d.canLay0 = true → PyData.eqv d d = true
  | .none, _ => by simp [PyData.eqv]
  | .bool b, _ => by simp [PyData.eqv]
  | .int i, _ => by simp [PyData.eqv]
  | .str x, _ => by simp [PyData.eqv]
  | .list ds, h => by
    simp only [PyData.canLay0] at h
    simp only [PyData.eqv]
    exact eqvAll_self ds h
  | .tuple ds, h => by
    simp only [PyData.canLay0] at h
    simp only [PyData.eqv]
    exact eqvAll_self ds h
  | .dict _, h => by simp [PyData.canLay0] at h
theorem eqvAll_self : ∀ ds : List PyData, PyData.canLayAll0 ds = true → PyData.eqvAll ds ds = true
  | [], _ => by simp [PyData.eqvAll]
  | d :: ds, h => by
    simp only [PyData.canLayAll0, Bool.and_eq_true] at h
    simp only [PyData.eqvAll, Bool.and_eq_true]
    exact ⟨eqv_self d h.1, eqvAll_self ds h.2⟩
end
/-! ### bits of numbers that are not negative -/
section
variable {X : Cx}
theorem op_xorB : OpR X (binaryOp .BitXor) (fun x y H Q => ∃ n m : Nat, x = .int (n : Int) ∧ y = .int (m : Int) ∧ Q (vI (n ^^^ m)) H) := by
  intro pins s σ H x y v u Q I rx ry h
  obtain ⟨n, m, rfl, rfl, q⟩ := h
  refine op_xor pins s σ H _ _ v u Q I rx ry ⟨_, _, rfl, rfl, ?_⟩
  show Q (V.int (Builtin.bitXor (n : Int) (m : Int))) H
  rw [Bits.bitXor_pp (Int.natCast_nonneg _) (Int.natCast_nonneg _)]
  exact q
theorem op_andB : OpR X (binaryOp .BitAnd) (fun x y H Q => ∃ n m : Nat, x = .int (n : Int) ∧ y = .int (m : Int) ∧ Q (vI (n &&& m)) H) := by
  intro pins s σ H x y v u Q I rx ry h
  obtain ⟨n, m, rfl, rfl, q⟩ := h
  refine op_and pins s σ H _ _ v u Q I rx ry ⟨_, _, rfl, rfl, ?_⟩
  show Q (V.int (Builtin.bitAnd (n : Int) (m : Int))) H
  rw [bitAnd_pp (Int.natCast_nonneg _) (Int.natCast_nonneg _)]
  exact q
theorem op_orB : OpR X (binaryOp .BitOr) (fun x y H Q => ∃ n m : Nat, x = .int (n : Int) ∧ y = .int (m : Int) ∧ Q (vI (n ||| m)) H) := by
  intro pins s σ H x y v u Q I rx ry h
  obtain ⟨n, m, rfl, rfl, q⟩ := h
  refine op_or pins s σ H _ _ v u Q I rx ry ⟨_, _, rfl, rfl, ?_⟩
  show Q (V.int (Builtin.bitOr (n : Int) (m : Int))) H
  rw [Bits.bitOr_pp (Int.natCast_nonneg _) (Int.natCast_nonneg _)]
  exact q
end
/-! ### wide numbers that are not negative -/
theorem natAbs_cast (n : Nat) : ((n : Int)).natAbs = n := rfl
section
variable {X : Cx}
theorem op_fdivNW : OpR X (binaryOp .FloorDiv) (fun x y H Q => ∃ n m : Nat, x = .int (n : Int) ∧ y = .int (m : Int) ∧ (1 ≤ m ∧ m < 2 ^ 9000) ∧ Q (vI (n / m)) H) := by
  intro pins s σ H x y v u Q I rx ry h
  obtain ⟨n, m, rfl, rfl, ⟨h1, h2⟩, q⟩ := h
  exact op_fdivW pins s σ H _ _ v u Q I rx ry ⟨_, _, rfl, rfl, wide_div (b := 9000) (by omega) h2 (by omega) (by omega), q⟩
theorem op_mulNW : OpR X (binaryOp .Mult) (fun x y H Q => ∃ n m : Nat, x = .int (n : Int) ∧ y = .int (m : Int) ∧ (n < 2 ^ 100000 ∧ m < 2 ^ 100000) ∧ Q (vI (n * m)) H) := by
  intro pins s σ H x y v u Q I rx ry h
  obtain ⟨n, m, rfl, rfl, ⟨h1, h2⟩, q⟩ := h
  refine op_mulW pins s σ H _ _ v u Q I rx ry ⟨_, _, rfl, rfl, wide_mul (a := 100000) (b := 100000) h1 h2 (by omega) (by omega) (by omega), ?_⟩
  show Q (V.int ((n : Int) * (m : Int))) H
  rw [← Int.natCast_mul]
  exact q
theorem op_shlNN : OpR X (binaryOp .LShift) (fun x y H Q => ∃ n k : Nat, x = .int (n : Int) ∧ y = .int (k : Int) ∧ (n < 2 ^ 100000 ∧ k ≤ 100000) ∧ Q (vI (n * 2 ^ k)) H) := by
  intro pins s σ H x y v u Q I rx ry h
  obtain ⟨n, k, rfl, rfl, ⟨h1, h2⟩, q⟩ := h
  refine op_shlN pins s σ H _ _ v u Q I rx ry ⟨_, k, rfl, rfl, shl_ok (n := 100000) h1 (by omega), ?_⟩
  have e : ((n : Int) * 2 ^ k) = ((n * 2 ^ k : Nat) : Int) := by simp
  rw [e]
  exact q
theorem op_oneShlN : OpR X (binaryOp .LShift) (fun x y H Q => ∃ k : Nat, x = .int 1 ∧ y = .int (k : Int) ∧ k ≤ 134217727 ∧ Q (vI (2 ^ k)) H) := by
  intro pins s σ H x y v u Q I rx ry h
  obtain ⟨k, rfl, rfl, h1, q⟩ := h
  refine op_oneShl pins s σ H _ _ v u Q I rx ry ⟨k, rfl, rfl, h1, ?_⟩
  have e : ((2 : Int) ^ k) = ((2 ^ k : Nat) : Int) := by simp
  rw [e]
  exact q
end
/-! ### walks -/
theorem walk_enumG (S : Src) {K : PySem.W.Frag} {a : Addr} {xs : List V} : Walk (ItE S K a) xs.length (fun H => S.sq K H a xs) (YPair (fun i => some (.int (i : Nat))) (fun i => xs[i]?)) := by
  refine ⟨fun i _ hi q => ⟨xs, xs[i], q, by simp [hi]⟩, fun _ q => ⟨xs, q, rfl⟩, fun i H v H' _ q y => ?_⟩
  obtain ⟨T, x, h1, h2, h3, h4⟩ := y
  exact ⟨T, .int (i : Nat), x, h1, h2, h3, rfl, h4 xs q⟩
def rLenK (K : PySem.W.Frag) (xs : List V) (H : Hp) (Q : V → Hp → Prop) : Prop := ∃ p ys, xs = [.ref p] ∧ (SqL K H p ys ∨ SqT K H p ys) ∧ Q (.int ys.length) H
theorem call_lenK {X : Cx} : CallR X (.builtin "len") (rLenK X.K) := call_len_seq
/-! ### small facts -/
theorem refAt {ts : List Addr} {i : Nat} {x : V} (h : (ts.map V.ref)[i]? = some x) : ∃ t, ts[i]? = some t ∧ x = .ref t := by
  rw [List.getElem?_map] at h
  cases e : ts[i]? with
  | none => rw [e] at h; cases h
  | some k => rw [e] at h; exact ⟨k, rfl, (Option.some.inj h).symm⟩
theorem natAt {xs : List Nat} {i : Nat} {x : V} (h : (xs.map vI)[i]? = some x) : ∃ k, xs[i]? = some k ∧ x = vI k := by
  rw [List.getElem?_map] at h
  cases e : xs[i]? with
  | none => rw [e] at h; cases h
  | some k => rw [e] at h; exact ⟨k, rfl, (Option.some.inj h).symm⟩
theorem mapAt {α : Type} {f : α → V} {xs : List α} {i : Nat} {x : V} (h : (xs.map f)[i]? = some x) : ∃ k, xs[i]? = some k ∧ x = f k := by
  rw [List.getElem?_map] at h
  cases e : xs[i]? with
  | none => rw [e] at h; cases h
  | some k => rw [e] at h; exact ⟨k, rfl, (Option.some.inj h).symm⟩
theorem mapAtD {α : Type} {f : α → PyData} {xs : List α} {i : Nat} {x : PyData} (h : (xs.map f)[i]? = some x) : ∃ k, xs[i]? = some k ∧ x = f k := by
  rw [List.getElem?_map] at h
  cases e : xs[i]? with
  | none => rw [e] at h; cases h
  | some k => rw [e] at h; exact ⟨k, rfl, (Option.some.inj h).symm⟩
theorem take_snoc {α : Type} {l : List α} {i : Nat} {x : α} (h : l[i]? = some x) : l.take (i + 1) = l.take i ++ [x] := by
  rw [List.take_add_one, h]
  rfl
theorem same_two {H H' : Hp} {p : Addr} {o : HO} (k : Same H H') (hp : H p = none) : Same H (upd H' p o) := fun b u q => by
  rw [upd_ne (ne_of_none q hp)]
  exact k _ _ q
theorem i62 {n : Nat} (h : n ≤ 1000) : -(2 ^ 62) ≤ (n : Int) ∧ (n : Int) < 2 ^ 62 := by
  have a : (-(2 ^ 62) : Int) ≤ 0 := by decide
  have b : (1001 : Int) ≤ 2 ^ 62 := by decide
  exact ⟨Int.le_trans a (Int.natCast_nonneg _), Int.lt_of_lt_of_le (by omega) b⟩
theorem vInt {i : Int} {n : Nat} (h : i = (n : Int)) : V.int i = vI n := by rw [h]; rfl
theorem all_true : ∀ n : Nat, (List.replicate n true).all id = true
  | 0 => rfl
  | n + 1 => by
    rw [List.replicate_succ, List.all_cons, all_true n]
    rfl
theorem len1000 {n : Nat} (h : n ≤ 1000) : n < sizeLine := small1000 h
end Bf

set_option Elab.async false
set_option linter.all false
set_option maxRecDepth 100000
set_option maxHeartbeats 4000000
namespace Bf
open PySem PySem.Spec PyProof.Rows L2
/-! ### ints in sequences; slices of tuples -/
theorem eqV_int (a b : Nat) : eqV (vI a) (vI b) = decide (a = b) := by
  show (((a : Int)) == (b : Int)) = _
  by_cases h : a = b
  · subst h; simp
  · rw [decide_eq_false h]
    simp
    omega
theorem inV_int (x : Nat) (xs : List Nat) : inV (vI x) (xs.map vI) = decide (x ∈ xs) := by
  induction xs with
  | nil => rfl
  | cons a r ih =>
    show (eqV (vI a) (vI x) || inV (vI x) (r.map vI)) = decide (x ∈ a :: r)
    rw [ih, eqV_int]
    by_cases h : a = x
    · subst h; simp
    · by_cases h2 : x ∈ r
      · simp [h2]
      · have : x ≠ a := fun e => h e.symm
        simp [h, h2, this]
theorem flat_ints : ∀ xs : List Nat, (xs.map vI).all flatV = true
  | [] => rfl
  | a :: r => by
    rw [List.map_cons, List.all_cons, flat_ints r]
    rfl
theorem rdIndex {xs : List Nat} {f j : Nat} (hj : xs[j]? = some f) (hn : ∀ m, m < j → xs[m]? ≠ some f) :
    ∃ z : V, (xs.map vI)[j]? = some z ∧ eqV z (vI f) = true ∧ ∀ (m : Nat) (z' : V), m < j → (xs.map vI)[m]? = some z' → eqV z' (vI f) = false := by
  refine ⟨vI f, by rw [List.getElem?_map, hj]; rfl, by rw [eqV_int]; simp, fun m z' hm hz => ?_⟩
  obtain ⟨k, hk, rfl⟩ := natAt hz
  rw [eqV_int]
  exact decide_eq_false fun e => hn m hm (by rw [hk, e])
theorem cut_map {xs : List Nat} {lo hi : Option Int} {i j : Nat} (h1 : HT.sIx xs.length 0 lo = i) (h2 : HT.sIx xs.length xs.length hi = j) : cutV (xs.map vI) lo hi = ((xs.drop i).take (j - i)).map vI := by
  unfold cutV
  rw [List.length_map, h1, h2, ← List.map_drop, ← List.map_take]
theorem rdCut {K : PySem.W.Frag} {H : Hp} {b : Addr} {xs : List Nat} {lo hi : Option Int} {i j : Nat} {Q : VK} (hb : SqT K H b (xs.map vI)) (h1 : HT.sIx xs.length 0 lo = i) (h2 : HT.sIx xs.length xs.length hi = j)
    (k : ∀ (t : Addr) (H' : Hp), Same H H' → SqT K H' t (((xs.drop i).take (j - i)).map vI) → Q (.ref t) H') : rSlA K (.ref b) lo hi H Q := by
  refine ⟨b, xs.map vI, rfl, hb, fun hw => ?_, fun hw p hp => ?_⟩
  · rw [List.length_map, h1, h2] at hw
    obtain ⟨w1, w2⟩ := hw
    subst w1 w2
    refine k b H (Same.refl _) ?_
    rw [List.drop_zero, Nat.sub_zero, List.take_length]
    exact hb
  · refine k p _ (fun b u q => by rw [upd_ne (ne_of_none q hp)]; exact q) ?_
    rw [← cut_map h1 h2]
    exact SqT.of upd_same
theorem sIx_neg {n d k : Nat} (h : 1 ≤ k) : HT.sIx n d (some (-(k : Int))) = n - k := by
  show (if (-(k : Int)) < 0 then ((-(k : Int)) + (n : Int)).toNat else min (-(k : Int)).toNat n) = n - k
  rw [if_pos (by omega)]
  omega
theorem qI {Q : VK} {H : Hp} {i : Int} {n : Nat} (h : i = (n : Int)) (q : Q (vI n) H) : Q (V.int i) H := by
  rw [h]
  exact q
end Bf

set_option Elab.async false
set_option linter.all false
set_option maxRecDepth 100000
set_option maxHeartbeats 4000000
namespace Bf
open PySem PySem.Spec PyProof.Rows L2
/-! ### comprehensions over rows that lie there; each row gives a datum -/
theorem lc_rows {J : It} {xs : List V} {G : Hp → Prop} (w : Walk J xs.length G (YAt xs)) {α β : Type} {rows : List α} {f : α → PyData} {g : α → β} {h : β → PyData} {tg : TG} {te : TE} {vs : List Nat} {σ : L2.St} {H1 : Hp} {D : Addr} {Qd : Hp → Prop}
    (hG : ∀ H', Same H1 H' → G H') (hD : H1 D = none) (lay : LayAll H1 xs (rows.map f)) (hl : rows.length ≤ 1000)
    (hs : ∀ (i : Nat) (x : V) (r : α) (H' : Hp) (R : V → Hp → Prop) (Z : Hp → Prop), rows[i]? = some r → Same H1 H' → Lay H' x (f r) → (∀ y H4, Same H' H4 → Lay H4 y (h (g r)) → R y H4) →
      tg x (wipe σ vs) H' fun σ2 H2 => wipe σ2 vs = wipe σ vs ∧ tYes σ2 H2 fun b H3 => if b = true then te σ2 H3 R else Z H3)
    (hd : ∀ us H', Same H1 H' → H' D = some (.lst us) → LayAll H' us ((rows.map g).map h) → Qd H') :
    ∃ W : Nat → Nat → Hp → Prop, (∃ m, W 0 m (upd H1 D (.lst []))) ∧ ∀ i m H, W i m H →
      (J.stop i H ∧ Qd H) ∨ (J.go i H ∧ ∃ Nx : Hp → Prop, (∀ H', Nx H' → ∃ m', m' < m ∧ W (i + 1) m' H') ∧ ∀ x H', J.yld i H x H' → tg x (wipe σ vs) H' fun σ2 H2 => wipe σ2 vs = wipe σ vs ∧ tYes σ2 H2 fun b H3 =>
        if b = true then te σ2 H3 fun y H4 => ∃ acc, H4 D = some (.lst acc) ∧ acc.length < sizeLine ∧ Nx (upd H4 D (.lst (acc ++ [y]))) else Nx H3) := by
  have ll := lay.len
  rw [List.length_map] at ll
  refine lc_it w (fun i H' => Same H1 H' ∧ ∃ us, H' D = some (.lst us) ∧ LayAll H' us (((rows.take i).map g).map h)) ⟨same_two (.refl _) hD, [], upd_same, .nil⟩ (fun i H' _ p => hG _ p.1) (fun i x H' H2 hi p y => ?_) (fun H' p => ?_)
  · obtain ⟨sm, us, eD, lu⟩ := p
    obtain ⟨rfl, hx⟩ := y
    obtain ⟨d, hd', ld⟩ := (lay.keep' (.same sm)).get i hx
    obtain ⟨r, hr, rfl⟩ := mapAtD hd'
    refine hs i x r H2 _ _ hr sm ld (fun y H4 s4 ly => ?_)
    have lul := lu.len
    rw [List.length_map, List.length_map, List.length_take] at lul
    refine ⟨us, s4 _ _ eD, len1000 (by omega), same_two (sm.trans s4) hD, us ++ [y], upd_same, ?_⟩
    rw [take_snoc hr, List.map_append, List.map_append]
    exact ((lu.keep' (.same s4)).snoc ly).keep' (.lst (s4 _ _ eD))
  · obtain ⟨sm, us, eD, lu⟩ := p
    rw [ll, List.take_length] at lu
    exact hd us H' sm eD lu
theorem lay_ints {H : Hp} {us : List V} {ns : List Nat} (h : LayAll H us (ns.map fun n : Nat => PyData.int (n : Int))) : us = ns.map vI := h.ints_inv
/-- range(n) gives data -/
theorem lc_rangeL {n : Nat} {β : Type} {g : Nat → β} {h : β → PyData} {tg : TG} {te : TE} {vs : List Nat} {σ : L2.St} {H1 : Hp} {D : Addr} {Qd : Hp → Prop} (hD : H1 D = none) (hl : n ≤ 1000)
    (hs : ∀ (i : Nat) (H' : Hp) (R : V → Hp → Prop) (Z : Hp → Prop), i < n → Same H1 H' → (∀ y H4, Same H' H4 → Lay H4 y (h (g i)) → R y H4) →
      tg (.int (0 + (i : Int))) (wipe σ vs) H' fun σ2 H2 => wipe σ2 vs = wipe σ vs ∧ tYes σ2 H2 fun b H3 => if b = true then te σ2 H3 R else Z H3)
    (hd : ∀ us H', Same H1 H' → H' D = some (.lst us) → LayAll H' us (((List.range n).map g).map h) → Qd H') :
    ∃ W : Nat → Nat → Hp → Prop, (∃ m, W 0 m (upd H1 D (.lst []))) ∧ ∀ i m H, W i m H →
      ((Itr 0 n).stop i H ∧ Qd H) ∨ ((Itr 0 n).go i H ∧ ∃ Nx : Hp → Prop, (∀ H', Nx H' → ∃ m', m' < m ∧ W (i + 1) m' H') ∧ ∀ x H', (Itr 0 n).yld i H x H' → tg x (wipe σ vs) H' fun σ2 H2 => wipe σ2 vs = wipe σ vs ∧ tYes σ2 H2 fun b H3 =>
        if b = true then te σ2 H3 fun y H4 => ∃ acc, H4 D = some (.lst acc) ∧ acc.length < sizeLine ∧ Nx (upd H4 D (.lst (acc ++ [y]))) else Nx H3) := by
  refine lc_it walk_range (fun i H' => Same H1 H' ∧ ∃ us, H' D = some (.lst us) ∧ LayAll H' us (((List.range i).map g).map h)) ⟨same_two (.refl _) hD, [], upd_same, .nil⟩ (fun i H' _ p => trivial) (fun i x H' H2 hi p y => ?_) (fun H' p => ?_)
  · obtain ⟨sm, us, eD, lu⟩ := p
    obtain ⟨rfl, rfl⟩ := y
    refine hs i H2 _ _ hi sm (fun y H4 s4 ly => ?_)
    have lul := lu.len
    rw [List.length_map, List.length_map, List.length_range] at lul
    refine ⟨us, s4 _ _ eD, len1000 (by omega), same_two (sm.trans s4) hD, us ++ [y], upd_same, ?_⟩
    rw [List.range_succ, List.map_append, List.map_append]
    exact ((lu.keep' (.same s4)).snoc ly).keep' (.lst (s4 _ _ eD))
  · obtain ⟨sm, us, eD, lu⟩ := p
    exact hd us H' sm eD lu
theorem flat_rep (n : Nat) : (List.replicate n [V.int 0]).flatten = (List.replicate n 0).map vI := by
  induction n with
  | zero => rfl
  | succ n ih =>
    rw [List.replicate_succ, List.flatten_cons, ih, List.replicate_succ]
    rfl
theorem set_vI (l : List Nat) (i x : Nat) : (l.map vI).set i (vI x) = (l.set i x).map vI := by rw [List.map_set]
theorem ixN_nat {n i : Nat} (h : i < n) : ixN n (i : Int) = some i := by
  have : atI (List.range n) (i : Int) = some i := atI_nat (by rw [List.getElem?_range h])
  unfold atI at this
  cases e : ixN n (i : Int) with
  | none => rw [List.length_range, e] at this; cases this
  | some j =>
    rw [List.length_range, e] at this
    have q : (List.range n)[j]? = some i := this
    have hj : j < n := by
      have := (List.getElem?_eq_some_iff.mp q).1
      simpa using this
    rw [List.getElem?_range hj] at q
    rw [Option.some.inj q]
end Bf

set_option Elab.async false
set_option linter.all false
set_option maxRecDepth 100000
set_option maxHeartbeats 4000000
namespace Bf
open PySem PySem.Spec PyProof.Rows L2
/-! ### set(list of ints), so that it can be sorted: what set() has, member by member -/
theorem ints_at : ∀ {us : List Value} {xs : List Int}, IntsAre us xs → ∀ (i : Nat) (v : Value), us[i]? = some v → ∃ t, v = .int (xs.getD i 0) t
  | _, _, .nil, i, v, h => by simp at h
  | _, _, .cons n t hr, 0, v, h => by simp at h; exact ⟨t, by rw [← h] <;> rfl⟩
  | _, _, .cons n t hr, i + 1, v, h => by
    simp only [List.getElem?_cons_succ] at h
    obtain ⟨t', e⟩ := ints_at hr i v h
    exact ⟨t', by rw [e] <;> rfl⟩
section
variable {prog : Program} {w : World} {A : Around} {E : Value → Shared → Prop} {s : Shared}
theorem code_set_led1 (a : Value) {Q₁ : Value → Shared → Prop}
    (h : Q₁ (.ref s.heap.objs.size) { s with heap := s.heap.push { cls := .type "set", dict := none, data := .set #[] 0 (.fresh 0 0 (!w.params.followText "set-order")) } }) :
    codeAny (model prog w) A (.call (.builtin "set.__new__") ⟨[.type "set", a], []⟩) (wants Q₁ E) s := by
  refine codeAny_of_tree ?_
  show wpAny _ A.in1 (do checkBuiltinCall "set.__new__" ⟨[.type "set", a], []⟩; again (.builtin "set.__new__" ⟨[.type "set", a], []⟩)) _ _ s
  refine wpAny_bind (wpAny_of_eq (F.newCall_set_1 a) (wpAny_pure ⟨plainId_quiet F.plain_set_new _, codeAny_builtin F.entry_set_new ?_⟩))
  rw [Around.under_plainId F.plain_set_new _]
  unfold Builtin.«set.__new__» Builtin.Frozenset.newClass
  have hsub := sub_set_self
  obtain ⟨hp, g, d, tk, os⟩ := s
  dsimp only
  wp_walk
  refine wpAny_askSetting (wpAny_pure ?_)
  dsimp only
  simp only [newObj]
  refine wpAny_bind (wpAny_alloc (wpAny_pure ?_))
  exact wpAny_pure h
end
section
variable {prog : Program} {w : World} {A : Around} {R : Result → Shared → Prop} {I : Addr} {fp wr : List Addr} {G : Array GenState → Array GenState → Prop} {n : Nat} {P : Nat → Value → Prop} {St : Nat → Shared → Prop}
theorem loopInt (W : WalksS prog w A.in1 I fp wr G n P St) (S : Addr) (hSf : S ∉ fp) (xs : List Int) (hsz : xs.length = n) (hn : n ≤ 4000)
    (hval : ∀ i v, P i v → ∃ t, v = .int (xs.getD i 0) t) :
    ∀ (k i m : Nat) (s : Shared) (Sb : Int → Bool), n - i = k → i ≤ n → m ≤ i → St i s → SetR w s.heap S Sb m → (∀ x, Sb x = true ↔ x ∈ xs.take i) →
      (∀ s' Sb' m', Moved (S :: wr) G s s' → SetR w s'.heap S Sb' m' → m' ≤ n → (∀ x, Sb' x = true ↔ x ∈ xs) → R (.ok (.ret .none)) s') →
      codeAny (model prog w) A (.builtin "set.update.loop" ⟨[.ref S, .ref I], []⟩) R s := by
  have hSw : S ∉ wr := fun h => hSf (W.sub _ h)
  have hsub : ∀ b ∈ wr, b ∈ S :: wr := fun b hb => List.mem_cons_of_mem _ hb
  intro k
  induction k with
  | zero =>
    intro i m s Sb hk hi hm hst hS hSb hR
    have hin : i = n := by omega
    subst hin
    refine codeAny_builtin PyProof.Rows.F.entry_set_update_loop ?_
    rw [Around.under_plainId PyProof.Rows.F.plain_set_update_loop _]
    show wpAny _ A.in1 (pyNext (.ref I) >>= _) _ _ s
    refine wpAny_bind (W.done s _ _ hst fun s' hm' => ?_)
    show wpAny _ A.in1 (ret Value.none) _ _ s'
    refine wpAny_pure (hR s' Sb m (hm'.mono hsub) (hS.at fun o ho => hm'.heap S _ hSw ho) hm fun x => ?_)
    rw [hSb, List.take_of_length_le (by omega)]
  | succ k ih =>
    intro i m s Sb hk hi hm hst hS hSb hR
    have hlt : i < n := by omega
    refine codeAny_builtin PyProof.Rows.F.entry_set_update_loop ?_
    rw [Around.under_plainId PyProof.Rows.F.plain_set_update_loop _]
    show wpAny _ A.in1 (pyNext (.ref I) >>= _) _ _ s
    refine wpAny_bind (W.item i s _ _ hlt hst fun v s' hP hst' hm' => ?_)
    obtain ⟨t, rfl⟩ := hval i v hP
    have hS' : SetR w s'.heap S Sb m := hS.at fun o ho => hm'.heap S _ hSw ho
    show wpAny _ A.in1 (holding [Value.int (xs.getD i 0) t] (setAdd S (.int (xs.getD i 0) t)) >>= _) _ _ s'
    refine wpAny_bind (wpAny_holding ?_)
    unfold setAdd
    refine wpAny_holding ?_
    refine wpAny_bind ((intKind prog w).pyHash (k := xs.getD i 0) (intKind_is _ _ _ _) ?_)
    refine setR_add_hashed (P := prog) (s := { s' with toks := s'.toks + 1 }) hS' (by unfold scanBound; omega) fun h' hsb hS2 => ?_
    have hx : xs[i]? = some (xs.getD i 0) := by
      rw [List.getD_eq_getElem?_getD, List.getElem?_eq_getElem (by omega)]
      rfl
    refine wpAny_pure ⟨plainId_quiet PyProof.Rows.F.plain_set_update_loop _, ih (i + 1) _ _ _ (by omega) hlt (by split <;> omega) (W.frame _ s' _ _ hst' (Nat.le_succ _) fun b hb o e => ?_) hS2 (fun x => ?_) fun s'' Sb' m' hm'' hS'' => ?_⟩
    · rw [hsb.2 b (fun h : b = S => hSf (by rw [← h]; exact hb))]; exact e
    · rw [List.take_add_one, hx, Bool.or_eq_true, hSb, decide_eq_true_iff, List.mem_append]
      simp
    · refine hR s'' Sb' m' (Moved.trans W.gtrans ((hm'.mono hsub).then_heap (Nat.le_succ _) fun b o hb e => ?_) hm'') hS''
      rw [hsb.2 b (fun h : b = S => hb (by rw [h]; exact List.mem_cons_self))]; exact e
end
section
variable {prog : Program} {w : World} {A : Around} {E : Value → Shared → Prop} {s : Shared}
set_option maxHeartbeats 3200000 in
theorem call_set_listI {l : Addr} {items : Array Value} {xs : List Int} {Q : Value → Shared → Prop}
    (hh : A.handled = none) (hl : s.heap.IsList l items) (hi : IntsAre items.toList xs) (hn1 : xs.length ≤ 4000)
    (h : ∀ (h' : Heap) (tk : Nat) (Sb : Int → Bool) (m : Nat), SetR w h' s.heap.objs.size Sb m → m ≤ xs.length → (∀ x, Sb x = true ↔ x ∈ xs) →
      (∀ b o, b < s.heap.objs.size → s.heap.get? b = some o → h'.get? b = some o) → Q (.ref s.heap.objs.size) { s with heap := h', toks := tk }) :
    wpAny (model prog w) A (call (.type "set") [.ref l]) Q E s := by
  obtain ⟨c, tl, hmro⟩ := PySem.F.called_set.mro
  have hmade := PySem.F.called_set.made
  have hsub := PySem.F.called_set.sub
  refine wpAny_call (codeAny_of_tree ?_)
  show wpAny _ _ (callAny (.type "set") _) _ _ _
  refine wpAny_pure ⟨Code.quiet_builtin _ (by decide +kernel), codeAny_builtin PySem.F.entry_type_call ?_⟩
  rw [Around.under_plain (weight_type_call_type "set" [.ref l] []) rfl]
  have h1 := PySem.F.called_set.notType
  have h2 := PySem.F.called_set.canCreate
  have hct := PySem.F.typeCall_set_1 (.ref l)
  repeat (any_goals (first | assumption | wp_step))
  refine codeAny_mono (code_set_led1 (.ref l) (E := E) (Q₁ := fun obj s₁ => obj = .ref s.heap.objs.size ∧ s₁ = { s with heap := s.heap.push { cls := .type "set", dict := none, data := .set #[] 0 (.fresh 0 0 (!w.params.followText "set-order")) } }) ⟨rfl, rfl⟩) fun r s₁ hr => ?_
  cases r with
  | error e => exact hr
  | ok fl =>
    cases fl with
    | ret obj =>
      obtain ⟨rfl, rfl⟩ := hr
      have hF := setR_fresh (h := s.heap) w
      generalize (!w.params.followText "set-order") = led at hF ⊢
      have hS : (s.heap.push { cls := .type "set", dict := none, data := .set #[] 0 (.fresh 0 0 led) }).get? s.heap.objs.size = some { cls := .type "set", dict := none, data := .set #[] 0 (.fresh 0 0 led) } := Heap.get?_push_size _ rfl
      have hT : Shared.TypeIs { s with heap := s.heap.push { cls := .type "set", dict := none, data := .set #[] 0 (.fresh 0 0 led) } } (.ref s.heap.objs.size) "set" := ⟨_, hS, rfl⟩
      have hli := PySem.F.called_set.init.lookup
      have hbi := PySem.F.called_set.init.bind (.ref s.heap.objs.size)
      repeat (any_goals (first | assumption | wp_step))
      refine codeAny_mono (codeAny_call_builtin (R := wants (fun r s₂ => r = .none ∧ ∃ h' tk Sb m, s₂ = { s with heap := h', toks := tk } ∧
          SetR w h' s.heap.objs.size Sb m ∧ m ≤ xs.length ∧ (∀ x, Sb x = true ↔ x ∈ xs) ∧
          (∀ b o, b < s.heap.objs.size → s.heap.get? b = some o → h'.get? b = some o)) E) PySem.F.called_set.init.plain PySem.F.entry_set_init (check_set_init_1 hT ?_)) fun r₂ s₂ hr₂ => ?_
      · obtain ⟨ol, hol, hcl, nl, hdl⟩ := hl
        obtain ⟨ocls, odict, odata, oslots⟩ := ol
        simp only at hcl hdl
        subst hcl; subst hdl
        have hol' : (s.heap.push { cls := .type "set", dict := none, data := .set #[] 0 (.fresh 0 0 led) }).get? l = some { cls := .type "list", dict := odict, data := .seq items nl, slots := oslots } := Heap.get?_push_of_some _ hol
        have hsls := PySem.F.sub_list_set
        have hslf := PySem.F.sub_list_frozenset
        have hne : (Value.type "list" == Value.type "dict") = false := by decide
        have hl1 : (s.heap.push { cls := .type "set", dict := none, data := .set #[] 0 (.fresh 0 0 led) }).IsList l items := ⟨_, hol', rfl, nl, rfl⟩
        unfold Builtin.«set.__init__» noKeywords Builtin.Frozenset.updateFrom
        generalize hPI : pyIter = PI
        wp_walk
        subst hPI
        refine wpAny_pyIter_list hl1 ?_
        refine wpAny_bind (wpAny_runValue ?_)
        have hlS : l < s.heap.objs.size := Heap.lt_size hol
        have hh3 : A.in1.in1.in1.handled = none := by simp [hh]
        have hneI : l ≠ (s.heap.push { cls := .type "set", dict := none, data := .set #[] 0 (.fresh 0 0 led) }).objs.size := by
          rw [Heap.size_push]; exact Nat.ne_of_lt (Nat.lt_succ_of_lt hlS)
        have hSf : s.heap.objs.size ∉ [(s.heap.push { cls := .type "set", dict := none, data := .set #[] 0 (.fresh 0 0 led) }).objs.size, l] := by
          rw [Heap.size_push]; simp only [List.mem_cons, List.mem_singleton, List.not_mem_nil, or_false, not_or]
          exact ⟨Nat.ne_of_lt (Nat.lt_succ_self _), Nat.ne_of_gt hlS⟩
        have hsz : xs.length = items.size := by rw [← IntsAre.length hi, Array.length_toList]
        have hval : ∀ (i : Nat) (v : Value), items[i]? = some v → ∃ t, v = .int (xs.getD i 0) t := fun i v hv => ints_at hi i v (by rw [Array.getElem?_toList]; exact hv)
        refine loopInt ((Walks.list hh3 _ l hneI items).toS) s.heap.objs.size
          hSf xs hsz (by rw [← hsz]; exact hn1) hval (items.size - 0) 0 0 _ (fun _ => false) (by omega) (Nat.zero_le _) (Nat.le_refl _)
          ⟨⟨_, Heap.get?_push_size _ rfl, rfl, rfl⟩, (hl1.push _)⟩ (hF.at fun o ho => Heap.get?_push_of_some _ ho) (fun x => by simp) ?hR
        case hR =>
          intro s' Sb' m' hm hS' hm' hSb'
          obtain ⟨h', g', d', tk', os'⟩ := s'
          have eg : g' = s.gens := hm.gens
          have ed : d' = s.drawn := hm.drawn
          have eo : os' = s.os := hm.os
          subst eg; subst ed; subst eo
          show wpAny _ _ _ _ _ _
          refine wpAny_pure ?_
          show wpAny _ _ (ret Value.none) _ _ _
          refine wpAny_pure ⟨rfl, h', tk', Sb', m', rfl, hS', by omega, hSb', fun b o hb e => ?_⟩
          have hb1 : b ≠ s.heap.objs.size := Nat.ne_of_lt hb
          have hb2 : b ≠ (s.heap.push { cls := .type "set", dict := none, data := .set #[] 0 (.fresh 0 0 led) }).objs.size := by
            rw [Heap.size_push]; exact Nat.ne_of_lt (Nat.lt_succ_of_lt hb)
          exact hm.heap b o (by simp only [List.mem_cons, List.mem_singleton, List.not_mem_nil, or_false, not_or]; exact ⟨hb1, hb2⟩) (Heap.get?_push_of_some _ (Heap.get?_push_of_some _ e))
      · cases r₂ with
        | error e => exact hr₂
        | ok fl₂ =>
          cases fl₂ with
          | ret r =>
            obtain ⟨rfl, h', tk, Sb, m, rfl, hS', hm', hSb', hk'⟩ := hr₂
            repeat (any_goals (first | assumption | wp_step))
            exact h _ _ _ _ hS' hm' hSb' hk'
          | _ => exact hr₂.elim
    | _ => exact hr.elim
end
/-- set(xs), xs a list of ints -/
def rSetI (K : PySem.W.Frag) (w : World) : List V → Hp → VK → Prop := fun vs H Q => ∃ (l : Addr) (xs : List Int), vs = [.ref l] ∧ SqL K H l (xs.map V.int) ∧ xs.length ≤ 4000 ∧
  ∀ (p : Addr) (Sb : Int → Bool) (m : Nat), H p = none → m ≤ xs.length → (∀ x, Sb x = true ↔ x ∈ xs) → Q (.ref p) (upd H p (SetO w p Sb m))
section
variable {X : Cx}
theorem cr_setI (hc : X.calm = true) : CallR X (.type "set") (rSetI X.K X.w) := by
  intro pins s σ H vs us Q I r h
  obtain ⟨l, xs, rfl, hq, hz, q⟩ := h
  rw [Vals.ref1 r]
  obtain ⟨its, rv, pl, _⟩ := I.list hq
  refine call_set_listI (I.ok.hd hc) pl.isList (by simpa using L2.intsAre_of rv) hz fun h' tk Sb m R hm hS k => ?_
  exact ⟨.ref _, upd H s.heap.objs.size (SetO X.w s.heap.objs.size Sb m), I.laid (t' := tk) (fun b u e => k b u (Heap.lt_size e) e) (Nat.le_refl _) (setO_new R), rfl, q _ _ _ (I.hok.fresh (Nat.le_refl _)) hm hS⟩
end
end Bf

set_option Elab.async false
set_option linter.all false
set_option maxRecDepth 100000
set_option maxHeartbeats 4000000
namespace Bf
open PySem PySem.Spec PyProof.Rows L2
/-! ### [x for x in xs if p x]; sorted(set(xs)) -/
theorem lc_filt {J : It} {xs : List Nat} {G : Hp → Prop} (w : Walk J (xs.map vI).length G (YAt (xs.map vI))) {p : Nat → Bool} {tg : TG} {tt : TT} {te : TE} {vs : List Nat} {σ : L2.St} {H1 : Hp} {D : Addr} {Qd : Hp → Prop}
    (hG : ∀ H', Same H1 H' → G H') (hD : H1 D = none) (hl : xs.length ≤ 1000)
    (hs : ∀ (x : Nat) (H' : Hp) (R : V → Hp → Prop) (Z : Hp → Prop), x ∈ xs → Same H1 H' → (p x = true → R (vI x) H') → (p x = false → Z H') →
      tg (vI x) (wipe σ vs) H' fun σ2 H2 => wipe σ2 vs = wipe σ vs ∧ tt σ2 H2 fun b H3 => if b = true then te σ2 H3 R else Z H3)
    (hd : ∀ H', Same H1 H' → H' D = some (.lst ((xs.filter p).map vI)) → Qd H') :
    ∃ W : Nat → Nat → Hp → Prop, (∃ m, W 0 m (upd H1 D (.lst []))) ∧ ∀ i m H, W i m H →
      (J.stop i H ∧ Qd H) ∨ (J.go i H ∧ ∃ Nx : Hp → Prop, (∀ H', Nx H' → ∃ m', m' < m ∧ W (i + 1) m' H') ∧ ∀ x H', J.yld i H x H' → tg x (wipe σ vs) H' fun σ2 H2 => wipe σ2 vs = wipe σ vs ∧ tt σ2 H2 fun b H3 =>
        if b = true then te σ2 H3 fun y H4 => ∃ acc, H4 D = some (.lst acc) ∧ acc.length < sizeLine ∧ Nx (upd H4 D (.lst (acc ++ [y]))) else Nx H3) := by
  refine lc_it w (fun i H' => Same H1 H' ∧ H' D = some (.lst (((xs.take i).filter p).map vI))) ⟨same_two (.refl _) hD, by simp [upd_same]⟩ (fun i H' _ q => hG _ q.1) (fun i x H' H2 hi q y => ?_) (fun H' q => ?_)
  · obtain ⟨sm, eD⟩ := q
    obtain ⟨rfl, hx⟩ := y
    obtain ⟨k, hk, rfl⟩ := natAt hx
    have hlen : ((xs.take i).filter p).length ≤ 1000 := Nat.le_trans (List.length_filter_le _ _) (by rw [List.length_take]; omega)
    refine hs k H2 _ _ (List.mem_of_getElem? hk) sm (fun hp => ⟨_, eD, by rw [List.length_map]; exact small1000 hlen, same_two sm hD, ?_⟩) (fun hp => ⟨sm, ?_⟩)
    · rw [upd_same, take_snoc hk, List.filter_append, List.map_append]
      simp [List.filter, hp]
    · rw [take_snoc hk, List.filter_append]
      simpa [List.filter, hp] using eD
  · obtain ⟨sm, eD⟩ := q
    rw [List.length_map, List.take_length] at eD
    exact hd H' sm eD
theorem ints_nat {ns : List Int} {xs : List Nat} (h : ∀ k ∈ ns, ∃ x : Nat, k = (x : Int) ∧ x ∈ xs) : ∃ zs : List Nat, ns.map V.int = zs.map vI ∧ ns = zs.map fun n : Nat => (n : Int) := by
  induction ns with
  | nil => exact ⟨[], rfl, rfl⟩
  | cons a r ih =>
    obtain ⟨zs, e1, e2⟩ := ih fun k hk => h k (by simp [hk])
    obtain ⟨x, rfl, _⟩ := h a (by simp)
    exact ⟨x :: zs, by rw [List.map_cons, e1]; rfl, by rw [e2]; rfl⟩
def castL (xs : List Nat) : List Int := xs.map fun n : Nat => (n : Int)
theorem castL_V (xs : List Nat) : (castL xs).map V.int = xs.map vI := by
  unfold castL
  rw [List.map_map]
  rfl
theorem castL_len (xs : List Nat) : (castL xs).length = xs.length := by simp [castL]
theorem setSorted {xs : List Nat} {ns : List Int} {Sb : Int → Bool} {m : Nat} (hS : ∀ x, Sb x = true ↔ x ∈ castL xs) (pw : ns.Pairwise (· < ·)) (hk : ∀ k : Int, k ∈ ns ↔ Sb k = true) (hn : ns.length = m) (hm : m ≤ (castL xs).length) :
    ∃ zs : List Nat, ns.map V.int = zs.map vI ∧ zs.Pairwise (· < ·) ∧ (∀ x, x ∈ zs ↔ x ∈ xs) ∧ zs.length ≤ xs.length := by
  rw [castL_len] at hm
  have hx : ∀ z : Int, z ∈ ns ↔ ∃ x : Nat, z = (x : Int) ∧ x ∈ xs := fun z => by
    rw [hk z, hS z, castL, List.mem_map]
    exact ⟨fun ⟨x, a, b⟩ => ⟨x, b.symm, a⟩, fun ⟨x, a, b⟩ => ⟨x, b, a.symm⟩⟩
  obtain ⟨zs, e1, e2⟩ := ints_nat fun z hz => (hx z).mp hz
  refine ⟨zs, e1, ?_, fun x => ?_, ?_⟩
  · rw [e2] at pw
    exact (List.pairwise_map.mp pw).imp fun h => by omega
  · have := hx (x : Int)
    rw [e2] at this
    refine ⟨fun h => ?_, fun h => ?_⟩
    · obtain ⟨y, hy, hm⟩ := this.mp (List.mem_map_of_mem h)
      rwa [show x = y by omega]
    · obtain ⟨y, hy, e⟩ := List.mem_map.mp (this.mpr ⟨x, rfl, h⟩)
      have e : (y : Int) = (x : Int) := e
      rwa [show x = y by omega]
  · have : ns.length = zs.length := by rw [e2, List.length_map]
    omega
/-- [g x for x in rows if p x], rows that lie there; the test may make objects -/
theorem lc_frows {J : It} {xs : List V} {G : Hp → Prop} (w : Walk J xs.length G (YAt xs)) {α β : Type} {rows : List α} {f : α → PyData} {g : α → β} {h : β → PyData} {p : α → Bool} {tg : TG} {tt : TT} {te : TE} {vs : List Nat} {σ : L2.St} {H1 : Hp} {D : Addr} {Qd : Hp → Prop}
    (hG : ∀ H', Same H1 H' → G H') (hD : H1 D = none) (lay : LayAll H1 xs (rows.map f)) (hl : rows.length ≤ 1000)
    (hs : ∀ (x : V) (r : α) (H' : Hp) (R : V → Hp → Prop) (Z : Hp → Prop), r ∈ rows → Same H1 H' → Lay H' x (f r) → (p r = true → ∀ y H4, Same H' H4 → Lay H4 y (h (g r)) → R y H4) → (p r = false → ∀ H4, Same H' H4 → Z H4) →
      tg x (wipe σ vs) H' fun σ2 H2 => wipe σ2 vs = wipe σ vs ∧ tt σ2 H2 fun b H3 => if b = true then te σ2 H3 R else Z H3)
    (hd : ∀ us H', Same H1 H' → H' D = some (.lst us) → LayAll H' us (((rows.filter p).map g).map h) → Qd H') :
    ∃ W : Nat → Nat → Hp → Prop, (∃ m, W 0 m (upd H1 D (.lst []))) ∧ ∀ i m H, W i m H →
      (J.stop i H ∧ Qd H) ∨ (J.go i H ∧ ∃ Nx : Hp → Prop, (∀ H', Nx H' → ∃ m', m' < m ∧ W (i + 1) m' H') ∧ ∀ x H', J.yld i H x H' → tg x (wipe σ vs) H' fun σ2 H2 => wipe σ2 vs = wipe σ vs ∧ tt σ2 H2 fun b H3 =>
        if b = true then te σ2 H3 fun y H4 => ∃ acc, H4 D = some (.lst acc) ∧ acc.length < sizeLine ∧ Nx (upd H4 D (.lst (acc ++ [y]))) else Nx H3) := by
  have ll := lay.len
  rw [List.length_map] at ll
  refine lc_it w (fun i H' => Same H1 H' ∧ ∃ us, H' D = some (.lst us) ∧ LayAll H' us ((((rows.take i).filter p).map g).map h)) ⟨same_two (.refl _) hD, [], upd_same, by simp; exact .nil⟩ (fun i H' _ q => hG _ q.1) (fun i x H' H2 hi q y => ?_) (fun H' q => ?_)
  · obtain ⟨sm, us, eD, lu⟩ := q
    obtain ⟨rfl, hx⟩ := y
    obtain ⟨d, hd', ld⟩ := (lay.keep' (.same sm)).get i hx
    obtain ⟨r, hr, rfl⟩ := mapAtD hd'
    have lul := lu.len
    rw [List.length_map, List.length_map] at lul
    have hlen : ((rows.take i).filter p).length ≤ 1000 := Nat.le_trans (List.length_filter_le _ _) (by rw [List.length_take]; omega)
    refine hs x r H2 _ _ (List.mem_of_getElem? hr) sm ld (fun hp y H4 s4 ly => ?_) (fun hp H4 s4 => ⟨sm.trans s4, us, s4 _ _ eD, ?_⟩)
    · refine ⟨us, s4 _ _ eD, len1000 (by omega), same_two (sm.trans s4) hD, us ++ [y], upd_same, ?_⟩
      rw [take_snoc hr, List.filter_append, List.map_append, List.map_append, show [r].filter p = [r] by simp [List.filter, hp]]
      exact ((lu.keep' (.same s4)).snoc ly).keep' (.lst (s4 _ _ eD))
    · rw [take_snoc hr, List.filter_append, show [r].filter p = [] by simp [List.filter, hp], List.append_nil]
      exact lu.keep' (.same s4)
  · obtain ⟨sm, us, eD, lu⟩ := q
    rw [ll, List.take_length] at lu
    exact hd us H' sm eD lu
def blD (b : Bool) : PyData := .bool b
theorem lay_bls {H : Hp} : ∀ {bs : List Bool} {us : List V}, LayAll H us (bs.map blD) → us = bs.map V.bl
  | [], _, h => by cases h; rfl
  | b :: r, _, h => by
    cases h with
    | cons a t =>
      rw [lay_bls t]
      cases a
      rfl
end Bf

set_option Elab.async false
set_option linter.all false
set_option maxRecDepth 100000
set_option maxHeartbeats 4000000
namespace Bf
open PySem PySem.Spec PyProof.Rows L2 PySem.W
/-! ### max and min of a list of ints, with default= -/
def maxOr (d : Int) : List Int → Int
  | [] => d
  | n :: ns => ns.foldl max n
def minOr (d : Int) : List Int → Int
  | [] => d
  | n :: ns => ns.foldl min n
theorem alikeInts (ns : List Int) : AlikeAll (ns.map PyData.int) := by
  refine ⟨fun x hx y hy => ?_, fun x hx e => ?_⟩
  · obtain ⟨a, _, rfl⟩ := List.mem_map.mp hx
    obtain ⟨b, _, rfl⟩ := List.mem_map.mp hy
    rfl
  · obtain ⟨a, _, rfl⟩ := List.mem_map.mp hx
    cases e
theorem depthInts : ∀ ns : List Int, PyData.depthAll (ns.map PyData.int) ≤ 1
  | [] => by
    rw [List.map_nil]
    simp only [PyData.depthAll]
    omega
  | n :: ns => by
    have := depthInts ns
    rw [List.map_cons]
    simp only [PyData.depthAll, PyData.depth]
    omega
theorem dpInts {K : PySem.W.Frag} {H : Hp} : ∀ ns : List Int, DpAll K H (ns.map V.int) (ns.map PyData.int)
  | [] => .nil
  | n :: ns => .cons (.int n) (dpInts ns)
def rMaxD (K : PySem.W.Frag) : List V → List V → Hp → VK → Prop := fun vs zs H Q => ∃ (l : Addr) (ns : List Int) (d : Int), vs = [.ref l] ∧ zs = [.int d] ∧ SqL K H l (ns.map V.int) ∧ Q (.int (maxOr d ns)) H
def rMinD (K : PySem.W.Frag) : List V → List V → Hp → VK → Prop := fun vs zs H Q => ∃ (l : Addr) (ns : List Int) (d : Int), vs = [.ref l] ∧ zs = [.int d] ∧ SqL K H l (ns.map V.int) ∧ Q (.int (minOr d ns)) H
theorem reads_int {h : Heap} {v : Value} {n : Int} {bs : List Addr} (r : Reads h v (.int n) bs) : ∃ t, v = .int n t := by
  cases r
  exact ⟨_, rfl⟩
section
variable {X : Cx}
theorem cr_maxDef (hc : X.calm = true) (hu : X.A.units + 64 < cLine) : CallRK X (.builtin "max") [Str.ofString "default"] (rMaxD X.K) := by
  intro pins s σ H vs zs us ws Q I r rz h
  obtain ⟨l, ns, d, rfl, rfl, hs, q⟩ := h
  obtain rfl := Vals.ref1 r
  obtain ⟨w1, rfl, e1⟩ := vals1 rz
  obtain ⟨tk, rfl⟩ := e1
  obtain ⟨its, rv, pl, _⟩ := I.list hs
  obtain ⟨as, hr⟩ := Dp.readsAll I (ns.map PyData.int) _ _ (dpInts ns) rv
  refine max_list_default (I.ok.hd hc) pl.isList hr (alikeInts ns) (by have := depthInts ns; omega) (fun h0 h' t' k => ?_) fun y ys i v h' t' bs e hv rd k => ?_
  · have : ns = [] := by simpa using h0
    subst this
    exact ⟨.int d, H, I.kept k, ⟨tk, rfl⟩, q⟩
  · obtain ⟨n, ms, rfl⟩ : ∃ n ms, ns = n :: ms := by
      cases ns with
      | nil => cases e
      | cons n ms => exact ⟨n, ms, rfl⟩
    cases e
    rw [maxD_ints] at rd
    obtain ⟨t, rfl⟩ := reads_int rd
    exact ⟨.int (ms.foldl max n), H, I.kept k, ⟨t, rfl⟩, q⟩
theorem cr_minDef (hc : X.calm = true) (hu : X.A.units + 64 < cLine) : CallRK X (.builtin "min") [Str.ofString "default"] (rMinD X.K) := by
  intro pins s σ H vs zs us ws Q I r rz h
  obtain ⟨l, ns, d, rfl, rfl, hs, q⟩ := h
  obtain rfl := Vals.ref1 r
  obtain ⟨w1, rfl, e1⟩ := vals1 rz
  obtain ⟨tk, rfl⟩ := e1
  obtain ⟨its, rv, pl, _⟩ := I.list hs
  obtain ⟨as, hr⟩ := Dp.readsAll I (ns.map PyData.int) _ _ (dpInts ns) rv
  refine min_list_default (I.ok.hd hc) pl.isList hr (alikeInts ns) (by have := depthInts ns; omega) (fun h0 h' t' k => ?_) fun y ys i v h' t' bs e hv rd k => ?_
  · have : ns = [] := by simpa using h0
    subst this
    exact ⟨.int d, H, I.kept k, ⟨tk, rfl⟩, q⟩
  · obtain ⟨n, ms, rfl⟩ : ∃ n ms, ns = n :: ms := by
      cases ns with
      | nil => cases e
      | cons n ms => exact ⟨n, ms, rfl⟩
    cases e
    rw [minD_ints] at rd
    obtain ⟨t, rfl⟩ := reads_int rd
    exact ⟨.int (ms.foldl min n), H, I.kept k, ⟨t, rfl⟩, q⟩
end
end Bf

set_option Elab.async false
set_option linter.all false
set_option maxRecDepth 100000
set_option maxHeartbeats 4000000
namespace Bf
open PySem PySem.Spec PyProof.Rows L2
/-! ### list(d.values()) -/
def rListVals : V → Hp → VK → Prop := fun x H Q => ∃ (d : Addr) (kvs : List (Key × V)), x = .ref d ∧ H d = some (.dK kvs) ∧ ∀ p, H p = none → Q (.ref p) (upd H p (.lst (kvs.map Prod.snd)))
def tListVals (te : TE) : TE := fun σ H Q => te σ H fun x H1 => rListVals x H1 Q
theorem kv_vals {kvs : List (Key × V)} {vs : List (Key × Value)} (h : KV kvs vs) : ∀ (j : Nat) (x : V) (k : Key) (u : Value), (kvs.map Prod.snd)[j]? = some x → vs[j]? = some (k, u) → RelV x u := by
  induction h with
  | nil => intro j x k u h1 h2; simp at h1
  | cons r t ih =>
    intro j x k u h1 h2
    cases j with
    | zero =>
      simp at h1 h2
      rw [← h1]
      have := r.2
      rw [h2] at this
      exact this
    | succ j => exact ih j x k u (by simpa using h1) (by simpa using h2)
section
variable {X : Cx} {e : Expr} {te : TE} {p apos cpos pos : Pos}
theorem pe_listVals (hc : X.calm = true) (he : PE X e te) (hg : Gl X "list") (hm : X.mg "list" = none) (hv : bootBuiltins "list" = some (.type "list")) (hbase : attributeBase e "values" X.env (eval e X.env) = eval e X.env := by rfl) (hline : (apos.endLine == cpos.line) = true := by rfl)
    (hs : starEach [.Call (.Attribute e "values" apos) [] [] cpos] X.env = (false, eval (.Call (.Attribute e "values" apos) [] [] cpos) X.env) :: starEach [] X.env := by rfl) :
    PE X (.Call (.Name "list" p) [.Call (.Attribute e "values" apos) [] [] cpos] [] pos) (tListVals te) := by
  refine ⟨fun pins s σ H Q I hq => ?_⟩
  refine wpAny_Call_Name_kw (ld_blt I hg hm hv ?_)
  refine PyProof.Rows.callWith_type1 ?_ hs rfl
  rw [hs]
  show wpAny _ _ (spliced ((false, eval (.Call (.Attribute e "values" apos) [] [] cpos) X.env) :: backTo pos (starEach [] X.env))) _ _ s
  refine Calls.spliced_cons ?_
  refine wpAny_Call_method (T := "dict") (id := "dict.values") hbase rfl hline F.plainAttrs_dict F.slot_dict_values F.type_dict_values (thn (he.run pins s σ H _ I hq) fun u s1 ⟨x, H1, I1, rx, d, kvs, ex, hd, q⟩ => ?_)
  subst ex
  obtain rfl : u = Value.ref d := rx
  obtain ⟨hz, hs0, vs, kv, hdo⟩ := I1.hok d _ hd
  obtain ⟨ep, hat⟩ := hdo.dictAt
  have lk : kvs.length = vs.length := Paired.length kv
  have I2 : Inv X pins σ H1 { s1 with heap := s1.heap.push { cls := .type "dict_values", data := .fields #[.ref d] } } := I1.kept (t' := s1.toks) fun b ob q => Heap.get?_push_of_some _ q
  refine ⟨hdo.typeIs, hdo.mapOf.noDict, ?_⟩
  show wpAny _ _ (callWith cpos (.builtin "dict.values") [.ref d] [] []) _ X.xe s1
  refine method_meetsIn F.slot_dict_values F.entry_dict_values rfl (PySem.evalArgs_none ⟨rfl, hdo.typeIs, F.args_dict_values_1 _, _, meets_dict_values (mixKind X.prog X.w) d hs0, ⟨vs, hdo⟩, ?_⟩)
  refine Calls.spliced_nil ?_
  refine PySem.W.kdl_call (PySem.W.kdl_values (knd := mixKind X.prog X.w) (r := s1.heap.objs.size) (d := d) (kvs := vs) (ep := ep)) (I1.ok.hd hc) ⟨⟨_, Heap.get?_push_size _ rfl, rfl, rfl⟩, hat.push _⟩ (by rw [← lk]; exact hz) fun h' tk acc c hk hS hacc => ?_
  refine ⟨.ref _, upd H1 _ (.lst (kvs.map Prod.snd)), I2.laid hk (Nat.le_refl _) (show ObjOk X.prog X.w _ _ _ (.lst (kvs.map Prod.snd)) from ⟨?_, acc.toList, c, ?_, ?_⟩), rfl, q _ (I2.hok.fresh (Nat.le_refl _))⟩
  · rw [List.length_map]; exact hz
  · have el : acc.toList.length = acc.size := by simp
    refine vals_of_at (by rw [List.length_map, el, hacc.1, lk]) fun j x w h1 h2 => ?_
    obtain ⟨k, hky⟩ := hacc.2 j w (by rw [← Array.getElem?_toList]; exact h2)
    exact kv_vals kv j x k w h1 hky
  · rw [Array.toArray_toList]; exact hS
end
end Bf

set_option Elab.async false
set_option linter.all false
set_option maxRecDepth 100000
set_option maxHeartbeats 4000000
namespace Bf
open PySem PySem.Spec PyProof.Rows L2
theorem noTake {X : Cx} : Takes X (fun _ _ _ _ => False) := fun u s' ⟨_, _, _, _, _, _, _, _, _, _, _, _, _, _, _, _, w⟩ => w.elim
end Bf

set_option Elab.async false
set_option linter.all false
set_option maxRecDepth 100000
set_option maxHeartbeats 4000000
namespace Bf
open PySem PySem.Spec PyProof.Rows L2
section
variable {X : Cx}
/-- sorted(d), d a dict with int keys, of any length -/
theorem cr_sortedKeysI (hcalm : X.calm = true) : CallR X (.builtin "sorted") (fun xs H Q => ∃ (a : Addr) (kvs : List (Key × V)) (ks : List Int), xs = [.ref a] ∧ Rd H a (.dK kvs) ∧ kvs.map (·.1) = ks.map Sum.inl ∧
    ∀ (ys : List Int) (p : Addr), ys.Perm ks → ys.Pairwise (· ≤ ·) → H p = none → Q (.ref p) (upd H p (.lst (ys.map V.int)))) := by
  intro pins s σ H xs us Q I r q
  obtain ⟨a, kvs, ks, ex, hd, hks, q⟩ := q
  subst ex
  obtain ⟨u, eu, rx⟩ := vals1 r
  subst eu
  cases rx
  obtain ⟨z, lo, vs, rel, dd⟩ := dk_rd I.hok hd
  obtain ⟨ep, hat⟩ := dd.dictAt
  have hkeys : vs.map (·.1) = ks.map Sum.inl := rel.keys.symm.trans hks
  have hl : vs.length = ks.length := by
    have e := congrArg List.length hkeys
    rw [List.length_map, List.length_map] at e
    exact e
  have h16 : vs.length ≤ sizeLine := by
    rw [← Paired.length rel]
    exact z
  refine Calls.call_function_entry PyProof.Rows.kind_sorted PyProof.Rows.plain_sorted PyProof.Rows.entry_sorted (PyProof.Rows.args_sorted1 _) ?_
  unfold Builtin.«sorted»
  refine wpAny_bind (m := checkCount "sorted" 1 1 _) (wpAny_pure ?_)
  refine wpAny_bind (PySem.W.kdu_collect (A := X.A.in1) (PySem.W.kdl_dict (knd := mixKind X.prog X.w) (kvs := vs) (ep := ep) lo) (I.ok.hd hcalm) hat h16 fun h' tk acc hk hacc => ?_)
  have hal : acc.toList.length = ks.length := by rw [Array.length_toList, hacc.1, hl]
  have hS : IntsAre acc.toList ks := ints_each hal fun j v e => by
    obtain ⟨k, x, e1, e2⟩ := hacc.2 j v (by rw [← Array.getElem?_toList]; exact e)
    have e3 : (vs.map (·.1))[j]? = some k := by rw [List.getElem?_map, e1]; rfl
    rw [hkeys, List.getElem?_map] at e3
    cases e4 : ks[j]? with
    | none => rw [e4] at e3; cases e3
    | some y =>
      rw [e4] at e3
      have e5 : Sum.inl y = k := Option.some.inj e3
      subst e5
      rcases keyIs_shape (show keyIs (Sum.inl y) v = true from e2) with ⟨i, t, ek, ev⟩ | ⟨z, t, ek, ev⟩
      · cases ek
        exact ⟨y, t, rfl, ev⟩
      · cases ek
  have I1 : Inv X pins σ H { s with heap := h', toks := tk } := I.kept hk
  have hal2 : acc.toList.length ≤ sizeLine := by rw [hal, ← hl]; exact h16
  refine wpAny_bind (wpAny_newList ?_ (by rw [hal, ← hl]; exact h16))
  have hoL : (h'.push (seqObj "list" acc.toList.toArray 0)).get? h'.objs.size = some (seqObj "list" acc.toList.toArray 0) := Heap.get?_push_size _ rfl
  show wpAny _ _ _ _ _ { s with heap := h'.push (seqObj "list" acc.toList.toArray 0), toks := tk }
  refine wpAny_bind (wpAny_holding (wpAny_call_entry PyProof.Rows.slot_list_sort ⟨_, hoL, rfl⟩ PyProof.Rows.entry_list_sort
    (SrtO.list_sort_ord (s := { s with heap := h'.push (seqObj "list" acc.toList.toArray 0), toks := tk }) SrtO.swo_int hoL hal2 (fun h2 => SrtO.ints_sortable hS h2) fun out h1 h2 => ⟨_, rfl, ?_⟩) (PyProof.Rows.args_list_sort _)))
  obtain ⟨g1, g2, g3⟩ := SrtO.ints_out hS h1 h2
  obtain ⟨e', he'⟩ := PyProof.Rows.sortedHeap_at (vs := acc.toList) (out := out.toArray) hoL
  have hlen : ((out.map SrtO.iv).map V.int).length ≤ sizeLine := by
    rw [List.length_map, g2.length_eq, ← hl]
    exact h16
  refine wpAny_pure ⟨_, rfl, .ref h'.objs.size, upd H h'.objs.size (.lst ((out.map SrtO.iv).map V.int)), I1.laid (t' := tk) (fun b u e => ?_) (Nat.le_refl _)
    (show ObjOk X.prog X.w _ _ _ (.lst ((out.map SrtO.iv).map V.int)) from ⟨hlen, out, e', vals_of_ints g1, he'⟩), rfl, q _ _ g2 g3 (I1.hok.fresh (Nat.le_refl _))⟩
  have hb : b < h'.objs.size := Heap.lt_size e
  rw [PyProof.Rows.sortedHeap_old (Nat.ne_of_lt hb) (by rw [size_push']; exact Nat.lt_succ_of_lt hb)]
  exact Heap.get?_push_of_some _ e
end
/-- two ascending lists of the same numbers are one -/
theorem sorted_same {xs ys : List Int} (hx : xs.Pairwise (· ≤ ·)) (hy : ys.Pairwise (· ≤ ·)) (h : xs.Perm ys) : xs = ys :=
  h.eq_of_pairwise (fun a b _ _ h1 h2 => Int.le_antisymm h1 h2) hx hy
end Bf

set_option Elab.async false
set_option linter.all false
set_option maxRecDepth 100000
set_option maxHeartbeats 4000000
namespace Bf
open PySem PySem.Spec PyProof.Rows L2
def topS (i : Nat) : Stmt := PySem.Challenge.pw_beatfabric_k68_packings.main.body.getD i (.Pass ⟨0, 0, 0, 0⟩)
abbrev s_is_thing : Stmt := topS 1
abbrev s_is_pair : Stmt := topS 3
abbrev s_judge_packing : Stmt := topS 4
abbrev s_packing_of : Stmt := topS 5
abbrev s_law_begin : Stmt := topS 7
abbrev s_law_draw : Stmt := topS 8
abbrev s_law_pick : Stmt := topS 9
abbrev s_law_pop : Stmt := topS 10
abbrev s_law_rare : Stmt := topS 11
abbrev s_law_shuffled : Stmt := topS 12
abbrev s_law_pool : Stmt := topS 13
abbrev s_law_is_int : Stmt := topS 14
abbrev s_law_low_bits : Stmt := topS 15
abbrev s_law_tables : Stmt := topS 16
abbrev s_law_packing : Stmt := topS 17
abbrev s_law_takes : Stmt := topS 18
abbrev s_law_changed : Stmt := topS 19
abbrev s_law_is_packing : Stmt := topS 20
abbrev s_law : Stmt := topS 21
theorem sc_is_thing : FnScope ["number", "many"] ["number", "many"] (defScope s_is_thing) := ⟨rfl, rfl, rfl, by decide +kernel, rfl, by decide +kernel, by decide +kernel⟩
theorem sc_is_pair : FnScope ["tables", "pair", "_", "inputs", "regs", "table", "reg"] ["tables", "pair"] (defScope s_is_pair) := ⟨rfl, rfl, rfl, by decide +kernel, rfl, by decide +kernel, by decide +kernel⟩
theorem sc_judge_packing : FnScope ["tables", "packing", "packed_tables", "packed_regs", "table", "_", "reg", "pair"] ["tables", "packing"] (defScope s_judge_packing) := ⟨rfl, rfl, rfl, by decide +kernel, rfl, by decide +kernel, by decide +kernel⟩
theorem sc_packing_of : FnScope ["tables", "_", "inputs", "regs", "rows", "ahead", "mates", "reg", "follow", "pairs", "table"] ["tables"] (defScope s_packing_of) := ⟨rfl, rfl, rfl, by decide +kernel, rfl, by decide +kernel, by decide +kernel⟩
theorem sc_law_begin : FnScope ["_law_script", "_law_cell"] ["_law_script"] (defScope s_law_begin) := ⟨rfl, rfl, rfl, by decide +kernel, rfl, by decide +kernel, by decide +kernel⟩
theorem sc_law_draw : FnScope ["_law_d", "_law_many", "_law_found", "_law_size", "_law_cell"] ["_law_d", "_law_many"] (defScope s_law_draw) := ⟨rfl, rfl, rfl, by decide +kernel, rfl, by decide +kernel, by decide +kernel⟩
theorem sc_law_pick : FnScope ["_law_d", "_law_row"] ["_law_d", "_law_row"] (defScope s_law_pick) := ⟨rfl, rfl, rfl, by decide +kernel, rfl, by decide +kernel, by decide +kernel⟩
theorem sc_law_pop : FnScope ["_law_d", "_law_row"] ["_law_d", "_law_row"] (defScope s_law_pop) := ⟨rfl, rfl, rfl, by decide +kernel, rfl, by decide +kernel, by decide +kernel⟩
theorem sc_law_rare : FnScope ["_law_d", "_law_many"] ["_law_d", "_law_many"] (defScope s_law_rare) := ⟨rfl, rfl, rfl, by decide +kernel, rfl, by decide +kernel, by decide +kernel⟩
theorem sc_law_shuffled : FnScope ["_law_d", "_law_row", "_law_left", "_law_found", "_law_k"] ["_law_d", "_law_row"] (defScope s_law_shuffled) := ⟨rfl, rfl, rfl, by decide +kernel, rfl, by decide +kernel, by decide +kernel⟩
theorem sc_law_pool : FnScope ["_law_text"] [] (defScope s_law_pool) := ⟨rfl, rfl, rfl, by decide +kernel, rfl, by decide +kernel, by decide +kernel⟩
theorem sc_law_is_int : FnScope ["_law_thing"] ["_law_thing"] (defScope s_law_is_int) := ⟨rfl, rfl, rfl, by decide +kernel, rfl, by decide +kernel, by decide +kernel⟩
theorem sc_law_low_bits : FnScope ["_law_size", "_law_word", "_law_k"] ["_law_size", "_law_word"] (defScope s_law_low_bits) := ⟨rfl, rfl, rfl, by decide +kernel, rfl, by decide +kernel, by decide +kernel⟩
theorem sc_law_tables : FnScope ["_law_d", "_law_inputs", "_law_regs", "_law_many", "_law_outputs", "_law_names", "_law_first", "_law_rows", "_law_k", "_law_left", "_law_size", "_law_leaves", "_law_given", "_law_kept", "_law_after", "_law_shown", "_law_n", "_law_j"] ["_law_d", "_law_inputs", "_law_regs", "_law_many", "_law_outputs"] (defScope s_law_tables) := ⟨rfl, rfl, rfl, by decide +kernel, rfl, by decide +kernel, by decide +kernel⟩
theorem sc_law_packing : FnScope ["_law_d", "_law_tables_here", "_law_first", "_law_left", "_law_pairs", "_law_table", "_law_takers", "_law_mate", "_law_reg"] ["_law_d", "_law_tables_here"] (defScope s_law_packing) := ⟨rfl, rfl, rfl, by decide +kernel, rfl, by decide +kernel, by decide +kernel⟩
theorem sc_law_takes : FnScope ["_law_tables_here", "_law_packing_here", "_law_many", "_law_kept", "_law_packed", "_law_held", "_law_table", "_law_reg", "_law_count"] ["_law_tables_here", "_law_packing_here"] (defScope s_law_takes) := ⟨rfl, rfl, rfl, by decide +kernel, rfl, by decide +kernel, by decide +kernel⟩
theorem sc_law_changed : FnScope ["_law_d", "_law_tables_here", "_law_packing_here", "_law_pairs", "_law_turn", "_law_odd", "_law_at", "_law_other", "_law_table", "_law_reg"] ["_law_d", "_law_tables_here", "_law_packing_here"] (defScope s_law_changed) := ⟨rfl, rfl, rfl, by decide +kernel, rfl, by decide +kernel, by decide +kernel⟩
theorem sc_law_is_packing : FnScope ["_law_told", "_law_pair", "_law_part"] ["_law_told"] (defScope s_law_is_packing) := ⟨rfl, rfl, rfl, by decide +kernel, rfl, by decide +kernel, by decide +kernel⟩
theorem sc_law : FnScope ["_law_script", "_law_d", "_law_is_large", "_law_inputs", "_law_outputs", "_law_tables_here", "_law_told", "_law_first", "_law_nexts", "_law_mated", "_law_right", "_law_k", "_law_paper", "_law_answer", "_law_row", "_law_table"] ["_law_script"] (defScope s_law) := ⟨rfl, rfl, rfl, by decide +kernel, rfl, by decide +kernel, by decide +kernel⟩
structure Txt (mg : Str → Option Value) : Prop where
  n_tuple : mg "tuple" = none
  n_len : mg "len" = none
  n_abs : mg "abs" = none
  n_range : mg "range" = none
  n_isinstance : mg "isinstance" = none
  n_list : mg "list" = none
  n_all : mg "all" = none
  n_sorted : mg "sorted" = none
  n_int : mg "int" = none
  n_min : mg "min" = none
  n_bool : mg "bool" = none
  n_enumerate : mg "enumerate" = none
/-! ### the draws -/
/-- what stood elsewhere stands -/
def Keep (S : List Addr) (H H' : Hp) : Prop := ∀ b o, b ∉ S → H b = some o → H' b = some o
theorem Keep.refl (S : List Addr) (H : Hp) : Keep S H H := fun _ _ _ h => h
theorem Keep.trans {S : List Addr} {H H1 H2 : Hp} (a : Keep S H H1) (b : Keep S H1 H2) : Keep S H H2 := fun c o n h => b c o n (a c o n h)
theorem Keep.of_same {S : List Addr} {H H1 : Hp} (a : Same H H1) : Keep S H H1 := fun c o _ h => a c o h
theorem Keep.wide {S S' : List Addr} {H H1 : Hp} (a : Keep S H H1) (h : ∀ b, b ∈ S → b ∈ S') : Keep S' H H1 := fun c o n e => a c o (fun q => n (h c q)) e
theorem Keep.upd {S : List Addr} {H : Hp} {a : Addr} {o : HO} (h : a ∈ S) : Keep S H (upd H a o) := fun b u n e => by
  rw [upd_ne (fun q => n (by rw [q]; exact h))]
  exact e
theorem Keep.new {S : List Addr} {H : Hp} {a : Addr} {o : HO} (h : H a = none) : Keep S H (L2.upd H a o) := fun b u n e => by
  rw [upd_ne (ne_of_none e h)]
  exact e
/-- the state of the draws -/
def DS (H : Hp) (a c : Addr) : Prop := ∃ (at_ left st : Int) (cells : List Int), H a = some (.lst [.ref c, .int at_, .int left, .int st, .int 3]) ∧ 0 ≤ at_ ∧ H c = some (.lst (cells.map V.int))
theorem DS.ne {H : Hp} {a c : Addr} {x : V} {xs : List V} {cells : List Int} (h : H a = some (.lst (.ref c :: xs))) (hc : H c = some (.lst (cells.map V.int))) : c ≠ a := by
  intro e
  rw [e, h] at hc
  have q := HO.lst.inj (Option.some.inj hc)
  cases cells with
  | nil => cases q
  | cons x r => cases (List.cons.inj q).1
theorem DS.keep {S : List Addr} {H H' : Hp} {a c : Addr} (h : DS H a c) (k : Keep S H H') (ha : a ∉ S) (hc : c ∉ S) : DS H' a c := by
  obtain ⟨at_, left, st, cells, h1, h2, h3⟩ := h
  exact ⟨at_, left, st, cells, k _ _ ha h1, h2, k _ _ hc h3⟩
theorem DS.same {H H' : Hp} {a c : Addr} (h : DS H a c) (k : Same H H') : DS H' a c := h.keep (S := []) (Keep.of_same k) (by simp) (by simp)
theorem DS.new {H : Hp} {a c l : Addr} (h : DS H a c) (hl : H l = none) : l ≠ a ∧ l ≠ c := by
  obtain ⟨at_, left, st, cells, h1, h2, h3⟩ := h
  exact ⟨(ne_of_none h1 hl).symm, (ne_of_none h3 hl).symm⟩
theorem pow6000 : (0 : Int) < 1 * 2 ^ (6000 : Int).toNat := by
  rw [Int.one_mul]
  exact Int.pow_pos (by decide)
def spDraw : Sp := fun vs H Q _ => ∃ (a c : Addr) (m : Int), vs = [.ref a, .int m] ∧ DS H a c ∧ 1 ≤ m ∧ m < 1073741824 ∧ ∀ (r : Int) (H' : Hp), 0 ≤ r → r < m → DS H' a c → Keep [a] H H' → Q (.int r) H'
section
variable {P : Program} {w : World} {K : PySem.W.Frag} {mg : Str → Option Value} {base : Heap}
theorem ok_draw {f : Addr} {fd : FuncData} (F : Fun K "_law_draw" "_law_draw" s_law_draw f fd) (T : Txt mg) : FnOk P w K mg base CX0 1 f fd ["_law_d", "_law_many"] spDraw := by
  refine F.ok sc_law_draw (fun vs H Q E h => ?_) (fun cdv A outer s H vs Q E hr h => ?_)
  · obtain ⟨a, c, m, rfl, _⟩ := h
    rfl
  obtain ⟨a, c, m, rfl, ⟨at_, left, st, cells, ha, h0, hc⟩, m1, m2, q⟩ := h
  have hca : c ≠ a := DS.ne (x := .non) ha hc
  refine ⟨_, (pss_cons (ps_if (pt_cmpR op_gt (pe_ix ix_list (pv 0) pe_int (fun _ _ => rfl)) pe_int (nomark _)) (pss_cons (ps_set (i := 2) sc_law_draw.nd rfl (Or.inl rfl) (pe_ix ix_list (pv 0) pe_int (fun _ _ => rfl)))
      (pss_cons (ps_asg (pe_op op_fdiv (pv 2) (pv 1)) (pg_sub (pv 0) pe_int set_list))
      (pss_one (ps_ret (pe_op op_mod (pe_callTy call_int1 (by rfl) T.n_int (by decide +kernel) (pa_cons (pv 2) pa_nil)) (pv 1)))))) pss_nil)
      (pss_cons (ps_set (i := 3) sc_law_draw.nd rfl (Or.inl rfl) pe_int)
      (C8.pss_cut (ps_if (pt_cmpR op_lt (pe_ix ix_list (pv 0) pe_int (fun _ _ => rfl)) (pe_callB call_len_seq (by rfl) T.n_len (by decide +kernel) (pa_cons (pe_ix ix_list (pv 0) pe_int (fun _ _ => rfl)) pa_nil)) (nomark _)) (pss_cons (ps_set (i := 4) sc_law_draw.nd rfl (Or.inl rfl) (pe_ix ix_list (pe_ix ix_list (pv 0) pe_int (fun _ _ => rfl)) (pe_ix ix_list (pv 0) pe_int (fun _ _ => rfl)) (fun _ _ => rfl)))
      (pss_one (ps_set (i := 3) sc_law_draw.nd rfl (Or.inl rfl) (pe_op op_add (pe_op op_mul pe_int (pe_callB call_abs (by rfl) T.n_abs (by decide +kernel) (pa_cons (pv 4) pa_nil))) (pe_callTy call_int1 (by rfl) T.n_int (by decide +kernel) (pa_cons (pe_cmpR op_lt (pv 4) pe_int (nomark _)) pa_nil)))))) pss_nil)
      (C8.pss_cut (ps_augS (pv 0) pe_int get_list pe_int ip_add set_list)
      (pss_cons (ps_if (pt_cmpR op_ge (pv 3) (pe_op op_mul pe_int (pe_op op_pow pe_int pe_int)) (nomark _)) (pss_cons (ps_set (i := 2) sc_law_draw.nd rfl (Or.inl rfl) (pe_op op_mod (pe_callTy call_int1 (by rfl) T.n_int (by decide +kernel) (pa_cons (pe_op op_fdiv (pv 3) pe_int) pa_nil)) (pe_op op_shl pe_int pe_int)))
      (pss_cons (ps_asg (pe_op op_fdiv (pv 2) (pv 1)) (pg_sub (pv 0) pe_int set_list))
      (pss_one (ps_ret (pe_op op_mod (pe_callTy call_int1 (by rfl) T.n_int (by decide +kernel) (pa_cons (pv 2) pa_nil)) (pv 1)))))) pss_nil)
      (pss_cons (ps_asg (pe_op op_mod (pe_callTy call_int1 (by rfl) T.n_int (by decide +kernel) (pa_cons (pe_op op_add (pe_op op_add (pe_op op_add (pe_op op_mul (pe_ix ix_list (pv 0) pe_int (fun _ _ => rfl)) pe_int) (pe_op op_mul (pe_op op_mod (pe_callTy call_int1 (by rfl) T.n_int (by decide +kernel) (pa_cons (pv 3) pa_nil)) pe_int) pe_int)) (pe_op op_mul (pe_ix ix_list (pv 0) pe_int (fun _ _ => rfl)) pe_int)) pe_int) pa_nil)) pe_int) (pg_sub (pv 0) pe_int set_list))
      (pss_one (ps_ret (pe_op op_mod (pe_callTy call_int1 (by rfl) T.n_int (by decide +kernel) (pa_cons (pe_op op_fdiv (pe_ix ix_list (pv 0) pe_int (fun _ _ => rfl)) pe_int) pa_nil)) (pv 1)))))))))), ?_⟩
  refine ⟨_, rfl, a, _, _, _, rfl, rfl, SqL.of ha, atI_nat (j := 2) rfl, _, _, rfl, rfl, _, rfl, ?_⟩
  refine ite2 (fun e => ?_) (fun e => ?_)
  · refine ⟨_, rfl, a, _, _, _, rfl, rfl, SqL.of ha, atI_nat (j := 2) rfl, ?_⟩
    refine ⟨_, rfl, _, rfl, left, m, rfl, rfl, ⟨by omega, by omega⟩, _, rfl, a, _, 2, 2, rfl, rfl, ha, rfl, ?_⟩
    refine ⟨_, rfl, .inl ⟨_, rfl, _, rfl, _, _, rfl, rfl, (by omega), ?_⟩⟩
    exact q _ _ (Int.emod_nonneg _ (by omega)) (Int.emod_lt_of_pos _ (by omega)) ⟨at_, left / m, st, cells, upd_same, h0, by rw [upd_ne hca]; exact hc⟩ (Keep.upd (by simp))
  · refine ⟨fun σ' H' => ∃ (z : Int) (v4 : Option V), σ' = [some (.ref a), some (.int m), none, some (.int z), v4] ∧ H' = H, ?_, ?_⟩
    · refine ⟨_, rfl, a, _, _, _, rfl, rfl, SqL.of ha, atI_nat (j := 1) rfl, _, rfl, a, _, _, _, rfl, rfl, SqL.of ha, atI_nat (j := 0) rfl, c, _, rfl, .inl (SqL.of hc), _, _, rfl, rfl, _, rfl, ?_⟩
      refine ite2 (fun e1 => ?_) (fun e1 => ?_)
      · have e2 : at_ < ((cells.map V.int).length : Nat) := of_decide_eq_true e1
        rw [List.length_map] at e2
        have hk : at_.toNat < cells.length := by omega
        have ek : ((at_.toNat : Nat) : Int) = at_ := by omega
        have q1 : atI (cells.map V.int) ((at_.toNat : Nat) : Int) = some (.int cells[at_.toNat]) := atI_nat (by rw [List.getElem?_map, List.getElem?_eq_getElem hk] <;> rfl)
        rw [ek] at q1
        refine ⟨_, rfl, a, _, _, _, rfl, rfl, SqL.of ha, atI_nat (j := 0) rfl, _, rfl, a, _, _, _, rfl, rfl, SqL.of ha, atI_nat (j := 1) rfl, c, _, _, _, rfl, rfl, SqL.of hc, q1, ?_⟩
        refine ⟨_, rfl, _, rfl, _, _, rfl, rfl, .inl ⟨by decide, by decide⟩, _, rfl, _, _, rfl, rfl, .inr ⟨_, rfl, _, _, rfl, rfl, ?_⟩⟩
        exact ⟨_, _, rfl, rfl⟩
      · exact ⟨_, _, rfl, rfl⟩
    · rintro σ' H' ⟨z, v4, rfl, rfl⟩
      refine ⟨fun σ' H1 => σ' = [some (.ref a), some (.int m), none, some (.int z), v4] ∧ H1 a = some (.lst [.ref c, .int (at_ + 1), .int left, .int st, .int 3]) ∧ H1 c = some (.lst (cells.map V.int)) ∧ Keep [a] H' H1, ?_, ?_⟩
      · exact ⟨_, rfl, a, _, 1, .int at_, rfl, rfl, ha, atI_nat (j := 1) rfl, at_, 1, rfl, rfl, a, _, 1, 1, rfl, rfl, ha, rfl, rfl, upd_same, by rw [upd_ne hca]; exact hc, Keep.upd (by simp)⟩
      rintro σ' H1 ⟨rfl, h1, h2, k1⟩
      refine ⟨_, rfl, _, _, rfl, rfl, ⟨by decide, by decide, by decide⟩, _, _, rfl, rfl, .inl ⟨by decide, by decide⟩, _, _, rfl, rfl, _, rfl, ?_⟩
      refine ite2 (fun e3 => ?_) (fun e3 => ?_)
      · refine ⟨_, rfl, z, 2, rfl, rfl, ⟨by decide, by decide⟩, .inl ⟨_, rfl, 1, 6000, rfl, rfl, ⟨by decide, by decide, by decide⟩, _, _, rfl, rfl, pow6000, ?_⟩⟩
        refine ⟨_, rfl, _, rfl, _, m, rfl, rfl, ⟨by omega, by omega⟩, _, rfl, a, _, 2, 2, rfl, rfl, h1, rfl, ?_⟩
        refine ⟨_, rfl, .inl ⟨_, rfl, _, rfl, _, _, rfl, rfl, (by omega), ?_⟩⟩
        refine q _ _ (Int.emod_nonneg _ (by omega)) (Int.emod_lt_of_pos _ (by omega)) ⟨at_ + 1, _, st, cells, upd_same, by omega, by rw [upd_ne hca]; exact h2⟩ (k1.trans (Keep.upd (by simp)))
      · refine ⟨_, rfl, a, _, _, _, rfl, rfl, SqL.of h1, atI_nat (j := 3) rfl, _, _, rfl, rfl, .inr ⟨by decide, by decide⟩, ?_⟩
        refine ⟨_, rfl, .inl ⟨_, rfl, _, _, rfl, rfl, (by show (0 : Int) < 2147483629; decide), _, _, rfl, rfl, .inr ⟨by decide, by decide⟩, _, _, rfl, rfl, ?_⟩⟩
        refine ⟨_, rfl, a, _, _, _, rfl, rfl, SqL.of h1, atI_nat (j := 1) rfl, _, _, rfl, rfl, .inr ⟨by decide, by decide⟩, _, _, rfl, rfl, _, _, rfl, rfl, .inl ⟨_, rfl, _, _, rfl, rfl, (by show (0 : Int) < 2147483647; decide), ?_⟩⟩
        refine ⟨_, rfl, a, _, 3, 3, rfl, rfl, h1, rfl, ?_⟩
        refine ⟨_, rfl, a, _, _, _, rfl, rfl, SqL.of upd_same, atI_nat (j := 3) rfl, _, _, rfl, rfl, ⟨by decide, by decide⟩, .inl ⟨_, rfl, _, rfl, _, _, rfl, rfl, (by omega), ?_⟩⟩
        exact q _ _ (Int.emod_nonneg _ (by omega)) (Int.emod_lt_of_pos _ (by omega)) ⟨at_ + 1, left, _, cells, upd_same, by omega, by rw [upd_ne hca]; exact h2⟩ (k1.trans (Keep.upd (by simp)))
end

/-! ### the beginning of the draws; a draw out of a list; is it an int -/
theorem same_new {H : Hp} {p : Addr} (h : H p = none) (o : HO) : Same H (upd H p o) := fun b u q => by rw [upd_ne (ne_of_none q h)]; exact q
theorem intAt {xs : List Int} {i : Nat} {x : V} (h : (xs.map V.int)[i]? = some x) : ∃ k, xs[i]? = some k ∧ x = V.int k := by
  rw [List.getElem?_map] at h
  cases e : xs[i]? with
  | none => rw [e] at h; cases h
  | some k => rw [e] at h; exact ⟨k, rfl, (Option.some.inj h).symm⟩
def spBegin (K : PySem.W.Frag) : Sp := fun vs H Q _ => ∃ (a : Addr) (ns : List Int), vs = [.ref a] ∧ SqL K H a (ns.map V.int) ∧ ns.length ≤ 63 ∧ ∀ (d c : Addr) (H' : Hp), H d = none → H c = none → DS H' d c → Same H H' → Q (.ref d) H'
section
variable {P : Program} {w : World} {K : PySem.W.Frag} {mg : Str → Option Value} {base : Heap}
theorem ok_begin {f : Addr} {fd : FuncData} (F : Fun K "_law_begin" "_law_begin" s_law_begin f fd) (T : Txt mg) : FnOk P w K mg base CX0 1 f fd ["_law_script"] (spBegin K) := by
  refine F.ok sc_law_begin (fun vs H Q E h => ?_) (fun cdv A outer s H vs Q E hr h => ?_)
  · obtain ⟨a, ns, rfl, _⟩ := h
    rfl
  obtain ⟨a, ns, rfl, hS, h63, q⟩ := h
  refine ⟨_, (pss_one (ps_ret (pe_lst (pa_cons (pe_lc (own := [("_law_cell", 1)]) (g := (gName 1)) (tt := tYes) rfl sc_law_begin.nd (pi_list (pv 0)) (blkOk_by (N := ["_law_script", "_law_cell"]) (sc := defScope s_law_begin) (by decide +kernel)) (fun _ _ _ _ _ => (pg_name (i := 1) sc_law_begin.nd rfl (Or.inl rfl))) (fun _ _ _ _ _ => pts_nil) (fun _ _ _ _ _ => (pe_callTy call_int1 (by rfl) T.n_int (by decide +kernel) (pa_cons (pv 1) pa_nil)))) (pa_cons pe_int (pa_cons pe_int (pa_cons pe_int (pa_cons pe_int pa_nil)))))))), ?_⟩
  refine ⟨_, rfl, a, rfl, ⟨_, hS⟩, fun D hD => lc_list (K := K) (a := a) (xs := ns.map V.int) (fun i H' => Same H H' ∧ H' D = some (.lst ((ns.take i).map V.int)))
    ⟨same_new hD _, upd_same⟩ (fun i H' _ p => p.1.seq hS) (fun i x H' hx p => ?_) (fun H' p => ?_)⟩
  · obtain ⟨k, hk, rfl⟩ := intAt hx
    refine ⟨rfl, _, rfl, .inl ⟨_, rfl, _, p.2, ?_, ?_, ?_⟩⟩
    · rw [List.length_map, List.length_take]
      exact small1000 (by omega)
    · intro b o e
      rw [upd_ne (ne_of_none e hD)]
      exact p.1 b o e
    · rw [upd_same, List.take_add_one, hk, List.map_append]
      rfl
  · rw [List.length_map, List.take_length] at p
    refine ⟨(by show 5 ≤ sizeLine; decide), fun l hl => ?_⟩
    have nDl : D ≠ l := ne_of_none p.2 hl
    refine q l D _ (p.1.free hl) hD ⟨0, 0, 7, ns, upd_same, Int.le_refl 0, by rw [upd_ne nDl]; exact p.2⟩ (p.1.trans (same_new hl _))
end

def spIsInt : Sp := fun vs H Q _ => ∃ i : Int, vs = [.int i] ∧ Q (.bl true) H
section
variable {P : Program} {w : World} {K : PySem.W.Frag} {mg : Str → Option Value} {base : Heap}
theorem ok_isInt {f : Addr} {fd : FuncData} (F : Fun K "_law_is_int" "_law_is_int" s_law_is_int f fd) (T : Txt mg) : FnOk P w K mg base CX0 1 f fd ["_law_thing"] spIsInt := by
  refine F.ok sc_law_is_int (fun vs H Q E h => ?_) (fun cdv A outer s H vs Q E hr h => ?_)
  · obtain ⟨i, rfl, _⟩ := h
    rfl
  obtain ⟨i, rfl, q⟩ := h
  refine ⟨_, (pss_one (ps_ret (pe_and (pe_callB (call_isi : CallR _ _ (rIsi K)) (by rfl) T.n_isinstance (by decide +kernel) (pa_cons (pv 0) (pa_cons (pe_bltn rfl T.n_int (by decide +kernel) (v := .ty "int") rfl) pa_nil))) (pe_one (pe_not (pe_callB (call_isi : CallR _ _ (rIsi K)) (by rfl) T.n_isinstance (by decide +kernel) (pa_cons (pv 0) (pa_cons (pe_bltn rfl T.n_bool (by decide +kernel) (v := .ty "bool") rfl) pa_nil)))))))), ?_⟩
  refine ⟨_, rfl, _, _, .type "int", .type "int", true, rfl, .ty "int", .base (.int i), kit_ty (by decide +kernel), true, rfl, ?_⟩
  refine iteT ?_
  refine ⟨_, rfl, _, _, .type "int", .type "bool", false, rfl, .ty "bool", .base (.int i), kit_ty (by decide +kernel), false, rfl, ?_⟩
  exact q
end

/-- a draw of an item of a list, which is taken out -/
def spPop : Sp := fun vs H Q _ => ∃ (d c l : Addr) (xs : List V), vs = [.ref d, .ref l] ∧ DS H d c ∧ H l = some (.lst xs) ∧ l ≠ d ∧ l ≠ c ∧ 1 ≤ xs.length ∧ xs.length ≤ 1000 ∧
  ∀ (k : Nat) (y : V) (H' : Hp), xs[k]? = some y → DS H' d c → H' l = some (.lst (xs.eraseIdx k)) → Keep [d, l] H H' → Q y H'
section
variable {P : Program} {w : World} {K : PySem.W.Frag} {mg : Str → Option Value} {base : Heap}
theorem ok_pop {f : Addr} {fd : FuncData} (F : Fun K "_law_pop" "_law_pop" s_law_pop f fd) (T : Txt mg) (D_law_draw : Dn P w K mg base "_law_draw" ["_law_d", "_law_many"] 1 spDraw) :
    FnOk P w K mg base CX0 2 f fd ["_law_d", "_law_row"] spPop := by
  refine F.ok sc_law_pop (fun vs H Q E h => ?_) (fun cdv A outer s H vs Q E hr h => ?_)
  · obtain ⟨d, c, l, xs, rfl, _⟩ := h
    rfl
  obtain ⟨d, c, l, xs, rfl, hd, hl, nld, nlc, h1, h2, q⟩ := h
  refine ⟨_, (pss_one (ps_ret (pe_bm PySem.F.plainAttrs_list PySem.F.slot_list_pop PySem.F.type_list_pop mt_popAt (pv 1) (pa_cons (pe_dn D_law_draw (hr.mono (by omega)) (by rfl) (pa_cons (pv 0) (pa_cons (pe_callB call_len_seq (by rfl) T.n_len (by decide +kernel) (pa_cons (pv 1) pa_nil)) pa_nil))) pa_nil)))), ?_⟩
  refine ⟨_, rfl, .inl ⟨rfl, _, SqL.of hl⟩, _, rfl, _, rfl, l, _, rfl, .inl (SqL.of hl), d, c, _, rfl, hd, (by omega), (by omega), fun r H' r0 r1 hd' k1 => ?_⟩
  have hl' : H' l = some (.lst xs) := k1 _ _ (by simp [nld]) hl
  have hk : r.toNat < xs.length := by omega
  refine ⟨l, xs, r, r.toNat, xs[r.toNat], rfl, rfl, hl', by omega, by omega, seqIndex_of r0 (by omega), List.getElem?_eq_getElem hk, ?_⟩
  refine q _ _ _ (List.getElem?_eq_getElem hk) (hd'.keep (S := [l]) (Keep.upd (by simp)) (by simp [nld.symm]) (by simp [nlc.symm])) upd_same ((k1.wide (by simp)).trans (Keep.upd (by simp)))
end

/-! ### what stands -/
theorem DS.at_ {H : Hp} {d c : Addr} (h : DS H d c) : ∃ l, H d = some (.lst l) := let ⟨_, _, _, _, e, _⟩ := h; ⟨_, e⟩
theorem Keep.tups {S : List Addr} {H H' : Hp} (k : Keep S H H') (n : ∀ b ∈ S, ∃ l, H b = some (.lst l)) : KeepT H H' := fun b xs h => k _ _ (fun m => by
  obtain ⟨l, q⟩ := n b m
  rw [q] at h
  cases h) h
theorem Keep.tup1 {H H' : Hp} {d c : Addr} (k : Keep [d] H H') (h : DS H d c) : KeepT H H' := k.tups fun b hb => by rw [List.mem_singleton.mp hb]; exact h.at_
theorem Keep.tup2 {H H' : Hp} {d c l : Addr} {xs : List V} (k : Keep [d, l] H H') (h : DS H d c) (hl : H l = some (.lst xs)) : KeepT H H' := k.tups fun b hb => by
  rcases List.mem_cons.mp hb with e | hb
  · rw [e]; exact h.at_
  · rw [List.mem_singleton.mp hb]; exact ⟨_, hl⟩
/-- the names that are left -/
def Nms (H : Hp) (l : Addr) (n : Nat) : Prop := ∃ names : List V, H l = some (.lst names) ∧ (∀ v ∈ names, ∃ z : Str, v = .str z) ∧ names.length = n
theorem Nms.keep {S : List Addr} {H H' : Hp} {l : Addr} {n : Nat} (h : Nms H l n) (k : Keep S H H') (hl : l ∉ S) : Nms H' l n := let ⟨x, a, b, e⟩ := h; ⟨x, k _ _ hl a, b, e⟩
theorem Nms.same {H H' : Hp} {l : Addr} {n : Nat} (h : Nms H l n) (k : Same H H') : Nms H' l n := let ⟨x, a, b, e⟩ := h; ⟨x, k _ _ a, b, e⟩
theorem Nms.cast {H : Hp} {l : Addr} {n m : Nat} (h : Nms H l n) (e : n = m) : Nms H l m := e ▸ h
theorem Keep.thin {S S' : List Addr} {H H' : Hp} (k : Keep S' H H') (h : ∀ b ∈ S', b ∈ S ∨ H b = none) : Keep S H H' := fun b o n e => k b o (fun m => by
  rcases h b m with q | q
  · exact n q
  · rw [q] at e; cases e) e
theorem Keep.cat {S S' : List Addr} {H H1 H2 : Hp} (a : Keep S H H1) (b : Keep S' H1 H2) : Keep (S ++ S') H H2 := fun c o n h => b c o (fun m => n (List.mem_append_right _ m)) (a c o (fun m => n (List.mem_append_left _ m)) h)
theorem Keep.free {S : List Addr} {H H' : Hp} {l : Addr} (k : Keep S H H') (h : H' l = none) (n : l ∉ S) : H l = none := by
  cases e : H l with
  | none => rfl
  | some o => rw [k l o n e] at h; cases h
theorem Keep.sm {H H' : Hp} (k : Same H H') : Keep [] H H' := .of_same k
theorem Keep.at1 {H : Hp} {a : Addr} {o : HO} : Keep [a] H (L2.upd H a o) := .upd (by simp)
/-- the list at D: data of acc -/
def Acc {α : Type} (D : Addr) (f : α → PyData) (acc : List α) (H : Hp) : Prop := ∃ vs : List V, H D = some (.lst vs) ∧ LayAll H vs (acc.map f)
theorem Acc.nil {α : Type} {D : Addr} {f : α → PyData} {H : Hp} : Acc D f [] (upd H D (.lst [])) := ⟨[], upd_same, .nil⟩
theorem Acc.keep {α : Type} {D : Addr} {f : α → PyData} {acc : List α} {S : List Addr} {H H' : Hp} (h : Acc D f acc H) (k : Keep S H H') (t : KeepT H H') (n : D ∉ S) : Acc D f acc H' := let ⟨vs, a, b⟩ := h; ⟨vs, k _ _ n a, b.keep' t⟩
theorem Acc.same {α : Type} {D : Addr} {f : α → PyData} {acc : List α} {H H' : Hp} (h : Acc D f acc H) (k : Same H H') : Acc D f acc H' := let ⟨vs, a, b⟩ := h; ⟨vs, k _ _ a, b.keep' (.same k)⟩
theorem Acc.push {α : Type} {D : Addr} {f : α → PyData} {acc : List α} {H : Hp} {y : V} {x : α} (h : Acc D f acc H) (l : Lay H y (f x)) (n : acc.length ≤ 1000) :
    ∃ vs, H D = some (.lst vs) ∧ vs.length < sizeLine ∧ Acc D f (acc ++ [x]) (upd H D (.lst (vs ++ [y]))) ∧ KeepT H (upd H D (.lst (vs ++ [y]))) := by
  obtain ⟨vs, a, b⟩ := h
  have e := b.len
  rw [List.length_map] at e
  have kt : KeepT H (upd H D (.lst (vs ++ [y]))) := .lst a
  refine ⟨vs, a, by rw [e]; exact small1000 n, ⟨_, upd_same, ?_⟩, kt⟩
  rw [List.map_append]
  exact (b.snoc l).keep' kt
theorem Acc.at_ {α : Type} {D : Addr} {f : α → PyData} {acc : List α} {H : Hp} (h : Acc D f acc H) : ∃ l, H D = some (.lst l) := let ⟨vs, a, _⟩ := h; ⟨vs, a⟩

/-! ### a rare case by a draw -/
def spRare : Sp := fun vs H Q _ => ∃ (d c : Addr) (m : Int), vs = [.ref d, .int m] ∧ DS H d c ∧ 1 ≤ m ∧ m < 1000 ∧ ∀ (b : Bool) (H' : Hp), DS H' d c → Keep [d] H H' → Q (.bl b) H'
section
variable {P : Program} {w : World} {K : PySem.W.Frag} {mg : Str → Option Value} {base : Heap} {f : Addr} {fd : FuncData}
theorem ok_rare (F : Fun K "_law_rare" "_law_rare" s_law_rare f fd) (T : Txt mg) (D_law_draw : Dn P w K mg base "_law_draw" ["_law_d", "_law_many"] 1 spDraw) : FnOk P w K mg base CX0 2 f fd ["_law_d", "_law_many"] spRare := by
  refine F.ok sc_law_rare (fun vs H Q E h => ?_) (fun cdv A outer s H vs Q E hr h => ?_)
  · obtain ⟨d, c, m, rfl, _⟩ := h
    rfl
  obtain ⟨d, c, m, rfl, hd, h1, h2, q⟩ := h
  refine ⟨_, (pss_one (ps_ret (pe_cmpR op_eq (pe_dn D_law_draw (hr.mono (by omega)) (by rfl) (pa_cons (pv 0) (pa_cons (pv 1) pa_nil))) (pe_op op_fdiv (pv 1) pe_int) (nomark _)))), ?_⟩
  refine ⟨_, rfl, _, rfl, d, c, m, rfl, hd, h1, by omega, fun r H' r0 r1 hd' k1 => ?_⟩
  exact ⟨_, rfl, m, 2, rfl, rfl, ⟨by decide, by decide⟩, rfl, q _ _ hd' k1⟩
end

def spPool : Sp := fun vs H Q _ => vs = [] ∧ ∀ (p : Addr) (xs : List Str), H p = none → xs.length = 61 → Q (.ref p) (upd H p (.lst (xs.map V.str)))
section
variable {P : Program} {w : World} {K : PySem.W.Frag} {mg : Str → Option Value} {base : Heap} {f : Addr} {fd : FuncData}
theorem ok_pool (F : Fun K "_law_pool" "_law_pool" s_law_pool f fd) : FnOk P w K mg base CX0 1 f fd [] spPool := by
  refine F.ok sc_law_pool (fun vs H Q E h => ?_) (fun cdv A outer s H vs Q E hr h => ?_)
  · rw [h.1]
    rfl
  obtain ⟨rfl, q⟩ := h
  refine ⟨_, (pss_cons (ps_set (i := 0) sc_law_pool.nd rfl (Or.inl rfl) pe_str)
      (pss_cons (ps_set (i := 0) sc_law_pool.nd rfl (Or.inl rfl) (pe_op op_add_str (pv 0) pe_str))
      (pss_one (ps_ret (pe_split (pe_op op_add_str (pv 0) pe_str) pe_str))))), ?_⟩
  refine ⟨_, rfl, _, _, rfl, rfl, (by decide +kernel), _, rfl, _, _, rfl, rfl, (by decide +kernel), ?_⟩
  exact ⟨⟨_, rfl⟩, _, _, rfl, rfl, (by decide +kernel), (by decide +kernel), fun p hp => q p _ hp (by decide +kernel)⟩
end

/-! ### an item of a list by draws; a list in a drawn order -/
def spPick (K : PySem.W.Frag) : Sp := fun vs H Q _ => ∃ (d c l : Addr) (xs : List V), vs = [.ref d, .ref l] ∧ DS H d c ∧ l ≠ d ∧ SqL K H l xs ∧ 1 ≤ xs.length ∧ xs.length ≤ 1000 ∧
  ∀ (k : Nat) (y : V) (H' : Hp), xs[k]? = some y → DS H' d c → Keep [d] H H' → Q y H'
theorem Keep.seqL {S : List Addr} {K : PySem.W.Frag} {H H' : Hp} {a : Addr} {xs : List V} (k : Keep S H H') (n : a ∉ S) (h : SqL K H a xs) : SqL K H' a xs := by
  rcases h with (h | ⟨u, h⟩) | h
  · exact .inl (.inl (k _ _ n h))
  · exact .inl (.inr ⟨u, k _ _ n h⟩)
  · exact .inr h
section
variable {P : Program} {w : World} {K : PySem.W.Frag} {mg : Str → Option Value} {base : Heap} {f : Addr} {fd : FuncData}
theorem ok_pick (F : Fun K "_law_pick" "_law_pick" s_law_pick f fd) (T : Txt mg) (D_law_draw : Dn P w K mg base "_law_draw" ["_law_d", "_law_many"] 1 spDraw) : FnOk P w K mg base CX0 2 f fd ["_law_d", "_law_row"] (spPick K) := by
  refine F.ok sc_law_pick (fun vs H Q E h => ?_) (fun cdv A outer s H vs Q E hr h => ?_)
  · obtain ⟨d, c, l, xs, rfl, _⟩ := h
    rfl
  obtain ⟨d, c, l, xs, rfl, hd, nld, hl, h1, h2, q⟩ := h
  refine ⟨_, (pss_one (ps_ret (pe_ix ix_list (pv 1) (pe_dn D_law_draw (hr.mono (by omega)) (by rfl) (pa_cons (pv 0) (pa_cons (pe_callB call_len_seq (by rfl) T.n_len (by decide +kernel) (pa_cons (pv 1) pa_nil)) pa_nil))) (fun _ _ => rfl)))), ?_⟩
  refine ⟨_, rfl, _, rfl, _, rfl, l, _, rfl, .inl hl, d, c, _, rfl, hd, by omega, by omega, fun r H' r0 r1 hd' k1 => ?_⟩
  obtain ⟨x, rfl⟩ := Int.eq_ofNat_of_zero_le r0
  have hx : x < xs.length := by omega
  exact ⟨l, xs, _, _, rfl, rfl, k1.seqL (by simp [nld]) hl, atI_nat (List.getElem?_eq_getElem hx), q _ _ _ (List.getElem?_eq_getElem hx) hd' k1⟩
end

theorem erase_perm : ∀ (zs : List V) (k : Nat) (y : V), zs[k]? = some y → (y :: zs.eraseIdx k).Perm zs
  | [], _, _, h => by simp at h
  | z :: zs, 0, y, h => by
    cases h
    exact .refl _
  | z :: zs, k + 1, y, h => (List.Perm.swap z y _).trans (.cons z (erase_perm zs k y (by simpa using h)))
def spShuf (K : PySem.W.Frag) : Sp := fun vs H Q _ => ∃ (d c l : Addr) (xs : List V), vs = [.ref d, .ref l] ∧ DS H d c ∧ l ≠ d ∧ (SqL K H l xs ∨ SqT K H l xs) ∧ xs.length ≤ 1000 ∧
  ∀ (p : Addr) (ys : List V) (H' : Hp), ys.Perm xs → H p = none → H' p = some (.lst ys) → DS H' d c → Keep [d] H H' → Q (.ref p) H'
section
variable {P : Program} {w : World} {K : PySem.W.Frag} {mg : Str → Option Value} {base : Heap} {f : Addr} {fd : FuncData}
theorem ok_shuf (F : Fun K "_law_shuffled" "_law_shuffled" s_law_shuffled f fd) (T : Txt mg) (D_law_draw : Dn P w K mg base "_law_draw" ["_law_d", "_law_many"] 1 spDraw) : FnOk P w K mg base CX0 2 f fd ["_law_d", "_law_row"] (spShuf K) := by
  refine F.ok sc_law_shuffled (fun vs H Q E h => ?_) (fun cdv A outer s H vs Q E hr h => ?_)
  · obtain ⟨d, c, l, xs, rfl, _⟩ := h
    rfl
  obtain ⟨d, c, l, xs, rfl, hd, nld, hl, h2, q⟩ := h
  refine ⟨_, (pss_cons (ps_set (i := 2) sc_law_shuffled.nd rfl (Or.inl rfl) (pe_callTy call_list_of (by rfl) T.n_list (by decide +kernel) (pa_cons (pv 1) pa_nil)))
      (pss_cons (ps_set (i := 3) sc_law_shuffled.nd rfl (Or.inl rfl) (pe_lst pa_nil))
      (pss_cons (ps_for PassesOwn.never rfl (pi_range1 rfl T.n_range (pa_cons (pe_callB call_len_seq (by rfl) T.n_len (by decide +kernel) (pa_cons (pv 2) pa_nil)) pa_nil)) (pg_name (i := 4) sc_law_shuffled.nd rfl (Or.inl rfl)) (pss_one (ps_expr (pe_bm PySem.F.plainAttrs_list PySem.F.slot_list_append PySem.F.type_list_append mt_append (pv 3) (pa_cons (pe_bm PySem.F.plainAttrs_list PySem.F.slot_list_pop PySem.F.type_list_pop mt_popAt (pv 2) (pa_cons (pe_dn D_law_draw (hr.mono (by omega)) (by rfl) (pa_cons (pv 0) (pa_cons (pe_callB call_len_seq (by rfl) T.n_len (by decide +kernel) (pa_cons (pv 2) pa_nil)) pa_nil))) pa_nil)) pa_nil)))))
      (pss_one (ps_ret (pv 3)))))), ?_⟩
  refine ⟨_, rfl, l, xs, rfl, hl, fun L hL => ?_⟩
  obtain ⟨nLd, nLc⟩ := hd.new hL
  have hd1 := hd.same (same_new hL (.lst xs))
  refine ⟨Nat.zero_le _, fun F hF => ?_⟩
  obtain ⟨nFd, nFc⟩ := hd1.new hF
  have nFL : F ≠ L := (ne_of_none upd_same hF).symm
  have s2 := (same_new hL (.lst xs)).trans (same_new hF (.lst []))
  refine ⟨_, rfl, L, xs, rfl, .inl (SqL.of (same_new hF _ _ _ upd_same)), ?_⟩
  have f0 : H F = none := (same_new hL _).free hF
  refine ⟨(xs.length : Int), rfl, (i62 (by omega)).1, (i62 (by omega)).2, for_it walk_range (fun i σ' H' => ∃ (v4 : Option V) (zs ys : List V), σ' = [some (.ref d), some (.ref l), some (.ref L), some (.ref F), v4] ∧ DS H' d c ∧ H' L = some (.lst zs) ∧ H' F = some (.lst ys) ∧ (ys ++ zs).Perm xs ∧ ys.length = i ∧ Keep [d] H H')
    ⟨_, xs, [], rfl, hd1.same (same_new hF _), same_new hF _ _ _ upd_same, upd_same, .refl _, rfl, Keep.of_same s2⟩ (fun _ _ _ _ _ => trivial) (fun i x σ' H' H3 hi p y => ?_) (fun σ' H' p => ?_)⟩
  · obtain ⟨v4, zs, ys, rfl, hd3, hL3, hF3, hp, hyl, k3⟩ := p
    obtain ⟨rfl, rfl⟩ := y
    have hi : i < xs.length := by simpa using hi
    have ln := hp.length_eq
    rw [List.length_append] at ln
    refine ⟨_, rfl, .inl ⟨rfl, _, SqL.of hF3⟩, ?_⟩
    refine ⟨_, rfl, .inl ⟨rfl, _, SqL.of hL3⟩, _, rfl, _, rfl, L, zs, rfl, .inl (SqL.of hL3), d, c, _, rfl, hd3, by omega, by omega, fun r H4 r0 r1 hd4 k4 => ?_⟩
    obtain ⟨x, rfl⟩ := Int.eq_ofNat_of_zero_le r0
    have hx : x < zs.length := by omega
    have hL4 := k4 _ _ (by simp [nLd]) hL3
    have hF4 := k4 _ _ (by simp [nFd]) hF3
    refine ⟨L, zs, _, x, zs[x], rfl, rfl, hL4, by omega, by omega, seqIndex_of r0 (by omega), List.getElem?_eq_getElem hx, ?_⟩
    have hF5 : (upd H4 L (.lst (zs.eraseIdx x))) F = some (.lst ys) := by rw [upd_ne nFL]; exact hF4
    refine ⟨F, ys, _, rfl, rfl, hF5, len1000 (by omega), _, zs.eraseIdx x, ys ++ [zs[x]], rfl, ?_, ?_, upd_same, ?_, by rw [List.length_append, hyl]; rfl, ?_⟩
    · exact (hd4.keep (S := [L]) Keep.at1 (by simp [nLd.symm]) (by simp [nLc.symm])).keep (S := [F]) Keep.at1 (by simp [nFd.symm]) (by simp [nFc.symm])
    · rw [upd_ne nFL.symm, upd_same]
    · rw [List.append_assoc]
      exact (List.Perm.append_left ys (erase_perm zs x _ (List.getElem?_eq_getElem hx))).trans hp
    · exact (((k3.cat k4).cat (Keep.at1 (a := L))).cat (Keep.at1 (a := F))).thin (by simp [hL, f0])
  · obtain ⟨v4, zs, ys, rfl, hd3, hL3, hF3, hp, hyl, k3⟩ := p
    have ln := hp.length_eq
    rw [List.length_append] at ln
    have hz : zs = [] := List.eq_nil_of_length_eq_zero (by omega)
    rw [hz, List.append_nil] at hp
    exact ⟨_, rfl, q F ys _ hp f0 hF3 hd3 k3⟩
end

end Bf

set_option Elab.async false
set_option linter.all false
set_option maxRecDepth 100000
set_option maxHeartbeats 4000000
namespace Bf
open PySem PySem.Spec PyProof.Rows L2
/-! ### pairs of tables and registers, pure -/
abbrev OI := Option Int × Option Int
structure TabS where
  ni : Nat
  fs : List Nat
  m : Nat
def TabS.first (T : TabS) : Nat := T.ni + T.fs.length
def rI (n : Nat) : List Int := (List.range n).map fun k : Nat => (k : Int)
def tabsP (ps : List OI) : List Int := ps.filterMap (·.1)
def rgsP (ps : List OI) : List Int := ps.filterMap (·.2)
def Fit (T : TabS) (p : OI) : Prop := p ≠ (none, none) ∧ ∀ t r, p = (some t, some r) → ∃ k f : Nat, r = k ∧ T.fs[k]? = some f ∧ (f : Int) = T.first + t
def Taken (T : TabS) (ps : List OI) : Prop := (∀ p ∈ ps, Fit T p) ∧ (tabsP ps).Perm (rI T.m) ∧ (rgsP ps).Perm (rI T.fs.length)
theorem rI_succ (n : Nat) : rI (n + 1) = rI n ++ [(n : Int)] := by
  unfold rI
  rw [List.range_succ, List.map_append]
  rfl
theorem rI_len (n : Nat) : (rI n).length = n := by unfold rI; rw [List.length_map, List.length_range]
theorem count_rI (a : Int) : ∀ n : Nat, (rI n).count a = if 0 ≤ a ∧ a < n then 1 else 0
  | 0 => by
    rw [if_neg (by omega)]
    rfl
  | n + 1 => by
    rw [rI_succ, List.count_append, count_rI a n, List.count_singleton]
    by_cases h : (n : Int) = a
    · subst h
      rw [if_neg (by omega), if_pos (by simp), if_pos (by omega)]
    · rw [if_neg (c := ((n : Int) == a) = true) (by simp [h])]
      by_cases h2 : 0 ≤ a ∧ a < n
      · rw [if_pos h2, if_pos (by omega)]
      · rw [if_neg h2, if_neg (by omega)]
theorem rI_sorted : ∀ n : Nat, (rI n).Pairwise (· ≤ ·)
  | 0 => .nil
  | n + 1 => by
    rw [rI_succ]
    refine List.pairwise_append.mpr ⟨rI_sorted n, List.pairwise_singleton _ _, fun a ha b hb => ?_⟩
    obtain ⟨k, hk, rfl⟩ := List.mem_map.mp ha
    have := List.mem_range.mp hk
    rw [List.mem_singleton.mp hb]
    omega
theorem mem_rI {n : Nat} {a : Int} : a ∈ rI n ↔ 0 ≤ a ∧ a < n := by
  unfold rI
  rw [List.mem_map]
  constructor
  · rintro ⟨k, hk, rfl⟩
    have := List.mem_range.mp hk
    omega
  · intro h
    exact ⟨a.toNat, List.mem_range.mpr (by omega), by omega⟩
theorem perm_rI {xs : List Int} {n : Nat} : xs.Perm (rI n) ↔ (∀ x ∈ xs, 0 ≤ x ∧ x < n) ∧ ∀ k : Nat, k < n → xs.count (k : Int) = 1 := by
  constructor
  · intro h
    refine ⟨fun x hx => mem_rI.mp (h.mem_iff.mp hx), fun k hk => ?_⟩
    rw [h.count_eq, count_rI, if_pos (by omega)]
  · rintro ⟨h1, h2⟩
    refine List.perm_iff_count.mpr fun a => ?_
    rw [count_rI]
    by_cases h : 0 ≤ a ∧ a < n
    · rw [if_pos h]
      have := h2 a.toNat (by omega)
      rw [show ((a.toNat : Nat) : Int) = a by omega] at this
      exact this
    · rw [if_neg h]
      exact List.count_eq_zero.mpr fun hm => h (h1 a hm)
theorem sort_rI {ns ns' : List Int} {n : Nat} (hp : ns'.Perm ns) (hs : ns'.Pairwise (· ≤ ·)) : ns' = rI n ↔ ns.Perm (rI n) := by
  constructor
  · intro h
    rw [← h]
    exact hp.symm
  · intro h
    exact sorted_same hs (rI_sorted n) (hp.trans h)
/-- what the law asks of one pair -/
def OkL (T : TabS) (p : OI) : Prop := Fit T p ∧ (∀ t, p.1 = some t → 0 ≤ t ∧ t < T.m) ∧ ∀ r, p.2 = some r → 0 ≤ r ∧ r < T.fs.length
theorem taken_iff {T : TabS} {ps : List OI} : Taken T ps ↔ (∀ p ∈ ps, OkL T p) ∧ (∀ k : Nat, k < T.m → (tabsP ps).count (k : Int) = 1) ∧ ∀ k : Nat, k < T.fs.length → (rgsP ps).count (k : Int) = 1 := by
  unfold Taken
  rw [perm_rI, perm_rI]
  constructor
  · rintro ⟨a, ⟨b1, b2⟩, c1, c2⟩
    exact ⟨fun p hp => ⟨a p hp, fun t ht => b1 t (List.mem_filterMap.mpr ⟨p, hp, ht⟩), fun r hr => c1 r (List.mem_filterMap.mpr ⟨p, hp, hr⟩)⟩, b2, c2⟩
  · rintro ⟨a, b, c⟩
    refine ⟨fun p hp => (a p hp).1, ⟨fun x hx => ?_, b⟩, fun x hx => ?_, c⟩
    · obtain ⟨p, hp, e⟩ := List.mem_filterMap.mp hx
      exact (a p hp).2.1 x e
    · obtain ⟨p, hp, e⟩ := List.mem_filterMap.mp hx
      exact (a p hp).2.2 x e
theorem Taken.perm {T : TabS} {ps qs : List OI} (h : Taken T ps) (p : qs.Perm ps) : Taken T qs :=
  ⟨fun x hx => h.1 x (p.mem_iff.mp hx), (p.filterMap _).trans h.2.1, (p.filterMap _).trans h.2.2⟩
/-! ### the finder's packing -/
def hits (T : TabS) (t : Int) (f : Nat) : Bool := decide (T.first ≤ f) && decide ((f : Int) - T.first = t)
def mate (T : TabS) (i : Nat) (t : Int) : Option Nat := (T.fs.take i).findIdx? (hits T t)
theorem mate_zero (T : TabS) (t : Int) : mate T 0 t = none := by unfold mate; rw [List.take_zero]; rfl
theorem mate_succ {T : TabS} {i f : Nat} {t : Int} (h : T.fs[i]? = some f) : mate T (i + 1) t = (mate T i t).or (if hits T t f then some i else none) := by
  have hi : i < T.fs.length := (List.getElem?_eq_some_iff.mp h).1
  unfold mate
  rw [List.take_succ, h, List.findIdx?_append]
  congr 1
  show Option.map _ (List.findIdx? _ [f]) = _
  rw [List.findIdx?_singleton, List.length_take, Nat.min_eq_left (by omega)]
  split <;> simp
theorem mate_some {T : TabS} {i r : Nat} {t : Int} (h : mate T i t = some r) : ∃ f, T.fs[r]? = some f ∧ (f : Int) = T.first + t ∧ r < i := by
  obtain ⟨h1, h2, _⟩ := List.findIdx?_eq_some_iff_getElem.mp h
  have h3 := h1
  rw [List.length_take] at h3
  refine ⟨(T.fs.take i)[r], by rw [List.getElem_take]; exact List.getElem?_eq_getElem _, ?_, by omega⟩
  unfold hits at h2
  rw [Bool.and_eq_true, decide_eq_true_eq, decide_eq_true_eq] at h2
  omega
theorem mate_isSome {T : TabS} {t : Nat} : (mate T T.fs.length (t : Int)).isSome = decide (T.first + t ∈ T.fs) := by
  unfold mate
  rw [List.take_length, List.findIdx?_isSome, Bool.eq_iff_iff, List.any_eq_true, decide_eq_true_eq]
  constructor
  · rintro ⟨f, hf, h⟩
    unfold hits at h
    rw [Bool.and_eq_true, decide_eq_true_eq, decide_eq_true_eq] at h
    rw [show T.first + t = f by omega]
    exact hf
  · intro h
    refine ⟨_, h, ?_⟩
    unfold hits
    rw [Bool.and_eq_true, decide_eq_true_eq, decide_eq_true_eq]
    omega
def loneP (T : TabS) (r : Nat) : Bool := !decide (mate T T.fs.length ((T.fs.getD r 0 : Nat) - (T.first : Int)) = some r)
def packedL (T : TabS) : List OI := (List.range T.m).map fun t : Nat => (some (t : Int), (mate T T.fs.length (t : Int)).map fun r : Nat => (r : Int))
def loneL (T : TabS) (i : Nat) : List OI := ((List.range i).filter (loneP T)).map fun r : Nat => (none, some (r : Int))
def packing (T : TabS) : List OI := packedL T ++ loneL T T.fs.length
theorem loneL_succ (T : TabS) (i : Nat) : loneL T (i + 1) = loneL T i ++ if loneP T i then [(none, some (i : Int))] else [] := by
  unfold loneL
  rw [List.range_succ, List.filter_append, List.map_append]
  congr 1
  by_cases h : loneP T i = true
  · rw [List.filter_cons_of_pos h, if_pos h]; rfl
  · rw [List.filter_cons_of_neg h, if_neg h]; rfl
theorem packing_tabs (T : TabS) : tabsP (packing T) = rI T.m := by
  unfold tabsP packing packedL loneL
  rw [List.filterMap_append, List.filterMap_map, List.filterMap_map]
  rw [show ((fun p : OI => p.1) ∘ fun r : Nat => ((none : Option Int), some (r : Int))) = fun _ => none from rfl]
  rw [show ((fun p : OI => p.1) ∘ fun t : Nat => (some (t : Int), (mate T T.fs.length (t : Int)).map fun r : Nat => (r : Int))) = fun t : Nat => some ((fun k : Nat => (k : Int)) t) from rfl]
  rw [List.filterMap_eq_map', show ∀ l : List Nat, List.filterMap (fun _ => (none : Option Int)) l = [] from fun l => by simp, List.append_nil]
  rfl
theorem packing_rgs (T : TabS) : rgsP (packing T) = ((List.range T.m).filterMap (fun t : Nat => mate T T.fs.length (t : Int)) ++ (List.range T.fs.length).filter (loneP T)).map fun k : Nat => (k : Int) := by
  unfold rgsP packing packedL loneL
  rw [List.filterMap_append, List.filterMap_map, List.filterMap_map, List.map_append, List.map_filterMap]
  rw [show ((fun p : OI => p.2) ∘ fun r : Nat => ((none : Option Int), some (r : Int))) = fun r : Nat => some ((fun k : Nat => (k : Int)) r) from rfl]
  rw [List.filterMap_eq_map']
  rfl
theorem packing_taken {T : TabS} (hf : ∀ f ∈ T.fs, f < T.first + T.m) : Taken T (packing T) := by
  refine ⟨fun p hp => ?_, by rw [packing_tabs], ?_⟩
  · rcases List.mem_append.mp hp with h | h
    · obtain ⟨t, ht, rfl⟩ := List.mem_map.mp h
      refine ⟨by simp, fun t' r' e => ?_⟩
      cases hm : mate T T.fs.length (t : Int) with
      | none => rw [hm] at e; simp at e
      | some r =>
        rw [hm] at e
        simp only [Option.map_some, Prod.mk.injEq, Option.some.injEq] at e
        obtain ⟨f, h1, h2, _⟩ := mate_some hm
        exact ⟨r, f, e.2.symm, h1, by omega⟩
    · obtain ⟨r, hr, rfl⟩ := List.mem_map.mp h
      exact ⟨by simp, fun t' r' e => by simp at e⟩
  · rw [packing_rgs]
    unfold rI
    refine List.Perm.map _ (List.perm_iff_count.mpr fun a => ?_)
    have nd : ((List.range T.m).filterMap (fun t : Nat => mate T T.fs.length (t : Int)) ++ (List.range T.fs.length).filter (loneP T)).Nodup := by
      refine List.pairwise_append.mpr ⟨List.pairwise_filterMap.mpr ((List.nodup_range (n := T.m)).imp fun {x y} hxy b hb b' hb' e => ?_), (List.nodup_range (n := T.fs.length)).filter _, fun x hx y hy e => ?_⟩
      · subst e
        obtain ⟨f, h1, h2, _⟩ := mate_some hb
        obtain ⟨f', h1', h2', _⟩ := mate_some hb'
        rw [h1] at h1'
        cases h1'
        omega
      · subst e
        obtain ⟨t, ht, hm⟩ := List.mem_filterMap.mp hx
        obtain ⟨f, h1, h2, _⟩ := mate_some hm
        have := (List.mem_filter.mp hy).2
        unfold loneP at this
        rw [List.getD_eq_getElem?_getD, h1, Option.getD_some, show (f : Int) - (T.first : Int) = (t : Int) by omega, hm] at this
        simp at this
    have mem : a ∈ ((List.range T.m).filterMap (fun t : Nat => mate T T.fs.length (t : Int)) ++ (List.range T.fs.length).filter (loneP T)) ↔ a < T.fs.length := by
      rw [List.mem_append]
      constructor
      · rintro (h | h)
        · obtain ⟨t, ht, hm⟩ := List.mem_filterMap.mp h
          obtain ⟨f, _, _, h3⟩ := mate_some hm
          exact h3
        · exact List.mem_range.mp (List.mem_filter.mp h).1
      · intro ha
        cases hl : loneP T a with
        | true => exact .inr (List.mem_filter.mpr ⟨List.mem_range.mpr ha, hl⟩)
        | false =>
          refine .inl (List.mem_filterMap.mpr ?_)
          unfold loneP at hl
          have hm : mate T T.fs.length ((T.fs.getD a 0 : Nat) - (T.first : Int)) = some a := by simpa using hl
          obtain ⟨f, h1, h2, _⟩ := mate_some hm
          have hfm := hf f (List.mem_of_getElem? h1)
          rw [List.getD_eq_getElem?_getD, h1, Option.getD_some] at h2 hm
          have hge : T.first ≤ f := by
            obtain ⟨h4, h5, _⟩ := List.findIdx?_eq_some_iff_getElem.mp hm
            unfold hits at h5
            rw [Bool.and_eq_true, decide_eq_true_eq, decide_eq_true_eq] at h5
            omega
          exact ⟨f - T.first, List.mem_range.mpr (by omega), by rw [show ((f - T.first : Nat) : Int) = (f : Int) - (T.first : Int) by omega]; exact hm⟩
    have le1 : ∀ (l : List Nat), l.Nodup → l.count a = if a ∈ l then 1 else 0 := by
      intro l
      induction l with
      | nil => intro _; rfl
      | cons x l ih =>
        intro h
        have h2 := List.nodup_cons.mp h
        rw [List.count_cons, ih h2.2]
        by_cases e : x = a
        · subst e
          rw [if_neg h2.1, if_pos (by simp), if_pos (by simp)]
        · rw [if_neg (c := (x == a) = true) (by simp [e])]
          by_cases h3 : a ∈ l
          · rw [if_pos h3, if_pos (by simp [h3])]
          · rw [if_neg h3, if_neg (by simp [h3]; exact fun z => e z.symm)]
    rw [le1 _ nd, le1 _ List.nodup_range]
    by_cases h : a < T.fs.length
    · rw [if_pos (mem.mpr h), if_pos (List.mem_range.mpr h)]
    · rw [if_neg fun z => h (mem.mp z), if_neg fun z => h (List.mem_range.mp z)]
theorem len_fm {α β : Type} (g : α → Option β) : ∀ l : List α, (l.filterMap g).length = (l.filter fun t => (g t).isSome).length
  | [] => rfl
  | a :: l => by
    cases h : g a with
    | none => rw [List.filterMap_cons_none h, List.filter_cons_of_neg (by rw [h]; simp), len_fm g l]
    | some b => rw [List.filterMap_cons_some h, List.filter_cons_of_pos (by rw [h]; simp), List.length_cons, List.length_cons, len_fm g l]
theorem packing_len {T : TabS} (hf : ∀ f ∈ T.fs, f < T.first + T.m) : (packing T).length + ((List.range T.m).filter fun t => decide (T.first + t ∈ T.fs)).length = T.m + T.fs.length := by
  have h := (packing_taken hf).2.2.length_eq
  rw [rI_len, packing_rgs, List.length_map, List.length_append, len_fm] at h
  simp only [mate_isSome] at h
  unfold packing packedL loneL
  rw [List.length_append, List.length_map, List.length_map, List.length_range]
  omega
/-! ### a packing by draws -/
structure HalfP (T : TabS) (done : List Int) (left : List Nat) (ps : List OI) : Prop where
  fit : ∀ p ∈ ps, Fit T p
  tabs : tabsP ps = done
  regs : (rgsP ps ++ left.map fun k : Nat => (k : Int)).Perm (rI T.fs.length)
theorem HalfP.start (T : TabS) : HalfP T [] (List.range T.fs.length) [] := ⟨fun _ h => (by cases h), rfl, .refl _⟩
theorem HalfP.lone {T : TabS} {done : List Int} {left : List Nat} {ps : List OI} (h : HalfP T done left ps) (t : Int) : HalfP T (done ++ [t]) left (ps ++ [(some t, none)]) := by
  refine ⟨fun p hp => ?_, ?_, ?_⟩
  · rcases List.mem_append.mp hp with a | a
    · exact h.fit p a
    · rw [List.mem_singleton.mp a]
      exact ⟨by simp, fun t r e => by simp at e⟩
  · show List.filterMap _ (ps ++ [(some t, none)]) = _
    rw [List.filterMap_append, ← h.tabs]
    rfl
  · show (List.filterMap _ (ps ++ [(some t, none)]) ++ _).Perm _
    rw [List.filterMap_append]
    show (rgsP ps ++ [] ++ _).Perm _
    rw [List.append_nil]
    exact h.regs
theorem HalfP.pair {T : TabS} {done : List Int} {left : List Nat} {ps : List OI} (h : HalfP T done left ps) {t : Int} {r f : Nat} (hr : r ∈ left) (hf : T.fs[r]? = some f) (e : (f : Int) = T.first + t) : HalfP T (done ++ [t]) (left.erase r) (ps ++ [(some t, some (r : Int))]) := by
  refine ⟨fun p hp => ?_, ?_, ?_⟩
  · rcases List.mem_append.mp hp with a | a
    · exact h.fit p a
    · rw [List.mem_singleton.mp a]
      refine ⟨by simp, fun t' r' e' => ?_⟩
      simp only [Prod.mk.injEq, Option.some.injEq] at e'
      obtain ⟨rfl, rfl⟩ := e'
      exact ⟨r, f, rfl, hf, e⟩
  · show List.filterMap _ (ps ++ [(some t, some (r : Int))]) = _
    rw [List.filterMap_append, ← h.tabs]
    rfl
  · show (List.filterMap _ (ps ++ [(some t, some (r : Int))]) ++ _).Perm _
    rw [List.filterMap_append]
    show (rgsP ps ++ [(r : Int)] ++ _).Perm _
    refine List.Perm.trans ?_ h.regs
    rw [List.append_assoc]
    refine List.Perm.append_left _ ?_
    exact ((List.perm_cons_erase hr).map fun k : Nat => (k : Int)).symm
theorem HalfP.taken {T : TabS} {done : List Int} {left : List Nat} {ps : List OI} (h : HalfP T done left ps) (hd : done.Perm (rI T.m)) : Taken T (ps ++ left.map fun r : Nat => (none, some (r : Int))) := by
  refine ⟨fun p hp => ?_, ?_, ?_⟩
  · rcases List.mem_append.mp hp with a | a
    · exact h.fit p a
    · obtain ⟨r, _, rfl⟩ := List.mem_map.mp a
      exact ⟨by simp, fun t r e => by simp at e⟩
  · show (List.filterMap _ (ps ++ _)).Perm _
    rw [List.filterMap_append, List.filterMap_map, show ∀ l : List Nat, List.filterMap ((fun p : OI => p.1) ∘ fun r : Nat => (none, some (r : Int))) l = [] from fun l => by simp, List.append_nil]
    show (tabsP ps).Perm _
    rw [h.tabs]
    exact hd
  · show (List.filterMap _ (ps ++ _)).Perm _
    rw [List.filterMap_append, List.filterMap_map]
    rw [show ((fun p : OI => p.2) ∘ fun r : Nat => ((none : Option Int), some (r : Int))) = fun r : Nat => some ((fun k : Nat => (k : Int)) r) from rfl, List.filterMap_eq_map']
    exact h.regs
/-! ### verdicts as bools -/
def fitB (T : TabS) : OI → Bool
  | (none, none) => false
  | (some t, some r) => decide (0 ≤ r ∧ r < T.fs.length) && decide (((T.fs.getD r.toNat 0 : Nat) : Int) = T.first + t)
  | _ => true
theorem fitB_iff {T : TabS} : ∀ p : OI, fitB T p = true ↔ Fit T p
  | (none, none) => by unfold fitB Fit; simp
  | (none, some r) => by unfold fitB Fit; simp
  | (some t, none) => by unfold fitB Fit; simp
  | (some t, some r) => by
    unfold fitB
    rw [Bool.and_eq_true, decide_eq_true_eq, decide_eq_true_eq]
    constructor
    · rintro ⟨⟨h0, h1⟩, h2⟩
      refine ⟨by simp, fun t' r' e => ?_⟩
      simp only [Prod.mk.injEq, Option.some.injEq] at e
      obtain ⟨rfl, rfl⟩ := e
      have hr : r.toNat < T.fs.length := by omega
      refine ⟨r.toNat, T.fs[r.toNat], by omega, List.getElem?_eq_getElem hr, ?_⟩
      rw [List.getD_eq_getElem?_getD, List.getElem?_eq_getElem hr, Option.getD_some] at h2
      exact h2
    · rintro ⟨_, h⟩
      obtain ⟨k, f, rfl, h1, h2⟩ := h t r rfl
      have hk := (List.getElem?_eq_some_iff.mp h1).1
      refine ⟨⟨by omega, by omega⟩, ?_⟩
      rw [show ((k : Int)).toNat = k by omega, List.getD_eq_getElem?_getD, h1, Option.getD_some]
      exact h2
open Classical in
noncomputable def takenB (T : TabS) (ps : List OI) : Bool := decide (Taken T ps)
open Classical in
theorem takenB_eq {T : TabS} {ps : List OI} {b : Bool} (h : b = true ↔ Taken T ps) : takenB T ps = b := by
  unfold takenB
  rw [Bool.eq_iff_iff, decide_eq_true_eq]
  exact h.symm
open Classical in
theorem takenB_true {T : TabS} {ps : List OI} (h : Taken T ps) : takenB T ps = true := by
  unfold takenB
  exact decide_eq_true h
end Bf

set_option Elab.async false
set_option linter.all false
set_option maxRecDepth 100000
set_option maxHeartbeats 4000000
namespace Bf
open PySem PySem.Spec PyProof.Rows L2
/-! ### pairs and tables as they lie -/
def oD : Option Int → PyData
  | none => .none
  | some i => .int i
def oV : Option Int → V
  | none => .non
  | some i => .int i
def pkD (p : OI) : PyData := .tuple [oD p.1, oD p.2]
def iD (i : Int) : PyData := .int i
def rgD (r : Str × Nat × Nat) : PyData := .tuple [.str r.1, .int r.2.1, .int r.2.2]
theorem Lay.oD {H : Hp} : ∀ o : Option Int, Lay H (oV o) (Bf.oD o)
  | none => .non
  | some i => .int i
theorem Lay.o_inv {H : Hp} {v : V} : ∀ {o : Option Int}, Lay H v (Bf.oD o) → v = oV o
  | none, h => by cases h; rfl
  | some i, h => by cases h; rfl
theorem Lay.pk {H : Hp} {v : V} {p : OI} (h : Lay H v (pkD p)) : ∃ q, v = .ref q ∧ H q = some (.tup [oV p.1, oV p.2]) := by
  obtain ⟨q, vs, rfl, eq, l⟩ := h.tup_inv
  obtain ⟨v0, u0, rfl, l0, l⟩ := l.cons_inv
  obtain ⟨v1, u1, rfl, l1, l⟩ := l.cons_inv
  obtain rfl := l.nil_inv
  obtain rfl := l0.o_inv
  obtain rfl := l1.o_inv
  exact ⟨q, rfl, eq⟩
theorem Lay.mkPk {H : Hp} {q : Addr} {p : OI} (h : H q = some (.tup [oV p.1, oV p.2])) : Lay H (.ref q) (pkD p) := .tup h (.cons (.oD _) (.cons (.oD _) .nil))
theorem Lay.rg {H : Hp} {v : V} {r : Str × Nat × Nat} (h : Lay H v (rgD r)) : ∃ q, v = .ref q ∧ H q = some (.tup [.str r.1, vI r.2.1, vI r.2.2]) := by
  obtain ⟨q, vs, rfl, eq, l⟩ := h.tup_inv
  obtain ⟨v0, u0, rfl, l0, l⟩ := l.cons_inv
  obtain ⟨v1, u1, rfl, l1, l⟩ := l.cons_inv
  obtain ⟨v2, u2, rfl, l2, l⟩ := l.cons_inv
  obtain rfl := l.nil_inv
  obtain rfl := l1.int_inv
  obtain rfl := l2.int_inv
  cases l0
  exact ⟨q, rfl, eq⟩
/-- tables as they lie: only the numbers count, and what is behind each register -/
structure Tab (H : Hp) (v : V) (T : TabS) (p a b c : Addr) (d : V) (xs rw : List V) (vr : List V) (regs : List (Str × Nat × Nat)) : Prop where
  top : H p = some (.tup [.str "tables", .ref a, .ref b, .ref c, d])
  hi : H a = some (.tup xs)
  li : xs.length = T.ni
  hr : H b = some (.tup vr)
  lr : LayAll H vr (regs.map rgD)
  er : T.fs = regs.map fun r => r.2.2
  hw : H c = some (.tup rw)
  lw : rw.length = T.m
  ev : v = .ref p
def TabAt (H : Hp) (v : V) (T : TabS) : Prop := ∃ p a b c d xs rw vr regs, Tab H v T p a b c d xs rw vr regs
theorem TabAt.keep {H H' : Hp} {v : V} {T : TabS} (h : TabAt H v T) (k : KeepT H H') : TabAt H' v T := by
  obtain ⟨p, a, b, c, d, xs, rw_, vr, regs, h⟩ := h
  exact ⟨p, a, b, c, d, xs, rw_, vr, regs, k _ _ h.top, k _ _ h.hi, h.li, k _ _ h.hr, h.lr.keep' k, h.er, k _ _ h.hw, h.lw, h.ev⟩
theorem dec_non (o : Option Int) : decide (oV o = V.non) = o.isNone := by cases o <;> simp [oV]
theorem oV_dec (a b : Option Int) : decide (oV a = oV b) = decide (a = b) := by cases a <;> cases b <;> simp [oV]
theorem oV_scal (a b : Option Int) : scal (oV a) (oV b) = true := by cases a <;> cases b <;> rfl
theorem depth_zi : ∀ ns : List Int, PyData.depthAll (ns.map PyData.int) ≤ 1
  | [] => by simp [PyData.depthAll]
  | n :: r => by
    have := depth_zi r
    rw [List.map_cons, PyData.depthAll]
    simp [PyData.depth] <;> omega
theorem lay_zi : ∀ ns : List Int, PyData.canLayAll0 (ns.map PyData.int) = true
  | [] => by simp [PyData.canLayAll0]
  | n :: r => by
    rw [List.map_cons, PyData.canLayAll0, lay_zi r]
    simp [PyData.canLay0]
theorem dp_zi {K : PySem.W.Frag} {H : Hp} : ∀ ns : List Int, DpAll K H (ns.map V.int) (ns.map PyData.int)
  | [] => .nil
  | n :: r => .cons (.int _) (dp_zi r)
theorem shaped_zi (ns : List Int) : SeqAt.shaped (.list (ns.map PyData.int)) = true := by
  have h := depth_zi ns
  unfold SeqAt.shaped
  rw [PyData.canLay0, lay_zi, Bool.true_and]
  refine decide_eq_true ?_
  rw [PyData.depth]
  omega
theorem eqv_zi : ∀ ns ms : List Int, PyData.eqvAll (ns.map PyData.int) (ms.map PyData.int) = decide (ns = ms)
  | [], [] => by simp [PyData.eqvAll]
  | [], _ :: _ => by simp [PyData.eqvAll]
  | _ :: _, [] => by simp [PyData.eqvAll]
  | n :: r, m :: l => by
    rw [List.map_cons, List.map_cons, PyData.eqvAll, eqv_zi r l, Bool.eq_iff_iff]
    simp [PyData.eqv]
theorem list_lenQ {H : Hp} {vs : List V} {α : Type} {f : α → PyData} {xs : List α} (h : LayAll H vs (xs.map f)) : vs.length = xs.length := by simpa using h.len
theorem fitB_ss (T : TabS) (t r : Int) : fitB T (some t, some r) = (decide (0 ≤ r ∧ r < T.fs.length) && decide (((T.fs.getD r.toNat 0 : Nat) : Int) = T.first + t)) := rfl
theorem lay_ziI {H : Hp} : ∀ {us : List V} {ns : List Int}, LayAll H us (ns.map iD) → us = ns.map V.int
  | us, [], h => by
    have := h.len
    cases us with
    | nil => rfl
    | cons _ _ => simp at this
  | us, n :: r, h => by
    obtain ⟨v, u, rfl, l0, l⟩ := LayAll.cons_inv h
    rw [lay_ziI l, l0.int_inv]
    rfl
theorem fm_opt (q : OI → Option Int) : ∀ ps : List OI, (ps.filter fun p => (q p).isSome).map (fun p => (q p).getD 0) = ps.filterMap q
  | [] => rfl
  | p :: ps => by
    cases h : q p with
    | none => rw [List.filterMap_cons_none h, List.filter_cons_of_neg (by rw [h]; simp), fm_opt q ps]
    | some b => rw [List.filterMap_cons_some h, List.filter_cons_of_pos (by rw [h]; simp), List.map_cons, fm_opt q ps, h]; rfl
theorem rgV_rI (n : Nat) : rgV 0 (n : Int) = (rI n).map V.int := by
  unfold rgV rI
  rw [List.map_map, show ((n : Int) - 0).toNat = n by omega]
  refine List.map_congr_left fun k _ => ?_
  show V.int (0 + (k : Int)) = V.int (k : Int)
  rw [Int.zero_add]
theorem rgOk_n {n : Nat} (h : n ≤ 100000) : RgOk 0 (n : Int) := ⟨by omega, by omega, by omega, by omega, by omega⟩
def spThing : Sp := fun vs H Q _ => ∃ a n : Int, vs = [.int a, .int n] ∧ Q (.bl (decide (0 ≤ a ∧ a < n))) H
def spPair : Sp := fun vs H Q _ => ∃ (v u : V) (T : TabS) (p : OI), vs = [v, u] ∧ TabAt H v T ∧ Lay H u (pkD p) ∧ Q (.bl (fitB T p)) H
section
variable {P : Program} {w : World} {K : PySem.W.Frag} {mg : Str → Option Value} {base : Heap} {f : Addr} {fd : FuncData}
theorem ok_thing (F : Fun K "is_thing" "is_thing" s_is_thing f fd) (T : Txt mg) : FnOk P w K mg base CX0 1 f fd ["number", "many"] spThing := by
  refine F.ok sc_is_thing (fun vs H Q E h => ?_) (fun cdv A outer s H vs Q E hr h => ?_)
  · obtain ⟨a, n, rfl, _⟩ := h
    rfl
  obtain ⟨a, n, rfl, q⟩ := h
  refine ⟨_, (pss_one (ps_ret (pe_chain op_le op_lt pe_int (pv 0) (pv 1)))), ?_⟩
  refine ⟨_, rfl, _, _, rfl, rfl, _, rfl, ite2 (fun z => ?_) (fun z => ?_)⟩
  · have z := of_decide_eq_true z
    refine ⟨_, rfl, _, _, rfl, rfl, ?_⟩
    show Q (.bl (decide (a < n))) H
    rw [show decide (a < n) = decide (0 ≤ a ∧ a < n) by rw [Bool.eq_iff_iff, decide_eq_true_eq, decide_eq_true_eq]; omega]
    exact q
  · have z := of_decide_eq_false (Bool.eq_false_iff.mpr z)
    rw [show (false : Bool) = decide (0 ≤ a ∧ a < n) from (decide_eq_false (by omega)).symm]
    exact q
theorem ok_pair (F : Fun K "is_pair" "is_pair" s_is_pair f fd) (T : Txt mg) (D_is_thing : Dn P w K mg base "is_thing" ["number", "many"] 1 spThing) : FnOk P w K mg base CX0 2 f fd ["tables", "pair"] spPair := by
  refine F.ok sc_is_pair (fun vs H Q E h => ?_) (fun cdv A outer s H vs Q E hr h => ?_)
  · obtain ⟨v, u, T', p, rfl, _⟩ := h
    rfl
  obtain ⟨v, u, T', ⟨o1, o2⟩, rfl, ht, lu, q⟩ := h
  refine ⟨_, (pss_cons (ps_asg (pv 0) (pg_tup rfl (pgs_cons (pg_name (i := 2) sc_is_pair.nd rfl (Or.inl rfl)) (pgs_cons (pg_name (i := 3) sc_is_pair.nd rfl (Or.inl rfl)) (pgs_cons (pg_name (i := 4) sc_is_pair.nd rfl (Or.inl rfl)) (pgs_cons (pg_name (i := 2) sc_is_pair.nd rfl (Or.inl rfl)) (pgs_cons (pg_name (i := 2) sc_is_pair.nd rfl (Or.inl rfl)) pgs_nil)))))))
      (pss_cons (ps_asg (pv 1) (pg_tup rfl (pgs_cons (pg_name (i := 5) sc_is_pair.nd rfl (Or.inl rfl)) (pgs_cons (pg_name (i := 6) sc_is_pair.nd rfl (Or.inl rfl)) pgs_nil))))
      (pss_cons (ps_if (PW.pt (pw_or (pt_cmpR op_isN (pv 5) pe_non (nomark _)) (pw_or1 (pt_cmpR op_isN (pv 6) pe_non (nomark _))))) (pss_one (ps_ret (pe_cmpR op_ne (pv 5) (pv 6) (nomark _)))) pss_nil)
      (pss_one (ps_ret (pe_and (pe_dn D_is_thing (hr.mono (by omega)) (by rfl) (pa_cons (pv 6) (pa_cons (pe_callB call_len_seq (by rfl) T.n_len (by decide +kernel) (pa_cons (pv 4) pa_nil)) pa_nil))) (pe_one (pe_cmpR op_eq (pe_ix ix_tup (pe_ix ix_tup (pv 4) (pv 6) (fun _ _ => rfl)) pe_int (fun _ _ => rfl)) (pe_op op_add (pe_op op_add (pe_callB call_len_seq (by rfl) T.n_len (by decide +kernel) (pa_cons (pv 3) pa_nil)) (pe_callB call_len_seq (by rfl) T.n_len (by decide +kernel) (pa_cons (pv 4) pa_nil))) (pv 5)) (nomark _))))))))), ?_⟩
  obtain ⟨p, a, b, c, d, xs, rw_, vr, regs, h⟩ := ht
  obtain rfl := h.ev
  obtain ⟨t, rfl, et⟩ := lu.pk
  refine ⟨_, rfl, p, _, rfl, SqT.of h.top, rfl, _, _, rfl, _, _, rfl, _, _, rfl, _, _, rfl, _, _, rfl, rfl, ?_⟩
  refine ⟨_, rfl, t, _, rfl, SqT.of et, rfl, _, _, rfl, _, _, rfl, rfl, ?_⟩
  have lr := list_lenQ h.lr
  have el : regs.length = T'.fs.length := by rw [h.er, List.length_map]
  refine ⟨_, rfl, rfl, _, rfl, ?_⟩
  rw [dec_non]
  cases o1 with
  | none =>
    refine iteT (iteT ?_)
    refine ⟨_, rfl, _, rfl, oV_scal _ _, ?_⟩
    rw [oV_dec]
    cases o2 with
    | none => exact q
    | some r => exact q
  | some t =>
    refine iteF ?_
    refine ⟨_, rfl, rfl, _, rfl, ?_⟩
    rw [dec_non]
    cases o2 with
    | none =>
      refine iteT ?_
      refine ⟨_, rfl, _, rfl, oV_scal _ _, ?_⟩
      rw [oV_dec]
      exact q
    | some r =>
      refine iteF ?_
      refine ⟨_, rfl, _, rfl, b, vr, rfl, .inr (SqT.of h.hr), r, _, rfl, ?_⟩
      rw [lr, el]
      refine ⟨_, rfl, ?_⟩
      by_cases hz : 0 ≤ r ∧ r < (T'.fs.length : Int)
      · rw [decide_eq_true hz]
        refine iteT ?_
        obtain ⟨k, rfl⟩ := Int.eq_ofNat_of_zero_le hz.1
        have hk : k < regs.length := by omega
        obtain ⟨dd, hd1, hd2⟩ := h.lr.get (v := vr[k]'(by omega)) k (List.getElem?_eq_getElem _)
        obtain ⟨rg, hrg, rfl⟩ := mapAtD hd1
        obtain ⟨q1, e1, eq1⟩ := hd2.rg
        refine ⟨_, rfl, _, rfl, b, vr, k, _, rfl, rfl, SqT.of h.hr, atI_nat (List.getElem?_eq_getElem (by omega)), ?_⟩
        rw [e1]
        refine ⟨q1, _, _, _, rfl, rfl, SqT.of eq1, atI_nat (j := 2) rfl, ?_⟩
        refine ⟨_, rfl, a, xs, rfl, .inr (SqT.of h.hi), _, rfl, b, vr, rfl, .inr (SqT.of h.hr), _, _, rfl, rfl, _, rfl, _, _, rfl, rfl, rfl, ?_⟩
        have e2 : T'.fs.getD k 0 = rg.2.2 := by
          rw [List.getD_eq_getElem?_getD, h.er, List.getElem?_map, hrg]
          rfl
        rw [fitB_ss, decide_eq_true hz, Bool.true_and, show ((k : Int)).toNat = k by omega, e2] at q
        show Q (.bl (decide (V.int ((rg.2.2 : Nat) : Int) = V.int ((xs.length : Int) + (vr.length : Int) + t)))) H
        rw [show decide (V.int ((rg.2.2 : Nat) : Int) = V.int ((xs.length : Int) + (vr.length : Int) + t)) = decide (((rg.2.2 : Nat) : Int) = T'.first + t) by
          rw [Bool.eq_iff_iff, decide_eq_true_eq, decide_eq_true_eq, V.int.injEq, h.li, lr, el]
          unfold TabS.first
          omega]
        exact q
      · rw [decide_eq_false hz]
        refine iteF ?_
        have : fitB T' (some t, some r) = false := by
          rw [fitB_ss, decide_eq_false hz]
          rfl
        rw [this] at q
        exact q
def spJudge : Sp := fun vs H Q _ => ∃ (v u : V) (T : TabS) (ps : List OI), vs = [v, u] ∧ TabAt H v T ∧ Lay H u (.tuple (ps.map pkD)) ∧ ps.length ≤ 1000 ∧ T.m ≤ 1000 ∧ T.fs.length ≤ 1000 ∧ ∀ H', Same H H' → Q (.bl (takenB T ps)) H'
theorem ok_judge (F : Fun K "judge_packing" "judge_packing" s_judge_packing f fd) (T : Txt mg) (D_is_pair : Dn P w K mg base "is_pair" ["tables", "pair"] 2 spPair) : FnOk P w K mg base CX0 3 f fd ["tables", "packing"] spJudge := by
  refine F.ok sc_judge_packing (fun vs H Q E h => ?_) (fun cdv A outer s H vs Q E hr h => ?_)
  · obtain ⟨v, u, T', ps, rfl, _⟩ := h
    rfl
  obtain ⟨v, u, T', ps, rfl, ht, lu, lps, lm, lf, q⟩ := h
  refine ⟨_, (pss_cons (ps_if (pt_not (pt_val (pe_callB (cr_all rfl) (by rfl) T.n_all (by decide +kernel) (pa_cons (pe_lc (own := [("pair", 7)]) (g := (gName 7)) (tt := tYes) rfl sc_judge_packing.nd (pi_tup (pv 1)) (blkOk_by (N := ["tables", "packing", "packed_tables", "packed_regs", "table", "_", "reg", "pair"]) (sc := defScope s_judge_packing) (by decide +kernel)) (fun _ _ _ _ _ => (pg_name (i := 7) sc_judge_packing.nd rfl (Or.inl rfl))) (fun _ _ _ _ _ => pts_nil) (fun _ _ _ _ _ => (pe_dn D_is_pair (hr.mono (by omega)) (by rfl) (pa_cons (pv 0) (pa_cons (pv 7) pa_nil))))) pa_nil)))) (pss_one (ps_ret pe_bl)) pss_nil)
      (pss_cons (ps_set (i := 2) sc_judge_packing.nd rfl (Or.inl rfl) (pe_callB cr_sortedI (by rfl) T.n_sorted (by decide +kernel) (pa_cons (pe_lc (own := [("table", 4), ("_", 5)]) (g := (gTup K 2 (gCons (gName 4) (gCons (gName 5) gNil)))) rfl sc_judge_packing.nd (pi_tup (pv 1)) (blkOk_by (N := ["tables", "packing", "packed_tables", "packed_regs", "table", "_", "reg", "pair"]) (sc := defScope s_judge_packing) (by decide +kernel)) (fun _ _ _ _ _ => (pg_tup rfl (pgs_cons (pg_name (i := 4) sc_judge_packing.nd rfl (Or.inl rfl)) (pgs_cons (pg_name (i := 5) sc_judge_packing.nd rfl (Or.inl rfl)) pgs_nil)))) (fun _ _ _ _ _ => (pts_one (pt_cmpR op_notN (pv 4) pe_non (nomark _)))) (fun _ _ _ _ _ => (pv 4))) pa_nil)))
      (pss_cons (ps_set (i := 3) sc_judge_packing.nd rfl (Or.inl rfl) (pe_callB cr_sortedI (by rfl) T.n_sorted (by decide +kernel) (pa_cons (pe_lc (own := [("_", 5), ("reg", 6)]) (g := (gTup K 2 (gCons (gName 5) (gCons (gName 6) gNil)))) rfl sc_judge_packing.nd (pi_tup (pv 1)) (blkOk_by (N := ["tables", "packing", "packed_tables", "packed_regs", "table", "_", "reg", "pair"]) (sc := defScope s_judge_packing) (by decide +kernel)) (fun _ _ _ _ _ => (pg_tup rfl (pgs_cons (pg_name (i := 5) sc_judge_packing.nd rfl (Or.inl rfl)) (pgs_cons (pg_name (i := 6) sc_judge_packing.nd rfl (Or.inl rfl)) pgs_nil)))) (fun _ _ _ _ _ => (pts_one (pt_cmpR op_notN (pv 6) pe_non (nomark _)))) (fun _ _ _ _ _ => (pv 6))) pa_nil)))
      (pss_one (ps_ret (pe_and (pe_cmpR (op_eqD hr.units) (pv 2) (pe_listRg rfl (by rfl) T.n_list (prg_1 (by rfl) T.n_range (pe_callB call_len_seq (by rfl) T.n_len (by decide +kernel) (pa_cons (pe_ix ix_tup (pv 0) pe_int (fun _ _ => rfl)) pa_nil)))) (nomark _)) (pe_one (pe_cmpR (op_eqD hr.units) (pv 3) (pe_listRg rfl (by rfl) T.n_list (prg_1 (by rfl) T.n_range (pe_callB call_len_seq (by rfl) T.n_len (by decide +kernel) (pa_cons (pe_ix ix_tup (pv 0) pe_int (fun _ _ => rfl)) pa_nil)))) (nomark _))))))))), ?_⟩
  obtain ⟨pk, vp, rfl, ep, lp⟩ := lu.tup_inv
  have lvp := list_lenQ lp
  refine ⟨_, rfl, pk, rfl, ⟨_, SqT.of ep⟩, fun D hD => ?_⟩
  refine lc_rows (walk_tup (xs := vp)) (rows := ps) (f := pkD) (g := fitB T') (h := blD) (fun H' sm => SqT.of (sm _ _ ep)) hD lp (by omega) (fun i x p H' R Z hp sm lx k => ?_) (fun us H1 s1 eD lus => ?_)
  · refine ⟨rfl, _, rfl, _, rfl, v, x, T', p, rfl, ht.keep (.same sm), lx, k _ _ (.refl _) (.bl _)⟩
  rw [lay_bls lus] at eD
  refine ⟨D, _, rfl, SqL.of eD, ?_⟩
  by_cases hall : ∀ p ∈ ps, Fit T' p
  rotate_left
  · have eb : (ps.map (fitB T')).all id = false := by
      rw [Bool.eq_false_iff]
      intro hh
      rw [List.all_map, List.all_eq_true] at hh
      exact hall fun p hp => (fitB_iff p).mp (hh p hp)
    rw [eb]
    refine ⟨false, rfl, iteT ?_⟩
    have := q H1 s1
    rw [takenB_eq (b := false) ⟨fun z => (by cases z), fun z => (hall z.1).elim⟩] at this
    exact this
  have eb : (ps.map (fitB T')).all id = true := by
    rw [List.all_map, List.all_eq_true]
    exact fun p hp => (fitB_iff p).mpr (hall p hp)
  rw [eb]
  refine ⟨true, rfl, iteF ?_⟩
  refine ⟨_, rfl, pk, rfl, ⟨_, SqT.of (s1 _ _ ep)⟩, fun D2 hD2 => ?_⟩
  refine lc_frows (walk_tup (xs := vp)) (rows := ps) (f := pkD) (g := fun p => p.1.getD 0) (h := iD) (p := fun p => p.1.isSome) (fun H' sm => SqT.of (sm _ _ (s1 _ _ ep))) hD2 (lp.keep' (.same s1)) (by omega) (fun x p H' R Z hp sm lx ky kn => ?_) (fun us2 H2 s2 eD2 lus2 => ?_)
  · obtain ⟨q0, rfl, eq0⟩ := lx.pk
    refine ⟨q0, _, rfl, SqT.of eq0, rfl, _, _, rfl, _, _, rfl, rfl, ?_⟩
    refine ⟨rfl, _, rfl, rfl, _, rfl, ?_⟩
    rw [dec_non]
    obtain ⟨o1, o2⟩ := p
    cases o1 with
    | none => exact iteF (kn rfl _ (.refl _))
    | some t => exact iteT ⟨_, rfl, ky rfl _ _ (.refl _) (.int _)⟩
  rw [fm_opt (fun p : OI => p.1)] at lus2
  have eus := lay_ziI lus2
  subst eus
  refine ⟨D2, _, rfl, SqL.of eD2, fun ns1 S1 p1 w1 hS1 => ?_⟩
  have s3 := s2.trans (same_new hS1 (.lst (ns1.map V.int)))
  have eS1 := upd_same (H := H2) (a := S1) (o := .lst (ns1.map V.int))
  generalize upd H2 S1 (.lst (ns1.map V.int)) = H3 at s3 eS1 ⊢
  refine ⟨_, rfl, pk, rfl, ⟨_, SqT.of ((s1.trans s3) _ _ ep)⟩, fun D3 hD3 => ?_⟩
  refine lc_frows (walk_tup (xs := vp)) (rows := ps) (f := pkD) (g := fun p => p.2.getD 0) (h := iD) (p := fun p => p.2.isSome) (fun H' sm => SqT.of (sm _ _ ((s1.trans s3) _ _ ep))) hD3 (lp.keep' (.same (s1.trans s3))) (by omega) (fun x p H' R Z hp sm lx ky kn => ?_) (fun us4 H4 s4 eD4 lus4 => ?_)
  · obtain ⟨q0, rfl, eq0⟩ := lx.pk
    refine ⟨q0, _, rfl, SqT.of eq0, rfl, _, _, rfl, _, _, rfl, rfl, ?_⟩
    refine ⟨rfl, _, rfl, rfl, _, rfl, ?_⟩
    rw [dec_non]
    obtain ⟨o1, o2⟩ := p
    cases o2 with
    | none => exact iteF (kn rfl _ (.refl _))
    | some t => exact iteT ⟨_, rfl, ky rfl _ _ (.refl _) (.int _)⟩
  rw [fm_opt (fun p : OI => p.2)] at lus4
  have eus := lay_ziI lus4
  subst eus
  refine ⟨D3, _, rfl, SqL.of eD4, fun ns2 S2 p2 w2 hS2 => ?_⟩
  have s5 := s4.trans (same_new hS2 (.lst (ns2.map V.int)))
  have eS2 := upd_same (H := H4) (a := S2) (o := .lst (ns2.map V.int))
  have eS1' := s5 _ _ eS1
  generalize upd H4 S2 (.lst (ns2.map V.int)) = H5 at s5 eS2 eS1' ⊢
  have s15 := (s1.trans s3).trans s5
  obtain ⟨p, a, b, c, d, xs, rw_, vr, regs, h⟩ := ht.keep (.same s15)
  obtain rfl := h.ev
  refine ⟨_, rfl, _, rfl, p, _, _, _, rfl, rfl, SqT.of h.top, atI_nat (j := 3) rfl, ?_⟩
  refine ⟨c, rw_, rfl, .inr (SqT.of h.hw), _, rfl, rgOk_n (by rw [h.lw]; omega), fun L1 hL1 => ?_⟩
  have e1 : rgV 0 (rw_.length : Int) = (rI T'.m).map V.int := by rw [rgV_rI, h.lw]
  rw [e1]
  have s6 := same_new hL1 (.lst ((rI T'.m).map V.int))
  refine ⟨_, _, .lst (SqL.of (s6 _ _ eS1')) (dp_zi _), .lst (SqL.of upd_same) (dp_zi _), shaped_zi _, shaped_zi _, ?_⟩
  rw [PyData.eqv, eqv_zi]
  have eS2' := s6 _ _ eS2
  have htp := s6 _ _ h.top
  have hrp := s6 _ _ h.hr
  have s16 := s15.trans s6
  generalize upd H5 L1 (.lst ((rI T'.m).map V.int)) = H6 at s6 eS2' htp hrp s16 ⊢
  have k1 := sort_rI (n := T'.m) p1 w1
  have k2 := sort_rI (n := T'.fs.length) p2 w2
  refine ⟨_, rfl, ite2 (fun z => ?_) (fun z => ?_)⟩
  · have z := of_decide_eq_true z
    refine ⟨_, rfl, _, rfl, p, _, _, _, rfl, rfl, SqT.of htp, atI_nat (j := 2) rfl, ?_⟩
    have lvr := list_lenQ h.lr
    have elf : vr.length = T'.fs.length := by rw [lvr, h.er, List.length_map]
    refine ⟨b, vr, rfl, .inr (SqT.of hrp), _, rfl, rgOk_n (by omega), fun L2 hL2 => ?_⟩
    have e2 : rgV 0 (vr.length : Int) = (rI T'.fs.length).map V.int := by rw [rgV_rI, elf]
    rw [e2]
    have s7 := same_new hL2 (.lst ((rI T'.fs.length).map V.int))
    refine ⟨_, _, .lst (SqL.of (s7 _ _ eS2')) (dp_zi _), .lst (SqL.of upd_same) (dp_zi _), shaped_zi _, shaped_zi _, ?_⟩
    rw [PyData.eqv, eqv_zi, ← takenB_eq (T := T') (ps := ps) (b := decide (ns2 = rI T'.fs.length)) ⟨fun y => ⟨hall, k1.mp z, k2.mp (of_decide_eq_true y)⟩, fun y => decide_eq_true (k2.mpr y.2.2)⟩]
    exact q _ (s16.trans s7)
  · have z := of_decide_eq_false (Bool.eq_false_iff.mpr z)
    have := q H6 s16
    rw [takenB_eq (b := false) ⟨fun y => (by cases y), fun y => (z (k1.mpr y.2.1)).elim⟩] at this
    exact this
end
end Bf

set_option Elab.async false
set_option linter.all false
set_option maxRecDepth 100000
set_option maxHeartbeats 4000000
namespace Bf
open PySem PySem.Spec PyProof.Rows L2
/-! ### the law's own verdict -/
def cnt (n : Nat) (xs : List Int) : List Nat := (List.range n).map fun k : Nat => xs.count (k : Int)
theorem cnt_len (n : Nat) (xs : List Int) : (cnt n xs).length = n := by unfold cnt; rw [List.length_map, List.length_range]
theorem cnt_nil (n : Nat) : cnt n [] = List.replicate n 0 := by
  unfold cnt
  rw [show (fun k : Nat => ([] : List Int).count (k : Int)) = fun _ => 0 from funext fun k => List.count_nil, List.map_const', List.length_range]
theorem cnt_get {n k : Nat} {xs : List Int} (h : k < n) : (cnt n xs)[k]? = some (xs.count (k : Int)) := by
  unfold cnt
  rw [List.getElem?_map, List.getElem?_range h]
  rfl
theorem cnt_add {n k : Nat} {xs : List Int} (h : k < n) : (cnt n xs).set k (xs.count (k : Int) + 1) = cnt n (xs ++ [(k : Int)]) := by
  refine List.ext_getElem? fun j => ?_
  rw [List.getElem?_set]
  by_cases hj : j < n
  · rw [cnt_get hj, cnt_get hj, List.count_append, List.count_singleton, cnt_len]
    by_cases e : k = j
    · subst e
      rw [if_pos rfl, if_pos h, if_pos (by simp)]
    · rw [if_neg e, if_neg (by simp; omega), Nat.add_zero]
  · rw [List.getElem?_eq_none (by rw [cnt_len]; omega), List.getElem?_eq_none (by rw [cnt_len]; omega)]
    split
    · rw [cnt_len, if_neg (by omega)]
    · rfl
theorem tabs_take {ps : List OI} {i : Nat} {p : OI} (h : ps[i]? = some p) : tabsP (ps.take (i + 1)) = tabsP (ps.take i) ++ p.1.toList := by
  unfold tabsP
  rw [List.take_succ, h, List.filterMap_append]
  obtain ⟨o1, o2⟩ := p
  cases o1 <;> rfl
theorem rgs_take {ps : List OI} {i : Nat} {p : OI} (h : ps[i]? = some p) : rgsP (ps.take (i + 1)) = rgsP (ps.take i) ++ p.2.toList := by
  unfold rgsP
  rw [List.take_succ, h, List.filterMap_append]
  obtain ⟨o1, o2⟩ := p
  cases o2 <;> rfl
theorem all_cnt (n m : Nat) (xs ys : List Int) : ((cnt n xs ++ cnt m ys).map fun c => decide (c = 1)).all id = true ↔ (∀ k : Nat, k < n → xs.count (k : Int) = 1) ∧ ∀ k : Nat, k < m → ys.count (k : Int) = 1 := by
  rw [List.all_map, List.all_eq_true]
  constructor
  · intro h
    constructor
    · intro k hk
      exact of_decide_eq_true (h _ (List.mem_append_left _ (List.mem_map.mpr ⟨k, List.mem_range.mpr hk, rfl⟩)))
    · intro k hk
      exact of_decide_eq_true (h _ (List.mem_append_right _ (List.mem_map.mpr ⟨k, List.mem_range.mpr hk, rfl⟩)))
  · rintro ⟨h1, h2⟩ c hc
    rcases List.mem_append.mp hc with a | a
    · obtain ⟨k, hk, rfl⟩ := List.mem_map.mp a
      exact decide_eq_true (h1 k (List.mem_range.mp hk))
    · obtain ⟨k, hk, rfl⟩ := List.mem_map.mp a
      exact decide_eq_true (h2 k (List.mem_range.mp hk))
/-- the counters behind i pairs -/
structure Cnt (H H' : Hp) (T : TabS) (Pa Ha : Addr) (xs ys : List Int) : Prop where
  sm : Same H H'
  ep : H' Pa = some (.lst ((cnt T.m xs).map vI))
  eh : H' Ha = some (.lst ((cnt T.fs.length ys).map vI))
theorem Cnt.addP {H H' : Hp} {T : TabS} {Pa Ha : Addr} {xs ys : List Int} {k : Nat} (c : Cnt H H' T Pa Ha xs ys) (hP : H Pa = none) (ne : Ha ≠ Pa) (hk : k < T.m) : Cnt H (upd H' Pa (.lst (((cnt T.m xs).map vI).set k (vI (xs.count (k : Int) + 1))))) T Pa Ha (xs ++ [(k : Int)]) ys :=
  ⟨same_two c.sm hP, by rw [upd_same, set_vI, cnt_add hk], by rw [upd_ne ne]; exact c.eh⟩
theorem Cnt.addH {H H' : Hp} {T : TabS} {Pa Ha : Addr} {xs ys : List Int} {k : Nat} (c : Cnt H H' T Pa Ha xs ys) (hH : H Ha = none) (ne : Ha ≠ Pa) (hk : k < T.fs.length) : Cnt H (upd H' Ha (.lst (((cnt T.fs.length ys).map vI).set k (vI (ys.count (k : Int) + 1))))) T Pa Ha xs (ys ++ [(k : Int)]) :=
  ⟨same_two c.sm hH, by rw [upd_ne ne.symm]; exact c.ep, by rw [upd_same, set_vI, cnt_add hk]⟩
theorem Cnt.nilP {H H' : Hp} {T : TabS} {Pa Ha : Addr} {xs ys : List Int} (c : Cnt H H' T Pa Ha xs ys) : Cnt H H' T Pa Ha (xs ++ []) ys := by rw [List.append_nil]; exact c
theorem Cnt.nilH {H H' : Hp} {T : TabS} {Pa Ha : Addr} {xs ys : List Int} (c : Cnt H H' T Pa Ha xs ys) : Cnt H H' T Pa Ha xs (ys ++ []) := by rw [List.append_nil]; exact c
theorem okL_r {T : TabS} {k : Nat} (h : k < T.fs.length) : OkL T (none, some (k : Int)) :=
  ⟨⟨by simp, fun t r e => by simp at e⟩, fun t e => by simp at e, fun r e => by cases e; omega⟩
theorem okL_t {T : TabS} {j : Nat} (h : j < T.m) : OkL T (some (j : Int), none) :=
  ⟨⟨by simp, fun t r e => by simp at e⟩, fun t e => by cases e; omega, fun r e => by simp at e⟩
theorem okL_b {T : TabS} {j k f : Nat} (h : j < T.m) (h2 : k < T.fs.length) (h3 : T.fs[k]? = some f) (h4 : (f : Int) = T.first + (j : Int)) : OkL T (some (j : Int), some (k : Int)) :=
  ⟨⟨by simp, fun t r e => by
    simp only [Prod.mk.injEq, Option.some.injEq] at e
    obtain ⟨rfl, rfl⟩ := e
    exact ⟨k, f, rfl, h3, h4⟩⟩, fun t e => by cases e; omega, fun r e => by cases e; omega⟩
def spTakes : Sp := fun vs H Q _ => ∃ (v u : V) (T : TabS) (ps : List OI), vs = [v, u] ∧ TabAt H v T ∧ Lay H u (.tuple (ps.map pkD)) ∧ ps.length ≤ 100 ∧ T.m ≤ 100 ∧ T.fs.length ≤ 100 ∧ ∀ H', Same H H' → Q (.bl (takenB T ps)) H'
section
variable {P : Program} {w : World} {K : PySem.W.Frag} {mg : Str → Option Value} {base : Heap} {f : Addr} {fd : FuncData}
theorem ok_takes (F : Fun K "_law_takes" "_law_takes" s_law_takes f fd) (T : Txt mg) : FnOk P w K mg base CX0 1 f fd ["_law_tables_here", "_law_packing_here"] spTakes := by
  refine F.ok sc_law_takes (fun vs H Q E h => ?_) (fun cdv A outer s H vs Q E hr h => ?_)
  · obtain ⟨v, u, T', ps, rfl, _⟩ := h
    rfl
  obtain ⟨v, u, T', ps, rfl, ht, lu, lps, lm, lf, q⟩ := h
  refine ⟨_, (pss_cons (ps_par (i := 2) (j := 3) (by rfl) sc_law_takes.nd rfl rfl (by decide) rfl rfl (pa_cons (pe_callB call_len_seq (by rfl) T.n_len (by decide +kernel) (pa_cons (pe_ix ix_tup (pv 0) pe_int (fun _ _ => rfl)) pa_nil)) (pa_cons (pe_callB call_len_seq (by rfl) T.n_len (by decide +kernel) (pa_cons (pe_ix ix_tup (pv 0) pe_int (fun _ _ => rfl)) pa_nil)) pa_nil)) (by rfl))
      (pss_cons (ps_set (i := 4) sc_law_takes.nd rfl (Or.inl rfl) (pe_op op_rep (pe_lst (pa_cons pe_int pa_nil)) (pv 2)))
      (pss_cons (ps_set (i := 5) sc_law_takes.nd rfl (Or.inl rfl) (pe_op op_rep (pe_lst (pa_cons pe_int pa_nil)) (pv 3)))
      (pss_cons (ps_for PassesOwn.never rfl (pi_tup (pv 1)) (pg_tup rfl (pgs_cons (pg_name (i := 6) sc_law_takes.nd rfl (Or.inl rfl)) (pgs_cons (pg_name (i := 7) sc_law_takes.nd rfl (Or.inl rfl)) pgs_nil))) (pss_cons (ps_if (PW.pt (pw_and (pt_cmpR op_isN (pv 6) pe_non (nomark _)) (pw_and1 (pt_cmpR op_isN (pv 7) pe_non (nomark _))))) (pss_one (ps_ret pe_bl)) pss_nil)
      (pss_cons (ps_if (pt_cmpR op_notN (pv 6) pe_non (nomark _)) (pss_cons (ps_if (pt_not (pt_chain op_le op_lt pe_int (pv 6) (pv 2))) (pss_one (ps_ret pe_bl)) pss_nil)
      (pss_one (ps_augS (pv 4) (pv 6) get_list pe_int ip_add set_list))) pss_nil)
      (pss_cons (ps_if (pt_cmpR op_notN (pv 7) pe_non (nomark _)) (pss_cons (ps_if (pt_not (pt_chain op_le op_lt pe_int (pv 7) (pv 3))) (pss_one (ps_ret pe_bl)) pss_nil)
      (pss_one (ps_augS (pv 5) (pv 7) get_list pe_int ip_add set_list))) pss_nil)
      (pss_one (ps_if (PW.pt (pw_and (pt_cmpR op_notN (pv 6) pe_non (nomark _)) (pw_and (pt_cmpR op_notN (pv 7) pe_non (nomark _)) (pw_and1 (pt_cmpR op_ne (pe_ix ix_tup (pe_ix ix_tup (pe_ix ix_tup (pv 0) pe_int (fun _ _ => rfl)) (pv 7) (fun _ _ => rfl)) pe_int (fun _ _ => rfl)) (pe_op op_add (pe_op op_add (pe_callB call_len_seq (by rfl) T.n_len (by decide +kernel) (pa_cons (pe_ix ix_tup (pv 0) pe_int (fun _ _ => rfl)) pa_nil)) (pv 3)) (pv 6)) (nomark _)))))) (pss_one (ps_ret pe_bl)) pss_nil))))))
      (pss_one (ps_ret (pe_callB (cr_all rfl) (by rfl) T.n_all (by decide +kernel) (pa_cons (pe_lc (own := [("_law_count", 8)]) (g := (gName 8)) (tt := tYes) rfl sc_law_takes.nd (pi_list (pe_op op_cat (pv 4) (pv 5))) (blkOk_by (N := ["_law_tables_here", "_law_packing_here", "_law_many", "_law_kept", "_law_packed", "_law_held", "_law_table", "_law_reg", "_law_count"]) (sc := defScope s_law_takes) (by decide +kernel)) (fun _ _ _ _ _ => (pg_name (i := 8) sc_law_takes.nd rfl (Or.inl rfl))) (fun _ _ _ _ _ => pts_nil) (fun _ _ _ _ _ => (pe_cmpR op_eq (pv 8) pe_int (nomark _)))) pa_nil)))))))), ?_⟩
  obtain ⟨pk, vp, rfl, ep, lp⟩ := lu.tup_inv
  have lvp := list_lenQ lp
  obtain ⟨p, a, b, c, d, xs, rw_, vr, regs, h⟩ := ht
  obtain rfl := h.ev
  have lvr := list_lenQ h.lr
  have elf : vr.length = T'.fs.length := by rw [lvr, h.er, List.length_map]
  refine ⟨_, rfl, p, _, _, _, rfl, rfl, SqT.of h.top, atI_nat (j := 3) rfl, c, rw_, rfl, .inr (SqT.of h.hw), ?_⟩
  refine ⟨_, rfl, p, _, _, _, rfl, rfl, SqT.of h.top, atI_nat (j := 2) rfl, b, vr, rfl, .inr (SqT.of h.hr), _, _, rfl, ?_⟩
  rw [h.lw, elf]
  refine ⟨by show 1 ≤ sizeLine; decide, fun z0 hz0 => ?_⟩
  have s0 := same_new hz0 (.lst [V.int 0])
  refine ⟨_, rfl, z0, _, [V.int 0], rfl, rfl, upd_same, by omega, by omega, ?_, fun Pa hPa => ?_⟩
  · show 1 * _ ≤ _
    exact le1000 (by omega)
  have hP := s0.free hPa
  have s1 := s0.trans (same_new hPa (.lst (List.replicate (T'.m : Int).toNat [V.int 0]).flatten))
  have eP := upd_same (H := upd H z0 (.lst [V.int 0])) (a := Pa) (o := .lst (List.replicate (T'.m : Int).toNat [V.int 0]).flatten)
  rw [show (T'.m : Int).toNat = T'.m by omega, flat_rep, ← cnt_nil] at s1 eP ⊢
  generalize upd (upd H z0 (.lst [V.int 0])) Pa (.lst ((cnt T'.m []).map vI)) = H1 at s1 eP ⊢
  refine ⟨by show 1 ≤ sizeLine; decide, fun z1 hz1 => ?_⟩
  have s2 := s1.trans (same_new hz1 (.lst [V.int 0]))
  have eP2 := same_new hz1 (.lst [V.int 0]) _ _ eP
  refine ⟨_, rfl, z1, _, [V.int 0], rfl, rfl, upd_same, by omega, by omega, ?_, fun Ha hHa => ?_⟩
  · show 1 * _ ≤ _
    exact le1000 (by omega)
  have hH := s2.free hHa
  have ne : Ha ≠ Pa := fun z => by rw [z, eP2] at hHa; cases hHa
  have s3 := s2.trans (same_new hHa (.lst (List.replicate (T'.fs.length : Int).toNat [V.int 0]).flatten))
  have eP3 := same_new hHa (.lst (List.replicate (T'.fs.length : Int).toNat [V.int 0]).flatten) _ _ eP2
  have eH := upd_same (H := upd H1 z1 (.lst [V.int 0])) (a := Ha) (o := .lst (List.replicate (T'.fs.length : Int).toNat [V.int 0]).flatten)
  rw [show (T'.fs.length : Int).toNat = T'.fs.length by omega, flat_rep, ← cnt_nil] at s3 eH eP3 ⊢
  generalize upd (upd H1 z1 (.lst [V.int 0])) Ha (.lst ((cnt T'.fs.length []).map vI)) = H2 at s3 eH eP3 ⊢
  have bad : ∀ (p : OI) (H' : Hp), p ∈ ps → ¬ OkL T' p → Same H H' → Q (.bl false) H' := fun p H' hp hn sm => by
    have := q H' sm
    rw [takenB_eq (b := false) ⟨fun y => (by cases y), fun y => (hn ((taken_iff.mp y).1 p hp)).elim⟩] at this
    exact this
  refine ⟨_, rfl, pk, rfl, ⟨_, SqT.of (s3 _ _ ep)⟩, for_it (walk_tup (xs := vp)) (fun i σ' H' => ∃ v6 v7 : Option V, σ' = [some (.ref p), some (.ref pk), some (vI T'.m), some (vI T'.fs.length), some (.ref Pa), some (.ref Ha), v6, v7, none] ∧ (∀ p ∈ ps.take i, OkL T' p) ∧ Cnt H H' T' Pa Ha (tabsP (ps.take i)) (rgsP (ps.take i)))
    ⟨_, _, rfl, fun p hp => (by rw [List.take_zero] at hp; cases hp), s3, eP3, eH⟩ (fun i σ' H' hi pv => ?_) (fun i x σ' H3 H4 hi pv y => ?_) (fun σ' H3 pv => ?_)⟩
  · obtain ⟨_, _, _, _, c⟩ := pv
    exact SqT.of (c.sm _ _ ep)
  · obtain ⟨v6, v7, rfl, okp, cn⟩ := pv
    obtain ⟨rfl, hx⟩ := y
    obtain ⟨dd, hd1, hd2⟩ := (lp.keep' (.same cn.sm)).get i hx
    obtain ⟨⟨o1, o2⟩, hp, rfl⟩ := mapAtD hd1
    obtain ⟨q0, rfl, eq0⟩ := hd2.pk
    have hpm := List.mem_of_getElem? hp
    have et := tabs_take hp
    have er := rgs_take hp
    have okn : OkL T' (o1, o2) → ∀ p ∈ ps.take (i + 1), OkL T' p := fun hk p hpp => by
      rw [List.take_succ, hp] at hpp
      rcases List.mem_append.mp hpp with a | a
      · exact okp p a
      · rw [List.mem_singleton.mp a]
        exact hk
    refine ⟨q0, _, rfl, SqT.of eq0, rfl, _, _, rfl, _, _, rfl, rfl, ?_⟩
    refine ⟨_, rfl, rfl, _, rfl, ?_⟩
    rw [dec_non]
    cases o1 with
    | none =>
      refine iteT ⟨_, rfl, rfl, _, rfl, ?_⟩
      rw [dec_non]
      cases o2 with
      | none =>
        refine iteT ?_
        exact bad _ _ hpm (fun hk => hk.1.1 rfl) cn.sm
      | some r =>
        refine iteF ⟨_, rfl, rfl, _, rfl, ?_⟩
        rw [dec_non]
        refine iteF ⟨_, rfl, rfl, _, rfl, ?_⟩
        rw [dec_non]
        refine iteT ?_
        refine ⟨_, rfl, _, _, rfl, rfl, _, rfl, ite2 (fun zr => ?_) (fun zr => ?_)⟩
        rotate_left
        · have zr := of_decide_eq_false (Bool.eq_false_iff.mpr zr)
          refine ⟨_, rfl, iteT ?_⟩
          exact bad _ _ hpm (fun hk => zr (hk.2.2 r rfl).1) cn.sm
        have zr := of_decide_eq_true zr
        refine ⟨_, rfl, _, _, rfl, rfl, _, rfl, ?_⟩
        by_cases yr : r < (T'.fs.length : Int)
        rotate_left
        · refine ifY (by rw [decide_eq_false yr]; rfl) ?_
          exact bad _ _ hpm (fun hk => yr (hk.2.2 r rfl).2) cn.sm
        refine ifN (by rw [decide_eq_true yr]; rfl) ?_
        obtain ⟨k, rfl⟩ := Int.eq_ofNat_of_zero_le zr
        refine ⟨_, rfl, _, rfl, Ha, _, k, vI _, rfl, rfl, cn.eh, atI_nat (by rw [List.getElem?_map, cnt_get (by omega)]; rfl), ?_⟩
        refine ⟨_, _, rfl, rfl, ?_⟩
        refine ⟨Ha, _, k, k, rfl, rfl, cn.eh, ixN_nat (by rw [List.length_map, cnt_len]; omega), ?_⟩
        have cnew : Cnt H (upd _ Ha (.lst (((cnt T'.fs.length (rgsP (ps.take i))).map vI).set k ((fun i j => V.int (i + j)) (((rgsP (ps.take i)).count (k : Int) : Nat) : Int) 1)))) T' Pa Ha _ _ := cn.addH hH ne (k := k) (by omega)
        generalize upd _ Ha (.lst (((cnt T'.fs.length (rgsP (ps.take i))).map vI).set k ((fun i j => V.int (i + j)) (((rgsP (ps.take i)).count (k : Int) : Nat) : Int) 1))) = H6 at cnew ⊢
        refine ⟨_, rfl, rfl, _, rfl, ?_⟩
        rw [dec_non]
        refine iteF (iteF ?_)
        exact ⟨_, _, rfl, okn (okL_r (by omega)), by rw [et, er]; exact cnew.nilP⟩
    | some t =>
      refine iteF (iteF ⟨_, rfl, rfl, _, rfl, ?_⟩)
      rw [dec_non]
      refine iteT ?_
      refine ⟨_, rfl, _, _, rfl, rfl, _, rfl, ite2 (fun zt => ?_) (fun zt => ?_)⟩
      rotate_left
      · have zt := of_decide_eq_false (Bool.eq_false_iff.mpr zt)
        refine ⟨_, rfl, iteT ?_⟩
        exact bad _ _ hpm (fun hk => zt (hk.2.1 t rfl).1) cn.sm
      have zt := of_decide_eq_true zt
      refine ⟨_, rfl, _, _, rfl, rfl, _, rfl, ?_⟩
      by_cases yt : t < (T'.m : Int)
      rotate_left
      · refine ifY (by rw [decide_eq_false yt]; rfl) ?_
        exact bad _ _ hpm (fun hk => yt (hk.2.1 t rfl).2) cn.sm
      refine ifN (by rw [decide_eq_true yt]; rfl) ?_
      obtain ⟨j, rfl⟩ := Int.eq_ofNat_of_zero_le zt
      refine ⟨_, rfl, _, rfl, Pa, _, j, vI _, rfl, rfl, cn.ep, atI_nat (by rw [List.getElem?_map, cnt_get (by omega)]; rfl), ?_⟩
      refine ⟨_, _, rfl, rfl, ?_⟩
      refine ⟨Pa, _, j, j, rfl, rfl, cn.ep, ixN_nat (by rw [List.length_map, cnt_len]; omega), ?_⟩
      have cnew : Cnt H (upd _ Pa (.lst (((cnt T'.m (tabsP (ps.take i))).map vI).set j ((fun i j => V.int (i + j)) (((tabsP (ps.take i)).count (j : Int) : Nat) : Int) 1)))) T' Pa Ha _ _ := cn.addP hP ne (k := j) (by omega)
      generalize upd _ Pa (.lst (((cnt T'.m (tabsP (ps.take i))).map vI).set j ((fun i j => V.int (i + j)) (((tabsP (ps.take i)).count (j : Int) : Nat) : Int) 1))) = H5 at cnew ⊢
      refine ⟨_, rfl, rfl, _, rfl, ?_⟩
      rw [dec_non]
      cases o2 with
      | none =>
        refine iteF ⟨_, rfl, rfl, _, rfl, ?_⟩
        rw [dec_non]
        refine iteT ⟨_, rfl, rfl, _, rfl, ?_⟩
        rw [dec_non]
        refine iteF (iteF ?_)
        exact ⟨_, _, rfl, okn (okL_t (by omega)), by rw [et, er]; exact cnew.nilH⟩
      | some r =>
        refine iteT ?_
        have cn2 := cnew
        clear cnew
        refine ⟨_, rfl, _, _, rfl, rfl, _, rfl, ite2 (fun zr => ?_) (fun zr => ?_)⟩
        rotate_left
        · have zr := of_decide_eq_false (Bool.eq_false_iff.mpr zr)
          refine ⟨_, rfl, iteT ?_⟩
          exact bad _ _ hpm (fun hk => zr (hk.2.2 r rfl).1) cn2.sm
        have zr := of_decide_eq_true zr
        refine ⟨_, rfl, _, _, rfl, rfl, _, rfl, ?_⟩
        by_cases yr : r < (T'.fs.length : Int)
        rotate_left
        · refine ifY (by rw [decide_eq_false yr]; rfl) ?_
          exact bad _ _ hpm (fun hk => yr (hk.2.2 r rfl).2) cn2.sm
        refine ifN (by rw [decide_eq_true yr]; rfl) ?_
        obtain ⟨k, rfl⟩ := Int.eq_ofNat_of_zero_le zr
        refine ⟨_, rfl, _, rfl, Ha, _, k, vI _, rfl, rfl, cn2.eh, atI_nat (by rw [List.getElem?_map, cnt_get (by omega)]; rfl), ?_⟩
        refine ⟨_, _, rfl, rfl, ?_⟩
        refine ⟨Ha, _, k, k, rfl, rfl, cn2.eh, ixN_nat (by rw [List.length_map, cnt_len]; omega), ?_⟩
        have cnew : Cnt H (upd _ Ha (.lst (((cnt T'.fs.length (rgsP (ps.take i))).map vI).set k ((fun i j => V.int (i + j)) (((rgsP (ps.take i)).count (k : Int) : Nat) : Int) 1)))) T' Pa Ha _ _ := cn2.addH hH ne (k := k) (by omega)
        generalize upd _ Ha (.lst (((cnt T'.fs.length (rgsP (ps.take i))).map vI).set k ((fun i j => V.int (i + j)) (((rgsP (ps.take i)).count (k : Int) : Nat) : Int) 1))) = H6 at cnew ⊢
        refine ⟨_, rfl, rfl, _, rfl, ?_⟩
        rw [dec_non]
        refine iteT ⟨_, rfl, rfl, _, rfl, ?_⟩
        rw [dec_non]
        refine iteT ?_
        have hk : k < regs.length := by omega
        have lr6 := h.lr.keep' (.same cnew.sm)
        obtain ⟨dd, hd1, hd2⟩ := lr6.get (v := vr[k]'(by omega)) k (List.getElem?_eq_getElem _)
        obtain ⟨rg, hrg, rfl⟩ := mapAtD hd1
        obtain ⟨q1, e1, eq1⟩ := hd2.rg
        have efs : T'.fs[k]? = some rg.2.2 := by rw [h.er, List.getElem?_map, hrg]; rfl
        refine ⟨_, rfl, p, _, _, _, rfl, rfl, SqT.of (cnew.sm _ _ h.top), atI_nat (j := 2) rfl, _, rfl, b, vr, k, _, rfl, rfl, SqT.of (cnew.sm _ _ h.hr), atI_nat (List.getElem?_eq_getElem (by omega)), ?_⟩
        rw [e1]
        refine ⟨q1, _, _, _, rfl, rfl, SqT.of eq1, atI_nat (j := 2) rfl, ?_⟩
        refine ⟨_, rfl, p, _, _, _, rfl, rfl, SqT.of (cnew.sm _ _ h.top), atI_nat (j := 1) rfl, a, xs, rfl, .inr (SqT.of (cnew.sm _ _ h.hi)), _, rfl, _, _, rfl, rfl, _, rfl, _, _, rfl, rfl, rfl, _, rfl, ?_⟩
        show if (!decide (V.int ((rg.2.2 : Nat) : Int) = V.int ((xs.length : Int) + (T'.fs.length : Int) + (j : Int)))) = true then _ else _
        have eT : (T'.first : Int) = (xs.length : Int) + (T'.fs.length : Int) := by
          rw [h.li]
          unfold TabS.first
          omega
        by_cases hv : ((rg.2.2 : Nat) : Int) = T'.first + (j : Int)
        · refine ifN (by rw [decide_eq_true (by rw [hv, eT])]; rfl) ?_
          exact ⟨_, _, rfl, okn (okL_b (by omega) (by omega) efs hv), by rw [et, er]; exact cnew⟩
        · refine ifY (by rw [decide_eq_false (fun z => hv (by rw [eT]; exact V.int.inj z))]; rfl) ?_
          refine bad _ _ hpm (fun hk => ?_) cnew.sm
          obtain ⟨k', f', e1', e2', e3'⟩ := hk.1.2 _ _ rfl
          obtain rfl : k = k' := by omega
          rw [efs] at e2'
          cases e2'
          exact hv e3'
  · obtain ⟨v6, v7, rfl, okp, cn⟩ := pv
    rw [show vp.length = ps.length from lvp, List.take_length] at okp cn
    refine ⟨_, rfl, _, rfl, Pa, Ha, _, _, rfl, rfl, cn.ep, cn.eh, ?_, fun L hL => ?_⟩
    · rw [List.length_map, List.length_map, cnt_len, cnt_len]
      exact le1000 (by omega)
    rw [← List.map_append]
    have s4 := cn.sm.trans (same_new hL (.lst ((cnt T'.m (tabsP ps) ++ cnt T'.fs.length (rgsP ps)).map vI)))
    have eL := upd_same (H := H3) (a := L) (o := .lst ((cnt T'.m (tabsP ps) ++ cnt T'.fs.length (rgsP ps)).map vI))
    generalize upd H3 L (.lst ((cnt T'.m (tabsP ps) ++ cnt T'.fs.length (rgsP ps)).map vI)) = H4 at s4 eL ⊢
    refine ⟨L, rfl, ⟨_, SqL.of eL⟩, fun D hD => ?_⟩
    refine lc_rows (walk_list (xs := (cnt T'.m (tabsP ps) ++ cnt T'.fs.length (rgsP ps)).map vI)) (rows := cnt T'.m (tabsP ps) ++ cnt T'.fs.length (rgsP ps)) (f := fun n : Nat => PyData.int (n : Int)) (g := fun c => decide (c = 1)) (h := blD) (fun H' sm => SqL.of (sm _ _ eL)) hD (LayAll.ints _) (by rw [List.length_append, cnt_len, cnt_len]; omega) (fun i x c H' R Z hc sm lx k => ?_) (fun us H5 s5 eD lus => ?_)
    · obtain rfl := lx.int_inv
      refine ⟨rfl, _, rfl, rfl, k _ _ (.refl _) ?_⟩
      show Lay _ (V.bl (decide (V.int (c : Int) = V.int 1))) _
      rw [show decide (V.int (c : Int) = V.int 1) = decide (c = 1) by rw [Bool.eq_iff_iff, decide_eq_true_eq, decide_eq_true_eq, V.int.injEq]; omega]
      exact .bl _
    rw [lay_bls lus] at eD
    refine ⟨D, _, rfl, SqL.of eD, ?_⟩
    rw [← takenB_eq (T := T') (ps := ps) (b := ((cnt T'.m (tabsP ps) ++ cnt T'.fs.length (rgsP ps)).map fun c => decide (c = 1)).all id) ((all_cnt _ _ _ _).trans ⟨fun y => taken_iff.mpr ⟨okp, y⟩, fun y => (taken_iff.mp y).2⟩)]
    exact q _ (s4.trans s5)
end
end Bf

set_option Elab.async false
set_option linter.all false
set_option maxRecDepth 100000
set_option maxHeartbeats 4000000
namespace Bf
open PySem PySem.Spec PyProof.Rows L2
/-! ### the finder -/
/-- the mates by tables behind i registers -/
def Md (H : Hp) (R : Addr) (T : TabS) (i : Nat) : Prop := ∃ kvs : List (Key × V), H R = some (.dK kvs) ∧ kvs.length ≤ i ∧ ∀ t : Int, valV kvs (Sum.inl t) = (mate T i t).map vI
theorem hits_ne {T : TabS} {t : Int} {f : Nat} (e : ¬ t = (f : Int) - T.first) : hits T t f = false := by
  unfold hits
  rw [show decide ((f : Int) - T.first = t) = false from decide_eq_false (fun z => e z.symm), Bool.and_false]
theorem Md.put {H : Hp} {R : Addr} {T : TabS} {i f : Nat} {kvs : List (Key × V)} (hf : T.fs[i]? = some f) (hk : T.first ≤ f) (hl : kvs.length ≤ i) (hv : ∀ t : Int, valV kvs (Sum.inl t) = (mate T i t).map vI)
    (hn : valV kvs (Sum.inl ((f : Int) - T.first)) = none) (hR : H R = some (.dK (putK kvs (Sum.inl ((f : Int) - T.first)) (vI i)))) : Md H R T (i + 1) := by
  refine ⟨_, hR, ?_, fun t => ?_⟩
  · have := length_putK kvs (Sum.inl ((f : Int) - T.first)) (vI i)
    omega
  · rw [valV_put, mate_succ hf, hv]
    rw [hv] at hn
    by_cases e : t = (f : Int) - T.first
    · subst e
      rw [if_pos rfl]
      cases hm : mate T i ((f : Int) - T.first) with
      | some r => rw [hm] at hn; cases hn
      | none =>
        have : hits T ((f : Int) - T.first) f = true := by
          unfold hits
          rw [decide_eq_true hk, decide_eq_true rfl]
          rfl
        rw [this]
        rfl
    · rw [if_neg (fun z => e (Sum.inl.inj z))]
      have : hits T t f = false := hits_ne e
      rw [this]
      cases mate T i t <;> rfl
theorem Md.had {H : Hp} {R : Addr} {T : TabS} {i f : Nat} {kvs : List (Key × V)} (hf : T.fs[i]? = some f) (hl : kvs.length ≤ i) (hv : ∀ t : Int, valV kvs (Sum.inl t) = (mate T i t).map vI)
    (hn : ∃ v, valV kvs (Sum.inl ((f : Int) - T.first)) = some v) (hR : H R = some (.dK kvs)) : Md H R T (i + 1) := by
  refine ⟨_, hR, by omega, fun t => ?_⟩
  obtain ⟨v, hn⟩ := hn
  rw [mate_succ hf, hv]
  rw [hv] at hn
  by_cases e : t = (f : Int) - T.first
  · subst e
    cases hm : mate T i ((f : Int) - T.first) with
    | some r => rfl
    | none => rw [hm] at hn; cases hn
  · have : hits T t f = false := hits_ne e
    rw [this]
    cases mate T i t <;> rfl
theorem Md.low {H : Hp} {R : Addr} {T : TabS} {i f : Nat} (hf : T.fs[i]? = some f) (hk : ¬ T.first ≤ f) (h : Md H R T i) : Md H R T (i + 1) := by
  obtain ⟨kvs, hR, hl, hv⟩ := h
  refine ⟨_, hR, by omega, fun t => ?_⟩
  rw [mate_succ hf, hv]
  have : hits T t f = false := by
    unfold hits
    rw [decide_eq_false hk]
    rfl
  rw [this]
  cases mate T i t <;> rfl
def spPacking : Sp := fun vs H Q _ => ∃ (v : V) (T : TabS), vs = [v] ∧ TabAt H v T ∧ T.m ≤ 100 ∧ T.fs.length ≤ 100 ∧ ∀ (u : V) (H' : Hp), Same H H' → Lay H' u (.tuple ((packing T).map pkD)) → Q u H'
section
variable {P : Program} {w : World} {K : PySem.W.Frag} {mg : Str → Option Value} {base : Heap} {f : Addr} {fd : FuncData}
theorem ok_packing (F : Fun K "packing_of" "packing_of" s_packing_of f fd) (T : Txt mg) : FnOk P w K mg base CX0 1 f fd ["tables"] spPacking := by
  refine F.ok sc_packing_of (fun vs H Q E h => ?_) (fun cdv A outer s H vs Q E hr h => ?_)
  · obtain ⟨v, T', rfl, _⟩ := h
    rfl
  obtain ⟨v, T', rfl, ht, lm, lf, q⟩ := h
  refine ⟨_, (pss_cons (ps_asg (pv 0) (pg_tup rfl (pgs_cons (pg_name (i := 1) sc_packing_of.nd rfl (Or.inl rfl)) (pgs_cons (pg_name (i := 2) sc_packing_of.nd rfl (Or.inl rfl)) (pgs_cons (pg_name (i := 3) sc_packing_of.nd rfl (Or.inl rfl)) (pgs_cons (pg_name (i := 4) sc_packing_of.nd rfl (Or.inl rfl)) (pgs_cons (pg_name (i := 1) sc_packing_of.nd rfl (Or.inl rfl)) pgs_nil)))))))
      (pss_cons (ps_set (i := 5) sc_packing_of.nd rfl (Or.inl rfl) (pe_op op_add (pe_callB call_len_seq (by rfl) T.n_len (by decide +kernel) (pa_cons (pv 2) pa_nil)) (pe_callB call_len_seq (by rfl) T.n_len (by decide +kernel) (pa_cons (pv 3) pa_nil))))
      (pss_cons (ps_set (i := 6) sc_packing_of.nd rfl (Or.inr rfl) pe_dnewK)
      (pss_cons (ps_for PassesOwn.never rfl (pi_enumX (by rfl) T.n_enumerate (pa_cons (pv 3) pa_nil)) (pg_tup rfl (pgs_cons (pg_name (i := 7) sc_packing_of.nd rfl (Or.inl rfl)) (pgs_cons (pg_tup rfl (pgs_cons (pg_name (i := 1) sc_packing_of.nd rfl (Or.inl rfl)) (pgs_cons (pg_name (i := 1) sc_packing_of.nd rfl (Or.inl rfl)) (pgs_cons (pg_name (i := 8) sc_packing_of.nd rfl (Or.inl rfl)) pgs_nil)))) pgs_nil))) (pss_one (ps_if (pt_cmpR op_ge (pv 8) (pv 5) (nomark _)) (pss_one (ps_expr (pe_dsetd (pv 6) (pe_op op_sub (pv 8) (pv 5)) (pv 7) ⟨by rfl, by rfl, by rfl, by rfl⟩))) pss_nil)))
      (pss_cons (ps_setLc (i := 9) (own := [("table", 10)]) (g := (gName 10)) (tt := tYes) rfl sc_packing_of.nd rfl rfl (sw_true rfl rfl rfl (by decide +kernel)) (pi_range1 rfl T.n_range (pa_cons (pe_callB call_len_seq (by rfl) T.n_len (by decide +kernel) (pa_cons (pv 4) pa_nil)) pa_nil)) (blkOk_by (N := ["tables", "_", "inputs", "regs", "rows", "ahead", "mates", "reg", "follow", "pairs", "table"]) (sc := defScope s_packing_of) (by decide +kernel)) (fun _ _ _ _ _ => (pg_name (i := 10) sc_packing_of.nd rfl (Or.inl rfl))) (fun _ _ _ _ _ => pts_nil) (fun _ _ _ _ _ => (pe_tup (pa_cons (pv 10) (pa_cons (pe_dget1 (hu_of hr) (pv 6) (pv 10) ⟨by rfl, by rfl, by rfl, by rfl⟩) pa_nil)))))
      (pss_cons (ps_for PassesOwn.never rfl (pi_enumX (by rfl) T.n_enumerate (pa_cons (pv 3) pa_nil)) (pg_tup rfl (pgs_cons (pg_name (i := 7) sc_packing_of.nd rfl (Or.inl rfl)) (pgs_cons (pg_tup rfl (pgs_cons (pg_name (i := 1) sc_packing_of.nd rfl (Or.inl rfl)) (pgs_cons (pg_name (i := 1) sc_packing_of.nd rfl (Or.inl rfl)) (pgs_cons (pg_name (i := 8) sc_packing_of.nd rfl (Or.inl rfl)) pgs_nil)))) pgs_nil))) (pss_one (ps_if (pt_cmpR op_ne (pe_dget1 (hu_of hr) (pv 6) (pe_op op_sub (pv 8) (pv 5)) ⟨by rfl, by rfl, by rfl, by rfl⟩) (pv 7) (nomark _)) (pss_one (ps_expr (pe_bm PySem.F.plainAttrs_list PySem.F.slot_list_append PySem.F.type_list_append mt_append (pv 9) (pa_cons (pe_tup (pa_cons pe_non (pa_cons (pv 7) pa_nil))) pa_nil)))) pss_nil)))
      (pss_one (ps_ret (pe_callTy call_tuple_of (by rfl) T.n_tuple (by decide +kernel) (pa_cons (pv 9) pa_nil)))))))))), ?_⟩
  obtain ⟨p, a, b, c, d, xs, rw_, vr, regs, h⟩ := ht
  obtain rfl := h.ev
  have lvr := list_lenQ h.lr
  have elf : vr.length = T'.fs.length := by rw [lvr, h.er, List.length_map]
  refine ⟨_, rfl, p, _, rfl, SqT.of h.top, rfl, _, _, rfl, _, _, rfl, _, _, rfl, _, _, rfl, _, _, rfl, rfl, ?_⟩
  refine ⟨_, rfl, a, xs, rfl, .inr (SqT.of h.hi), _, rfl, b, vr, rfl, .inr (SqT.of h.hr), _, _, rfl, rfl, ?_⟩
  have eF : (fun i j => V.int (i + j)) (xs.length : Int) (vr.length : Int) = vI T'.first := congrArg V.int (by rw [h.li, elf]; unfold TabS.first; omega)
  refine fun R hR => ?_
  have s0 := same_new hR (.dK [])
  refine ⟨_, rfl, srcT, b, vr, rfl, SqT.of (s0 _ _ h.hr), for_it (walk_enumG srcT (xs := vr)) (fun i σ' H' => ∃ (v1 v7 v8 : Option V), σ' = [some (.ref p), v1, some (.ref a), some (.ref b), some (.ref c), some (vI T'.first), some (.ref R), v7, v8, none, none] ∧ Same H H' ∧ Md H' R T' i)
    ⟨_, _, _, by rw [← eF]; rfl, s0, [], upd_same, Nat.le_refl _, fun t => (by rw [mate_zero]; rfl)⟩ (fun i σ' H' _ pp => ?_) (fun i x σ' H2 H3 hi pp y => ?_) (fun σ' H' pp => ?_)⟩
  · obtain ⟨_, _, _, _, sm, _⟩ := pp
    exact SqT.of (sm _ _ h.hr)
  · obtain ⟨v1, v7, v8, rfl, sm, md⟩ := pp
    obtain ⟨T1, x0, y0, rfl, hT, rfl, h1, h2⟩ := y
    cases h1
    have h2 : vr[i]? = some y0 := h2
    have sT := same_new hT (.tup [V.int (i : Int), y0])
    obtain ⟨dd, hd1, hd2⟩ := (h.lr.keep' (.same (sm.trans sT))).get i h2
    obtain ⟨rg, hrg, rfl⟩ := mapAtD hd1
    obtain ⟨q1, rfl, eq1⟩ := hd2.rg
    have efs : T'.fs[i]? = some rg.2.2 := by rw [h.er, List.getElem?_map, hrg]; rfl
    refine ⟨T1, _, rfl, SqT.of upd_same, rfl, _, _, rfl, _, _, rfl, q1, _, rfl, SqT.of eq1, rfl, _, _, rfl, _, _, rfl, _, _, rfl, rfl, rfl, ?_⟩
    obtain ⟨kvs, eR, hkl, hkv⟩ := md
    have eR := sT _ _ eR
    have smT := sm.trans sT
    generalize upd H2 T1 (.tup [V.int (i : Int), V.ref q1]) = H3 at eq1 eR smT ⊢
    refine ⟨_, rfl, _, rfl, _, _, rfl, rfl, _, rfl, ite2 (fun z => ?_) (fun z => ?_)⟩
    · have z : (T'.first : Int) ≤ (rg.2.2 : Nat) := of_decide_eq_true z
      refine ⟨_, rfl, R, rfl, .inl ⟨_, .inl eR⟩, _, rfl, _, rfl, _, _, rfl, rfl, _, rfl, kvs, Sum.inl ((rg.2.2 : Int) - T'.first), eR, rfl, small1000 (by omega), fun v hv => ?_, fun hn => ?_⟩
      · exact ⟨_, _, _, rfl, smT, Md.had efs hkl hkv ⟨v, hv⟩ eR⟩
      · exact ⟨_, _, _, rfl, same_two smT hR, Md.put efs (by omega) hkl hkv hn upd_same⟩
    · have z : ¬ (T'.first : Int) ≤ (rg.2.2 : Nat) := of_decide_eq_false (Bool.eq_false_iff.mpr z)
      exact ⟨_, _, _, rfl, smT, Md.low efs (by omega) ⟨kvs, eR, hkl, hkv⟩⟩
  obtain ⟨v1, v7, v8, rfl, sm, md⟩ := pp
  rw [elf] at md
  refine ⟨_, rfl, c, rw_, rfl, .inr (SqT.of (sm _ _ h.hw)), _, rfl, by omega, by rw [h.lw]; omega, fun D hD => ?_⟩
  have hD0 := sm.free hD
  rw [show ((rw_.length : Nat) : Int).toNat = T'.m by rw [h.lw]; omega]
  refine lc_rangeL (n := T'.m) (g := fun t : Nat => ((some (t : Int), (mate T' T'.fs.length (t : Int)).map fun r : Nat => (r : Int)) : OI)) (h := pkD) hD (by omega) (fun i H2 R2 Z hi s2 k2 => ?_) (fun us H2 s2 eD lus => ?_)
  · obtain ⟨kvs, eR, hkl, hkv⟩ := md
    refine ⟨rfl, _, rfl, _, rfl, R, rfl, .inl ⟨_, .inl (s2 _ _ eR)⟩, _, rfl, _, DGet.k (k := Sum.inl (0 + (i : Int))) (s2 _ _ eR), by show 2 ≤ sizeLine; decide, fun t ht => ?_⟩
    have st := same_new ht (.tup [V.int (0 + (i : Int)), (valV kvs (Sum.inl (0 + (i : Int)))).getD .non])
    refine k2 _ _ st (.mkPk ?_)
    rw [upd_same, Int.zero_add, hkv]
    cases mate T' T'.fs.length (i : Int) <;> rfl
  have lus0 : LayAll H2 us ((packedL T' ++ loneL T' 0).map pkD) := by
    rw [show packedL T' ++ loneL T' 0 = packedL T' from List.append_nil _]
    exact lus
  have smD := sm.trans s2
  have md2 : Md H2 R T' T'.fs.length := by
    obtain ⟨kvs, eR, r⟩ := md
    exact ⟨kvs, s2 _ _ eR, r⟩
  clear lus md s2 sm
  have lR : R ≠ D := fun z => by
    obtain ⟨kvs, eR, _⟩ := md2
    rw [z, eD] at eR
    cases eR
  refine ⟨_, rfl, srcT, b, vr, rfl, SqT.of (smD _ _ h.hr), for_it (walk_enumG srcT (xs := vr)) (fun i σ' H' => ∃ (v1 v7 v8 : Option V) (us : List V), σ' = [some (.ref p), v1, some (.ref a), some (.ref b), some (.ref c), some (vI T'.first), some (.ref R), v7, v8, some (.ref D), none] ∧ Same H H' ∧ Md H' R T' T'.fs.length ∧ H' D = some (.lst us) ∧ LayAll H' us ((packedL T' ++ loneL T' i).map pkD))
    ⟨_, _, _, us, rfl, smD, md2, eD, lus0⟩ (fun i σ' H' _ pp => ?_) (fun i x σ' H2 H3 hi pp y => ?_) (fun σ' H' pp => ?_)⟩
  · obtain ⟨_, _, _, _, _, sm, _⟩ := pp
    exact SqT.of (sm _ _ h.hr)
  · clear lus0 eD md2
    obtain ⟨v1, v7, v8, us, rfl, sm, md, eD, lus⟩ := pp
    obtain ⟨T1, x0, y0, rfl, hT, rfl, h1, h2⟩ := y
    cases h1
    have h2 : vr[i]? = some y0 := h2
    have hi : i < vr.length := hi
    have sT := same_new hT (.tup [V.int (i : Int), y0])
    obtain ⟨dd, hd1, hd2⟩ := (h.lr.keep' (.same (sm.trans sT))).get i h2
    obtain ⟨rg, hrg, rfl⟩ := mapAtD hd1
    obtain ⟨q1, rfl, eq1⟩ := hd2.rg
    have efs : T'.fs[i]? = some rg.2.2 := by rw [h.er, List.getElem?_map, hrg]; rfl
    refine ⟨T1, _, rfl, SqT.of upd_same, rfl, _, _, rfl, _, _, rfl, q1, _, rfl, SqT.of eq1, rfl, _, _, rfl, _, _, rfl, _, _, rfl, rfl, rfl, ?_⟩
    obtain ⟨kvs, eR, hkl, hkv⟩ := md
    have eR := sT _ _ eR
    have eD := sT _ _ eD
    have lus := lus.keep' (.same sT)
    have smT := sm.trans sT
    generalize upd H2 T1 (.tup [V.int (i : Int), V.ref q1]) = H3 at eq1 eR eD lus smT ⊢
    refine ⟨_, rfl, R, rfl, .inl ⟨_, .inl eR⟩, _, rfl, _, rfl, _, _, rfl, rfl, _, DGet.k (k := Sum.inl ((rg.2.2 : Int) - T'.first)) eR, ?_⟩
    have eg : (valV kvs (Sum.inl ((rg.2.2 : Int) - T'.first))).getD .non = oV ((mate T' T'.fs.length ((rg.2.2 : Int) - T'.first)).map fun r : Nat => (r : Int)) := by
      rw [hkv]
      cases mate T' T'.fs.length ((rg.2.2 : Int) - T'.first) <;> rfl
    rw [eg]
    refine ⟨_, rfl, oV_scal _ (some (i : Int)), _, rfl, ?_⟩
    show if (!decide (oV _ = oV (some (i : Int)))) = true then _ else _
    rw [oV_dec]
    have elone : loneP T' i = !decide ((mate T' T'.fs.length ((rg.2.2 : Int) - T'.first)).map (fun r : Nat => (r : Int)) = some (i : Int)) := by
      unfold loneP
      rw [List.getD_eq_getElem?_getD, efs, Option.getD_some]
      cases mate T' T'.fs.length ((rg.2.2 : Int) - T'.first) with
      | none => simp
      | some r =>
        simp
        omega
    rw [← elone]
    have hlen : us.length ≤ 200 := by
      rw [list_lenQ lus, List.length_append]
      unfold packedL loneL
      rw [List.length_map, List.length_map, List.length_range]
      have := List.length_filter_le (loneP T') (List.range i)
      rw [List.length_range] at this
      omega
    cases hl : loneP T' i with
    | true =>
      refine iteT ?_
      refine ⟨_, rfl, .inl ⟨rfl, _, SqL.of eD⟩, _, rfl, by show 2 ≤ sizeLine; decide, fun t ht => ?_⟩
      have st := same_new ht (.tup [V.non, V.int (i : Int)])
      refine ⟨D, us, _, rfl, rfl, st _ _ eD, small1000 (by omega), ?_⟩
      refine ⟨_, _, _, _, rfl, same_two (smT.trans st) hD0, ⟨kvs, by rw [upd_ne lR]; exact st _ _ eR, hkl, hkv⟩, upd_same, ?_⟩
      rw [loneL_succ, hl, if_pos rfl, ← List.append_assoc, List.map_append]
      have kD : KeepT _ (upd _ D (.lst (us ++ [V.ref t]))) := KeepT.lst (st _ _ eD)
      refine ((lus.keep' (.same st)).keep' kD).snoc (.mkPk ?_)
      exact kD _ _ upd_same
    | false =>
      refine iteF ?_
      refine ⟨_, _, _, _, rfl, smT, ⟨kvs, eR, hkl, hkv⟩, eD, ?_⟩
      rw [loneL_succ, hl, if_neg (by simp), List.append_nil]
      exact lus
  · obtain ⟨v1, v7, v8, us', rfl, sm, md, eD', lus'⟩ := pp
    rw [elf] at lus'
    refine ⟨_, rfl, D, us', rfl, .inl ⟨SqL.of eD', fun t ht => ?_⟩⟩
    have st := same_new ht (.tup us')
    exact q _ _ (sm.trans st) (.tup upd_same (lus'.keep' (.same st)))
def spIsPack : Sp := fun vs H Q _ => ∃ (u : V) (ps : List OI), vs = [u] ∧ Lay H u (.tuple (ps.map pkD)) ∧ ps.length ≤ 1000 ∧ ∀ H', Same H H' → Q (.bl true) H'
theorem ok_isPack (F : Fun K "_law_is_packing" "_law_is_packing" s_law_is_packing f fd) (T : Txt mg) (D_law_is_int : Dn P w K mg base "_law_is_int" ["_law_thing"] 1 spIsInt) : FnOk P w K mg base CX0 2 f fd ["_law_told"] spIsPack := by
  refine F.ok sc_law_is_packing (fun vs H Q E h => ?_) (fun cdv A outer s H vs Q E hr h => ?_)
  · obtain ⟨u, ps, rfl, _⟩ := h
    rfl
  obtain ⟨u, ps, rfl, lu, lps, q⟩ := h
  refine ⟨_, (pss_cons (ps_if (pt_not (pt_val (pe_callB (call_isi : CallR _ _ (rIsi K)) (by rfl) T.n_isinstance (by decide +kernel) (pa_cons (pv 0) (pa_cons (pe_bltn rfl T.n_tuple (by decide +kernel) (v := .ty "tuple") rfl) pa_nil))))) (pss_one (ps_ret pe_bl)) pss_nil)
      (pss_cons (ps_for PassesOwn.never rfl (pi_tup (pv 0)) (pg_name (i := 1) sc_law_is_packing.nd rfl (Or.inl rfl)) (pss_cons (ps_if (PW.pt (pw_or (pt_not (pt_val (pe_callB (call_isi : CallR _ _ (rIsi K)) (by rfl) T.n_isinstance (by decide +kernel) (pa_cons (pv 1) (pa_cons (pe_bltn rfl T.n_tuple (by decide +kernel) (v := .ty "tuple") rfl) pa_nil))))) (pw_or1 (pt_cmpR op_ne (pe_callB call_len_seq (by rfl) T.n_len (by decide +kernel) (pa_cons (pv 1) pa_nil)) pe_int (nomark _))))) (pss_one (ps_ret pe_bl)) pss_nil)
      (pss_one (ps_if (pt_not (pt_val (pe_callB (cr_all rfl) (by rfl) T.n_all (by decide +kernel) (pa_cons (pe_lc (own := [("_law_part", 2)]) (g := (gName 2)) (tt := tYes) rfl sc_law_is_packing.nd (pi_tup (pv 1)) (blkOk_by (N := ["_law_told", "_law_pair", "_law_part"]) (sc := defScope s_law_is_packing) (by decide +kernel)) (fun _ _ _ _ _ => (pg_name (i := 2) sc_law_is_packing.nd rfl (Or.inl rfl))) (fun _ _ _ _ _ => pts_nil) (fun _ _ _ _ _ => (pe_or (pe_cmpR op_isN (pv 2) pe_non (nomark _)) (pe_one (pe_dn D_law_is_int (hr.mono (by omega)) (by rfl) (pa_cons (pv 2) pa_nil)))))) pa_nil)))) (pss_one (ps_ret pe_bl)) pss_nil))))
      (pss_one (ps_ret pe_bl)))), ?_⟩
  obtain ⟨pk, vp, rfl, ep, lp⟩ := lu.tup_inv
  refine ⟨_, rfl, _, _, .type "tuple", .type "tuple", true, rfl, .ty "tuple", .base (.tup ep), kit_ty (by decide +kernel), true, rfl, iteF ?_⟩
  refine ⟨_, rfl, pk, rfl, ⟨_, SqT.of ep⟩, for_it (walk_tup (xs := vp)) (fun i σ' H' => ∃ v1 : Option V, σ' = [some (.ref pk), v1, none] ∧ Same H H')
    ⟨_, rfl, .refl _⟩ (fun i σ' H' hi p => ?_) (fun i x σ' H2 H3 hi pp y => ?_) (fun σ' H' pp => ?_)⟩
  · obtain ⟨_, _, sm⟩ := p
    exact SqT.of (sm _ _ ep)
  · obtain ⟨v1, rfl, sm⟩ := pp
    obtain ⟨rfl, hx⟩ := y
    obtain ⟨dd, hd1, hd2⟩ := (lp.keep' (.same sm)).get i hx
    obtain ⟨⟨o1, o2⟩, hp, rfl⟩ := mapAtD hd1
    obtain ⟨q0, rfl, eq0⟩ := hd2.pk
    refine ⟨_, rfl, _, _, .type "tuple", .type "tuple", true, rfl, .ty "tuple", .base (.tup eq0), kit_ty (by decide +kernel), true, rfl, iteF ?_⟩
    refine ⟨_, rfl, q0, _, rfl, .inr (SqT.of eq0), rfl, _, rfl, iteF ?_⟩
    refine ⟨_, rfl, q0, rfl, ⟨_, SqT.of eq0⟩, fun D hD => ?_⟩
    refine lc_rows (walk_tup (xs := [oV o1, oV o2])) (rows := [o1, o2]) (f := oD) (g := fun _ => true) (h := blD) (fun H' sm => SqT.of (sm _ _ eq0)) hD (.cons (.oD _) (.cons (.oD _) .nil)) (by show 2 ≤ 1000; decide) (fun i x o H' R Z ho sm2 lx k => ?_) (fun us H5 s5 eD lus => ?_)
    · obtain rfl := lx.o_inv
      refine ⟨rfl, _, rfl, rfl, _, rfl, ?_⟩
      rw [dec_non]
      cases o with
      | none => exact iteT (k _ _ (.refl _) (.bl _))
      | some i => exact iteF ⟨_, rfl, _, rfl, k _ _ (.refl _) (.bl _)⟩
    rw [lay_bls lus] at eD
    refine ⟨D, _, rfl, SqL.of eD, true, rfl, iteF ?_⟩
    exact ⟨_, rfl, sm.trans s5⟩
  · obtain ⟨v1, rfl, sm⟩ := pp
    exact q _ sm
end
end Bf

set_option Elab.async false
set_option linter.all false
set_option maxRecDepth 100000
set_option maxHeartbeats 4000000
namespace Bf
open PySem PySem.Spec PyProof.Rows L2
/-! ### drawn tables -/
/-- a list of so many things -/
def Ln (H : Hp) (D : Addr) (n : Nat) : Prop := ∃ us : List V, H D = some (.lst us) ∧ us.length = n
theorem Ln.keep {S : List Addr} {H H' : Hp} {D : Addr} {n : Nat} (h : Ln H D n) (k : Keep S H H') (hn : D ∉ S) : Ln H' D n := let ⟨u, a, b⟩ := h; ⟨u, k _ _ hn a, b⟩
theorem Ln.same {H H' : Hp} {D : Addr} {n : Nat} (h : Ln H D n) (k : Same H H') : Ln H' D n := let ⟨u, a, b⟩ := h; ⟨u, k _ _ a, b⟩
theorem Ln.ne {H : Hp} {D R : Addr} {n : Nat} (h : Ln H D n) (hR : H R = none) : D ≠ R := fun e => by
  obtain ⟨u, a, _⟩ := h
  rw [e, hR] at a
  cases a
theorem Ln.nil {H : Hp} {D : Addr} : Ln (upd H D (.lst [])) D 0 := ⟨[], upd_same, rfl⟩
theorem Ln.push {H : Hp} {D : Addr} {n : Nat} (y : V) (h : Ln H D n) (hn : n ≤ 1000) : ∃ us, H D = some (.lst us) ∧ us.length < sizeLine ∧ Ln (upd H D (.lst (us ++ [y]))) D (n + 1) ∧ KeepT H (upd H D (.lst (us ++ [y]))) := by
  obtain ⟨u, a, b⟩ := h
  exact ⟨u, a, by rw [b]; exact small1000 hn, ⟨_, upd_same, by rw [List.length_append, b]; rfl⟩, .lst a⟩
theorem Lay.mkRg {H : Hp} {q : Addr} {r : Str × Nat × Nat} (h : H q = some (.tup [.str r.1, vI r.2.1, vI r.2.2])) : Lay H (.ref q) (rgD r) := .tup h (.cons (.str _) (.cons (.int _) (.cons (.int _) .nil)))
theorem pow2_small : ∀ s : Nat, s < 5 → (2 : Int) ^ (2 ^ s) < 1073741824 ∧ 1 ≤ (2 : Int) ^ (2 ^ s) ∧ 2 ^ s ≤ 16 := by decide
def spLow : Sp := fun vs H Q _ => ∃ (n x : Nat), vs = [vI n, vI x] ∧ n ≤ 1000 ∧ ∀ (L : Addr) (H' : Hp), Same H H' → H L = none → Ln H' L n → Q (.ref L) H'
section
variable {P : Program} {w : World} {K : PySem.W.Frag} {mg : Str → Option Value} {base : Heap} {f : Addr} {fd : FuncData}
theorem ok_low (F : Fun K "_law_low_bits" "_law_low_bits" s_law_low_bits f fd) (T : Txt mg) : FnOk P w K mg base CX0 1 f fd ["_law_size", "_law_word"] spLow := by
  refine F.ok sc_law_low_bits (fun vs H Q E h => ?_) (fun cdv A outer s H vs Q E hr h => ?_)
  · obtain ⟨n, x, rfl, _⟩ := h
    rfl
  obtain ⟨n, x, rfl, h1, q⟩ := h
  refine ⟨_, (pss_one (ps_ret (pe_lc (own := [("_law_k", 2)]) (g := (gName 2)) (tt := tYes) rfl sc_law_low_bits.nd (pi_range1 rfl T.n_range (pa_cons (pv 0) pa_nil)) (blkOk_by (N := ["_law_size", "_law_word", "_law_k"]) (sc := defScope s_law_low_bits) (by decide +kernel)) (fun _ _ _ _ _ => (pg_name (i := 2) sc_law_low_bits.nd rfl (Or.inl rfl))) (fun _ _ _ _ _ => pts_nil) (fun _ _ _ _ _ => (pe_op op_odd (pe_op op_shrN (pv 1) (pv 2)) pe_int))))), ?_⟩
  refine ⟨_, rfl, (n : Int), rfl, (i62 (by omega)).1, (i62 (by omega)).2, fun D hD => ?_⟩
  refine lc_range (lo := 0) (n := n) (fun i H' => Same H H' ∧ Ln H' D i) ⟨same_new hD _, .nil⟩ (fun i H2 hi p => ?_) (fun H2 p => q _ _ p.1 hD p.2)
  obtain ⟨sm, ln⟩ := p
  have hi : i < n := hi
  refine ⟨rfl, _, rfl, _, rfl, _, i, rfl, congrArg V.int (by omega), x / 2 ^ i, congrArg V.int (by rw [Int.natCast_ediv, Int.natCast_pow]; rfl), rfl, ?_⟩
  obtain ⟨us, e, hl, ln2, _⟩ := ln.push (.int ((x / 2 ^ i % 2 : Nat) : Int)) (by omega)
  exact ⟨us, e, hl, same_two sm hD, ln2⟩
def spTables : Sp := fun vs H Q _ => ∃ (d c : Addr) (a b m o : Nat), vs = [.ref d, vI a, vI b, vI m, vI o] ∧ DS H d c ∧ a ≤ 10 ∧ b ≤ 20 ∧ m ≤ 20 ∧ o ≤ 10 ∧
  ∀ (v : V) (T : TabS) (H' : Hp), TabAt H' v T → T.ni = a → T.fs.length = b → T.m = m → (∀ f ∈ T.fs, f < T.first + T.m) → DS H' d c → Keep [d] H H' → Q v H'
theorem ok_tables (F : Fun K "_law_tables" "_law_tables" s_law_tables f fd) (T : Txt mg) (D_law_draw : Dn P w K mg base "_law_draw" ["_law_d", "_law_many"] 1 spDraw) (D_law_pop : Dn P w K mg base "_law_pop" ["_law_d", "_law_row"] 2 spPop)
    (D_law_pool : Dn P w K mg base "_law_pool" [] 1 spPool) (D_law_low_bits : Dn P w K mg base "_law_low_bits" ["_law_size", "_law_word"] 1 spLow) :
    FnOk P w K mg base CX0 3 f fd ["_law_d", "_law_inputs", "_law_regs", "_law_many", "_law_outputs"] spTables := by
  refine F.ok sc_law_tables (fun vs H Q E h => ?_) (fun cdv A outer s H vs Q E hr h => ?_)
  · obtain ⟨d, c, a, b, m, o, rfl, _⟩ := h
    rfl
  obtain ⟨d, c, a, b, m, o, rfl, hd, ha, hb, hm, ho, q⟩ := h
  refine ⟨_, (pss_cons (ps_set (i := 5) sc_law_tables.nd rfl (Or.inr rfl) (pe_dn0 D_law_pool (hr.mono (by omega)) (by rfl)))
      (pss_cons (ps_set (i := 6) sc_law_tables.nd rfl (Or.inr rfl) (pe_op op_add (pv 1) (pv 2)))
      (pss_cons (ps_set (i := 7) sc_law_tables.nd rfl (Or.inl rfl) (pe_lst pa_nil))
      (pss_cons (ps_for PassesOwn.never rfl (pi_range1 rfl T.n_range (pa_cons (pv 3) pa_nil)) (pg_name (i := 8) sc_law_tables.nd rfl (Or.inl rfl)) (pss_cons (ps_set (i := 9) sc_law_tables.nd rfl (Or.inr rfl) (pe_listRg rfl (by rfl) T.n_list (prg_1 (by rfl) T.n_range (pe_op op_add (pv 6) (pv 8)))))
      (pss_cons (ps_set (i := 10) sc_law_tables.nd rfl (Or.inl rfl) (pe_dn D_law_draw (hr.mono (by omega)) (by rfl) (pa_cons (pv 0) (pa_cons (pe_op op_add (pe_callB (cr_minN rfl) (by rfl) T.n_min (by decide +kernel) (pa_cons pe_int (pa_cons (pe_op op_add (pv 6) (pv 8)) pa_nil))) pe_int) pa_nil))))
      (pss_cons (ps_set (i := 11) sc_law_tables.nd rfl (Or.inl rfl) (pe_callTy call_tuple_of (by rfl) T.n_tuple (by decide +kernel) (pa_cons (pe_lc (own := [("_law_j", 17)]) (g := (gName 17)) (tt := tYes) rfl sc_law_tables.nd (pi_range1 rfl T.n_range (pa_cons (pv 10) pa_nil)) (blkOk_by (N := ["_law_d", "_law_inputs", "_law_regs", "_law_many", "_law_outputs", "_law_names", "_law_first", "_law_rows", "_law_k", "_law_left", "_law_size", "_law_leaves", "_law_given", "_law_kept", "_law_after", "_law_shown", "_law_n", "_law_j"]) (sc := defScope s_law_tables) (by decide +kernel)) (fun _ _ _ _ _ => (pg_name (i := 17) sc_law_tables.nd rfl (Or.inl rfl))) (fun _ _ _ _ _ => pts_nil) (fun _ _ _ _ _ => (pe_dn D_law_pop (hr.mono (by omega)) (by rfl) (pa_cons (pv 0) (pa_cons (pv 9) pa_nil))))) pa_nil)))
      (pss_one (ps_expr (pe_bm PySem.F.plainAttrs_list PySem.F.slot_list_append PySem.F.type_list_append mt_append (pv 7) (pa_cons (pe_tup (pa_cons (pv 11) (pa_cons (pe_callTy call_tuple_of (by rfl) T.n_tuple (by decide +kernel) (pa_cons (pe_dn D_law_low_bits (hr.mono (by omega)) (by rfl) (pa_cons (pe_op op_oneShl pe_int (pv 10)) (pa_cons (pe_dn D_law_draw (hr.mono (by omega)) (by rfl) (pa_cons (pv 0) (pa_cons (pe_op op_oneShl pe_int (pe_op op_oneShl pe_int (pv 10))) pa_nil))) pa_nil))) pa_nil)) pa_nil))) pa_nil))))))))
      (pss_cons (ps_set (i := 12) sc_law_tables.nd rfl (Or.inl rfl) (pe_callTy call_tuple_of (by rfl) T.n_tuple (by decide +kernel) (pa_cons (pe_lc (own := [("_law_n", 16)]) (g := (gName 16)) (tt := tYes) rfl sc_law_tables.nd (pi_range1 rfl T.n_range (pa_cons (pv 1) pa_nil)) (blkOk_by (N := ["_law_d", "_law_inputs", "_law_regs", "_law_many", "_law_outputs", "_law_names", "_law_first", "_law_rows", "_law_k", "_law_left", "_law_size", "_law_leaves", "_law_given", "_law_kept", "_law_after", "_law_shown", "_law_n", "_law_j"]) (sc := defScope s_law_tables) (by decide +kernel)) (fun _ _ _ _ _ => (pg_name (i := 16) sc_law_tables.nd rfl (Or.inl rfl))) (fun _ _ _ _ _ => pts_nil) (fun _ _ _ _ _ => (pe_dn D_law_pop (hr.mono (by omega)) (by rfl) (pa_cons (pv 0) (pa_cons (pv 5) pa_nil))))) pa_nil)))
      (pss_cons (ps_set (i := 13) sc_law_tables.nd rfl (Or.inl rfl) (pe_lst pa_nil))
      (pss_cons (ps_for PassesOwn.never rfl (pi_range1 rfl T.n_range (pa_cons (pv 2) pa_nil)) (pg_name (i := 8) sc_law_tables.nd rfl (Or.inl rfl)) (pss_cons (ps_set (i := 14) sc_law_tables.nd rfl (Or.inl rfl) (pe_dn D_law_draw (hr.mono (by omega)) (by rfl) (pa_cons (pv 0) (pa_cons (pe_op op_add (pv 6) (pv 3)) pa_nil))))
      (C8.pss_cut (ps_if (PW.pt (pw_and (pt_cmpR op_gt (pv 3) pe_int (nomark _)) (pw_and1 (pt_cmpR op_ne (pe_dn D_law_draw (hr.mono (by omega)) (by rfl) (pa_cons (pv 0) (pa_cons pe_int pa_nil))) pe_int (nomark _))))) (pss_one (ps_set (i := 14) sc_law_tables.nd rfl (Or.inl rfl) (pe_op op_add (pv 6) (pe_dn D_law_draw (hr.mono (by omega)) (by rfl) (pa_cons (pv 0) (pa_cons (pv 3) pa_nil)))))) pss_nil)
      (pss_one (ps_expr (pe_bm PySem.F.plainAttrs_list PySem.F.slot_list_append PySem.F.type_list_append mt_append (pv 13) (pa_cons (pe_tup (pa_cons (pe_dn D_law_pop (hr.mono (by omega)) (by rfl) (pa_cons (pv 0) (pa_cons (pv 5) pa_nil))) (pa_cons (pe_dn D_law_draw (hr.mono (by omega)) (by rfl) (pa_cons (pv 0) (pa_cons pe_int pa_nil))) (pa_cons (pv 14) pa_nil)))) pa_nil)))))))
      (pss_cons (ps_set (i := 15) sc_law_tables.nd rfl (Or.inl rfl) (pe_lst pa_nil))
      (C8.pss_cut (ps_if (pt_cmpR op_gt (pe_op op_add (pv 6) (pv 3)) pe_int (nomark _)) (pss_one (ps_setLc (i := 15) (own := [("_law_n", 16)]) (g := (gName 16)) (tt := tYes) rfl sc_law_tables.nd rfl rfl (sw_true rfl rfl rfl (by decide +kernel)) (pi_range1 rfl T.n_range (pa_cons (pv 4) pa_nil)) (blkOk_by (N := ["_law_d", "_law_inputs", "_law_regs", "_law_many", "_law_outputs", "_law_names", "_law_first", "_law_rows", "_law_k", "_law_left", "_law_size", "_law_leaves", "_law_given", "_law_kept", "_law_after", "_law_shown", "_law_n", "_law_j"]) (sc := defScope s_law_tables) (by decide +kernel)) (fun _ _ _ _ _ => (pg_name (i := 16) sc_law_tables.nd rfl (Or.inl rfl))) (fun _ _ _ _ _ => pts_nil) (fun _ _ _ _ _ => (pe_tup (pa_cons (pe_dn D_law_pop (hr.mono (by omega)) (by rfl) (pa_cons (pv 0) (pa_cons (pv 5) pa_nil))) (pa_cons (pe_dn D_law_draw (hr.mono (by omega)) (by rfl) (pa_cons (pv 0) (pa_cons (pe_op op_add (pv 6) (pv 3)) pa_nil))) pa_nil)))))) pss_nil)
      (pss_one (ps_ret (pe_tup (pa_cons pe_str (pa_cons (pv 12) (pa_cons (pe_callTy call_tuple_of (by rfl) T.n_tuple (by decide +kernel) (pa_cons (pv 13) pa_nil)) (pa_cons (pe_callTy call_tuple_of (by rfl) T.n_tuple (by decide +kernel) (pa_cons (pv 7) pa_nil)) (pa_cons (pe_callTy call_tuple_of (by rfl) T.n_tuple (by decide +kernel) (pa_cons (pv 15) pa_nil)) pa_nil))))))))))))))))), ?_⟩
  refine ⟨rfl, fun pn xs hpn hx => ?_⟩
  have hd1 := hd.same (same_new hpn (.lst (xs.map V.str)))
  obtain ⟨nnd, nnc⟩ := hd.new hpn
  have hn1 : Nms (upd H pn (.lst (xs.map V.str))) pn 61 := ⟨_, upd_same, fun v hv => (let ⟨z, _, e⟩ := List.mem_map.mp hv; ⟨z, e.symm⟩), by rw [List.length_map, hx]⟩
  have k1 : Keep [d] H (upd H pn (.lst (xs.map V.str))) := Keep.new hpn
  generalize upd H pn (.lst (xs.map V.str)) = H1 at hd1 hn1 k1 ⊢
  refine ⟨_, rfl, _, rfl, _, _, rfl, rfl, ?_⟩
  have eF : (fun i j => V.int (i + j)) (a : Int) (b : Int) = vI (a + b) := congrArg V.int (by omega)
  refine ⟨Nat.zero_le _, fun Rw hRw => ?_⟩
  have fRw : H Rw = none := k1.free hRw (by simp; exact fun z => by rw [z] at hRw; obtain ⟨_, e⟩ := hd1.at_; rw [e] at hRw; cases hRw)
  obtain ⟨rwd, rwc⟩ := hd1.new hRw
  have rwn : Rw ≠ pn := let ⟨x, e, _⟩ := hn1; (ne_of_none e hRw).symm
  refine ⟨_, rfl, (m : Int), rfl, (i62 (by omega)).1, (i62 (by omega)).2, for_it walk_range (fun i σ' H' => ∃ v8 v9 v10 v11 : Option V, σ' = [some (.ref d), some (vI a), some (vI b), some (vI m), some (vI o), some (.ref pn), some (vI (a + b)), some (.ref Rw), v8, v9, v10, v11, none, none, none, none, none, none] ∧
      DS H' d c ∧ Nms H' pn 61 ∧ Ln H' Rw i ∧ Keep [d] H H')
    ⟨_, _, _, _, by rw [← eF]; rfl, hd1.same (same_new hRw _), hn1.same (same_new hRw _), .nil, k1.trans (Keep.new hRw)⟩ (fun _ _ _ _ _ => trivial) (fun i x σ' H' H3 hi pv y => ?_) (fun σ' H2 pv => ?_)⟩
  · obtain ⟨v8, v9, v10, v11, rfl, hd2, hn2, ln, k2⟩ := pv
    obtain ⟨rfl, rfl⟩ := y
    have hi : i < m := by omega
    refine ⟨_, rfl, _, rfl, _, _, rfl, rfl, _, rfl, ⟨by omega, by omega, by omega, by omega, by omega⟩, fun L hL => ?_⟩
    have sL := same_new hL (.lst (rgV 0 (((a + b : Nat) : Int) + (0 + (i : Int)))))
    have lnL : Ln (upd H3 L (.lst (rgV 0 (((a + b : Nat) : Int) + (0 + (i : Int)))))) L (a + b + i) := ⟨_, upd_same, by rw [rgV_length]; omega⟩
    obtain ⟨nLd, nLc⟩ := hd2.new hL
    have nLn : L ≠ pn := let ⟨x, e, _⟩ := hn2; (ne_of_none e hL).symm
    have nLR : L ≠ Rw := (ln.ne hL).symm
    have fL : H L = none := k2.free hL (by simp [nLd])
    replace hd2 := hd2.same sL
    replace hn2 := hn2.same sL
    replace ln := ln.same sL
    replace k2 := k2.trans (.of_same sL)
    generalize upd H3 L (.lst (rgV 0 (((a + b : Nat) : Int) + (0 + (i : Int))))) = H4 at hd2 hn2 ln k2 lnL ⊢
    have e4 : (fun i j => V.int (i + j)) ((a + b : Nat) : Int) (0 + (i : Int)) = vI (a + b + i) := congrArg V.int (by omega)
    refine ⟨_, rfl, _, rfl, _, rfl, _, _, rfl, rfl, 4, a + b + i, by rw [e4]; rfl, _, _, rfl, rfl, d, c, _, rfl, hd2, by omega, by omega, fun r H5 r0 r1 hd5 k5 => ?_⟩
    obtain ⟨s, rfl⟩ := Int.eq_ofNat_of_zero_le r0
    have hs4 : s ≤ 4 ∧ s ≤ a + b + i := by omega
    have ln5 := ln.keep k5 (by simp [rwd])
    have hn5 := hn2.keep k5 (by simp [nnd])
    have lnL5 := lnL.keep k5 (by simp [nLd])
    have k25 := k2.trans k5
    clear hd2 hn2 ln k2 lnL k5
    refine ⟨_, rfl, (s : Int), rfl, (i62 (by omega)).1, (i62 (by omega)).2, fun D hD => ?_⟩
    obtain ⟨nDd, nDc⟩ := hd5.new hD
    have nDL : D ≠ L := (lnL5.ne hD).symm
    have nDR : D ≠ Rw := (ln5.ne hD).symm
    have nDn : D ≠ pn := let ⟨x, e, _⟩ := hn5; (ne_of_none e hD).symm
    have fD : H D = none := k25.free hD (by simp [nDd])
    refine lc_range (lo := 0) (n := s) (fun j H' => DS H' d c ∧ Ln H' L (a + b + i - j) ∧ Ln H' D j ∧ Keep [d, L] H5 H')
      ⟨hd5.same (same_new hD _), lnL5.same (same_new hD _), .nil, Keep.new hD⟩ (fun j H6 hj p => ?_) (fun H6 p => ?_)
    · obtain ⟨hd6, ⟨zs, hz, hzl⟩, lD, k6⟩ := p
      have hj : j < s := hj
      refine ⟨rfl, _, rfl, _, rfl, d, c, L, zs, rfl, hd6, hz, nLd, nLc, by omega, by omega, fun n y H7 hy hd7 hz7 k7 => ?_⟩
      obtain ⟨us, e, hlen, lD8, _⟩ := (lD.keep k7 (by simp [nDd, nDL])).push y (by omega)
      refine ⟨us, e, hlen, hd7.keep (S := [D]) Keep.at1 (by simp [nDd.symm]) (by simp [nDc.symm]), ⟨zs.eraseIdx n, ?_, ?_⟩, lD8, ?_⟩
      · rw [upd_ne nDL.symm]; exact hz7
      · rw [List.length_eraseIdx, if_pos (List.getElem?_eq_some_iff.mp hy).1]; omega
      · exact ((k6.cat k7).cat .at1).thin (by simp [hD])
    obtain ⟨hd6, lL6, ⟨us, eD, hus⟩, k6⟩ := p
    refine ⟨D, us, rfl, .inl ⟨SqL.of eD, fun t ht => ?_⟩⟩
    have st := same_new ht (.tup us)
    replace hd6 := hd6.same st
    have ln6 := (ln5.keep k6 (by simp [rwd, nLR.symm])).same st
    have hn6 := (hn5.keep k6 (by simp [nnd, nLn.symm])).same st
    have k26 := (k25.cat k6).cat (.sm st)
    generalize upd H6 t (.tup us) = H7 at hd6 ln6 hn6 k26 ⊢
    clear ln5 hn5 lnL5 k25 hd5 eD lL6 st ht
    obtain ⟨ur, eRw, hur⟩ := ln6
    obtain ⟨p1, p2, p3⟩ := pow2_small s (by omega)
    refine ⟨_, rfl, .inl ⟨rfl, _, SqL.of eRw⟩, _, rfl, _, rfl, s, rfl, rfl, by omega, _, rfl, _, rfl, s, rfl, rfl, by omega, 2 ^ s, rfl, congrArg V.int (by rw [Int.natCast_pow]; rfl), by omega, d, c, _, rfl, hd6, p2, p1, fun r H8 r0 r1 hd8 k8 => ?_⟩
    obtain ⟨x, rfl⟩ := Int.eq_ofNat_of_zero_le r0
    refine ⟨2 ^ s, x, congrArg (fun z => [V.int z, vI x]) (by rw [Int.natCast_pow]; rfl), by omega, fun LL H9 s9 fLL lnLL => ?_⟩
    obtain ⟨ul, eul, _⟩ := lnLL
    refine ⟨LL, ul, rfl, .inl ⟨SqL.of eul, fun t2 ht2 => ?_⟩⟩
    have st2 := same_new ht2 (.tup ul)
    refine ⟨by show 2 ≤ sizeLine; decide, fun t3 ht3 => ?_⟩
    have st3 := same_new ht3 (.tup [.ref t, .ref t2])
    have s89 := (s9.trans st2).trans st3
    obtain ⟨ur', eRw', hlen, ln9, _⟩ := ((Ln.keep (n := i) ⟨ur, eRw, hur⟩ k8 (by simp [rwd])).same s89).push (.ref t3) (by omega)
    refine ⟨Rw, ur', _, rfl, rfl, eRw', hlen, _, _, _, _, rfl, (hd8.same s89).keep (S := [Rw]) Keep.at1 (by simp [rwd.symm]) (by simp [rwc.symm]), ((hn6.keep k8 (by simp [nnd])).same s89).keep (S := [Rw]) Keep.at1 (by simp [rwn.symm]), ln9, ?_⟩
    exact (((k26.cat k8).cat (.sm s89)).cat .at1).thin (by simp [fL, fRw])
  obtain ⟨v8, v9, v10, v11, rfl, hd2, hn2, ln2, k2⟩ := pv
  clear hd1 hn1 k1
  -- the inputs
  refine ⟨_, rfl, (a : Int), rfl, (i62 (by omega)).1, (i62 (by omega)).2, fun D hD => ?_⟩
  obtain ⟨nDd, nDc⟩ := hd2.new hD
  have nDR : D ≠ Rw := (ln2.ne hD).symm
  have nDn : D ≠ pn := let ⟨x, e, _⟩ := hn2; (ne_of_none e hD).symm
  refine lc_range (lo := 0) (n := a) (fun i H' => DS H' d c ∧ Ln H' D i ∧ Nms H' pn (61 - i) ∧ Keep [d, pn] H2 H')
    ⟨hd2.same (same_new hD _), .nil, hn2.same (same_new hD _), Keep.new hD⟩ (fun i H3 hi p => ?_) (fun H3 p => ?_)
  · obtain ⟨hd3, lD, ⟨names, hn, hz, h61'⟩, k3⟩ := p
    have hi : i < a := hi
    refine ⟨rfl, _, rfl, _, rfl, d, c, pn, names, rfl, hd3, hn, nnd, nnc, by omega, by omega, fun j y H4 hy hd4 hn4 k4 => ?_⟩
    obtain ⟨us, e, hlen, lD5, _⟩ := (lD.keep k4 (by simp [nDd, nDn])).push y (by omega)
    refine ⟨us, e, hlen, hd4.keep (S := [D]) Keep.at1 (by simp [nDd.symm]) (by simp [nDc.symm]), lD5, ⟨names.eraseIdx j, ?_, fun v hv => hz v (List.mem_of_mem_eraseIdx hv), ?_⟩, ?_⟩
    · rw [upd_ne nDn.symm]; exact hn4
    · rw [List.length_eraseIdx, if_pos (List.getElem?_eq_some_iff.mp hy).1]; omega
    · exact ((k3.cat k4).cat .at1).thin (by simp [hD])
  obtain ⟨hd3, ⟨us, eD, hus⟩, hn3, k3⟩ := p
  refine ⟨D, us, rfl, .inl ⟨SqL.of eD, fun pi hpi => ?_⟩⟩
  have st := same_new hpi (.tup us)
  replace hd3 := hd3.same st
  replace hn3 := hn3.same st
  have ln3 := (ln2.keep k3 (by simp [rwd, rwn])).same st
  have k23 : Keep [d, pn] H (upd H3 pi (.tup us)) := ((k2.cat k3).cat (.sm st)).thin (by simp)
  have epi := upd_same (H := H3) (a := pi) (o := .tup us)
  generalize upd H3 pi (.tup us) = H4 at hd3 hn3 ln3 k23 epi ⊢
  clear hd2 hn2 ln2 k2 eD k3 st hpi hD
  -- the regs
  refine ⟨Nat.zero_le _, fun Kp hKp => ?_⟩
  have sK := same_new hKp (.lst [])
  obtain ⟨kpd, kpc⟩ := hd3.new hKp
  have kpR : Kp ≠ Rw := (ln3.ne hKp).symm
  have kpn : Kp ≠ pn := let ⟨x, e, _⟩ := hn3; (ne_of_none e hKp).symm
  have fK : H Kp = none := k23.free hKp (by simp [kpd, kpn])
  refine ⟨_, rfl, (b : Int), rfl, (i62 (by omega)).1, (i62 (by omega)).2, for_it walk_range (fun i σ' H' => ∃ (v8 v14 : Option V) (acc : List (Str × Nat × Nat)), σ' = [some (.ref d), some (vI a), some (vI b), some (vI m), some (vI o), some (.ref pn), some (vI (a + b)), some (.ref Rw), v8, v9, v10, v11, some (.ref pi), some (.ref Kp), v14, none, none, none] ∧
      DS H' d c ∧ Nms H' pn (61 - a - i) ∧ Ln H' Rw m ∧ H' pi = some (.tup us) ∧ Acc Kp rgD acc H' ∧ acc.length = i ∧ (∀ r ∈ acc, r.2.2 < a + b + m) ∧ Keep [d, pn] H H')
    ⟨_, _, [], rfl, hd3.same sK, hn3.same sK, ln3.same sK, sK _ _ epi, .nil, rfl, fun r hr => (by cases hr), k23.trans (Keep.new hKp)⟩ (fun _ _ _ _ _ => trivial) (fun i x σ' H' H5 hi pv y => ?_) (fun σ' H5 pv => ?_)⟩
  · obtain ⟨v8', v14, acc, rfl, hd5, hn5, ln5, ep5, hA, hal, hab, k5⟩ := pv
    obtain ⟨rfl, rfl⟩ := y
    have hi : i < b := by omega
    refine ⟨_, rfl, _, rfl, _, rfl, _, _, rfl, rfl, d, c, _, rfl, hd5, by omega, by omega, fun r H6 r0 r1 hd6 k6 => ?_⟩
    obtain ⟨af, rfl⟩ := Int.eq_ofNat_of_zero_le r0
    have t6 := k6.tup1 hd5
    have hn6 := hn5.keep k6 (by simp [nnd])
    have ln6 := ln5.keep k6 (by simp [rwd])
    have ep6 := t6 _ _ ep5
    have hA6 := hA.keep k6 t6 (by simp [kpd])
    have k56 : Keep [d, pn] H H6 := (k5.cat k6).thin (by simp)
    clear hn5 ln5 ep5 hA k5 t6 k6 hd5
    refine ⟨fun σ' H' => ∃ af : Nat, σ' = [some (.ref d), some (vI a), some (vI b), some (vI m), some (vI o), some (.ref pn), some (vI (a + b)), some (.ref Rw), some (.int (0 + (i : Int))), v9, v10, v11, some (.ref pi), some (.ref Kp), some (vI af), none, none, none] ∧
      af < a + b + m ∧ DS H' d c ∧ Nms H' pn (61 - a - i) ∧ Ln H' Rw m ∧ H' pi = some (.tup us) ∧ Acc Kp rgD acc H' ∧ Keep [d, pn] H H', ?_, ?_⟩
    · refine ⟨_, rfl, _, _, rfl, rfl, _, rfl, ite2 (fun z => ?_) (fun z => ?_)⟩
      · have z : (0 : Int) < (m : Int) := of_decide_eq_true z
        refine ⟨_, rfl, d, c, 4, rfl, hd6, by decide, by decide, fun r H7 r0 r2 hd7 k7 => ?_⟩
        have t7 := k7.tup1 hd6
        have hn7 := hn6.keep k7 (by simp [nnd])
        have ln7 := ln6.keep k7 (by simp [rwd])
        have hA7 := hA6.keep k7 t7 (by simp [kpd])
        have k57 : Keep [d, pn] H H7 := (k56.cat k7).thin (by simp)
        refine ⟨rfl, _, rfl, ite2 (fun z2 => ?_) (fun z2 => ?_)⟩
        · refine ⟨_, rfl, _, rfl, _, rfl, d, c, _, rfl, hd7, by omega, by omega, fun r H8 r3 r4 hd8 k8 => ?_⟩
          obtain ⟨t, rfl⟩ := Int.eq_ofNat_of_zero_le r3
          refine ⟨_, _, rfl, rfl, a + b + t, ?_, by omega, hd8, hn7.keep k8 (by simp [nnd]), ln7.keep k8 (by simp [rwd]), k8.tup1 hd7 _ _ (t7 _ _ ep6), hA7.keep k8 (k8.tup1 hd7) (by simp [kpd]), (k57.cat k8).thin (by simp)⟩
          show [_, _, _, _, _, _, _, _, _, _, _, _, _, _, some (V.int (((a + b : Nat) : Int) + (t : Int))), _, _, _] = _
          rw [show V.int (((a + b : Nat) : Int) + (t : Int)) = vI (a + b + t) from congrArg V.int (by omega)]
        · exact ⟨af, rfl, by omega, hd7, hn7, ln7, t7 _ _ ep6, hA7, k57⟩
      · refine iteF ⟨af, rfl, by omega, hd6, hn6, ln6, ep6, hA6, k56⟩
    rintro σ' H7 ⟨af, rfl, haf, hd7, ⟨names, hn, hz, h61'⟩, ln7, ep7, hA7, k7⟩
    refine ⟨_, rfl, .inl ⟨rfl, hA7.at_.imp fun _ e => SqL.of e⟩, _, rfl, _, rfl, d, c, pn, names, rfl, hd7, hn, nnd, nnc, by omega, by omega, fun j y H8 hy hd8 hn8 k8 => ?_⟩
    obtain ⟨z, rfl⟩ := hz y (List.mem_of_getElem? hy)
    have t8 := k8.tup2 hd7 hn
    refine ⟨_, rfl, d, c, 2, rfl, hd8, by decide, by decide, fun r H9 r0 r2 hd9 k9 => ?_⟩
    obtain ⟨st, rfl⟩ := Int.eq_ofNat_of_zero_le r0
    have t9 := k9.tup1 hd8
    refine ⟨_, rfl, by show 3 ≤ sizeLine; decide, fun t ht => ?_⟩
    have s10 := same_new ht (.tup [.str z, vI st, vI af])
    have hA10 := ((hA7.keep k8 t8 (by simp [kpd, kpn])).keep k9 t9 (by simp [kpd])).same s10
    obtain ⟨vs, e, hlen, hA11, t11⟩ := hA10.push (x := (z, st, af)) (.mkRg upd_same) (by omega)
    refine ⟨Kp, vs, _, rfl, rfl, e, hlen, _, _, acc ++ [(z, st, af)], rfl, (hd9.same s10).keep (S := [Kp]) Keep.at1 (by simp [kpd.symm]) (by simp [kpc.symm]), ?_, ?_, ?_, hA11, by rw [List.length_append, hal]; rfl, fun r hr => ?_, ?_⟩
    · have hn9 : Nms H8 pn (61 - a - (i + 1)) := ⟨names.eraseIdx j, hn8, fun v hv => hz v (List.mem_of_mem_eraseIdx hv), by rw [List.length_eraseIdx, if_pos (List.getElem?_eq_some_iff.mp hy).1]; omega⟩
      exact ((hn9.keep k9 (by simp [nnd])).same s10).keep (S := [Kp]) Keep.at1 (by simp [kpn.symm])
    · exact (((ln7.keep k8 (by simp [rwd, rwn])).keep k9 (by simp [rwd])).same s10).keep (S := [Kp]) Keep.at1 (by simp [kpR.symm])
    · exact t11 _ _ (s10 _ _ (t9 _ _ (t8 _ _ ep7)))
    · rcases List.mem_append.mp hr with h | h
      · exact hab r h
      · rw [List.mem_singleton.mp h]
        exact haf
    · exact ((((k7.cat k8).cat k9).cat (.sm s10)).cat .at1).thin (by simp [fK])
  obtain ⟨v8', v14, acc, rfl, hd5, hn5, ln5, ep5, hA, hal, hab, k5⟩ := pv
  clear epi fK hn3 ln3 hd3 sK
  refine ⟨Nat.zero_le _, fun Sh hSh => ?_⟩
  have sS := same_new hSh (.lst [])
  replace hd5 := hd5.same sS
  replace hn5 := hn5.same sS
  replace ln5 := ln5.same sS
  replace ep5 := sS _ _ ep5
  replace hA := hA.same sS
  replace k5 := k5.trans (.of_same sS)
  have lS : Ln (upd H5 Sh (.lst [])) Sh 0 := .nil
  generalize upd H5 Sh (.lst []) = H6 at hd5 hn5 ln5 ep5 hA k5 lS ⊢
  refine ⟨fun σ' H' => ∃ (v16 v17 : Option V) (S : Addr) (n : Nat), σ' = [some (.ref d), some (vI a), some (vI b), some (vI m), some (vI o), some (.ref pn), some (vI (a + b)), some (.ref Rw), v8', v9, v10, v11, some (.ref pi), some (.ref Kp), v14, some (.ref S), v16, v17] ∧
      DS H' d c ∧ Ln H' Rw m ∧ H' pi = some (.tup us) ∧ Acc Kp rgD acc H' ∧ Ln H' S n ∧ Keep [d, pn] H H', ?_, ?_⟩
  · refine ⟨_, rfl, _, rfl, _, _, rfl, rfl, _, _, rfl, rfl, _, rfl, ite2 (fun z => ?_) (fun z => ?_)⟩
    · have z : (0 : Int) < ((a + b : Nat) : Int) + (m : Int) := of_decide_eq_true z
      refine ⟨_, rfl, (o : Int), rfl, (i62 (by omega)).1, (i62 (by omega)).2, fun D hD => ?_⟩
      obtain ⟨nDd, nDc⟩ := hd5.new hD
      have nDR : D ≠ Rw := (ln5.ne hD).symm
      have nDn : D ≠ pn := let ⟨x, e, _⟩ := hn5; (ne_of_none e hD).symm
      have nDK : D ≠ Kp := let ⟨x, e⟩ := hA.at_; (ne_of_none e hD).symm
      have fD : H D = none := k5.free hD (by simp [nDd, nDn])
      refine lc_range (lo := 0) (n := o) (fun i H' => DS H' d c ∧ Nms H' pn (61 - a - b - i) ∧ Ln H' Rw m ∧ H' pi = some (.tup us) ∧ Acc Kp rgD acc H' ∧ Ln H' D i ∧ Keep [d, pn] H H')
        ⟨hd5.same (same_new hD _), hn5.same (same_new hD _), ln5.same (same_new hD _), same_new hD _ _ _ ep5, hA.same (same_new hD _), .nil, k5.trans (Keep.new hD)⟩ (fun i H7 hi p => ?_) (fun H7 p => ?_)
      · obtain ⟨hd7, ⟨names, hn, hz, h61'⟩, ln7, ep7, hA7, lD, k7⟩ := p
        have hi : i < o := hi
        refine ⟨rfl, _, rfl, _, rfl, d, c, pn, names, rfl, hd7, hn, nnd, nnc, by omega, by omega, fun j y H8 hy hd8 hn8 k8 => ?_⟩
        have t8 := k8.tup2 hd7 hn
        refine ⟨_, rfl, _, rfl, _, rfl, _, _, rfl, rfl, d, c, _, rfl, hd8, by omega, by omega, fun r H9 r0 r2 hd9 k9 => ?_⟩
        have t9 := k9.tup1 hd8
        refine ⟨by show 2 ≤ sizeLine; decide, fun t ht => ?_⟩
        have s10 := same_new ht (.tup [y, .int r])
        obtain ⟨ud, e, hlen, lD10, t10⟩ := (((lD.keep k8 (by simp [nDd, nDn])).keep k9 (by simp [nDd])).same s10).push (.ref t) (by omega)
        refine ⟨ud, e, hlen, (hd9.same s10).keep (S := [D]) Keep.at1 (by simp [nDd.symm]) (by simp [nDc.symm]), ?_, ?_, ?_, ?_, lD10, ?_⟩
        · have hn9 : Nms H8 pn (61 - a - b - (i + 1)) := ⟨names.eraseIdx j, hn8, fun v hv => hz v (List.mem_of_mem_eraseIdx hv), by rw [List.length_eraseIdx, if_pos (List.getElem?_eq_some_iff.mp hy).1]; omega⟩
          exact ((hn9.keep k9 (by simp [nnd])).same s10).keep (S := [D]) Keep.at1 (by simp [nDn.symm])
        · exact (((ln7.keep k8 (by simp [rwd, rwn])).keep k9 (by simp [rwd])).same s10).keep (S := [D]) Keep.at1 (by simp [nDR.symm])
        · exact t10 _ _ (s10 _ _ (t9 _ _ (t8 _ _ ep7)))
        · exact (((hA7.keep k8 t8 (by simp [kpd, kpn])).keep k9 t9 (by simp [kpd])).same s10).keep (S := [D]) Keep.at1 t10 (by simp [nDK.symm])
        · exact ((((k7.cat k8).cat k9).cat (.sm s10)).cat .at1).thin (by simp [fD])
      obtain ⟨hd7, hn7, ln7, ep7, hA7, lD, k7⟩ := p
      exact ⟨_, _, D, o, rfl, hd7, ln7, ep7, hA7, lD, k7⟩
    · exact ⟨_, _, Sh, 0, rfl, hd5, ln5, ep5, hA, lS, k5⟩
  rintro σ' H7 ⟨v16, v17, S, n, rfl, hd7, ⟨ur, eR, hur⟩, ep7, ⟨vk, eK, lK⟩, ⟨uS, eS, _⟩, k7⟩
  refine ⟨_, rfl, _, rfl, Kp, vk, rfl, .inl ⟨SqL.of eK, fun tk htk => ?_⟩⟩
  have s8 := same_new htk (.tup vk)
  refine ⟨_, rfl, Rw, ur, rfl, .inl ⟨SqL.of (s8 _ _ eR), fun tr htr => ?_⟩⟩
  have s9 := s8.trans (same_new htr (.tup ur))
  refine ⟨_, rfl, S, uS, rfl, .inl ⟨SqL.of (s9 _ _ eS), fun ts hts => ?_⟩⟩
  have s10 := s9.trans (same_new hts (.tup uS))
  refine ⟨by show 5 ≤ sizeLine; decide, fun tp htp => ?_⟩
  have sA := (same_new htr (.tup ur)).trans ((same_new hts (.tup uS)).trans (same_new htp (.tup [.str "tables", .ref pi, .ref tk, .ref tr, .ref ts])))
  have sB := (same_new hts (.tup uS)).trans (same_new htp (.tup [.str "tables", .ref pi, .ref tk, .ref tr, .ref ts]))
  have s11 := s10.trans (same_new htp (.tup [.str "tables", .ref pi, .ref tk, .ref tr, .ref ts]))
  refine q (.ref tp) ⟨a, acc.map fun r => r.2.2, m⟩ _ ⟨tp, pi, tk, tr, .ref ts, us, ur, vk, acc, ⟨upd_same, s11 _ _ ep7, hus, sA _ _ upd_same, lK.keep' (.same s11), rfl, sB _ _ upd_same, hur, rfl⟩⟩ rfl (by rw [List.length_map]; exact hal) rfl (fun f hf => ?_) (hd7.same s11) ?_
  · obtain ⟨r, hr, rfl⟩ := List.mem_map.mp hf
    have := hab r hr
    show _ < a + (acc.map _).length + m
    rw [List.length_map, hal]
    exact this
  · exact (k7.cat (.sm s11)).thin (by simp [hpn])
end
end Bf

set_option Elab.async false
set_option linter.all false
set_option maxRecDepth 100000
set_option maxHeartbeats 4000000
namespace Bf
open PySem PySem.Spec PyProof.Rows L2
/-! ### the law's own packing -/
theorem LayAll.perm {H : Hp} {α : Type} {f : α → PyData} {xs ys : List V} (p : ys.Perm xs) : ∀ {ps : List α}, LayAll H xs (ps.map f) → ∃ qs : List α, qs.Perm ps ∧ LayAll H ys (qs.map f) := by
  induction p with
  | nil =>
    intro ps h
    cases ps with
    | nil => exact ⟨[], .refl _, .nil⟩
    | cons _ _ => cases h
  | cons x _ ih =>
    intro ps h
    cases ps with
    | nil => cases h
    | cons q ps =>
      cases h with
      | cons a b =>
        obtain ⟨qs, h1, h2⟩ := ih b
        exact ⟨q :: qs, h1.cons q, .cons a h2⟩
  | swap x y l =>
    intro ps h
    match ps, h with
    | [], h => cases h
    | [q], .cons a b => cases b
    | q :: r :: ps, .cons a (.cons b e) => exact ⟨r :: q :: ps, .swap q r ps, .cons b (.cons a e)⟩
  | trans _ _ ih1 ih2 =>
    intro ps h
    obtain ⟨q1, h1, l1⟩ := ih2 h
    obtain ⟨q2, h2, l2⟩ := ih1 l1
    exact ⟨q2, h2.trans h1, l2⟩
theorem ints_perm {ys : List V} {ns : List Int} (p : ys.Perm (ns.map V.int)) : ∃ ts : List Int, ys = ts.map V.int ∧ ts.Perm ns := by
  let g : V → Option Int := fun | .int i => some i | _ => none
  have hg : ∀ l : List Int, (l.map V.int).filterMap g = l := fun l => by
    rw [List.filterMap_map, show g ∘ V.int = some from rfl, List.filterMap_some]
  refine ⟨ys.filterMap g, ?_, by have := p.filterMap g; rwa [hg] at this⟩
  have : ∀ l : List V, (∀ y ∈ l, ∃ i, y = V.int i) → l = (l.filterMap g).map V.int := by
    intro l
    induction l with
    | nil => intro _; rfl
    | cons y l ih =>
      intro h
      obtain ⟨i, rfl⟩ := h y (by simp)
      rw [List.filterMap_cons_some (f := g) (b := i) rfl, List.map_cons, ← ih fun z hz => h z (by simp [hz])]
  exact this ys fun y hy => by
    obtain ⟨i, _, e⟩ := List.mem_map.mp (p.mem_iff.mp hy)
    exact ⟨i, e.symm⟩
theorem cast_erase (k : Nat) : ∀ l : List Nat, (l.map fun n : Nat => (n : Int)).erase (k : Int) = (l.erase k).map fun n : Nat => (n : Int)
  | [] => rfl
  | n :: l => by
    rw [List.map_cons, List.erase_cons, List.erase_cons]
    by_cases e : n = k
    · subst e
      rw [if_pos (by simp), if_pos (by simp)]
    · rw [if_neg (by simp; omega), if_neg (by simp [e]), List.map_cons, cast_erase k l]
theorem cast_vI (l : List Nat) : (l.map fun n : Nat => (n : Int)).map V.int = l.map vI := by rw [List.map_map]; rfl
def spLPack : Sp := fun vs H Q _ => ∃ (d c : Addr) (v : V) (T : TabS), vs = [.ref d, v] ∧ DS H d c ∧ TabAt H v T ∧ T.m ≤ 20 ∧ T.fs.length ≤ 20 ∧
  ∀ (u : V) (ps : List OI) (H' : Hp), Lay H' u (.tuple (ps.map pkD)) → Taken T ps → ps.length ≤ 40 → DS H' d c → Keep [d] H H' → Q u H'
section
variable {P : Program} {w : World} {K : PySem.W.Frag} {mg : Str → Option Value} {base : Heap} {f : Addr} {fd : FuncData}
theorem ok_lpack (F : Fun K "_law_packing" "_law_packing" s_law_packing f fd) (T : Txt mg) (D_law_draw : Dn P w K mg base "_law_draw" ["_law_d", "_law_many"] 1 spDraw) (D_law_shuffled : Dn P w K mg base "_law_shuffled" ["_law_d", "_law_row"] 2 (spShuf K))
    (D_law_pick : Dn P w K mg base "_law_pick" ["_law_d", "_law_row"] 2 (spPick K)) : FnOk P w K mg base CX0 3 f fd ["_law_d", "_law_tables_here"] spLPack := by
  refine F.ok sc_law_packing (fun vs H Q E h => ?_) (fun cdv A outer s H vs Q E hr h => ?_)
  · obtain ⟨d, c, v, T', rfl, _⟩ := h
    rfl
  obtain ⟨d, c, v, T', rfl, hd, ht, lm, lf, q⟩ := h
  refine ⟨_, (pss_cons (ps_set (i := 2) sc_law_packing.nd rfl (Or.inr rfl) (pe_op op_add (pe_callB call_len_seq (by rfl) T.n_len (by decide +kernel) (pa_cons (pe_ix ix_tup (pv 1) pe_int (fun _ _ => rfl)) pa_nil)) (pe_callB call_len_seq (by rfl) T.n_len (by decide +kernel) (pa_cons (pe_ix ix_tup (pv 1) pe_int (fun _ _ => rfl)) pa_nil))))
      (pss_cons (ps_set (i := 3) sc_law_packing.nd rfl (Or.inl rfl) (pe_listRg rfl (by rfl) T.n_list (prg_1 (by rfl) T.n_range (pe_callB call_len_seq (by rfl) T.n_len (by decide +kernel) (pa_cons (pe_ix ix_tup (pv 1) pe_int (fun _ _ => rfl)) pa_nil)))))
      (pss_cons (ps_set (i := 4) sc_law_packing.nd rfl (Or.inl rfl) (pe_lst pa_nil))
      (pss_cons (ps_for PassesOwn.never rfl (pi_list (pe_dn D_law_shuffled (hr.mono (by omega)) (by rfl) (pa_cons (pv 0) (pa_cons (pe_listRg rfl (by rfl) T.n_list (prg_1 (by rfl) T.n_range (pe_callB call_len_seq (by rfl) T.n_len (by decide +kernel) (pa_cons (pe_ix ix_tup (pv 1) pe_int (fun _ _ => rfl)) pa_nil)))) pa_nil)))) (pg_name (i := 5) sc_law_packing.nd rfl (Or.inr rfl)) (pss_cons (ps_setLc (i := 6) (own := [("_law_reg", 8)]) (g := (gName 8)) rfl sc_law_packing.nd rfl rfl (sw_true rfl rfl rfl (by decide +kernel)) (pi_list (pv 3)) (blkOk_by (N := ["_law_d", "_law_tables_here", "_law_first", "_law_left", "_law_pairs", "_law_table", "_law_takers", "_law_mate", "_law_reg"]) (sc := defScope s_law_packing) (by decide +kernel)) (fun _ _ _ _ _ => (pg_name (i := 8) sc_law_packing.nd rfl (Or.inl rfl))) (fun _ _ _ _ _ => (pts_one (pt_cmpR op_eq (pe_ix (ix_tup : IxR _ (rIxT K)) (pe_ix (ix_tup : IxR _ (rIxT K)) (pe_ix (ix_tup : IxR _ (rIxT K)) (pv 1) pe_int (fun _ _ => rfl)) (pv 8) (fun _ _ => rfl)) pe_int (fun _ _ => rfl)) (pe_op op_add (pv 2) (pv 5)) (nomark _)))) (fun _ _ _ _ _ => (pv 8)))
      (pss_one (ps_if (PW.pt (pw_and (pt_cmpR op_gt (pe_callB call_len_seq (by rfl) T.n_len (by decide +kernel) (pa_cons (pv 6) pa_nil)) pe_int (nomark _)) (pw_and1 (pt_cmpR op_gt (pe_dn D_law_draw (hr.mono (by omega)) (by rfl) (pa_cons (pv 0) (pa_cons pe_int pa_nil))) pe_int (nomark _))))) (pss_cons (ps_set (i := 7) sc_law_packing.nd rfl (Or.inl rfl) (pe_dn D_law_pick (hr.mono (by omega)) (by rfl) (pa_cons (pv 0) (pa_cons (pv 6) pa_nil))))
      (pss_cons (ps_expr (pe_remX rfl noTake (pv 3) (pv 7)))
      (pss_one (ps_expr (pe_bm PySem.F.plainAttrs_list PySem.F.slot_list_append PySem.F.type_list_append mt_append (pv 4) (pa_cons (pe_tup (pa_cons (pv 5) (pa_cons (pv 7) pa_nil))) pa_nil)))))) (pss_one (ps_expr (pe_bm PySem.F.plainAttrs_list PySem.F.slot_list_append PySem.F.type_list_append mt_append (pv 4) (pa_cons (pe_tup (pa_cons (pv 5) (pa_cons pe_non pa_nil))) pa_nil))))))))
      (pss_one (ps_ret (pe_callTy call_tuple_of (by rfl) T.n_tuple (by decide +kernel) (pa_cons (pe_dn D_law_shuffled (hr.mono (by omega)) (by rfl) (pa_cons (pv 0) (pa_cons (pe_op op_cat (pv 4) (pe_lc (own := [("_law_reg", 8)]) (g := (gName 8)) (tt := tYes) rfl sc_law_packing.nd (pi_list (pv 3)) (blkOk_by (N := ["_law_d", "_law_tables_here", "_law_first", "_law_left", "_law_pairs", "_law_table", "_law_takers", "_law_mate", "_law_reg"]) (sc := defScope s_law_packing) (by decide +kernel)) (fun _ _ _ _ _ => (pg_name (i := 8) sc_law_packing.nd rfl (Or.inl rfl))) (fun _ _ _ _ _ => pts_nil) (fun _ _ _ _ _ => (pe_tup (pa_cons pe_non (pa_cons (pv 8) pa_nil)))))) pa_nil))) pa_nil)))))))), ?_⟩
  obtain ⟨p, a, b, cc, dd, xs, rw_, vr, regs, h⟩ := ht
  obtain rfl := h.ev
  have lvr := list_lenQ h.lr
  have elf : vr.length = T'.fs.length := by rw [lvr, h.er, List.length_map]
  have nx : ∀ z xs, H z = some (.tup xs) → z ≠ d := fun z xs e ez => by
    obtain ⟨_, e2⟩ := hd.at_
    rw [ez, e2] at e
    cases e
  refine ⟨_, rfl, p, _, _, _, rfl, rfl, SqT.of h.top, atI_nat (j := 1) rfl, a, xs, rfl, .inr (SqT.of h.hi), _, rfl, p, _, _, _, rfl, rfl, SqT.of h.top, atI_nat (j := 2) rfl, b, vr, rfl, .inr (SqT.of h.hr), _, _, rfl, rfl, ?_⟩
  have eF : (fun i j => V.int (i + j)) (xs.length : Int) (vr.length : Int) = vI T'.first := congrArg V.int (by rw [h.li, elf]; unfold TabS.first; omega)
  refine ⟨_, rfl, p, _, _, _, rfl, rfl, SqT.of h.top, atI_nat (j := 2) rfl, b, vr, rfl, .inr (SqT.of h.hr), _, rfl, rgOk_n (by omega), fun L hL => ?_⟩
  have e1 : rgV 0 (vr.length : Int) = (List.range T'.fs.length).map vI := by
    rw [rgV_rI, elf]
    unfold rI
    exact cast_vI _
  rw [e1]
  have s1 := same_new hL (.lst ((List.range T'.fs.length).map vI))
  have eL := upd_same (H := H) (a := L) (o := .lst ((List.range T'.fs.length).map vI))
  obtain ⟨nLd, nLc⟩ := hd.new hL
  generalize upd H L (.lst ((List.range T'.fs.length).map vI)) = H1 at s1 eL ⊢
  refine ⟨Nat.zero_le _, fun Pr hPr => ?_⟩
  have nPL : Pr ≠ L := fun z => by rw [z, eL] at hPr; cases hPr
  have fPr := s1.free hPr
  have s2 := s1.trans (same_new hPr (.lst []))
  have eL2 := same_new hPr (.lst []) _ _ eL
  have hA2 : Acc Pr pkD [] (upd H1 Pr (.lst [])) := .nil
  obtain ⟨nPd, nPc⟩ := (hd.same s1).new hPr
  generalize upd H1 Pr (.lst []) = H2 at s2 eL2 hA2 ⊢
  refine ⟨_, rfl, _, rfl, p, _, _, _, rfl, rfl, SqT.of (s2 _ _ h.top), atI_nat (j := 3) rfl, cc, rw_, rfl, .inr (SqT.of (s2 _ _ h.hw)), _, rfl, rgOk_n (by rw [h.lw]; omega), fun L2 hL2 => ?_⟩
  have e2 : rgV 0 (rw_.length : Int) = (rI T'.m).map V.int := by rw [rgV_rI, h.lw]
  rw [e2]
  have s3 := s2.trans (same_new hL2 (.lst ((rI T'.m).map V.int)))
  have eL3 := same_new hL2 (.lst ((rI T'.m).map V.int)) _ _ eL2
  have hA3 := hA2.same (same_new hL2 (.lst ((rI T'.m).map V.int)))
  have n2d := ((hd.same s2).new hL2).1
  refine ⟨d, c, L2, _, rfl, hd.same s3, n2d, .inl (SqL.of upd_same), by rw [List.length_map, rI_len]; omega, fun pS ys H4 perm hpS epS hd4 k4 => ?_⟩
  obtain ⟨ts, rfl, hts⟩ := ints_perm perm
  have eL4 := k4 _ _ (by simp [nLd]) eL3
  have t4 := k4.tup1 (hd.same s3)
  have hA4 := hA3.keep k4 t4 (by simp [nPd])
  have k04 : Keep [d] H H4 := (Keep.of_same s3).trans k4
  have nSd : pS ≠ d := ((hd.same s3).new hpS).1
  have nSL : pS ≠ L := (ne_of_none eL3 hpS).symm
  have nSP : pS ≠ Pr := let ⟨_, e⟩ := hA3.at_; (ne_of_none e hpS).symm
  refine ⟨pS, rfl, ⟨_, SqL.of epS⟩, for_it (walk_list (xs := ts.map V.int)) (fun i σ' H' => ∃ (v5 v6 v7 : Option V) (left : List Nat) (ps : List OI), σ' = [some (.ref d), some (.ref p), some (vI T'.first), some (.ref L), some (.ref Pr), v5, v6, v7, none] ∧ DS H' d c ∧ H' L = some (.lst (left.map vI)) ∧ Acc Pr pkD ps H' ∧ HalfP T' (ts.take i) left ps ∧ ps.length = i ∧
      H' pS = some (.lst (ts.map V.int)) ∧ Keep [d] H H')
    ⟨_, _, _, List.range T'.fs.length, [], by rw [← eF]; rfl, hd4, eL4, hA4, by rw [List.take_zero]; exact .start T', rfl, epS, k04⟩ (fun i σ' H' hi pv => ?_) (fun i x σ' H5 H6 hi pv y => ?_) (fun σ' H5 pv => ?_)⟩
  · obtain ⟨_, _, _, _, _, _, _, _, _, _, _, e, _⟩ := pv
    exact SqL.of e
  · obtain ⟨v5, v6, v7, left, ps, rfl, hd5, eL5, hA5, hp, hpl, eS5, k5⟩ := pv
    obtain ⟨rfl, hx⟩ := y
    have hi : i < (ts.map V.int).length := hi
    rw [List.length_map, hts.length_eq, rI_len] at hi
    rw [List.getElem?_map] at hx
    cases htt : ts[i]? with
    | none => rw [htt] at hx; cases hx
    | some t =>
    rw [htt] at hx
    obtain rfl : V.int t = x := Option.some.inj hx
    have htm := mem_rI.mp (hts.mem_iff.mp (List.mem_of_getElem? htt))
    have hleft : ∀ r ∈ left, r < T'.fs.length := fun r hr => by
      have : (r : Int) ∈ rI T'.fs.length := hp.regs.mem_iff.mp (List.mem_append_right _ (List.mem_map.mpr ⟨r, hr, rfl⟩))
      have := mem_rI.mp this
      omega
    have hll : left.length ≤ T'.fs.length := by
      have := hp.regs.length_eq
      rw [List.length_append, List.length_map, rI_len] at this
      omega
    have etk : ts.take (i + 1) = ts.take i ++ [t] := by rw [List.take_succ, htt]; rfl
    have t5 := k5.tup1 hd
    refine ⟨_, rfl, L, rfl, ⟨_, SqL.of eL5⟩, fun D hD => ?_⟩
    refine lc_filt (walk_list (xs := left.map vI)) (xs := left) (p := fun r => decide (((T'.fs.getD r 0 : Nat) : Int) = T'.first + t)) (fun H' sm => SqL.of (sm _ _ eL5)) hD (by omega) (fun r H' R Z hr sm ky kn => ?_) (fun H7 s7 eD => ?_)
    · have hk : r < regs.length := by rw [← lvr, elf]; exact hleft r hr
      have lr6 := h.lr.keep' (t5.trans (.same sm))
      obtain ⟨dd', hd1, hd2⟩ := lr6.get (v := vr[r]'(by omega)) r (List.getElem?_eq_getElem _)
      obtain ⟨rg, hrg, rfl⟩ := mapAtD hd1
      obtain ⟨q1, e1', eq1⟩ := hd2.rg
      have efs : T'.fs.getD r 0 = rg.2.2 := by rw [List.getD_eq_getElem?_getD, h.er, List.getElem?_map, hrg]; rfl
      refine ⟨rfl, _, rfl, p, _, _, _, rfl, rfl, SqT.of (sm _ _ (t5 _ _ h.top)), atI_nat (j := 2) rfl, _, rfl, b, vr, r, _, rfl, rfl, SqT.of (sm _ _ (t5 _ _ h.hr)), atI_nat (List.getElem?_eq_getElem (by omega)), ?_⟩
      rw [e1']
      refine ⟨q1, _, _, _, rfl, rfl, SqT.of eq1, atI_nat (j := 2) rfl, _, rfl, _, rfl, _, _, rfl, rfl, rfl, _, rfl, ?_⟩
      show if decide (V.int ((rg.2.2 : Nat) : Int) = V.int ((T'.first : Int) + t)) = true then _ else _
      by_cases hv : ((rg.2.2 : Nat) : Int) = T'.first + t
      · refine ifY (by rw [decide_eq_true (congrArg V.int hv)]) ⟨_, rfl, ky (decide_eq_true (by rw [efs]; exact hv))⟩
      · refine ifN (by rw [decide_eq_false (fun z => hv (V.int.inj z))]) (kn (decide_eq_false (by rw [efs]; exact hv)))
    have hd7 := hd5.same s7
    have eL7 := s7 _ _ eL5
    have hA7 := hA5.same s7
    have eS7 := s7 _ _ eS5
    have k7 : Keep [d] H H7 := k5.trans (.of_same s7)
    obtain ⟨nDd, nDc⟩ := hd5.new hD
    have nDL : D ≠ L := (ne_of_none eL5 hD).symm
    refine ⟨_, rfl, D, _, rfl, .inl (SqL.of eD), _, _, rfl, rfl, _, rfl, ite2 (fun z => ?_) (fun z => ?_)⟩
    rotate_left
    · refine iteF ?_
      refine ⟨_, rfl, .inl ⟨rfl, hA7.at_.imp fun _ e => SqL.of e⟩, _, rfl, by show 2 ≤ sizeLine; decide, fun tp htp => ?_⟩
      have st := same_new htp (.tup [V.int t, V.non])
      obtain ⟨us, e, hlen, hAy, _⟩ := (hA7.same st).push (x := ((some t, none) : OI)) (.mkPk upd_same) (by omega)
      refine ⟨Pr, us, _, rfl, rfl, e, hlen, _, _, _, left, ps ++ [(some t, none)], rfl, (hd7.same st).keep (S := [Pr]) Keep.at1 (by simp [nPd.symm]) (by simp [nPc.symm]), ?_, hAy, by rw [etk]; exact hp.lone t, by rw [List.length_append, hpl]; rfl, ?_, ?_⟩
      · rw [upd_ne nPL.symm]; exact st _ _ eL7
      · rw [upd_ne nSP]; exact st _ _ eS7
      · exact ((k7.cat (.sm st)).cat .at1).thin (by simp [fPr])
    have z := of_decide_eq_true z
    refine ⟨_, rfl, d, c, 3, rfl, hd7, by decide, by decide, fun r0 H8 r1 r2 hd8 k78 => ?_⟩
    have t8 := k78.tup1 hd7
    have eL8 := k78 _ _ (by simp [nLd]) eL7
    have eD8 := k78 _ _ (by simp [nDd]) eD
    have hA8 := hA7.keep k78 t8 (by simp [nPd])
    have eS8 := k78 _ _ (by simp [nSd]) eS7
    have k8 : Keep [d] H H8 := k7.trans k78
    refine ⟨_, _, rfl, rfl, _, rfl, ite2 (fun z2 => ?_) (fun z2 => ?_)⟩
    rotate_left
    · refine ⟨_, rfl, .inl ⟨rfl, hA8.at_.imp fun _ e => SqL.of e⟩, _, rfl, by show 2 ≤ sizeLine; decide, fun tp htp => ?_⟩
      have st := same_new htp (.tup [V.int t, V.non])
      obtain ⟨us, e, hlen, hAy, _⟩ := (hA8.same st).push (x := ((some t, none) : OI)) (.mkPk upd_same) (by omega)
      refine ⟨Pr, us, _, rfl, rfl, e, hlen, _, _, _, left, ps ++ [(some t, none)], rfl, (hd8.same st).keep (S := [Pr]) Keep.at1 (by simp [nPd.symm]) (by simp [nPc.symm]), ?_, hAy, by rw [etk]; exact hp.lone t, by rw [List.length_append, hpl]; rfl, ?_, ?_⟩
      · rw [upd_ne nPL.symm]; exact st _ _ eL8
      · rw [upd_ne nSP]; exact st _ _ eS8
      · exact ((k8.cat (.sm st)).cat .at1).thin (by simp [fPr])
    refine ⟨_, rfl, _, rfl, d, c, D, _, rfl, hd8, nDd, SqL.of eD8, by omega, ?_, fun n y H9 hy hd9 k89 => ?_⟩
    · rw [List.length_map]
      have := List.length_filter_le (fun r => decide (((T'.fs.getD r 0 : Nat) : Int) = T'.first + t)) left
      omega
    rw [List.getElem?_map] at hy
    cases hr0 : (left.filter fun r => decide (((T'.fs.getD r 0 : Nat) : Int) = T'.first + t))[n]? with
    | none => rw [hr0] at hy; cases hy
    | some r =>
    rw [hr0] at hy
    obtain rfl : vI r = y := Option.some.inj hy
    obtain ⟨hrl, hrf⟩ := List.mem_filter.mp (List.mem_of_getElem? hr0)
    have hrf := of_decide_eq_true hrf
    have hrn := hleft r hrl
    have efs : T'.fs[r]? = some T'.fs[r] := List.getElem?_eq_getElem hrn
    rw [List.getD_eq_getElem?_getD, efs, Option.getD_some] at hrf
    have t9 := k89.tup1 hd8
    have eL9 := k89 _ _ (by simp [nLd]) eL8
    have hA9 := hA8.keep k89 t9 (by simp [nPd])
    have eS9 := k89 _ _ (by simp [nSd]) eS8
    have k9 : Keep [d] H H9 := k8.trans k89
    refine ⟨_, rfl, .inl ⟨rfl, _, SqL.of eL9⟩, _, rfl, L, left.map (fun n : Nat => (n : Int)), (r : Int), rfl, rfl, by rw [cast_vI]; exact eL9, fun _ => ?_, fun hn => (hn (List.mem_map.mpr ⟨r, hrl, rfl⟩)).elim⟩
    rw [cast_erase, cast_vI]
    have kLt : KeepT H9 (upd H9 L (.lst ((left.erase r).map vI))) := KeepT.lst eL9
    have hdX := hd9.keep (S := [L]) (Keep.at1 (a := L) (o := .lst ((left.erase r).map vI))) (by simp [nLd.symm]) (by simp [nLc.symm])
    have eLX := upd_same (H := H9) (a := L) (o := .lst ((left.erase r).map vI))
    have hAX := hA9.keep (S := [L]) (Keep.at1 (a := L) (o := .lst ((left.erase r).map vI))) kLt (by simp [nPL])
    have eSX : upd H9 L (.lst ((left.erase r).map vI)) pS = some (.lst (ts.map V.int)) := by rw [upd_ne nSL]; exact eS9
    have kX : Keep [d] H (upd H9 L (.lst ((left.erase r).map vI))) := (k9.cat .at1).thin (by simp [hL])
    generalize upd H9 L (.lst ((left.erase r).map vI)) = HX at hdX eLX hAX eSX kX ⊢
    refine ⟨_, rfl, .inl ⟨rfl, hAX.at_.imp fun _ e => SqL.of e⟩, _, rfl, _, rfl, by show 2 ≤ sizeLine; decide, fun tp htp => ?_⟩
    have st := same_new htp (.tup [V.int t, V.int (r : Int)])
    obtain ⟨us, e, hlen, hAy, _⟩ := (hAX.same st).push (x := ((some t, some (r : Int)) : OI)) (.mkPk upd_same) (by omega)
    refine ⟨Pr, us, _, rfl, rfl, e, hlen, _, _, _, left.erase r, ps ++ [(some t, some (r : Int))], rfl, (hdX.same st).keep (S := [Pr]) Keep.at1 (by simp [nPd.symm]) (by simp [nPc.symm]), ?_, hAy, by rw [etk]; exact hp.pair hrl efs hrf, by rw [List.length_append, hpl]; rfl, ?_, ?_⟩
    · rw [upd_ne nPL.symm]; exact st _ _ eLX
    · rw [upd_ne nSP]; exact st _ _ eSX
    · exact ((kX.cat (.sm st)).cat .at1).thin (by simp [fPr])
  · obtain ⟨v5, v6, v7, left, ps, rfl, hd5, eL5, ⟨vp, ePr, lP⟩, hp, hpl, eS5, k5⟩ := pv
    rw [List.length_map, hts.length_eq, rI_len] at hpl
    rw [List.length_map, List.take_length] at hp
    have hll : left.length ≤ T'.fs.length := by
      have := hp.regs.length_eq
      rw [List.length_append, List.length_map, rI_len] at this
      omega
    refine ⟨_, rfl, _, rfl, _, rfl, L, rfl, ⟨_, SqL.of eL5⟩, fun D hD => ?_⟩
    refine lc_rows (walk_list (xs := left.map vI)) (rows := left) (f := fun n : Nat => PyData.int (n : Int)) (g := fun r : Nat => ((none, some (r : Int)) : OI)) (h := pkD) (fun H' sm => SqL.of (sm _ _ eL5)) hD (LayAll.ints _) (by omega) (fun i x r H' R Z hr sm lx ky => ?_) (fun us H6 s6 eD lus => ?_)
    · obtain rfl := lx.int_inv
      refine ⟨rfl, _, rfl, by show 2 ≤ sizeLine; decide, fun tp htp => ky _ _ (same_new htp _) (.mkPk upd_same)⟩
    have lvp := list_lenQ lP
    have lvu := lus.len
    rw [List.length_map, List.length_map] at lvu
    have lPP := (lP.keep' (.same s6)).app lus
    rw [← List.map_append] at lPP
    refine ⟨Pr, D, vp, us, rfl, rfl, s6 _ _ ePr, eD, le1000 (by omega), fun C hC => ?_⟩
    have s7 := s6.trans (same_new hC (.lst (vp ++ us)))
    have lP7 := lPP.keep' (.same (same_new hC (.lst (vp ++ us))))
    have hd7 := hd5.same s7
    have nCd := ((hd5.same s6).new hC).1
    refine ⟨d, c, C, _, rfl, hd7, nCd, .inl (SqL.of upd_same), by rw [List.length_append]; omega, fun pp ys H8 perm hpp epp hd8 k8 => ?_⟩
    obtain ⟨qs, hq, lq⟩ := LayAll.perm perm lP7
    refine ⟨pp, ys, rfl, .inl ⟨SqL.of epp, fun tp htp => ?_⟩⟩
    have st := same_new htp (.tup ys)
    refine q _ qs _ (.tup upd_same ((lq.keep' (k8.tup1 hd7)).keep' (.same st))) ((hp.taken hts).perm hq) ?_ (hd8.same st) (((k5.trans (.of_same s7)).trans k8).trans (.of_same st))
    rw [hq.length_eq, List.length_append, List.length_map]
    omega
end
end Bf

set_option Elab.async false
set_option linter.all false
set_option maxRecDepth 100000
set_option maxHeartbeats 4000000
namespace Bf
open PySem PySem.Spec PyProof.Rows L2
/-! ### a changed packing -/
def PEl (H : Hp) (v : V) : Prop := ∃ p : OI, Lay H v (pkD p)
theorem PEl.keep {H H' : Hp} {v : V} (h : PEl H v) (k : KeepT H H') : PEl H' v := let ⟨p, l⟩ := h; ⟨p, l.keep' k⟩
theorem PEl.mk {H : Hp} {q : Addr} (a b : Option Int) (h : H q = some (.tup [oV a, oV b])) : PEl H (.ref q) := ⟨(a, b), .mkPk h⟩
/-- a list of pairs -/
def PL (H : Hp) (Pr : Addr) (n : Nat) : Prop := ∃ vs : List V, H Pr = some (.lst vs) ∧ vs.length = n ∧ ∀ v ∈ vs, PEl H v
theorem PL.keep {S : List Addr} {H H' : Hp} {Pr : Addr} {n : Nat} (h : PL H Pr n) (k : Keep S H H') (t : KeepT H H') (hn : Pr ∉ S) : PL H' Pr n := let ⟨vs, a, b, e⟩ := h; ⟨vs, k _ _ hn a, b, fun v hv => (e v hv).keep t⟩
theorem PL.same {H H' : Hp} {Pr : Addr} {n : Nat} (h : PL H Pr n) (k : Same H H') : PL H' Pr n := let ⟨vs, a, b, e⟩ := h; ⟨vs, k _ _ a, b, fun v hv => (e v hv).keep (.same k)⟩
theorem PL.upd {H : Hp} {Pr : Addr} {vs us : List V} (a : H Pr = some (.lst vs)) (e : ∀ v ∈ us, PEl H v) : PL (upd H Pr (.lst us)) Pr us.length := ⟨us, upd_same, rfl, fun v hv => (e v hv).keep (.lst a)⟩
theorem pel_list {H : Hp} : ∀ {vs : List V}, (∀ v ∈ vs, PEl H v) → ∃ ps : List OI, LayAll H vs (ps.map pkD)
  | [], _ => ⟨[], .nil⟩
  | v :: vs, h => by
    obtain ⟨p, l⟩ := h v (by simp)
    obtain ⟨ps, ls⟩ := pel_list (vs := vs) fun u hu => h u (by simp [hu])
    exact ⟨p :: ps, .cons l ls⟩
structure CS (H0 H' : Hp) (d c Pr : Addr) (n : Nat) : Prop where
  ds : DS H' d c
  pl : PL H' Pr n
  kp : Keep [d] H0 H'
  nd : Pr ≠ d
  nc : Pr ≠ c
  fr : H0 Pr = none
theorem CS.same {H0 H' H2 : Hp} {d c Pr : Addr} {n : Nat} (h : CS H0 H' d c Pr n) (k : Same H' H2) : CS H0 H2 d c Pr n := ⟨h.ds.same k, h.pl.same k, h.kp.trans (.of_same k), h.nd, h.nc, h.fr⟩
theorem CS.upd {H0 H' : Hp} {d c Pr : Addr} {n : Nat} {ws us : List V} (h : CS H0 H' d c Pr n) (e : H' Pr = some (.lst ws)) (u : ∀ v ∈ us, PEl H' v) : CS H0 (L2.upd H' Pr (.lst us)) d c Pr us.length :=
  ⟨h.ds.keep (S := [Pr]) Keep.at1 (by simp [h.nd.symm]) (by simp [h.nc.symm]), .upd e u, (h.kp.cat .at1).thin (by simp [h.fr]), h.nd, h.nc, h.fr⟩
theorem CS.at_ {H0 H' : Hp} {d c Pr : Addr} {n : Nat} (h : CS H0 H' d c Pr n) {i : Nat} (hi : i < n) : ∃ ws q a b, H' Pr = some (.lst ws) ∧ ws.length = n ∧ (∀ v ∈ ws, PEl H' v) ∧ ws[i]? = some (.ref q) ∧ H' q = some (.tup [oV a, oV b]) := by
  obtain ⟨ws, e, hl, he⟩ := h.pl
  have hi : i < ws.length := by omega
  obtain ⟨⟨a, b⟩, l⟩ := he ws[i] (List.getElem_mem hi)
  obtain ⟨q, e2, e3⟩ := l.pk
  exact ⟨ws, q, a, b, e, hl, he, by rw [List.getElem?_eq_getElem hi, e2], e3⟩
theorem set_pel {H : Hp} {ws : List V} {i : Nat} {y : V} (h : ∀ v ∈ ws, PEl H v) (hy : PEl H y) : ∀ v ∈ ws.set i y, PEl H v := fun v hv => by
  rcases List.mem_or_eq_of_mem_set hv with a | a
  · exact h v a
  · rw [a]; exact hy
theorem ins_pel {H : Hp} {ws : List V} {i : Nat} {y : V} (h : ∀ v ∈ ws, PEl H v) (hy : PEl H y) : ∀ v ∈ ws.take i ++ [y] ++ ws.drop i, PEl H v := fun v hv => by
  rcases List.mem_append.mp hv with hv | hv
  · rcases List.mem_append.mp hv with hv | hv
    · exact h v (List.mem_of_mem_take hv)
    · rw [List.mem_singleton.mp hv]
      exact hy
  · exact h v (List.mem_of_mem_drop hv)
theorem app_pel {H : Hp} {ws : List V} {y : V} (h : ∀ v ∈ ws, PEl H v) (hy : PEl H y) : ∀ v ∈ ws ++ [y], PEl H v := fun v hv => by
  rcases List.mem_append.mp hv with hv | hv
  · exact h v hv
  · rw [List.mem_singleton.mp hv]
    exact hy
def spChanged (K : PySem.W.Frag) : Sp := fun vs H Q _ => ∃ (d c : Addr) (v u : V) (T : TabS) (ps : List OI), vs = [.ref d, v, u] ∧ DS H d c ∧ TabAt H v T ∧ Lay H u (.tuple (ps.map pkD)) ∧ ps.length ≤ 40 ∧
  ∀ (u' : V) (qs : List OI) (H' : Hp), Lay H' u' (.tuple (qs.map pkD)) → qs.length ≤ 50 → DS H' d c → Keep [d] H H' → Q u' H'
section
variable {P : Program} {w : World} {K : PySem.W.Frag} {mg : Str → Option Value} {base : Heap} {f : Addr} {fd : FuncData}
theorem ok_changed (F : Fun K "_law_changed" "_law_changed" s_law_changed f fd) (T : Txt mg) (D_law_draw : Dn P w K mg base "_law_draw" ["_law_d", "_law_many"] 1 spDraw) (D_law_pick : Dn P w K mg base "_law_pick" ["_law_d", "_law_row"] 2 (spPick K)) :
    FnOk P w K mg base CX0 3 f fd ["_law_d", "_law_tables_here", "_law_packing_here"] (spChanged K) := by
  refine F.ok sc_law_changed (fun vs H Q E h => ?_) (fun cdv A outer s H vs Q E hr h => ?_)
  · obtain ⟨d, c, v, u, T', ps, rfl, _⟩ := h
    rfl
  obtain ⟨d, c, v, u, T', ps, rfl, hd, ht, lu, lps, q⟩ := h
  refine ⟨_, (pss_cons (ps_set (i := 3) sc_law_changed.nd rfl (Or.inl rfl) (pe_callTy call_list_of (by rfl) T.n_list (by decide +kernel) (pa_cons (pv 2) pa_nil)))
      (pss_cons (ps_set (i := 4) sc_law_changed.nd rfl (Or.inl rfl) (pe_dn D_law_draw (hr.mono (by omega)) (by rfl) (pa_cons (pv 0) (pa_cons pe_int pa_nil))))
      (pss_cons (ps_set (i := 5) sc_law_changed.nd rfl (Or.inl rfl) (pe_dn D_law_pick (hr.mono (by omega)) (by rfl) (pa_cons (pv 0) (pa_cons (pe_lst (pa_cons (pe_un un_neg pe_int) (pa_cons (pe_callB call_len_seq (by rfl) T.n_len (by decide +kernel) (pa_cons (pe_ix ix_tup (pv 1) pe_int (fun _ _ => rfl)) pa_nil)) (pa_cons (pe_callB call_len_seq (by rfl) T.n_len (by decide +kernel) (pa_cons (pe_ix ix_tup (pv 1) pe_int (fun _ _ => rfl)) pa_nil)) (pa_cons pe_int (pa_cons pe_non (pa_cons pe_int (pa_cons pe_int pa_nil)))))))) pa_nil))))
      (pss_cons (ps_if (PW.pt (pw_or (pt_cmpR op_eq (pv 4) pe_int (nomark _)) (pw_or1 (pt_cmpR op_eq (pe_callB call_len_seq (by rfl) T.n_len (by decide +kernel) (pa_cons (pv 3) pa_nil)) pe_int (nomark _))))) (pss_cons (ps_expr (pe_bm PySem.F.plainAttrs_list PySem.F.slot_list_insert PySem.F.type_list_insert mt_insert (pv 3) (pa_cons (pe_dn D_law_draw (hr.mono (by omega)) (by rfl) (pa_cons (pv 0) (pa_cons (pe_op op_add (pe_callB call_len_seq (by rfl) T.n_len (by decide +kernel) (pa_cons (pv 3) pa_nil)) pe_int) pa_nil))) (pa_cons (pe_dn D_law_pick (hr.mono (by omega)) (by rfl) (pa_cons (pv 0) (pa_cons (pe_lst (pa_cons (pe_tup (pa_cons pe_non (pa_cons (pv 5) pa_nil))) (pa_cons (pe_tup (pa_cons (pv 5) (pa_cons pe_non pa_nil))) (pa_cons (pe_tup (pa_cons pe_int (pa_cons (pv 5) pa_nil))) pa_nil)))) pa_nil))) pa_nil))))
      (pss_one (ps_ret (pe_callTy call_tuple_of (by rfl) T.n_tuple (by decide +kernel) (pa_cons (pv 3) pa_nil))))) pss_nil)
      (pss_cons (ps_set (i := 6) sc_law_changed.nd rfl (Or.inl rfl) (pe_dn D_law_draw (hr.mono (by omega)) (by rfl) (pa_cons (pv 0) (pa_cons (pe_callB call_len_seq (by rfl) T.n_len (by decide +kernel) (pa_cons (pv 3) pa_nil)) pa_nil))))
      (pss_cons (ps_set (i := 7) sc_law_changed.nd rfl (Or.inl rfl) (pe_dn D_law_draw (hr.mono (by omega)) (by rfl) (pa_cons (pv 0) (pa_cons (pe_callB call_len_seq (by rfl) T.n_len (by decide +kernel) (pa_cons (pv 3) pa_nil)) pa_nil))))
      (pss_cons (ps_asg (pe_ix ix_list (pv 3) (pv 6) (fun _ _ => rfl)) (pg_tup rfl (pgs_cons (pg_name (i := 8) sc_law_changed.nd rfl (Or.inl rfl)) (pgs_cons (pg_name (i := 9) sc_law_changed.nd rfl (Or.inl rfl)) pgs_nil))))
      (C8.pss_cut (ps_if (pt_cmpR op_eq (pv 4) pe_int (nomark _)) (pss_one (ps_expr (pe_bm PySem.F.plainAttrs_list PySem.F.slot_list_pop PySem.F.type_list_pop mt_popAt (pv 3) (pa_cons (pv 6) pa_nil)))) (pss_one (ps_if (pt_cmpR op_eq (pv 4) pe_int (nomark _)) (pss_one (ps_expr (pe_bm PySem.F.plainAttrs_list PySem.F.slot_list_insert PySem.F.type_list_insert mt_insert (pv 3) (pa_cons (pv 7) (pa_cons (pe_ix ix_list (pv 3) (pv 6) (fun _ _ => rfl)) pa_nil))))) (pss_one (ps_if (pt_cmpR op_eq (pv 4) pe_int (nomark _)) (pss_one (ps_asg (pe_tup (pa_cons (pv 5) (pa_cons (pv 9) pa_nil))) (pg_sub (pv 3) (pv 6) set_list))) (pss_one (ps_if (pt_cmpR op_eq (pv 4) pe_int (nomark _)) (pss_one (ps_asg (pe_tup (pa_cons (pv 8) (pa_cons (pv 5) pa_nil))) (pg_sub (pv 3) (pv 6) set_list))) (pss_one (ps_if (pt_cmpR op_eq (pv 4) pe_int (nomark _)) (pss_cons (ps_asg (pe_tup (pa_cons (pv 8) (pa_cons (pe_ix ix_tup (pe_ix ix_list (pv 3) (pv 7) (fun _ _ => rfl)) pe_int (fun _ _ => rfl)) pa_nil))) (pg_sub (pv 3) (pv 6) set_list))
      (pss_one (ps_asg (pe_tup (pa_cons (pe_ix ix_tup (pe_ix ix_list (pv 3) (pv 7) (fun _ _ => rfl)) pe_int (fun _ _ => rfl)) (pa_cons (pv 9) pa_nil))) (pg_sub (pv 3) (pv 7) set_list)))) (pss_one (ps_if (pt_cmpR op_eq (pv 4) pe_int (nomark _)) (pss_cons (ps_asg (pe_tup (pa_cons (pv 8) (pa_cons pe_non pa_nil))) (pg_sub (pv 3) (pv 6) set_list))
      (pss_one (ps_expr (pe_bm PySem.F.plainAttrs_list PySem.F.slot_list_append PySem.F.type_list_append mt_append (pv 3) (pa_cons (pe_tup (pa_cons pe_non (pa_cons (pv 9) pa_nil))) pa_nil))))) (pss_cons (ps_asg (pe_tup (pa_cons (pv 8) (pa_cons (pe_ix ix_tup (pe_ix ix_list (pv 3) (pv 7) (fun _ _ => rfl)) pe_int (fun _ _ => rfl)) pa_nil))) (pg_sub (pv 3) (pv 6) set_list))
      (pss_one (ps_expr (pe_bm PySem.F.plainAttrs_list PySem.F.slot_list_pop PySem.F.type_list_pop mt_popAt (pv 3) (pa_cons (pv 7) pa_nil))))))))))))))))
      (pss_one (ps_ret (pe_callTy call_tuple_of (by rfl) T.n_tuple (by decide +kernel) (pa_cons (pv 3) pa_nil)))))))))))), ?_⟩
  obtain ⟨pk, vp, rfl, ep, lp⟩ := lu.tup_inv
  have lvp := list_lenQ lp
  have pe : ∀ x ∈ vp, PEl H x := fun x hx => by
    obtain ⟨i, hi⟩ := List.mem_iff_getElem?.mp hx
    obtain ⟨dd, h1, h2⟩ := lp.get i hi
    obtain ⟨p, _, rfl⟩ := mapAtD h1
    exact ⟨p, h2⟩
  refine ⟨_, rfl, pk, vp, rfl, .inr (SqT.of ep), fun Pr hPr => ?_⟩
  obtain ⟨nPd, nPc⟩ := hd.new hPr
  have s1 := same_new hPr (.lst vp)
  have hP1 : PL (upd H Pr (.lst vp)) Pr ps.length := ⟨vp, upd_same, lvp, fun x hx => (pe x hx).keep (.same s1)⟩
  have hd1 := hd.same s1
  have ht1 := ht.keep (.same s1)
  have k1 : Keep [d] H (upd H Pr (.lst vp)) := Keep.new hPr
  generalize upd H Pr (.lst vp) = H1 at hP1 hd1 ht1 k1 ⊢
  refine ⟨_, rfl, d, c, 8, rfl, hd1, by decide, by decide, fun tn H2 r0 r1 hd2 k2 => ?_⟩
  have t2 := k2.tup1 hd1
  have hP2 := hP1.keep k2 t2 (by simp [nPd])
  obtain ⟨p, a, b, cc, dd, xs, rw_, vr, regs, h⟩ := ht1.keep t2
  obtain rfl := h.ev
  refine ⟨_, rfl, 1, rfl, _, rfl, p, _, _, _, rfl, rfl, SqT.of h.top, atI_nat (j := 3) rfl, cc, rw_, rfl, .inr (SqT.of h.hw), _, rfl, p, _, _, _, rfl, rfl, SqT.of h.top, atI_nat (j := 2) rfl, b, vr, rfl, .inr (SqT.of h.hr), by show 7 ≤ sizeLine; decide, fun l hl => ?_⟩
  have s3 := same_new hl (.lst [V.int (-1), V.int (rw_.length : Int), V.int (vr.length : Int), V.int 0, V.non, V.int 1000000, V.int 1])
  refine ⟨d, c, l, _, rfl, hd2.same s3, (hd2.new hl).1, SqL.of upd_same, by show 1 ≤ 7; decide, by show 7 ≤ 1000; decide, fun n y H3 hy hd3 k3' => ?_⟩
  have hoy : ∃ o : Option Int, y = oV o := by
    have := List.mem_of_getElem? hy
    simp only [List.mem_cons, List.not_mem_nil, or_false] at this
    rcases this with rfl | rfl | rfl | rfl | rfl | rfl | rfl
    · exact ⟨some _, rfl⟩
    · exact ⟨some _, rfl⟩
    · exact ⟨some _, rfl⟩
    · exact ⟨some _, rfl⟩
    · exact ⟨none, rfl⟩
    · exact ⟨some _, rfl⟩
    · exact ⟨some _, rfl⟩
  obtain ⟨o, rfl⟩ := hoy
  have t3 := k3'.tup1 (hd2.same s3)
  have hP3 := (hP2.same s3).keep k3' t3 (by simp [nPd])
  have k3 : Keep [d] H H3 := ((k1.trans k2).trans (.of_same s3)).trans k3'
  obtain ⟨vs, eP, hvl, hpe⟩ := hP3
  refine ⟨_, rfl, rfl, _, rfl, ite2 (fun z => ?_) (fun z => ?_)⟩
  · refine iteT ?_
    refine ⟨_, rfl, .inl ⟨rfl, _, SqL.of eP⟩, _, rfl, _, rfl, Pr, vs, rfl, .inl (SqL.of eP), _, _, rfl, rfl, d, c, _, rfl, hd3, by omega, by omega, fun r H4 r2 r3 hd4 k4 => ?_⟩
    have t4 := k4.tup1 hd3
    refine ⟨_, rfl, _, rfl, by show 2 ≤ sizeLine; decide, fun q1 hq1 => ⟨_, rfl, by show 2 ≤ sizeLine; decide, fun q2 hq2 => ⟨_, rfl, by show 2 ≤ sizeLine; decide, fun q3 hq3 => ⟨by show 3 ≤ sizeLine; decide, fun l hl => ?_⟩⟩⟩⟩
    have sA := same_new hq1 (.tup [V.non, oV o])
    have sB := same_new hq2 (.tup [oV o, V.non])
    have sC := same_new hq3 (.tup [V.int 0, oV o])
    have sD := same_new hl (.lst [V.ref q1, V.ref q2, V.ref q3])
    have sAD := ((sA.trans sB).trans sC).trans sD
    have nld := ((hd4.same ((sA.trans sB).trans sC)).new hl).1
    have P1 := (PEl.mk none o (upd_same (H := H4) (a := q1) (o := .tup [V.non, oV o]))).keep (.same ((sB.trans sC).trans sD))
    have P2 := (PEl.mk o none (upd_same (H := _) (a := q2) (o := .tup [oV o, V.non]))).keep (.same (sC.trans sD))
    have P3 := (PEl.mk (some 0) o (upd_same (H := _) (a := q3) (o := .tup [V.int 0, oV o]))).keep (.same sD)
    refine ⟨d, c, l, _, rfl, hd4.same sAD, nld, SqL.of upd_same, by show 1 ≤ 3; decide, by show 3 ≤ 1000; decide, fun n y H5 hy hd5 k5 => ?_⟩
    have t5 := k5.tup1 (hd4.same sAD)
    have py : PEl H5 y := by
      have := List.mem_of_getElem? hy
      simp only [List.mem_cons, List.not_mem_nil, or_false] at this
      rcases this with rfl | rfl | rfl
      · exact P1.keep t5
      · exact P2.keep t5
      · exact P3.keep t5
    have hP5 := ((PL.keep (n := ps.length) ⟨vs, eP, hvl, hpe⟩ k4 t4 (by simp [nPd])).same sAD).keep k5 t5 (by simp [nPd])
    obtain ⟨us, eP5, hul, hue⟩ := hP5
    have k35 : Keep [d] H H5 := ((k3.trans k4).trans (.of_same sAD)).trans k5
    refine ⟨Pr, us, r, y, rfl, rfl, eP5, small1000 (by omega), r2, by omega, ?_⟩
    have ePn := upd_same (H := H5) (a := Pr) (o := .lst (us.take r.toNat ++ [y] ++ us.drop r.toNat))
    have kP : KeepT H5 (upd H5 Pr (.lst (us.take r.toNat ++ [y] ++ us.drop r.toNat))) := KeepT.lst eP5
    refine ⟨_, rfl, Pr, _, rfl, .inl ⟨SqL.of ePn, fun tp htp => ?_⟩⟩
    have st := same_new htp (.tup (us.take r.toNat ++ [y] ++ us.drop r.toNat))
    obtain ⟨qs, lq⟩ := pel_list (vs := us.take r.toNat ++ [y] ++ us.drop r.toNat) fun v hv => (show PEl H5 v by
      rcases List.mem_append.mp hv with hv | hv
      · rcases List.mem_append.mp hv with hv | hv
        · exact hue v (List.mem_of_mem_take hv)
        · rw [List.mem_singleton.mp hv]
          exact py
      · exact hue v (List.mem_of_mem_drop hv))
    have hql := list_lenQ lq
    rw [List.length_append, List.length_append, List.length_take, List.length_drop, List.length_singleton] at hql
    refine q _ qs _ (.tup upd_same (lq.keep' (kP.trans (.same st)))) (by omega) ((hd5.keep (S := [Pr]) Keep.at1 (by simp [nPd.symm]) (by simp [nPc.symm])).same st) (((k35.cat .at1).cat (.sm st)).thin (by simp [hPr]))
  refine ⟨_, rfl, Pr, vs, rfl, .inl (SqL.of eP), rfl, _, rfl, ite2 (fun z2 => ?_) (fun z2 => ?_)⟩
  · refine ⟨_, rfl, .inl ⟨rfl, _, SqL.of eP⟩, _, rfl, _, rfl, Pr, vs, rfl, .inl (SqL.of eP), _, _, rfl, rfl, d, c, _, rfl, hd3, by omega, by omega, fun r H4 r2 r3 hd4 k4 => ?_⟩
    have t4 := k4.tup1 hd3
    refine ⟨_, rfl, _, rfl, by show 2 ≤ sizeLine; decide, fun q1 hq1 => ⟨_, rfl, by show 2 ≤ sizeLine; decide, fun q2 hq2 => ⟨_, rfl, by show 2 ≤ sizeLine; decide, fun q3 hq3 => ⟨by show 3 ≤ sizeLine; decide, fun l hl => ?_⟩⟩⟩⟩
    have sA := same_new hq1 (.tup [V.non, oV o])
    have sB := same_new hq2 (.tup [oV o, V.non])
    have sC := same_new hq3 (.tup [V.int 0, oV o])
    have sD := same_new hl (.lst [V.ref q1, V.ref q2, V.ref q3])
    have sAD := ((sA.trans sB).trans sC).trans sD
    have nld := ((hd4.same ((sA.trans sB).trans sC)).new hl).1
    have P1 := (PEl.mk none o (upd_same (H := H4) (a := q1) (o := .tup [V.non, oV o]))).keep (.same ((sB.trans sC).trans sD))
    have P2 := (PEl.mk o none (upd_same (H := _) (a := q2) (o := .tup [oV o, V.non]))).keep (.same (sC.trans sD))
    have P3 := (PEl.mk (some 0) o (upd_same (H := _) (a := q3) (o := .tup [V.int 0, oV o]))).keep (.same sD)
    refine ⟨d, c, l, _, rfl, hd4.same sAD, nld, SqL.of upd_same, by show 1 ≤ 3; decide, by show 3 ≤ 1000; decide, fun n y H5 hy hd5 k5 => ?_⟩
    have t5 := k5.tup1 (hd4.same sAD)
    have py : PEl H5 y := by
      have := List.mem_of_getElem? hy
      simp only [List.mem_cons, List.not_mem_nil, or_false] at this
      rcases this with rfl | rfl | rfl
      · exact P1.keep t5
      · exact P2.keep t5
      · exact P3.keep t5
    have hP5 := ((PL.keep (n := ps.length) ⟨vs, eP, hvl, hpe⟩ k4 t4 (by simp [nPd])).same sAD).keep k5 t5 (by simp [nPd])
    obtain ⟨us, eP5, hul, hue⟩ := hP5
    have k35 : Keep [d] H H5 := ((k3.trans k4).trans (.of_same sAD)).trans k5
    refine ⟨Pr, us, r, y, rfl, rfl, eP5, small1000 (by omega), r2, by omega, ?_⟩
    have ePn := upd_same (H := H5) (a := Pr) (o := .lst (us.take r.toNat ++ [y] ++ us.drop r.toNat))
    have kP : KeepT H5 (upd H5 Pr (.lst (us.take r.toNat ++ [y] ++ us.drop r.toNat))) := KeepT.lst eP5
    refine ⟨_, rfl, Pr, _, rfl, .inl ⟨SqL.of ePn, fun tp htp => ?_⟩⟩
    have st := same_new htp (.tup (us.take r.toNat ++ [y] ++ us.drop r.toNat))
    obtain ⟨qs, lq⟩ := pel_list (vs := us.take r.toNat ++ [y] ++ us.drop r.toNat) fun v hv => (show PEl H5 v by
      rcases List.mem_append.mp hv with hv | hv
      · rcases List.mem_append.mp hv with hv | hv
        · exact hue v (List.mem_of_mem_take hv)
        · rw [List.mem_singleton.mp hv]
          exact py
      · exact hue v (List.mem_of_mem_drop hv))
    have hql := list_lenQ lq
    rw [List.length_append, List.length_append, List.length_take, List.length_drop, List.length_singleton] at hql
    refine q _ qs _ (.tup upd_same (lq.keep' (kP.trans (.same st)))) (by omega) ((hd5.keep (S := [Pr]) Keep.at1 (by simp [nPd.symm]) (by simp [nPc.symm])).same st) (((k35.cat .at1).cat (.sm st)).thin (by simp [hPr]))
  have hlen : 1 ≤ vs.length := by
    have : ¬ V.int (vs.length : Int) = V.int 0 := of_decide_eq_false (Bool.eq_false_iff.mpr z2)
    have : ¬ (vs.length : Int) = 0 := fun e => this (congrArg V.int e)
    omega
  clear z z2
  refine ⟨_, rfl, _, rfl, Pr, vs, rfl, .inl (SqL.of eP), d, c, _, rfl, hd3, by omega, by omega, fun at_ H4 a0 a1 hd4 k4 => ?_⟩
  obtain ⟨ai, rfl⟩ := Int.eq_ofNat_of_zero_le a0
  have t4 := k4.tup1 hd3
  have hP4 := PL.keep (n := ps.length) ⟨vs, eP, hvl, hpe⟩ k4 t4 (by simp [nPd])
  obtain ⟨us, eP4, hul, hue⟩ := hP4
  refine ⟨_, rfl, _, rfl, Pr, us, rfl, .inl (SqL.of eP4), d, c, _, rfl, hd4, by omega, by omega, fun ot H5 o0 o1 hd5 k5 => ?_⟩
  obtain ⟨oi, rfl⟩ := Int.eq_ofNat_of_zero_le o0
  have t5 := k5.tup1 hd4
  have hP5 := PL.keep (n := ps.length) ⟨us, eP4, hul, hue⟩ k5 t5 (by simp [nPd])
  have k05 : Keep [d] H H5 := (k3.trans k4).trans k5
  obtain ⟨ws, eP5, hwl, hwe⟩ := hP5
  have hai : ai < ws.length := by omega
  have hoi : oi < ws.length := by omega
  obtain ⟨⟨g1, g2⟩, lg⟩ := hwe ws[ai] (List.getElem_mem hai)
  obtain ⟨q0, eq0, eg⟩ := lg.pk
  refine ⟨_, rfl, _, rfl, Pr, ws, ai, _, rfl, rfl, SqL.of eP5, atI_nat (List.getElem?_eq_getElem hai), ?_⟩
  rw [eq0]
  refine ⟨q0, _, rfl, SqT.of eg, rfl, _, _, rfl, _, _, rfl, rfl, ?_⟩
  have final : ∀ H6 n, DS H6 d c → PL H6 Pr n → n ≤ 50 → Keep [d] H H6 → ∀ tp, H6 tp = none → ∀ us, H6 Pr = some (.lst us) → Q (.ref tp) (upd H6 tp (.tup us)) := fun H6 n hd6 hP6 hn k6 tp htp us eu => by
    obtain ⟨ws', e', hl', he'⟩ := hP6
    obtain rfl : ws' = us := by rw [e'] at eu; cases eu; rfl
    obtain ⟨qs, lq⟩ := pel_list he'
    have st := same_new htp (.tup ws')
    exact q _ qs _ (.tup upd_same (lq.keep' (.same st))) (by rw [← list_lenQ lq]; omega) (hd6.same st) (k6.trans (.of_same st))
  refine ⟨fun σ' H' => ∃ n, σ' = [some (.ref d), some (.ref p), some (.ref pk), some (.ref Pr), some (.int tn), some (oV o), some (vI ai), some (vI oi), some (oV g1), some (oV g2)] ∧ DS H' d c ∧ PL H' Pr n ∧ n ≤ 50 ∧ Keep [d] H H', ?_, ?_⟩
  rotate_left
  · rintro σ' H6 ⟨n, rfl, hd6, hP6, hn, k6⟩
    obtain ⟨us', e6, _⟩ := id hP6
    exact ⟨_, rfl, Pr, us', rfl, .inl ⟨SqL.of e6, fun tp htp => final H6 n hd6 hP6 hn k6 tp htp us' e6⟩⟩
  have cs : CS H H5 d c Pr ps.length := ⟨hd5, ⟨ws, eP5, hwl, hwe⟩, k05, nPd, nPc, hPr⟩
  refine ⟨_, rfl, rfl, _, rfl, ite2 (fun z => ?_) (fun z => ?_)⟩
  · refine ⟨_, rfl, .inl ⟨rfl, _, SqL.of eP5⟩, _, rfl, Pr, ws, ai, (ai : Int).toNat, ws[ai], rfl, rfl, eP5, by omega, by omega, seqIndex_of (by omega) (by omega), List.getElem?_eq_getElem hai, ?_⟩
    have cs2 := cs.upd (us := ws.eraseIdx (ai : Int).toNat) eP5 fun v hv => hwe v (List.mem_of_mem_eraseIdx hv)
    exact ⟨_, rfl, cs2.ds, cs2.pl, by rw [List.length_eraseIdx]; split <;> omega, cs2.kp⟩
  clear z
  refine ⟨_, rfl, rfl, _, rfl, ite2 (fun z => ?_) (fun z => ?_)⟩
  · refine ⟨_, rfl, .inl ⟨rfl, _, SqL.of eP5⟩, _, rfl, _, rfl, _, rfl, Pr, ws, ai, _, rfl, rfl, SqL.of eP5, atI_nat (List.getElem?_eq_getElem hai), Pr, ws, oi, _, rfl, rfl, eP5, small1000 (by omega), by omega, by omega, ?_⟩
    have cs2 := cs.upd (us := ws.take (oi : Int).toNat ++ [ws[ai]] ++ ws.drop (oi : Int).toNat) eP5 (ins_pel hwe (hwe _ (List.getElem_mem hai)))
    exact ⟨_, rfl, cs2.ds, cs2.pl, by rw [List.length_append, List.length_append, List.length_take, List.length_drop, List.length_singleton]; omega, cs2.kp⟩
  clear z
  refine ⟨_, rfl, rfl, _, rfl, ite2 (fun z => ?_) (fun z => ?_)⟩
  · refine ⟨_, rfl, _, rfl, by show 2 ≤ sizeLine; decide, fun tp htp => ?_⟩
    have st := same_new htp (.tup [oV o, oV g2])
    have csT := cs.same st
    have pT := PEl.mk o g2 (upd_same (H := H5) (a := tp) (o := .tup [oV o, oV g2]))
    refine ⟨_, rfl, _, rfl, Pr, ws, ai, ai, rfl, rfl, st _ _ eP5, ixN_nat hai, ?_⟩
    have cs2 := csT.upd (us := ws.set ai (.ref tp)) (st _ _ eP5) (set_pel (fun v hv => (hwe v hv).keep (.same st)) pT)
    exact ⟨_, rfl, cs2.ds, cs2.pl, by rw [List.length_set]; omega, cs2.kp⟩
  clear z
  refine ⟨_, rfl, rfl, _, rfl, ite2 (fun z => ?_) (fun z => ?_)⟩
  · refine ⟨_, rfl, _, rfl, by show 2 ≤ sizeLine; decide, fun tp htp => ?_⟩
    have st := same_new htp (.tup [oV g1, oV o])
    have csT := cs.same st
    have pT := PEl.mk g1 o (upd_same (H := H5) (a := tp) (o := .tup [oV g1, oV o]))
    refine ⟨_, rfl, _, rfl, Pr, ws, ai, ai, rfl, rfl, st _ _ eP5, ixN_nat hai, ?_⟩
    have cs2 := csT.upd (us := ws.set ai (.ref tp)) (st _ _ eP5) (set_pel (fun v hv => (hwe v hv).keep (.same st)) pT)
    exact ⟨_, rfl, cs2.ds, cs2.pl, by rw [List.length_set]; omega, cs2.kp⟩
  clear z
  obtain ⟨ws', qo, ga, gb, eP', hwl', hwe', ho, eqo⟩ := cs.at_ (i := oi) (by omega)
  obtain rfl : ws' = ws := by rw [eP'] at eP5; cases eP5; rfl
  refine ⟨_, rfl, rfl, _, rfl, ite2 (fun z => ?_) (fun z => ?_)⟩
  · refine ⟨_, rfl, _, rfl, _, rfl, Pr, ws', oi, _, rfl, rfl, SqL.of eP', atI_nat ho, qo, _, _, _, rfl, rfl, SqT.of eqo, atI_nat (j := 1) rfl, by show 2 ≤ sizeLine; decide, fun tp htp => ?_⟩
    have st := same_new htp (.tup [oV g1, oV gb])
    have csT := cs.same st
    have pT := PEl.mk g1 gb (upd_same (H := H5) (a := tp) (o := .tup [oV g1, oV gb]))
    refine ⟨_, rfl, _, rfl, Pr, ws', ai, ai, rfl, rfl, st _ _ eP', ixN_nat hai, ?_⟩
    have cs2 := csT.upd (us := ws'.set ai (.ref tp)) (st _ _ eP') (set_pel (fun v hv => (hwe' v hv).keep (.same st)) pT)
    generalize upd (upd H5 tp (.tup [oV g1, oV gb])) Pr (.lst (ws'.set ai (.ref tp))) = H6 at cs2 ⊢
    rw [List.length_set] at cs2
    obtain ⟨w2, q2, gc, gd, eP6, hwl6, hwe6, ho6, eq6⟩ := cs2.at_ (i := oi) (by omega)
    refine ⟨_, rfl, _, rfl, Pr, w2, oi, _, rfl, rfl, SqL.of eP6, atI_nat ho6, q2, _, _, _, rfl, rfl, SqT.of eq6, atI_nat (j := 0) rfl, _, rfl, by show 2 ≤ sizeLine; decide, fun t2 ht2 => ?_⟩
    have st2 := same_new ht2 (.tup [oV gc, oV g2])
    have csU := cs2.same st2
    have pU := PEl.mk gc g2 (upd_same (H := H6) (a := t2) (o := .tup [oV gc, oV g2]))
    refine ⟨_, rfl, _, rfl, Pr, w2, oi, oi, rfl, rfl, st2 _ _ eP6, ixN_nat (by omega), ?_⟩
    have cs3 := csU.upd (us := w2.set oi (.ref t2)) (st2 _ _ eP6) (set_pel (fun v hv => (hwe6 v hv).keep (.same st2)) pU)
    exact ⟨_, rfl, cs3.ds, cs3.pl, by rw [List.length_set]; omega, cs3.kp⟩
  clear z
  refine ⟨_, rfl, rfl, _, rfl, ite2 (fun z => ?_) (fun z => ?_)⟩
  · refine ⟨_, rfl, by show 2 ≤ sizeLine; decide, fun tp htp => ?_⟩
    have st := same_new htp (.tup [oV g1, V.non])
    have csT := cs.same st
    have pT := PEl.mk g1 none (upd_same (H := H5) (a := tp) (o := .tup [oV g1, V.non]))
    refine ⟨_, rfl, _, rfl, Pr, ws', ai, ai, rfl, rfl, st _ _ eP', ixN_nat hai, ?_⟩
    have cs2 := csT.upd (us := ws'.set ai (.ref tp)) (st _ _ eP') (set_pel (fun v hv => (hwe' v hv).keep (.same st)) pT)
    generalize upd (upd H5 tp (.tup [oV g1, V.non])) Pr (.lst (ws'.set ai (.ref tp))) = H6 at cs2 ⊢
    rw [List.length_set] at cs2
    obtain ⟨w2, eP6, hwl6, hwe6⟩ := cs2.pl
    refine ⟨_, rfl, .inl ⟨rfl, _, SqL.of eP6⟩, _, rfl, by show 2 ≤ sizeLine; decide, fun t2 ht2 => ?_⟩
    have st2 := same_new ht2 (.tup [V.non, oV g2])
    have csU := cs2.same st2
    have pU := PEl.mk none g2 (upd_same (H := H6) (a := t2) (o := .tup [V.non, oV g2]))
    refine ⟨Pr, w2, _, rfl, rfl, st2 _ _ eP6, small1000 (by omega), ?_⟩
    have cs3 := csU.upd (us := w2 ++ [.ref t2]) (st2 _ _ eP6) (app_pel (fun v hv => (hwe6 v hv).keep (.same st2)) pU)
    exact ⟨_, rfl, cs3.ds, cs3.pl, by rw [List.length_append, List.length_singleton]; omega, cs3.kp⟩
  refine ⟨_, rfl, _, rfl, _, rfl, Pr, ws', oi, _, rfl, rfl, SqL.of eP', atI_nat ho, qo, _, _, _, rfl, rfl, SqT.of eqo, atI_nat (j := 1) rfl, by show 2 ≤ sizeLine; decide, fun tp htp => ?_⟩
  have st := same_new htp (.tup [oV g1, oV gb])
  have csT := cs.same st
  have pT := PEl.mk g1 gb (upd_same (H := H5) (a := tp) (o := .tup [oV g1, oV gb]))
  refine ⟨_, rfl, _, rfl, Pr, ws', ai, ai, rfl, rfl, st _ _ eP', ixN_nat hai, ?_⟩
  have cs2 := csT.upd (us := ws'.set ai (.ref tp)) (st _ _ eP') (set_pel (fun v hv => (hwe' v hv).keep (.same st)) pT)
  generalize upd (upd H5 tp (.tup [oV g1, oV gb])) Pr (.lst (ws'.set ai (.ref tp))) = H6 at cs2 ⊢
  rw [List.length_set] at cs2
  obtain ⟨w2, eP6, hwl6, hwe6⟩ := cs2.pl
  refine ⟨_, rfl, .inl ⟨rfl, _, SqL.of eP6⟩, _, rfl, Pr, w2, oi, (oi : Int).toNat, w2[oi]'(by omega), rfl, rfl, eP6, by omega, by omega, seqIndex_of (by omega) (by omega), List.getElem?_eq_getElem _, ?_⟩
  have cs3 := cs2.upd (us := w2.eraseIdx (oi : Int).toNat) eP6 fun v hv => hwe6 v (List.mem_of_mem_eraseIdx hv)
  exact ⟨_, rfl, cs3.ds, cs3.pl, by rw [List.length_eraseIdx]; split <;> omega, cs3.kp⟩
end
end Bf

set_option Elab.async false
set_option linter.all false
set_option maxRecDepth 100000
set_option maxHeartbeats 4000000
namespace Bf
open PySem PySem.Spec PyProof.Rows L2
theorem sh_oD (k : Nat) : ∀ o : Option Int, Sh k (oD o)
  | none => ⟨by simp only [oD, PyData.canLay0], by simp only [oD, PyData.depth]; omega⟩
  | some i => Sh.int k i
theorem sh_pk (k : Nat) (p : OI) : Sh (k + 1) (pkD p) := Sh.tup fun d hd => by
  simp only [List.mem_cons, List.not_mem_nil, or_false] at hd
  rcases hd with rfl | rfl
  · exact sh_oD k _
  · exact sh_oD k _
theorem sh_pks (ps : List OI) : Sh 2 (.tuple (ps.map pkD)) := Sh.tup fun d hd => by
  obtain ⟨p, _, rfl⟩ := List.mem_map.mp hd
  exact sh_pk 0 p
def spLaw (K : PySem.W.Frag) : Sp := fun vs H Q _ => ∃ (a : Addr) (ns : List Int), vs = [.ref a] ∧ SqL K H a (ns.map V.int) ∧ ns.length ≤ 63 ∧ ∀ H', Q (.bl true) H'
section
variable {P : Program} {w : World} {K : PySem.W.Frag} {mg : Str → Option Value} {base : Heap} {f : Addr} {fd : FuncData}
theorem ok_law (F : Fun K "law" "law" s_law f fd) (T : Txt mg) (D_law_begin : Dn P w K mg base "_law_begin" ["_law_script"] 1 (spBegin K)) (D_law_draw : Dn P w K mg base "_law_draw" ["_law_d", "_law_many"] 1 spDraw) (D_law_rare : Dn P w K mg base "_law_rare" ["_law_d", "_law_many"] 2 spRare)
    (D_law_tables : Dn P w K mg base "_law_tables" ["_law_d", "_law_inputs", "_law_regs", "_law_many", "_law_outputs"] 3 spTables) (D_packing_of : Dn P w K mg base "packing_of" ["tables"] 1 spPacking)
    (D_law_is_packing : Dn P w K mg base "_law_is_packing" ["_law_told"] 2 spIsPack) (D_law_takes : Dn P w K mg base "_law_takes" ["_law_tables_here", "_law_packing_here"] 1 spTakes) (D_judge_packing : Dn P w K mg base "judge_packing" ["tables", "packing"] 3 spJudge)
    (D_law_packing : Dn P w K mg base "_law_packing" ["_law_d", "_law_tables_here"] 3 spLPack) (D_law_changed : Dn P w K mg base "_law_changed" ["_law_d", "_law_tables_here", "_law_packing_here"] 3 (spChanged K)) :
    FnOk P w K mg base CX0 4 f fd ["_law_script"] (spLaw K) := by
  refine F.ok sc_law (fun vs H Q E h => ?_) (fun cdv A outer s H vs Q E hr h => ?_)
  · obtain ⟨a, ns, rfl, _⟩ := h
    rfl
  obtain ⟨a, ns, rfl, hS, h63, q⟩ := h
  refine ⟨_, (pss_cons (ps_set (i := 1) sc_law.nd rfl (Or.inl rfl) (pe_dn D_law_begin (hr.mono (by omega)) (by rfl) (pa_cons (pv 0) pa_nil)))
      (pss_cons (ps_set (i := 2) sc_law.nd rfl (Or.inl rfl) (pe_dn D_law_rare (hr.mono (by omega)) (by rfl) (pa_cons (pv 1) (pa_cons pe_int pa_nil))))
      (pss_cons (ps_par (i := 3) (j := 4) (by rfl) sc_law.nd rfl rfl (by decide) rfl rfl (pa_cons (pe_dn D_law_draw (hr.mono (by omega)) (by rfl) (pa_cons (pv 1) (pa_cons pe_int pa_nil))) (pa_cons (pe_dn D_law_draw (hr.mono (by omega)) (by rfl) (pa_cons (pv 1) (pa_cons pe_int pa_nil))) pa_nil)) (by rfl))
      (pss_cons (ps_set (i := 5) sc_law.nd rfl (Or.inl rfl) (pe_dn D_law_tables (hr.mono (by omega)) (by rfl) (pa_cons (pv 1) (pa_cons (pv 3) (pa_cons (pe_dn D_law_draw (hr.mono (by omega)) (by rfl) (pa_cons (pv 1) (pa_cons (pe_ifExp (pt_val (pv 2)) pe_int pe_int) pa_nil))) (pa_cons (pe_dn D_law_draw (hr.mono (by omega)) (by rfl) (pa_cons (pv 1) (pa_cons (pe_ifExp (pt_val (pv 2)) pe_int pe_int) pa_nil))) (pa_cons (pv 4) pa_nil)))))))
      (pss_cons (ps_set (i := 6) sc_law.nd rfl (Or.inl rfl) (pe_dn D_packing_of (hr.mono (by omega)) (by rfl) (pa_cons (pv 5) pa_nil)))
      (pss_cons (ps_if (PW.pt (pw_or (pt_not (pt_val (pe_dn D_law_is_packing (hr.mono (by omega)) (by rfl) (pa_cons (pv 6) pa_nil)))) (pw_or1 (pt_not (pt_val (pe_dn D_law_takes (hr.mono (by omega)) (by rfl) (pa_cons (pv 5) (pa_cons (pv 6) pa_nil)))))))) (pss_one (ps_ret pe_bl)) pss_nil)
      (pss_cons (ps_set (i := 7) sc_law.nd rfl (Or.inr rfl) (pe_op op_add (pv 3) (pe_callB call_len_seq (by rfl) T.n_len (by decide +kernel) (pa_cons (pe_ix ix_tup (pv 5) pe_int (fun _ _ => rfl)) pa_nil))))
      (pss_cons (ps_set (i := 8) sc_law.nd rfl (Or.inr rfl) (pe_lc (own := [("_law_row", 14)]) (g := (gName 14)) (tt := tYes) rfl sc_law.nd (pi_tup (pe_ix ix_tup (pv 5) pe_int (fun _ _ => rfl))) (blkOk_by (N := ["_law_script", "_law_d", "_law_is_large", "_law_inputs", "_law_outputs", "_law_tables_here", "_law_told", "_law_first", "_law_nexts", "_law_mated", "_law_right", "_law_k", "_law_paper", "_law_answer", "_law_row", "_law_table"]) (sc := defScope s_law) (by decide +kernel)) (fun _ _ _ _ _ => (pg_name (i := 14) sc_law.nd rfl (Or.inl rfl))) (fun _ _ _ _ _ => pts_nil) (fun _ _ _ _ _ => (pe_ix (ix_tup : IxR _ (rIxT K)) (pv 14) pe_int (fun _ _ => rfl)))))
      (pss_cons (ps_setLc (i := 9) (own := [("_law_table", 15)]) (g := (gName 15)) rfl sc_law.nd rfl rfl (sw_true rfl rfl rfl (by decide +kernel)) (pi_range1 rfl T.n_range (pa_cons (pe_callB call_len_seq (by rfl) T.n_len (by decide +kernel) (pa_cons (pe_ix ix_tup (pv 5) pe_int (fun _ _ => rfl)) pa_nil)) pa_nil)) (blkOk_by (N := ["_law_script", "_law_d", "_law_is_large", "_law_inputs", "_law_outputs", "_law_tables_here", "_law_told", "_law_first", "_law_nexts", "_law_mated", "_law_right", "_law_k", "_law_paper", "_law_answer", "_law_row", "_law_table"]) (sc := defScope s_law) (by decide +kernel)) (fun _ _ _ _ _ => (pg_name (i := 15) sc_law.nd rfl (Or.inl rfl))) (fun _ _ _ _ _ => (pts_one (pt_cmpR (op_in_seq : OpR _ _ (rIn K false)) (pe_op op_add (pv 7) (pv 15)) (pv 8) (by rfl)))) (fun _ _ _ _ _ => (pv 15)))
      (pss_cons (ps_if (pt_cmpR op_ne (pe_callB call_len_seq (by rfl) T.n_len (by decide +kernel) (pa_cons (pv 6) pa_nil)) (pe_op op_sub (pe_op op_add (pe_callB call_len_seq (by rfl) T.n_len (by decide +kernel) (pa_cons (pe_ix ix_tup (pv 5) pe_int (fun _ _ => rfl)) pa_nil)) (pe_callB call_len_seq (by rfl) T.n_len (by decide +kernel) (pa_cons (pe_ix ix_tup (pv 5) pe_int (fun _ _ => rfl)) pa_nil))) (pe_callB call_len_seq (by rfl) T.n_len (by decide +kernel) (pa_cons (pv 9) pa_nil))) (nomark _)) (pss_one (ps_ret pe_bl)) pss_nil)
      (pss_cons (ps_if (PW.pt (pw_or (pt_cmpR op_notBl (pe_dn D_judge_packing (hr.mono (by omega)) (by rfl) (pa_cons (pv 5) (pa_cons (pv 6) pa_nil))) pe_bl (nomark _)) (pw_or1 (pt_cmpR (op_neD hr.units) (pe_dn D_packing_of (hr.mono (by omega)) (by rfl) (pa_cons (pv 5) pa_nil)) (pv 6) (nomark _))))) (pss_one (ps_ret pe_bl)) pss_nil)
      (pss_cons (ps_set (i := 10) sc_law.nd rfl (Or.inl rfl) (pe_dn D_law_packing (hr.mono (by omega)) (by rfl) (pa_cons (pv 1) (pa_cons (pv 5) pa_nil))))
      (pss_cons (ps_if (pt_cmpR op_notBl (pe_dn D_judge_packing (hr.mono (by omega)) (by rfl) (pa_cons (pv 5) (pa_cons (pv 10) pa_nil))) pe_bl (nomark _)) (pss_one (ps_ret pe_bl)) pss_nil)
      (pss_cons (ps_for PassesOwn.never rfl (pi_range1 rfl T.n_range (pa_cons pe_int pa_nil)) (pg_name (i := 11) sc_law.nd rfl (Or.inl rfl)) (pss_cons (ps_set (i := 12) sc_law.nd rfl (Or.inl rfl) (pe_dn D_law_changed (hr.mono (by omega)) (by rfl) (pa_cons (pv 1) (pa_cons (pv 5) (pa_cons (pv 10) pa_nil)))))
      (pss_cons (ps_set (i := 13) sc_law.nd rfl (Or.inl rfl) (pe_dn D_judge_packing (hr.mono (by omega)) (by rfl) (pa_cons (pv 5) (pa_cons (pv 12) pa_nil))))
      (pss_one (ps_if (PW.pt (pw_or (pt_not (pt_val (pe_callB (call_isi : CallR _ _ (rIsi K)) (by rfl) T.n_isinstance (by decide +kernel) (pa_cons (pv 13) (pa_cons (pe_bltn rfl T.n_bool (by decide +kernel) (v := .ty "bool") rfl) pa_nil))))) (pw_or1 (pt_cmpR op_ne (pv 13) (pe_dn D_law_takes (hr.mono (by omega)) (by rfl) (pa_cons (pv 5) (pa_cons (pv 12) pa_nil))) (nomark _))))) (pss_one (ps_ret pe_bl)) pss_nil)))))
      (pss_one (ps_ret pe_bl)))))))))))))))), ?_⟩
  refine ⟨_, rfl, a, ns, rfl, hS, h63, fun d c H1 nd nc hd1 s1 => ?_⟩
  refine ⟨_, rfl, d, c, 9, rfl, hd1, by decide, by decide, fun il H2 hd2 k2 => ?_⟩
  refine ⟨_, rfl, d, c, 4, rfl, hd2, by decide, by decide, fun r H3 r0 r1 hd3 k3 => ?_⟩
  obtain ⟨ia, rfl⟩ := Int.eq_ofNat_of_zero_le r0
  refine ⟨_, rfl, d, c, 3, rfl, hd3, by decide, by decide, fun r H4 r2 r3 hd4 k4 => ?_⟩
  obtain ⟨io, rfl⟩ := Int.eq_ofNat_of_zero_le r2
  refine ⟨_, _, rfl, ?_⟩
  cases il
  all_goals
    refine ⟨_, rfl, _, rfl, _, rfl, _, rfl, _, rfl, ?_⟩
    first
    | refine iteF ?_
    | refine iteT ?_
    refine ⟨d, c, _, rfl, hd4, by decide, by decide, fun r H5 r4 r5 hd5 k5 => ?_⟩
    obtain ⟨nr, rfl⟩ := Int.eq_ofNat_of_zero_le r4
    refine ⟨_, rfl, _, rfl, _, rfl, ?_⟩
    first
    | refine iteF ?_
    | refine iteT ?_
    refine ⟨d, c, _, rfl, hd5, by decide, by decide, fun r H6 r6 r7 hd6 k6 => ?_⟩
    obtain ⟨nt, rfl⟩ := Int.eq_ofNat_of_zero_le r6
    refine ⟨_, rfl, d, c, ia, nr, nt, io, rfl, hd6, by omega, by omega, by omega, by omega, fun v T' H7 tab e1 e2 e3 hf hd7 k7 => ?_⟩
    have hb : T'.ni ≤ 3 ∧ T'.fs.length ≤ 12 ∧ T'.m ≤ 14 := by omega
    have hpl := packing_len hf
    have hpt := packing_taken hf
    have hlen : (packing T').length ≤ 26 := by omega
    clear k2 k3 k4 k5 k6 k7 hd1 hd2 hd3 hd4 hd5 hd6 s1 hS r0 r1 r2 r3 r4 r5 r6 r7
    refine ⟨_, rfl, v, T', rfl, tab, by omega, by omega, fun u H8 s8 lu => ?_⟩
    refine ⟨_, rfl, u, packing T', rfl, lu, by omega, fun H9 s9 => ⟨true, rfl, iteF ?_⟩⟩
    refine ⟨_, rfl, _, rfl, v, u, T', packing T', rfl, tab.keep (.same (s8.trans s9)), lu.keep' (.same s9), by omega, by omega, by omega, fun H10 s10 => ?_⟩
    rw [takenB_true hpt]
    refine ⟨true, rfl, iteF ?_⟩
    have sA := (s8.trans s9).trans s10
    have luA := lu.keep' (.same (s9.trans s10))
    have tabA := tab.keep (.same sA)
    have hdA := hd7.same sA
    obtain ⟨p, a', b, cc, dd, xs, rw_, vr, regs, h⟩ := tabA
    obtain rfl := h.ev
    have lvr := list_lenQ h.lr
    have elf : vr.length = T'.fs.length := by rw [lvr, h.er, List.length_map]
    refine ⟨_, rfl, _, rfl, p, _, _, _, rfl, rfl, SqT.of h.top, atI_nat (j := 2) rfl, b, vr, rfl, .inr (SqT.of h.hr), _, _, rfl, rfl, ?_⟩
    refine ⟨_, rfl, p, _, _, _, rfl, rfl, SqT.of h.top, atI_nat (j := 2) rfl, b, rfl, ⟨_, SqT.of h.hr⟩, fun D hD => ?_⟩
    refine lc_rows (walk_tup (xs := vr)) (rows := regs) (f := rgD) (g := fun r => r.2.2) (h := fun n : Nat => PyData.int (n : Int)) (fun H' sm => SqT.of (sm _ _ h.hr)) hD h.lr (by omega) (fun i x r H' R Z hr sm lx k => ?_) (fun us H11 s11 eD lus => ?_)
    · obtain ⟨q1, rfl, eq1⟩ := lx.rg
      exact ⟨rfl, _, rfl, q1, _, _, _, rfl, rfl, SqT.of eq1, atI_nat (j := 2) rfl, k _ _ (.refl _) (.int _)⟩
    rw [LayAll.ints_inv lus, ← h.er] at eD
    have htp := s11 _ _ h.top
    refine ⟨_, rfl, p, _, _, _, rfl, rfl, SqT.of htp, atI_nat (j := 3) rfl, cc, rw_, rfl, .inr (SqT.of (s11 _ _ h.hw)), _, rfl, (i62 (show rw_.length ≤ 1000 by rw [h.lw]; omega)).1, (i62 (show rw_.length ≤ 1000 by rw [h.lw]; omega)).2, fun D2 hD2 => ?_⟩
    rw [show ((rw_.length : Nat) : Int).toNat = T'.m by rw [h.lw]; omega]
    refine lc_range (lo := 0) (n := T'.m) (fun i H' => Same H11 H' ∧ H' D2 = some (.lst (((List.range i).filter fun t => decide (T'.first + t ∈ T'.fs)).map vI))) ⟨same_new hD2 _, upd_same⟩ (fun i H' hi pv => ?_) (fun H12 pv => ?_)
    · obtain ⟨sm, e2D⟩ := pv
      have eV : (fun i j => V.int (i + j)) ((fun i j => (i + j : Int)) (ia : Int) (vr.length : Int)) (0 + (i : Int)) = vI (T'.first + i) := congrArg V.int (by show (ia : Int) + (vr.length : Int) + (0 + (i : Int)) = _; rw [elf]; unfold TabS.first; omega)
      refine ⟨rfl, _, rfl, _, rfl, _, _, rfl, rfl, _, rfl, D, _, rfl, .inl (SqL.of (sm _ _ eD)), rfl, flat_ints _, _, rfl, ?_⟩
      show if (if false = true then !inV ((fun i j => V.int (i + j)) ((fun i j => (i + j : Int)) (ia : Int) (vr.length : Int)) (0 + (i : Int))) (T'.fs.map vI) else inV ((fun i j => V.int (i + j)) ((fun i j => (i + j : Int)) (ia : Int) (vr.length : Int)) (0 + (i : Int))) (T'.fs.map vI)) = true then _ else _
      rw [eV, inV_int]
      have hfl : (((List.range i).filter fun t => decide (T'.first + t ∈ T'.fs)).map vI).length ≤ 100 := by
        rw [List.length_map]
        have := List.length_filter_le (fun t => decide (T'.first + t ∈ T'.fs)) (List.range i)
        rw [List.length_range] at this
        omega
      by_cases hm : T'.first + i ∈ T'.fs
      · refine ifY (by simp [hm]) ⟨_, rfl, _, e2D, small1000 (by omega), same_two sm hD2, ?_⟩
        rw [upd_same, List.range_succ, List.filter_append, List.map_append, List.filter_cons_of_pos (by simp [hm])]
        show some (HO.lst (_ ++ [V.int (0 + (i : Int))])) = _
        rw [show V.int (0 + (i : Int)) = vI i from congrArg V.int (by omega)]
        rfl
      · refine ifN (by simp [hm]) ⟨sm, ?_⟩
        rw [e2D, List.range_succ, List.filter_append, List.map_append, List.filter_cons_of_neg (by simp [hm])]
        show _ = some (HO.lst (_ ++ []))
        rw [List.append_nil]
    obtain ⟨s12, e2D⟩ := pv
    have sB := s11.trans s12
    have luB := luA.keep' (.same sB)
    have hdB := hdA.same sB
    have tabB : TabAt H12 (.ref p) T' := ⟨p, a', b, cc, dd, xs, rw_, vr, regs, sB _ _ h.top, sB _ _ h.hi, h.li, sB _ _ h.hr, h.lr.keep' (.same sB), h.er, sB _ _ h.hw, h.lw, rfl⟩
    obtain ⟨pk, vp, rfl, ep, lp⟩ := luB.tup_inv
    have lvp := list_lenQ lp
    refine ⟨_, rfl, pk, vp, rfl, .inr (SqT.of ep), _, rfl, p, _, _, _, rfl, rfl, SqT.of (sB _ _ h.top), atI_nat (j := 3) rfl, cc, rw_, rfl, .inr (SqT.of (sB _ _ h.hw)), _, rfl, p, _, _, _, rfl, rfl, SqT.of (sB _ _ h.top), atI_nat (j := 2) rfl, b, vr, rfl, .inr (SqT.of (sB _ _ h.hr)), _, _, rfl, rfl, _, rfl, D2, _, rfl, .inl (SqL.of e2D), _, _, rfl, rfl, rfl, _, rfl, ?_⟩
    show if (!decide (V.int (vp.length : Int) = V.int ((rw_.length : Int) + (vr.length : Int) - ((((List.range T'.m).filter fun t => decide (T'.first + t ∈ T'.fs)).map vI).length : Int)))) = true then _ else _
    refine ifN (by
      rw [decide_eq_true (congrArg V.int (by rw [List.length_map, h.lw, elf, lvp]; omega))]
      rfl) ?_
    refine ⟨_, rfl, _, rfl, .ref p, .ref pk, T', packing T', rfl, tabB, luB, by omega, by omega, by omega, fun H13 s13 => ?_⟩
    rw [takenB_true hpt]
    refine ⟨_, _, rfl, rfl, _, rfl, iteF ?_⟩
    refine ⟨_, rfl, .ref p, T', rfl, tabB.keep (.same s13), by omega, by omega, fun u2 H14 s14 lu2 => ?_⟩
    refine ⟨_, rfl, _, _, lu2.dp', (luB.keep' (.same (s13.trans s14))).dp', (sh_pks _).shaped (by decide), (sh_pks _).shaped (by decide), ?_⟩
    rw [eqv_self _ (sh_pks _).1]
    refine ⟨_, rfl, iteF ?_⟩
    have sC := s13.trans s14
    refine ⟨_, rfl, _, rfl, d, c, .ref p, T', rfl, hdB.same sC, tabB.keep (.same sC), by omega, by omega, fun u3 qs H15 lu3 hq hql hd15 k15 => ?_⟩
    have tab15 := (tabB.keep (.same sC)).keep (k15.tup1 (hdB.same sC))
    refine ⟨_, rfl, _, rfl, .ref p, u3, T', qs, rfl, tab15, lu3, by omega, by omega, by omega, fun H16 s16 => ?_⟩
    rw [takenB_true hq]
    refine ⟨_, _, rfl, rfl, _, rfl, iteF ?_⟩
    have hd16 := hd15.same s16
    have tab16 := tab15.keep (.same s16)
    have lu16 := lu3.keep' (.same s16)
    refine ⟨8, rfl, by decide, by decide, for_it walk_range (fun i σ' H' => ∃ v7 v8 v9 v11 v12 v13 : Option V, σ' = [some (.ref a), some (.ref d), some (.bl _), some (vI ia), some (vI io), some (.ref p), some (.ref pk), v7, v8, v9, some u3, v11, v12, v13, none, none] ∧ DS H' d c ∧ TabAt H' (.ref p) T' ∧ Lay H' u3 (.tuple (qs.map pkD)))
      ⟨_, _, _, _, _, _, rfl, hd16, tab16, lu16⟩ (fun _ _ _ _ _ => trivial) (fun i x σ' H' H17 hi pv y => ?_) (fun σ' H' pv => ?_)⟩
    · obtain ⟨v7, v8, v9, v11, v12, v13, rfl, hd17, tab17, lu17⟩ := pv
      obtain ⟨rfl, rfl⟩ := y
      refine ⟨_, rfl, _, rfl, _, rfl, d, c, .ref p, u3, T', qs, rfl, hd17, tab17, lu17, by omega, fun u4 ws H18 lu4 hwl hd18 k18 => ?_⟩
      have t18 := k18.tup1 hd17
      have tab18 := tab17.keep t18
      have lu18 := lu17.keep' t18
      refine ⟨_, rfl, _, rfl, .ref p, u4, T', ws, rfl, tab18, lu4, by omega, by omega, by omega, fun H19 s19 => ?_⟩
      refine ⟨_, rfl, _, _, .type "bool", .type "bool", true, rfl, .ty "bool", .base (.bl _), kit_ty (by decide +kernel), true, rfl, iteF ?_⟩
      refine ⟨_, rfl, _, rfl, _, rfl, .ref p, u4, T', ws, rfl, tab18.keep (.same s19), lu4.keep' (.same s19), by omega, by omega, by omega, fun H20 s20 => ?_⟩
      refine ⟨rfl, _, rfl, ?_⟩
      show if (!decide (V.bl (takenB T' ws) = V.bl (takenB T' ws))) = true then _ else _
      refine ifN (by rw [decide_eq_true rfl]; rfl) ?_
      exact ⟨_, _, _, _, _, _, rfl, (hd18.same s19).same s20, (tab18.keep (.same s19)).keep (.same s20), (lu18.keep' (.same s19)).keep' (.same s20)⟩
    · exact q _
end
end Bf

set_option Elab.async false
set_option linter.all false
set_option maxRecDepth 100000
set_option maxHeartbeats 4000000
namespace Bf
open PySem PySem.Spec PyProof.Rows L2
/-! ### what the top has written -/
theorem all_mk {l : PySem.W.OpenLaw} {w : World} {K : PySem.W.Frag} {h : Heap} {mg : Str → Option Value} {fa f__law_draw f__law_begin f__law_pop f__law_pick f__law_rare f__law_shuffled f__law_pool f__law_is_int f_is_thing f_is_pair f_judge_packing f_packing_of f__law_low_bits f__law_tables f__law_packing f__law_takes f__law_changed f__law_is_packing f_law : Addr} (X : K.In h) (G : h.Ns mainGlobals mg) (hfa : mg "law" = some (.ref fa))
    {od2 an2 : Option Addr} {sl2 : Array (Option Value)} {oc2 kV2 dc2 pm2 cd2 ct2 : Value}
    {od4 an4 : Option Addr} {sl4 : Array (Option Value)} {oc4 kV4 dc4 pm4 cd4 ct4 : Value}
    {od6 an6 : Option Addr} {sl6 : Array (Option Value)} {oc6 kV6 dc6 pm6 cd6 ct6 : Value}
    {od8 an8 : Option Addr} {sl8 : Array (Option Value)} {oc8 kV8 dc8 pm8 cd8 ct8 : Value}
    {od10 an10 : Option Addr} {sl10 : Array (Option Value)} {oc10 kV10 dc10 pm10 cd10 ct10 : Value}
    {od12 an12 : Option Addr} {sl12 : Array (Option Value)} {oc12 kV12 dc12 pm12 cd12 ct12 : Value}
    {od14 an14 : Option Addr} {sl14 : Array (Option Value)} {oc14 kV14 dc14 pm14 cd14 ct14 : Value}
    {od16 an16 : Option Addr} {sl16 : Array (Option Value)} {oc16 kV16 dc16 pm16 cd16 ct16 : Value}
    {od18 an18 : Option Addr} {sl18 : Array (Option Value)} {oc18 kV18 dc18 pm18 cd18 ct18 : Value}
    {od20 an20 : Option Addr} {sl20 : Array (Option Value)} {oc20 kV20 dc20 pm20 cd20 ct20 : Value}
    {od22 an22 : Option Addr} {sl22 : Array (Option Value)} {oc22 kV22 dc22 pm22 cd22 ct22 : Value}
    {od24 an24 : Option Addr} {sl24 : Array (Option Value)} {oc24 kV24 dc24 pm24 cd24 ct24 : Value}
    {od26 an26 : Option Addr} {sl26 : Array (Option Value)} {oc26 kV26 dc26 pm26 cd26 ct26 : Value}
    {od28 an28 : Option Addr} {sl28 : Array (Option Value)} {oc28 kV28 dc28 pm28 cd28 ct28 : Value}
    {od30 an30 : Option Addr} {sl30 : Array (Option Value)} {oc30 kV30 dc30 pm30 cd30 ct30 : Value}
    {od32 an32 : Option Addr} {sl32 : Array (Option Value)} {oc32 kV32 dc32 pm32 cd32 ct32 : Value}
    {od34 an34 : Option Addr} {sl34 : Array (Option Value)} {oc34 kV34 dc34 pm34 cd34 ct34 : Value}
    {od36 an36 : Option Addr} {sl36 : Array (Option Value)} {oc36 kV36 dc36 pm36 cd36 ct36 : Value}
    {od38 an38 : Option Addr} {sl38 : Array (Option Value)} {oc38 kV38 dc38 pm38 cd38 ct38 : Value}
    (a1 : PySem.W.nsIn K mainGlobals "_law_draw" = some (some (.ref f__law_draw)))
    (l2 : K.lookup f__law_draw = some ⟨oc2, od2, .func (PySem.W.fnOf "_law_draw" "_law_draw" (defArgs s_law_draw) (defBody s_law_draw) (defScope s_law_draw) .none kV2 dc2 pm2 an2 cd2 ct2), sl2⟩) (c2 : PySem.W.codeIn K cd2 "_law_draw" = true) (k2 : PySem.W.keepIn K (.ref f__law_draw) = true)
    (a3 : PySem.W.nsIn K mainGlobals "_law_begin" = some (some (.ref f__law_begin)))
    (l4 : K.lookup f__law_begin = some ⟨oc4, od4, .func (PySem.W.fnOf "_law_begin" "_law_begin" (defArgs s_law_begin) (defBody s_law_begin) (defScope s_law_begin) .none kV4 dc4 pm4 an4 cd4 ct4), sl4⟩) (c4 : PySem.W.codeIn K cd4 "_law_begin" = true) (k4 : PySem.W.keepIn K (.ref f__law_begin) = true)
    (a5 : PySem.W.nsIn K mainGlobals "_law_pop" = some (some (.ref f__law_pop)))
    (l6 : K.lookup f__law_pop = some ⟨oc6, od6, .func (PySem.W.fnOf "_law_pop" "_law_pop" (defArgs s_law_pop) (defBody s_law_pop) (defScope s_law_pop) .none kV6 dc6 pm6 an6 cd6 ct6), sl6⟩) (c6 : PySem.W.codeIn K cd6 "_law_pop" = true) (k6 : PySem.W.keepIn K (.ref f__law_pop) = true)
    (a7 : PySem.W.nsIn K mainGlobals "_law_pick" = some (some (.ref f__law_pick)))
    (l8 : K.lookup f__law_pick = some ⟨oc8, od8, .func (PySem.W.fnOf "_law_pick" "_law_pick" (defArgs s_law_pick) (defBody s_law_pick) (defScope s_law_pick) .none kV8 dc8 pm8 an8 cd8 ct8), sl8⟩) (c8 : PySem.W.codeIn K cd8 "_law_pick" = true) (k8 : PySem.W.keepIn K (.ref f__law_pick) = true)
    (a9 : PySem.W.nsIn K mainGlobals "_law_rare" = some (some (.ref f__law_rare)))
    (l10 : K.lookup f__law_rare = some ⟨oc10, od10, .func (PySem.W.fnOf "_law_rare" "_law_rare" (defArgs s_law_rare) (defBody s_law_rare) (defScope s_law_rare) .none kV10 dc10 pm10 an10 cd10 ct10), sl10⟩) (c10 : PySem.W.codeIn K cd10 "_law_rare" = true) (k10 : PySem.W.keepIn K (.ref f__law_rare) = true)
    (a11 : PySem.W.nsIn K mainGlobals "_law_shuffled" = some (some (.ref f__law_shuffled)))
    (l12 : K.lookup f__law_shuffled = some ⟨oc12, od12, .func (PySem.W.fnOf "_law_shuffled" "_law_shuffled" (defArgs s_law_shuffled) (defBody s_law_shuffled) (defScope s_law_shuffled) .none kV12 dc12 pm12 an12 cd12 ct12), sl12⟩) (c12 : PySem.W.codeIn K cd12 "_law_shuffled" = true) (k12 : PySem.W.keepIn K (.ref f__law_shuffled) = true)
    (a13 : PySem.W.nsIn K mainGlobals "_law_pool" = some (some (.ref f__law_pool)))
    (l14 : K.lookup f__law_pool = some ⟨oc14, od14, .func (PySem.W.fnOf "_law_pool" "_law_pool" (defArgs s_law_pool) (defBody s_law_pool) (defScope s_law_pool) .none kV14 dc14 pm14 an14 cd14 ct14), sl14⟩) (c14 : PySem.W.codeIn K cd14 "_law_pool" = true) (k14 : PySem.W.keepIn K (.ref f__law_pool) = true)
    (a15 : PySem.W.nsIn K mainGlobals "_law_is_int" = some (some (.ref f__law_is_int)))
    (l16 : K.lookup f__law_is_int = some ⟨oc16, od16, .func (PySem.W.fnOf "_law_is_int" "_law_is_int" (defArgs s_law_is_int) (defBody s_law_is_int) (defScope s_law_is_int) .none kV16 dc16 pm16 an16 cd16 ct16), sl16⟩) (c16 : PySem.W.codeIn K cd16 "_law_is_int" = true) (k16 : PySem.W.keepIn K (.ref f__law_is_int) = true)
    (a17 : PySem.W.nsIn K mainGlobals "is_thing" = some (some (.ref f_is_thing)))
    (l18 : K.lookup f_is_thing = some ⟨oc18, od18, .func (PySem.W.fnOf "is_thing" "is_thing" (defArgs s_is_thing) (defBody s_is_thing) (defScope s_is_thing) .none kV18 dc18 pm18 an18 cd18 ct18), sl18⟩) (c18 : PySem.W.codeIn K cd18 "is_thing" = true) (k18 : PySem.W.keepIn K (.ref f_is_thing) = true)
    (a19 : PySem.W.nsIn K mainGlobals "is_pair" = some (some (.ref f_is_pair)))
    (l20 : K.lookup f_is_pair = some ⟨oc20, od20, .func (PySem.W.fnOf "is_pair" "is_pair" (defArgs s_is_pair) (defBody s_is_pair) (defScope s_is_pair) .none kV20 dc20 pm20 an20 cd20 ct20), sl20⟩) (c20 : PySem.W.codeIn K cd20 "is_pair" = true) (k20 : PySem.W.keepIn K (.ref f_is_pair) = true)
    (a21 : PySem.W.nsIn K mainGlobals "judge_packing" = some (some (.ref f_judge_packing)))
    (l22 : K.lookup f_judge_packing = some ⟨oc22, od22, .func (PySem.W.fnOf "judge_packing" "judge_packing" (defArgs s_judge_packing) (defBody s_judge_packing) (defScope s_judge_packing) .none kV22 dc22 pm22 an22 cd22 ct22), sl22⟩) (c22 : PySem.W.codeIn K cd22 "judge_packing" = true) (k22 : PySem.W.keepIn K (.ref f_judge_packing) = true)
    (a23 : PySem.W.nsIn K mainGlobals "packing_of" = some (some (.ref f_packing_of)))
    (l24 : K.lookup f_packing_of = some ⟨oc24, od24, .func (PySem.W.fnOf "packing_of" "packing_of" (defArgs s_packing_of) (defBody s_packing_of) (defScope s_packing_of) .none kV24 dc24 pm24 an24 cd24 ct24), sl24⟩) (c24 : PySem.W.codeIn K cd24 "packing_of" = true) (k24 : PySem.W.keepIn K (.ref f_packing_of) = true)
    (a25 : PySem.W.nsIn K mainGlobals "_law_low_bits" = some (some (.ref f__law_low_bits)))
    (l26 : K.lookup f__law_low_bits = some ⟨oc26, od26, .func (PySem.W.fnOf "_law_low_bits" "_law_low_bits" (defArgs s_law_low_bits) (defBody s_law_low_bits) (defScope s_law_low_bits) .none kV26 dc26 pm26 an26 cd26 ct26), sl26⟩) (c26 : PySem.W.codeIn K cd26 "_law_low_bits" = true) (k26 : PySem.W.keepIn K (.ref f__law_low_bits) = true)
    (a27 : PySem.W.nsIn K mainGlobals "_law_tables" = some (some (.ref f__law_tables)))
    (l28 : K.lookup f__law_tables = some ⟨oc28, od28, .func (PySem.W.fnOf "_law_tables" "_law_tables" (defArgs s_law_tables) (defBody s_law_tables) (defScope s_law_tables) .none kV28 dc28 pm28 an28 cd28 ct28), sl28⟩) (c28 : PySem.W.codeIn K cd28 "_law_tables" = true) (k28 : PySem.W.keepIn K (.ref f__law_tables) = true)
    (a29 : PySem.W.nsIn K mainGlobals "_law_packing" = some (some (.ref f__law_packing)))
    (l30 : K.lookup f__law_packing = some ⟨oc30, od30, .func (PySem.W.fnOf "_law_packing" "_law_packing" (defArgs s_law_packing) (defBody s_law_packing) (defScope s_law_packing) .none kV30 dc30 pm30 an30 cd30 ct30), sl30⟩) (c30 : PySem.W.codeIn K cd30 "_law_packing" = true) (k30 : PySem.W.keepIn K (.ref f__law_packing) = true)
    (a31 : PySem.W.nsIn K mainGlobals "_law_takes" = some (some (.ref f__law_takes)))
    (l32 : K.lookup f__law_takes = some ⟨oc32, od32, .func (PySem.W.fnOf "_law_takes" "_law_takes" (defArgs s_law_takes) (defBody s_law_takes) (defScope s_law_takes) .none kV32 dc32 pm32 an32 cd32 ct32), sl32⟩) (c32 : PySem.W.codeIn K cd32 "_law_takes" = true) (k32 : PySem.W.keepIn K (.ref f__law_takes) = true)
    (a33 : PySem.W.nsIn K mainGlobals "_law_changed" = some (some (.ref f__law_changed)))
    (l34 : K.lookup f__law_changed = some ⟨oc34, od34, .func (PySem.W.fnOf "_law_changed" "_law_changed" (defArgs s_law_changed) (defBody s_law_changed) (defScope s_law_changed) .none kV34 dc34 pm34 an34 cd34 ct34), sl34⟩) (c34 : PySem.W.codeIn K cd34 "_law_changed" = true) (k34 : PySem.W.keepIn K (.ref f__law_changed) = true)
    (a35 : PySem.W.nsIn K mainGlobals "_law_is_packing" = some (some (.ref f__law_is_packing)))
    (l36 : K.lookup f__law_is_packing = some ⟨oc36, od36, .func (PySem.W.fnOf "_law_is_packing" "_law_is_packing" (defArgs s_law_is_packing) (defBody s_law_is_packing) (defScope s_law_is_packing) .none kV36 dc36 pm36 an36 cd36 ct36), sl36⟩) (c36 : PySem.W.codeIn K cd36 "_law_is_packing" = true) (k36 : PySem.W.keepIn K (.ref f__law_is_packing) = true)
    (a37 : PySem.W.nsIn K mainGlobals "law" = some (some (.ref f_law)))
    (l38 : K.lookup f_law = some ⟨oc38, od38, .func (PySem.W.fnOf "law" "law" (defArgs s_law) (defBody s_law) (defScope s_law) .none kV38 dc38 pm38 an38 cd38 ct38), sl38⟩) (c38 : PySem.W.codeIn K cd38 "law" = true) (k38 : PySem.W.keepIn K (.ref f_law) = true)
    (z39 : PySem.W.nsIn K mainGlobals "tuple" = some none)
    (z40 : PySem.W.nsIn K mainGlobals "len" = some none)
    (z41 : PySem.W.nsIn K mainGlobals "abs" = some none)
    (z42 : PySem.W.nsIn K mainGlobals "range" = some none)
    (z43 : PySem.W.nsIn K mainGlobals "isinstance" = some none)
    (z44 : PySem.W.nsIn K mainGlobals "list" = some none)
    (z45 : PySem.W.nsIn K mainGlobals "all" = some none)
    (z46 : PySem.W.nsIn K mainGlobals "sorted" = some none)
    (z47 : PySem.W.nsIn K mainGlobals "int" = some none)
    (z48 : PySem.W.nsIn K mainGlobals "min" = some none)
    (z49 : PySem.W.nsIn K mainGlobals "bool" = some none)
    (z50 : PySem.W.nsIn K mainGlobals "enumerate" = some none) :
    ∃ fd : FuncData, (∀ (s : Shared) (v : Value), BindsTo s fd ⟨[v], []⟩ [("_law_script", v)]) ∧ ∀ base : Heap, K.In base → base.Ns mainGlobals mg → FnOk l.prog w K mg base CX0 4 fa fd ["_law_script"] (spLaw K) := by
  have e := hfa.symm.trans (PySem.W.mg_of X G a37)
  cases e
  have T : Txt mg := ⟨PySem.W.mg_none_of X G z39, PySem.W.mg_none_of X G z40, PySem.W.mg_none_of X G z41, PySem.W.mg_none_of X G z42, PySem.W.mg_none_of X G z43, PySem.W.mg_none_of X G z44, PySem.W.mg_none_of X G z45, PySem.W.mg_none_of X G z46, PySem.W.mg_none_of X G z47, PySem.W.mg_none_of X G z48, PySem.W.mg_none_of X G z49, PySem.W.mg_none_of X G z50⟩
  have F_law_draw := fun_mk (st := s_law_draw) l2 c2 k2
  have F_law_begin := fun_mk (st := s_law_begin) l4 c4 k4
  have F_law_pop := fun_mk (st := s_law_pop) l6 c6 k6
  have F_law_pick := fun_mk (st := s_law_pick) l8 c8 k8
  have F_law_rare := fun_mk (st := s_law_rare) l10 c10 k10
  have F_law_shuffled := fun_mk (st := s_law_shuffled) l12 c12 k12
  have F_law_pool := fun_mk (st := s_law_pool) l14 c14 k14
  have F_law_is_int := fun_mk (st := s_law_is_int) l16 c16 k16
  have F_is_thing := fun_mk (st := s_is_thing) l18 c18 k18
  have F_is_pair := fun_mk (st := s_is_pair) l20 c20 k20
  have F_judge_packing := fun_mk (st := s_judge_packing) l22 c22 k22
  have F_packing_of := fun_mk (st := s_packing_of) l24 c24 k24
  have F_law_low_bits := fun_mk (st := s_law_low_bits) l26 c26 k26
  have F_law_tables := fun_mk (st := s_law_tables) l28 c28 k28
  have F_law_packing := fun_mk (st := s_law_packing) l30 c30 k30
  have F_law_takes := fun_mk (st := s_law_takes) l32 c32 k32
  have F_law_changed := fun_mk (st := s_law_changed) l34 c34 k34
  have F_law_is_packing := fun_mk (st := s_law_is_packing) l36 c36 k36
  have F_law := fun_mk (st := s_law) l38 c38 k38
  refine ⟨PySem.W.fnOf "law" "law" (defArgs s_law) (defBody s_law) (defScope s_law) .none kV38 dc38 pm38 an38 cd38 ct38, fun s v => .of_eq rfl, fun base _ _ => ?_⟩
  have D_law_draw : Dn l.prog w K mg base "_law_draw" ["_law_d", "_law_many"] 1 spDraw := ⟨f__law_draw, _, ok_draw F_law_draw T, PySem.W.mg_of X G a1, k2, (F_law_draw.binds (ps := ["_law_d", "_law_many"]) fun _ _ _ _ _ _ us hl => match us, hl with | [_, _], _ => rfl)⟩
  have D_law_begin : Dn l.prog w K mg base "_law_begin" ["_law_script"] 1 (spBegin K) := ⟨f__law_begin, _, ok_begin F_law_begin T, PySem.W.mg_of X G a3, k4, (F_law_begin.binds (ps := ["_law_script"]) fun _ _ _ _ _ _ us hl => match us, hl with | [_], _ => rfl)⟩
  have D_law_pop : Dn l.prog w K mg base "_law_pop" ["_law_d", "_law_row"] 2 spPop := ⟨f__law_pop, _, ok_pop F_law_pop T D_law_draw, PySem.W.mg_of X G a5, k6, (F_law_pop.binds (ps := ["_law_d", "_law_row"]) fun _ _ _ _ _ _ us hl => match us, hl with | [_, _], _ => rfl)⟩
  have D_law_pick : Dn l.prog w K mg base "_law_pick" ["_law_d", "_law_row"] 2 (spPick K) := ⟨f__law_pick, _, ok_pick F_law_pick T D_law_draw, PySem.W.mg_of X G a7, k8, (F_law_pick.binds (ps := ["_law_d", "_law_row"]) fun _ _ _ _ _ _ us hl => match us, hl with | [_, _], _ => rfl)⟩
  have D_law_rare : Dn l.prog w K mg base "_law_rare" ["_law_d", "_law_many"] 2 spRare := ⟨f__law_rare, _, ok_rare F_law_rare T D_law_draw, PySem.W.mg_of X G a9, k10, (F_law_rare.binds (ps := ["_law_d", "_law_many"]) fun _ _ _ _ _ _ us hl => match us, hl with | [_, _], _ => rfl)⟩
  have D_law_shuffled : Dn l.prog w K mg base "_law_shuffled" ["_law_d", "_law_row"] 2 (spShuf K) := ⟨f__law_shuffled, _, ok_shuf F_law_shuffled T D_law_draw, PySem.W.mg_of X G a11, k12, (F_law_shuffled.binds (ps := ["_law_d", "_law_row"]) fun _ _ _ _ _ _ us hl => match us, hl with | [_, _], _ => rfl)⟩
  have D_law_pool : Dn l.prog w K mg base "_law_pool" [] 1 spPool := ⟨f__law_pool, _, ok_pool F_law_pool , PySem.W.mg_of X G a13, k14, (F_law_pool.binds (ps := []) fun _ _ _ _ _ _ us hl => match us, hl with | [], _ => rfl)⟩
  have D_law_is_int : Dn l.prog w K mg base "_law_is_int" ["_law_thing"] 1 spIsInt := ⟨f__law_is_int, _, ok_isInt F_law_is_int T, PySem.W.mg_of X G a15, k16, (F_law_is_int.binds (ps := ["_law_thing"]) fun _ _ _ _ _ _ us hl => match us, hl with | [_], _ => rfl)⟩
  have D_is_thing : Dn l.prog w K mg base "is_thing" ["number", "many"] 1 spThing := ⟨f_is_thing, _, ok_thing F_is_thing T, PySem.W.mg_of X G a17, k18, (F_is_thing.binds (ps := ["number", "many"]) fun _ _ _ _ _ _ us hl => match us, hl with | [_, _], _ => rfl)⟩
  have D_is_pair : Dn l.prog w K mg base "is_pair" ["tables", "pair"] 2 spPair := ⟨f_is_pair, _, ok_pair F_is_pair T D_is_thing, PySem.W.mg_of X G a19, k20, (F_is_pair.binds (ps := ["tables", "pair"]) fun _ _ _ _ _ _ us hl => match us, hl with | [_, _], _ => rfl)⟩
  have D_judge_packing : Dn l.prog w K mg base "judge_packing" ["tables", "packing"] 3 spJudge := ⟨f_judge_packing, _, ok_judge F_judge_packing T D_is_pair, PySem.W.mg_of X G a21, k22, (F_judge_packing.binds (ps := ["tables", "packing"]) fun _ _ _ _ _ _ us hl => match us, hl with | [_, _], _ => rfl)⟩
  have D_packing_of : Dn l.prog w K mg base "packing_of" ["tables"] 1 spPacking := ⟨f_packing_of, _, ok_packing F_packing_of T, PySem.W.mg_of X G a23, k24, (F_packing_of.binds (ps := ["tables"]) fun _ _ _ _ _ _ us hl => match us, hl with | [_], _ => rfl)⟩
  have D_law_low_bits : Dn l.prog w K mg base "_law_low_bits" ["_law_size", "_law_word"] 1 spLow := ⟨f__law_low_bits, _, ok_low F_law_low_bits T, PySem.W.mg_of X G a25, k26, (F_law_low_bits.binds (ps := ["_law_size", "_law_word"]) fun _ _ _ _ _ _ us hl => match us, hl with | [_, _], _ => rfl)⟩
  have D_law_tables : Dn l.prog w K mg base "_law_tables" ["_law_d", "_law_inputs", "_law_regs", "_law_many", "_law_outputs"] 3 spTables := ⟨f__law_tables, _, ok_tables F_law_tables T D_law_draw D_law_pop D_law_pool D_law_low_bits, PySem.W.mg_of X G a27, k28, (F_law_tables.binds (ps := ["_law_d", "_law_inputs", "_law_regs", "_law_many", "_law_outputs"]) fun _ _ _ _ _ _ us hl => match us, hl with | [_, _, _, _, _], _ => rfl)⟩
  have D_law_packing : Dn l.prog w K mg base "_law_packing" ["_law_d", "_law_tables_here"] 3 spLPack := ⟨f__law_packing, _, ok_lpack F_law_packing T D_law_draw D_law_shuffled D_law_pick, PySem.W.mg_of X G a29, k30, (F_law_packing.binds (ps := ["_law_d", "_law_tables_here"]) fun _ _ _ _ _ _ us hl => match us, hl with | [_, _], _ => rfl)⟩
  have D_law_takes : Dn l.prog w K mg base "_law_takes" ["_law_tables_here", "_law_packing_here"] 1 spTakes := ⟨f__law_takes, _, ok_takes F_law_takes T, PySem.W.mg_of X G a31, k32, (F_law_takes.binds (ps := ["_law_tables_here", "_law_packing_here"]) fun _ _ _ _ _ _ us hl => match us, hl with | [_, _], _ => rfl)⟩
  have D_law_changed : Dn l.prog w K mg base "_law_changed" ["_law_d", "_law_tables_here", "_law_packing_here"] 3 (spChanged K) := ⟨f__law_changed, _, ok_changed F_law_changed T D_law_draw D_law_pick, PySem.W.mg_of X G a33, k34, (F_law_changed.binds (ps := ["_law_d", "_law_tables_here", "_law_packing_here"]) fun _ _ _ _ _ _ us hl => match us, hl with | [_, _, _], _ => rfl)⟩
  have D_law_is_packing : Dn l.prog w K mg base "_law_is_packing" ["_law_told"] 2 spIsPack := ⟨f__law_is_packing, _, ok_isPack F_law_is_packing T D_law_is_int, PySem.W.mg_of X G a35, k36, (F_law_is_packing.binds (ps := ["_law_told"]) fun _ _ _ _ _ _ us hl => match us, hl with | [_], _ => rfl)⟩
  exact ok_law F_law T D_law_begin D_law_draw D_law_rare D_law_tables D_packing_of D_law_is_packing D_law_takes D_judge_packing D_law_packing D_law_changed
end Bf
open PySem PySem.W PyProof.Rows
set_option maxRecDepth 100000 in
set_option maxHeartbeats 0 in
theorem PySem.Challenge.cw_beatfabric_k68_packings_holds : PySem.Challenge.rw_beatfabric_k68_packings.Holds := by
  w_on; o_law; k_head; (case hw => w_witness2)
  k_fill
  refine L2.walk_of (l := PySem.Challenge.rw_beatfabric_k68_packings) (n := 63) (k := 4) (x := "_law_script") (CX := fun _ => L2.CX0) (sp := fun w => Bf.spLaw _) rfl (by decide) rfl ⟨rfl, by decide, by decide⟩ (fun w h Y => PySem.W.kIn_of Y) ?F (fun _ _ a ns hl _ hS => ⟨a, ns, rfl, hS, hl, fun _ => rfl⟩) (fun _ _ _ _ _ h => h)
  case F =>
    intro w mg fa h KX G hmg
    refine' Bf.all_mk KX G hmg ?a1 ?l2 ?c2 ?k2 ?a3 ?l4 ?c4 ?k4 ?a5 ?l6 ?c6 ?k6 ?a7 ?l8 ?c8 ?k8 ?a9 ?l10 ?c10 ?k10 ?a11 ?l12 ?c12 ?k12 ?a13 ?l14 ?c14 ?k14 ?a15 ?l16 ?c16 ?k16 ?a17 ?l18 ?c18 ?k18 ?a19 ?l20 ?c20 ?k20 ?a21 ?l22 ?c22 ?k22 ?a23 ?l24 ?c24 ?k24 ?a25 ?l26 ?c26 ?k26 ?a27 ?l28 ?c28 ?k28 ?a29 ?l30 ?c30 ?k30 ?a31 ?l32 ?c32 ?k32 ?a33 ?l34 ?c34 ?k34 ?a35 ?l36 ?c36 ?k36 ?a37 ?l38 ?c38 ?k38 ?z39 ?z40 ?z41 ?z42 ?z43 ?z44 ?z45 ?z46 ?z47 ?z48 ?z49 ?z50
    (case a1 => k_is)
    (case l2 => k_is)
    (case c2 => k_is)
    (case k2 => k_is)
    (case a3 => k_is)
    (case l4 => k_is)
    (case c4 => k_is)
    (case k4 => k_is)
    (case a5 => k_is)
    (case l6 => k_is)
    (case c6 => k_is)
    (case k6 => k_is)
    (case a7 => k_is)
    (case l8 => k_is)
    (case c8 => k_is)
    (case k8 => k_is)
    (case a9 => k_is)
    (case l10 => k_is)
    (case c10 => k_is)
    (case k10 => k_is)
    (case a11 => k_is)
    (case l12 => k_is)
    (case c12 => k_is)
    (case k12 => k_is)
    (case a13 => k_is)
    (case l14 => k_is)
    (case c14 => k_is)
    (case k14 => k_is)
    (case a15 => k_is)
    (case l16 => k_is)
    (case c16 => k_is)
    (case k16 => k_is)
    (case a17 => k_is)
    (case l18 => k_is)
    (case c18 => k_is)
    (case k18 => k_is)
    (case a19 => k_is)
    (case l20 => k_is)
    (case c20 => k_is)
    (case k20 => k_is)
    (case a21 => k_is)
    (case l22 => k_is)
    (case c22 => k_is)
    (case k22 => k_is)
    (case a23 => k_is)
    (case l24 => k_is)
    (case c24 => k_is)
    (case k24 => k_is)
    (case a25 => k_is)
    (case l26 => k_is)
    (case c26 => k_is)
    (case k26 => k_is)
    (case a27 => k_is)
    (case l28 => k_is)
    (case c28 => k_is)
    (case k28 => k_is)
    (case a29 => k_is)
    (case l30 => k_is)
    (case c30 => k_is)
    (case k30 => k_is)
    (case a31 => k_is)
    (case l32 => k_is)
    (case c32 => k_is)
    (case k32 => k_is)
    (case a33 => k_is)
    (case l34 => k_is)
    (case c34 => k_is)
    (case k34 => k_is)
    (case a35 => k_is)
    (case l36 => k_is)
    (case c36 => k_is)
    (case k36 => k_is)
    (case a37 => k_is)
    (case l38 => k_is)
    (case c38 => k_is)
    (case k38 => k_is)
    (case z39 => k_is)
    (case z40 => k_is)
    (case z41 => k_is)
    (case z42 => k_is)
    (case z43 => k_is)
    (case z44 => k_is)
    (case z45 => k_is)
    (case z46 => k_is)
    (case z47 => k_is)
    (case z48 => k_is)
    (case z49 => k_is)
    (case z50 => k_is)
