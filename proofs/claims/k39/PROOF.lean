import PyProof.Rows.All
import Wide.All
import OpenK.AllK
import Wide.FinOn
import HandS.Base
import HandS.Call
import HandS.List
import HandS.Comp
import HandS.Ends
import HandS.Words
import HandS.Wide
import HandS.WideBits
import HandS.More
import HandS.IsInst
import HandS.CallLocal
import HandS.Text
import HandS.Iter
import HandS.Dict
import HandS.Defaults
import HandS.DeepEq
import HandS.Codes
import HandS.Zip
import HandS.Walk
import HandS.TupAny
import KE.GoesEnum
import KE.GoesMore
import HandS.Style
import PySem.PyData
import PySem.Challenge.RW_beatfabric_k39_clauses
set_option Elab.async false
set_option linter.all false
set_option maxRecDepth 100000
set_option maxHeartbeats 4000000
namespace Bf
open PySem PySem.Spec PyProof.Rows L2

/-! ### rules that the layer lacks -/
section
variable {X : Cx}
def rGetL : V → V → Hp → VK → Prop := fun o i H Q => ∃ p xs k v, o = .ref p ∧ i = .int k ∧ H p = some (.lst xs) ∧ atI xs k = some v ∧ Q v H
theorem get_list : PGet X rGetL := by
  intro pins s σ H o i ov iv Q I ro ri h
  obtain ⟨p, xs, k, z, rfl, rfl, hp, he, q⟩ := h
  cases ro
  obtain ⟨t, rfl⟩ := ri
  obtain ⟨its, r, pl, hz⟩ := I.list (SqL.of hp)
  obtain ⟨j, h1, h2, h3, h4, h5⟩ := atI_get he
  obtain ⟨w, ew, rw'⟩ := r.get h2
  have hl := r.length
  have hn := line63
  have fin : EP X pins σ Q w s := ⟨z, H, I, rw', q⟩
  by_cases h0 : 0 ≤ k
  · have hj : k.toNat = j := by
      rw [seqIndex_of h0 h5] at h1
      exact Option.some.inj h1
    refine PySem.wpAny_getItem_list pl.isList h0 (by omega) (by rw [hj]; simpa using ew) fin
  · have hj : (k + (its.toArray.size : Int)).toNat = j := by
      rw [seqIndex_neg (by omega) h4] at h1
      rw [List.size_toArray, ← hl]
      exact Option.some.inj h1
    exact wpAny_getItem_list_neg pl.isList (by omega) (by rw [List.size_toArray] <;> omega) (by omega) (by rw [hj]; simpa using ew) fin

/-- max, min of two numbers that are not negative -/
theorem cr_maxN (hc : X.calm = true) : CallR X (.builtin "max") (fun xs H Q => ∃ i j : Nat, xs = [V.int i, V.int j] ∧ Q (V.int ((max i j : Nat) : Int)) H) := by
  intro pins s σ H vs us Q I r h
  obtain ⟨i, j, rfl, q⟩ := h
  refine call_max2 hc pins s σ H _ us Q I r ⟨i, j, rfl, ?_⟩
  have e : (if (j : Int) > (i : Int) then (j : Int) else (i : Int)) = ((max i j : Nat) : Int) := by
    by_cases h : (j : Int) > i
    · rw [if_pos h, Nat.max_eq_right (by omega)]
    · rw [if_neg h, Nat.max_eq_left (by omega)]
  rw [e]
  exact q
theorem cr_minN (hc : X.calm = true) : CallR X (.builtin "min") (fun xs H Q => ∃ i j : Nat, xs = [V.int i, V.int j] ∧ Q (V.int ((min i j : Nat) : Int)) H) := by
  intro pins s σ H vs us Q I r h
  obtain ⟨i, j, rfl, q⟩ := h
  refine call_min2 hc pins s σ H _ us Q I r ⟨i, j, rfl, ?_⟩
  have e : (if (j : Int) < (i : Int) then (j : Int) else (i : Int)) = ((min i j : Nat) : Int) := by
    by_cases h : (j : Int) < i
    · rw [if_pos h, Nat.min_eq_right (by omega)]
    · rw [if_neg h, Nat.min_eq_left (by omega)]
  rw [e]
  exact q
/-- sum of a tuple of ints -/
def rSumT (K : PySem.W.Frag) : List V → Hp → VK → Prop := fun vs H Q => ∃ (a : Addr) (ns : List Int), vs = [V.ref a] ∧ SqT K H a (ns.map V.int) ∧ Q (.int ns.sum) H
theorem cr_sumT (hc : X.calm = true) : CallR X (.builtin "sum") (rSumT X.K) := by
  intro pins s σ H vs us Q I r h
  obtain ⟨a, ns, rfl, hs, q⟩ := h
  obtain ⟨its, rv, hl, _⟩ := I.tuple hs
  rw [Vals.ref1 r]
  obtain ⟨xs, e⟩ := rv.ints.allInts.items
  have hn : numsOf (intItems xs).toList = ns := by rw [← e]; exact rv.ints.numsOf
  rw [nums_intItems] at hn
  have hl' : s.heap.IsTuple a (intItems xs) := by
    rw [← e]
    exact hl
  refine PySem.W.ktm_sumG (I.ok.hd hc) hl' fun h' tk t' hk => ?_
  rw [preSum_eq, List.take_of_length_le (by simp), hn]
  exact ⟨.int _, H, I.kept hk, ⟨_, rfl⟩, q⟩
end

/-- a def that stands, with its promise -/
def vI (n : Nat) : V := .int (n : Int)
structure Dn (P : Program) (w : World) (K : PySem.W.Frag) (mg : Str → Option Value) (base : Heap) (x : Str) (ps : List Str) (k : Nat) (sp : Sp) : Prop where
  ex : ∃ (f : Addr) (fd : FuncData), FnOk P w K mg base CX0 k f fd ps sp ∧ mg x = some (.ref f) ∧ PySem.W.keepIn K (.ref f) = true ∧ Binds K fd ps []
def tCallD (sp : Sp) (t : TA) : TE := fun σ H Q => t σ H fun vs H1 => sp vs H1 Q E0
section
variable {X : Cx} {x : Str} {ps : List Str} {k : Nat} {sp : Sp} {e : Expr} {es : List Expr} {t : TA} {p pos : Pos}
theorem pe_dn (D : Dn X.prog X.w X.K X.mg X.base x ps k sp) (hr : Room k X.A) (hg : Gl X x) (ha : PA X (e :: es) t) (hdb : (x == ("__debug__" : Str)) = false := by decide)
    (he : starEach (e :: es) X.env = (false, eval e X.env) :: starEach es X.env := by rfl) (hpl : (backTo pos (starEach es X.env)).any (·.1) = false := by rfl) :
    PE X (.Call (.Name x p) (e :: es) [] pos) (tCallD sp t) := by
  obtain ⟨f, fd, F, hm, hk, hb⟩ := D.ex
  refine ⟨fun pins s σ H Q I h => (pe_call (E := E0) F hr hg hm hk hb .nil pass0 ha hdb he hpl).run pins s σ H Q I ?_⟩
  have e0 : (fun (vs : List V) (H1 : Hp) => sp (vs ++ []) H1 Q E0) = fun vs H1 => sp vs H1 Q E0 := by
    funext vs H1
    rw [List.append_nil]
  show t σ H (fun vs H1 => sp (vs ++ []) H1 Q E0)
  rw [e0]
  exact h
theorem pe_dn0 (D : Dn X.prog X.w X.K X.mg X.base x ps k sp) (hr : Room k X.A) (hg : Gl X x) (hdb : (x == ("__debug__" : Str)) = false := by decide) :
    PE X (.Call (.Name x p) [] [] pos) (tCallD sp tNil) := by
  obtain ⟨f, fd, F, hm, hk, hb⟩ := D.ex
  exact ⟨fun pins s σ H Q I h => (pe_call0 (E := E0) F hr hg hm hk hb .nil pass0 hdb).run pins s σ H Q I h⟩
end
/-- the same where the last arguments are defaults -/
structure DnD (P : Program) (w : World) (K : PySem.W.Frag) (mg : Str → Option Value) (base : Heap) (x : Str) (ps : List Str) (dvs : List V) (k : Nat) (sp : Sp) : Prop where
  ex : ∃ (f : Addr) (fd : FuncData) (ds : List Value), FnOk P w K mg base CX0 k f fd ps sp ∧ mg x = some (.ref f) ∧ PySem.W.keepIn K (.ref f) = true ∧ Binds K fd ps ds ∧ Vals dvs ds
theorem pe_dnD {X : Cx} {x : Str} {ps : List Str} {dvs : List V} {k : Nat} {sp : Sp} {e : Expr} {es : List Expr} {t : TA} {p pos : Pos} (D : DnD X.prog X.w X.K X.mg X.base x ps dvs k sp) (hr : Room k X.A) (hg : Gl X x) (ha : PA X (e :: es) t) (hdb : (x == ("__debug__" : Str)) = false := by decide)
    (he : starEach (e :: es) X.env = (false, eval e X.env) :: starEach es X.env := by rfl) (hpl : (backTo pos (starEach es X.env)).any (·.1) = false := by rfl) :
    PE X (.Call (.Name x p) (e :: es) [] pos) (tCall sp dvs E0 t) := by
  obtain ⟨f, fd, ds, F, hm, hk, hb, hv⟩ := D.ex
  exact pe_call (E := E0) F hr hg hm hk hb hv pass0 ha hdb he hpl
/-- a def of the text, its promise: the level a letter -/
theorem Dn.mk' {P : Program} {w : World} {K : PySem.W.Frag} {mg : Str → Option Value} {base : Heap} {x : Str} {st : Stmt} {ps : List Str} {k : Nat} {sp : Sp} {f : Addr} {fd : FuncData}
    (F : Fun K x x st f fd) (hm : mg x = some (.ref f)) (hb : Binds K fd ps []) (ok : FnOk P w K mg base CX0 k f fd ps sp) : Dn P w K mg base x ps k sp :=
  ⟨f, fd, ok, hm, F.kp, hb⟩
end Bf
namespace Bf
open PySem PySem.Spec PyProof.Rows L2
section
variable {X : Cx} {d : Addr} {es : Array DictEntry} {n : Nat}
/-- d[k], d a dict of the module with text keys -/
theorem ix_kd (D : KDict X.K X.w d es n) : IxR X (fun x y H Q => ∃ (z : Str) (u0 : Value) (v0 : V), x = .ref d ∧ y = .str z ∧ PySem.W.nsIn X.K d z = some (some u0) ∧ RelV v0 u0 ∧ Q v0 H) := by
  intro value slice pins s σ H x y v u Q I rx ry h hs
  have h0 := h
  obtain ⟨z, u0, v0, rfl, rfl, e, r, q⟩ := h
  cases rx
  exact tail_any (kd_type D I) PySem.slot_dict_getitem.lookup (op_item_kd D pins s σ H (V.ref d) (V.str z) _ u Q I (show RelV (V.ref d) (Value.ref d) from rfl) ry h0) hs
/-- of several defs that the slot may hold: the def and its promise are told in the reading -/
def tCallH (P : Program) (w : World) (K : PySem.W.Frag) (mg : Str → Option Value) (base : Heap) (k i : Nat) (t : TA) : TE := fun σ H Q => ∃ f sp fd ps, σ[i]? = some (some (.ref f)) ∧ FnOk P w K mg base CX0 k f fd ps sp ∧ PySem.W.keepIn K (.ref f) = true ∧ Binds K fd ps [] ∧ t σ H fun vs H1 => sp vs H1 Q E0
theorem pe_held {i k : Nat} {x : Str} {p pos : Pos} {e : Expr} {es : List Expr} {t : TA} (hr : Room k X.A) (hN : X.N[i]? = some x) (hv : Vis X.env.scope x) (ha : PA X (e :: es) t)
    (hdb : (x == ("__debug__" : Str)) = false := by decide) (hcd : (x == ("__classdict__" : Str)) = false := by decide)
    (he : starEach (e :: es) X.env = (false, eval e X.env) :: starEach es X.env := by rfl) (hpl : (backTo pos (starEach es X.env)).any (·.1) = false := by rfl) : PE X (.Call (.Name x p) (e :: es) [] pos) (tCallH X.prog X.w X.K X.mg X.base k i t) := by
  refine ⟨fun pins s σ H Q I h => ?_⟩
  obtain ⟨f, sp, fd, ps, hs, F, hk, hb, ht⟩ := h
  refine (pe_callL (i := i) (f := f) (sp := sp) (dvs := []) (E := E0) F hr hN hv hk hb .nil pass0 ha hdb hcd he hpl).run pins s σ H Q I ⟨hs, ?_⟩
  have e0 : (fun (vs : List V) (H1 : Hp) => sp (vs ++ []) H1 Q E0) = fun vs H1 => sp vs H1 Q E0 := by
    funext vs H1
    rw [List.append_nil]
  show t σ H (fun vs H1 => sp (vs ++ []) H1 Q E0)
  rw [e0]
  exact ht
end
end Bf

set_option Elab.async false
set_option linter.all false
set_option maxRecDepth 100000
set_option maxHeartbeats 4000000
namespace Bf
open PySem PySem.Spec PyProof.Rows L2
/-! ### small steps of a reading -/
theorem ifY {c : Bool} {A B : Prop} (e : c = true) (h : A) : if c = true then A else B := by
  rw [if_pos e]
  exact h
theorem ifN {c : Bool} {A B : Prop} (e : c = false) (h : B) : if c = true then A else B := by
  rw [e]
  exact iteF h
theorem rdL {K : PySem.W.Frag} {H : Hp} {a : Addr} {xs : List V} {i : Int} {v : V} {Q : VK} (h : SqL K H a xs) (e : atI xs i = some v) (k : Q v H) : rIxL K (.ref a) (.int i) H Q := ⟨a, xs, _, v, rfl, rfl, h, e, k⟩
theorem rdC {v : V} {σ : L2.St} {H : Hp} {Q : VK} (k : Q v H) : tC v σ H Q := k
theorem seqNew {K : PySem.W.Frag} {H : Hp} {a p : Addr} {o : HO} {xs : List V} (hp : H p = none) (h : SqL K H a xs) : SqL K (upd H p o) a xs := by
  rcases h with (h | ⟨u, h⟩) | h
  · exact .inl (.inl (by rw [upd_ne (ne_of_none h hp)]; exact h))
  · exact .inl (.inr ⟨u, by rw [upd_ne (ne_of_none h hp)]; exact h⟩)
  · exact .inr h
theorem le1000 {n : Nat} (h : n ≤ 1000) : n ≤ sizeLine := Nat.le_of_lt (small1000 h)
end Bf

set_option Elab.async false
set_option linter.all false
set_option maxRecDepth 100000
set_option maxHeartbeats 4000000
namespace Bf
open PySem PySem.Spec PyProof.Rows L2

/-! ### what enumerate and zip walk: a list or a tuple -/
structure Src where
  sq : PySem.W.Frag → Hp → Addr → List V → Prop
  itr : Heap → Addr → Addr → Nat → Prop
  isS : Heap → Addr → Array Value → Prop
  ob : Addr → Obj
  inv : ∀ {X : Cx} {pins : List (Addr × Obj)} {σ : L2.St} {H : Hp} {s : Shared} {a : Addr} {xs : List V}, Inv X pins σ H s → sq X.K H a xs → ∃ its : List Value, Vals xs its ∧ isS s.heap a its.toArray
  inj : ∀ {X : Cx} {pins : List (Addr × Obj)} {σ : L2.St} {H : Hp} {s : Shared} {a : Addr} {xs ys : List V}, Inv X pins σ H s → sq X.K H a xs → sq X.K H a ys → xs = ys
  draws : ∀ {prog : Program} {w : World} {A : Around}, A.handled = none → ∀ (it l : Addr), l ≠ it → ∀ (items : Array Value), Draws prog w A it [it, l] items.size (fun i v => items[i]? = some v) (fun i h => itr h it l i ∧ isS h l items)
  obj : ∀ {h : Heap} {it a : Addr} {i : Nat}, itr h it a i → ∃ o, h.get? it = some o ∧ ∀ v, o.data ≠ .cell v
  at_ : ∀ {h h' : Heap} {it a : Addr} {i : Nat}, itr h it a i → (∀ o, h.get? it = some o → h'.get? it = some o) → itr h' it a i
  beg : ∀ (a : Addr) (items : Array Value), Begins (.ref a) (ob a) (fun h => isS h a items)
  start : ∀ {h : Heap} {it a : Addr}, h.get? it = some (ob a) → itr h it a 0
  lt : ∀ {h : Heap} {a : Addr} {items : Array Value}, isS h a items → a < h.objs.size
  keep : ∀ {K : PySem.W.Frag} {H H' : Hp} {a : Addr} {xs : List V}, Same H H' → sq K H a xs → sq K H' a xs
theorem seqT_same {K : PySem.W.Frag} {H H' : Hp} {a : Addr} {xs : List V} (k : Same H H') (h : SqT K H a xs) : SqT K H' a xs := by
  rcases h with (h | ⟨u, h⟩) | h
  · exact .inl (.inl (k _ _ h))
  · exact .inl (.inr ⟨u, k _ _ h⟩)
  · exact .inr h

def srcL : Src where
  sq := fun K H a xs => SqL K H a xs
  itr := fun h it a i => h.IsListIter it a i
  isS := fun h a items => h.IsList a items
  ob := fun a => { cls := .type "list_iterator", data := .fields #[.ref a, .int 0 0] }
  inv := fun I h => let ⟨its, r, p, _⟩ := I.list h; ⟨its, r, p.isList⟩
  inj := fun I h h' => I.list_inj h h'
  draws := fun hh it l hne items => Draws.list hh it l hne items
  obj := fun ⟨o, e, c, d⟩ => ⟨o, e, fun v z => by rw [d] at z; cases z⟩
  at_ := fun x k => x.at k
  beg := fun a items => begins_list a items
  start := fun e => ⟨_, e, rfl, rfl⟩
  lt := fun ⟨o, e, _⟩ => Heap.lt_size e
  keep := fun k h => k.seq h

def srcT : Src where
  sq := fun K H a xs => SqT K H a xs
  itr := fun h it a i => h.IsTupleIter it a i
  isS := fun h a items => h.IsTuple a items
  ob := fun a => { cls := .type "tuple_iterator", data := .fields #[.ref a, .int 0 0] }
  inv := fun I h => let ⟨its, r, p, _⟩ := I.tuple h; ⟨its, r, p⟩
  inj := fun I h h' => I.tuple_inj h h'
  draws := fun hh it l hne items => Draws.tuple hh it l hne items
  obj := fun ⟨o, e, c, d⟩ => ⟨o, e, fun v z => by rw [d] at z; cases z⟩
  at_ := fun x k => x.at k
  beg := fun a items => begins_tuple a items
  start := fun e => ⟨_, e, rfl, rfl⟩
  lt := fun ⟨o, e, _⟩ => Heap.lt_size e
  keep := fun k h => seqT_same k h

/-! ### enumerate -/
def ItE (S : Src) (K : PySem.W.Frag) (a : Addr) : It :=
  ⟨fun i H => ∃ (xs : List V) (x : V), S.sq K H a xs ∧ xs[i]? = some x, fun i H v H' => ∃ T x, v = .ref T ∧ H T = none ∧ H' = upd H T (.tup [.int (i : Nat), x]) ∧ ∀ xs, S.sq K H a xs → xs[i]? = some x, fun i H => ∃ xs : List V, S.sq K H a xs ∧ xs.length = i⟩

theorem turn_enumG (S : Src) {P : Program} {w : World} {K : PySem.W.Frag} {elts : List Expr} {kk : Nat} {tpos : Pos} (a e it : Addr) :
    Turn P w K (.Tuple elts kk tpos) (ItE S K a) [e, it] e (fun i h => (∃ old, IsEnum h e it ((i : Nat) : Int) old) ∧ S.itr h it a i ∧ e ≠ it ∧ e ≠ a ∧ a ≠ it) where
  mem := by simp
  obj := fun i h st b hb => by
    obtain ⟨⟨old, he⟩, hi, _⟩ := st
    have e' : b = e ∨ b = it := by simpa using hb
    rcases e' with z | z
    · rw [z]; exact ⟨_, he, fun v q => nomatch q⟩
    · rw [z]; exact S.obj hi
  keep := fun i h h' st k => let ⟨⟨old, he⟩, hi, r⟩ := st; ⟨⟨old, k e (by simp) _ he⟩, S.at_ hi fun o q => k it (by simp) o q, r⟩
  item := by
    intro X hP hw hK hc i pins s σ H E I hf st hg
    subst hP hw hK
    obtain ⟨⟨old, he⟩, hit, hne, hea, hai⟩ := st
    obtain ⟨xs, x, hq, hx⟩ := hg
    obtain ⟨its, rv, p⟩ := S.inv I hq
    obtain ⟨u, hu, ru⟩ := rv.get hx
    have hel : e < s.heap.objs.size := Heap.lt_size he
    have hil : it < s.heap.objs.size := by obtain ⟨_, q, _⟩ := S.obj hit; exact Heap.lt_size q
    have hlt : i < its.toArray.size := by
      have q := (List.getElem?_eq_some_iff.mp hu).1
      simpa using q
    refine wpAny_pyNext_enum_itemD (S.draws (show X.A.in1.handled = none from I.ok.hd hc) it a hai its.toArray) he ⟨hit, p⟩ hlt hne (by simp [hne, hea]) fun v h' tk hv ho hst hT hsz hk => ?_
    have ev : u = v := by
      have q : its[i]? = some v := by simpa using hv
      rw [hu] at q; cases q; rfl
    subst ev
    refine ⟨_, rfl, wpAny_letOwnedTupleGo_enum (s := { s with heap := h', toks := tk + 1 }) ho fun h'' he' sb => ?_⟩
    have hT2 : h''.get? s.heap.objs.size = some { cls := .type "tuple", data := .seq #[.int i tk, u] } := (sb.2 _ (Nat.ne_of_gt hel)).trans hT
    have new : ObjOk X.prog X.w (upd H s.heap.objs.size (.tup [.int (i : Nat), x])) h'' s.heap.objs.size (.tup [.int (i : Nat), x]) :=
      ⟨by show 2 ≤ sizeLine; decide, [.int i tk, u], .cons ⟨_, rfl⟩ (.cons ru .nil), ⟨_, hT2, rfl, _, rfl⟩⟩
    have I1 : Inv X pins σ (upd H s.heap.objs.size (.tup [.int (i : Nat), x])) { s with heap := h'', toks := tk + 1 } :=
      I.turnedNew (ch := [e, it]) (fun b ob hb q => (sb.2 b (fun z => hb (by simp [z]))).trans (hk b ob (fun z => hb (by simp [z])) (fun z => hb (by simp [z])) q)) hf (Nat.le_refl _) new
    refine ⟨.ref s.heap.objs.size, _, I1, rfl, ⟨_, x, rfl, I.hok.fresh (Nat.le_refl _), rfl, fun ys hy => by rw [S.inj I hy hq]; exact hx⟩, ⟨⟨u, ?_⟩, S.at_ hst.1 fun o q => (sb.2 it (Ne.symm hne)).trans q, hne, hea, hai⟩, fun b hb => ?_⟩
    · have e1 : ((i + 1 : Nat) : Int) = (i : Int) + 1 := by omega
      rw [e1]; exact he'
    · have hb' : b < s.heap.objs.size := by
        have e' : b = e ∨ b = it := by simpa using hb
        rcases e' with z | z
        · rw [z]; exact hel
        · rw [z]; exact hil
      rw [upd_ne (Nat.ne_of_lt hb')]
      exact (hf b hb).1
  done := by
    intro X hP hw hK hc i pins s σ H E I hf st hg
    subst hP hw hK
    obtain ⟨⟨old, he⟩, hit, hne, hea, hai⟩ := st
    obtain ⟨xs, hq, hx⟩ := hg
    obtain ⟨its, rv, p⟩ := S.inv I hq
    obtain ⟨f0, f1, f2, f3, f4, f5⟩ := hf it (by simp)
    have hl := rv.length
    have hn : its.toArray.size = i := by rw [List.size_toArray]; omega
    subst hn
    exact wpAny_pyNext_enum_endD (S.draws (show X.A.in1.handled = none from I.ok.hd hc) it a hai its.toArray) he ⟨hit, p⟩ fun h' eb => ⟨rfl, I.turned (t' := s.toks) (fun b o hb q => eb b o hb q) f0 f1 f3 f4 f5⟩
  self := fun A i s Q E st h => let ⟨⟨_, he⟩, _⟩ := st; wpAny_pyIter_enum he h

theorem meets_enum_new0 {v : Value} {o : Obj} {H : Heap → Prop} (B : Begins v o H) :
    Meets (Builtin.«enumerate.__new__» ⟨[.type "enumerate", v], []⟩) (fun _ R s => H s.heap ∧
      R (.ok (.ret (.ref (s.heap.push o).objs.size))) { s with heap := (s.heap.push o).push { cls := .type "enumerate", data := .fields #[.none, .bool false, .ref s.heap.objs.size, rawInt 0, .none, .none] } }) :=
  .of_wp fun prog w A R s h => by
    obtain ⟨hp, g, d, tk, os⟩ := s; obtain ⟨h1, h⟩ := h
    have hsub := sub_enumerate
    have q1 : ∀ {A' : Around} {E : Value → Shared → Prop} {Q : Value → Shared → Prop}, Q (.ref hp.objs.size) ⟨hp.push o, g, d, tk, os⟩ → wpAny (model prog w) A' (pyIter v) Q E ⟨hp, g, d, tk, os⟩ :=
      fun q => B.iter prog w _ _ ⟨hp, g, d, tk, os⟩ _ h1 q
    wp_walk using q1
    refine wpAny_stack_any fun st => wpAny_pure ?_
    split
    · rename_i c _ _ _ _ _
      cases (c == Value.type "enumerate")
      · wp_walk using q1
        exact ⟨_, rfl, h⟩
      · wp_walk using q1
        exact ⟨_, rfl, h⟩
    · wp_walk using q1
      exact ⟨_, rfl, h⟩
section
variable {prog : Program} {w : World} {A : Around} {E : Value → Shared → Prop} {s : Shared}
theorem enum_begins0 {v : Value} {o : Obj} {H : Heap → Prop} {Q : Value → Shared → Prop} (B : Begins v o H) (h1 : H s.heap)
    (h : ∀ h', IsEnum h' (s.heap.objs.size + 1) s.heap.objs.size 0 .none → h'.get? s.heap.objs.size = some o → h'.objs.size = s.heap.objs.size + 2 →
      (∀ b o, s.heap.get? b = some o → h'.get? b = some o) → Q (.ref (s.heap.objs.size + 1)) { s with heap := h' }) :
    wpAny (model prog w) A (call (.type "enumerate") [v]) Q E s := by
  refine callType_new F.called_enumerate (by decide) (F.typeCall_enumerate_1 _) (F.newCall_enumerate_1 _) (fun obj => F.args_object_init_2 obj _) F.entry_enumerate_new
    (meets_enum_new0 B) ⟨h1, ?_⟩
  have hz : (s.heap.push o).objs.size = s.heap.objs.size + 1 := Heap.size_push ..
  show _ ∧ _
  rw [hz]
  have he : IsEnum ((s.heap.push o).push { cls := .type "enumerate", data := .fields #[.none, .bool false, .ref s.heap.objs.size, rawInt 0, .none, .none] }) (s.heap.objs.size + 1) s.heap.objs.size 0 .none := by
    have := Heap.get?_push_size (s.heap.push o) (o := { cls := .type "enumerate", data := .fields #[.none, .bool false, .ref s.heap.objs.size, rawInt 0, .none, .none] }) rfl
    rw [hz] at this; exact this
  exact ⟨⟨_, he, rfl⟩, h _ he (Heap.get?_push_of_some _ (Heap.get?_push_size _ B.free)) (by rw [Heap.size_push, hz]) fun b o x => Heap.get?_push_of_some _ (Heap.get?_push_of_some _ x)⟩
end
def iEnG (S : Src) (K : PySem.W.Frag) (ta : TA) : TI := fun σ H R => ta σ H fun vs H1 => ∃ a xs, vs = [.ref a] ∧ S.sq K H1 a xs ∧ R (ItE S K a) H1
theorem enumG_run (S : Src) {X : Cx} {pins : List (Addr × Obj)} {σ : L2.St} {H1 : Hp} {s1 : Shared} {us : List Value} {vs : List V} {elts : List Expr} {kk : Nat} {tpos : Pos} {R : It → Hp → Prop} (I1 : Inv X pins σ H1 s1) (r1 : Vals vs us)
    (q1 : ∃ (a : Addr) (xs : List V), vs = [.ref a] ∧ S.sq X.K H1 a xs ∧ R (ItE S X.K a) H1) :
    wpAny (model X.prog X.w) X.A (call (.type "enumerate") us) (fun v s1 => wpAny (model X.prog X.w) X.A (pyIter v) (PIE X pins σ (.Tuple elts kk tpos) R) X.xe s1) X.xe s1 := by
  obtain ⟨a, xs, ex, hq, q⟩ := q1
  subst ex
  cases r1 with
  | cons r rr =>
    cases rr
    cases r
    obtain ⟨its, rv, p'⟩ := S.inv I1 hq
    have la := S.lt p'
    refine enum_begins0 (S.beg a its.toArray) p' fun h' he hit hsz hk => wpAny_pyIter_enum he ?_
    have I2 : Inv X pins σ H1 { s1 with heap := h' } := I1.kept (t' := s1.toks) hk
    refine ⟨s1.heap.objs.size + 1, [s1.heap.objs.size + 1, s1.heap.objs.size], _, _, H1, rfl, I2, turn_enumG S a (s1.heap.objs.size + 1) s1.heap.objs.size, ⟨⟨.none, he⟩, S.start hit, Nat.succ_ne_self _, Nat.ne_of_gt (Nat.lt_succ_of_lt la), Nat.ne_of_lt la⟩, fun b hb => ?_, q⟩
    have e' : b = s1.heap.objs.size + 1 ∨ b = s1.heap.objs.size := by simpa using hb
    have hle : s1.heap.objs.size ≤ b := by
      rcases e' with z | z
      · rw [z]; exact Nat.le_add_right _ _
      · rw [z]; exact Nat.le_refl _
    exact I1.fpOk hle (I1.hok.fresh hle)

/-! ### zip of two -/
def ItZ (S1 S2 : Src) (K : PySem.W.Frag) (a b : Addr) : It :=
  ⟨fun i H => ∃ (xs ys : List V) (x y : V), S1.sq K H a xs ∧ S2.sq K H b ys ∧ xs[i]? = some x ∧ ys[i]? = some y,
    fun i H v H' => ∃ T x y, v = .ref T ∧ H T = none ∧ H' = upd H T (.tup [x, y]) ∧ (∀ xs, S1.sq K H a xs → xs[i]? = some x) ∧ ∀ ys, S2.sq K H b ys → ys[i]? = some y,
    fun i H => ∃ xs ys : List V, S1.sq K H a xs ∧ S2.sq K H b ys ∧ i ≤ xs.length ∧ i ≤ ys.length ∧ (i = xs.length ∨ i = ys.length)⟩
theorem turn_zipG (S1 S2 : Src) {P : Program} {w : World} {K : PySem.W.Frag} {elts : List Expr} {kk : Nat} {tpos : Pos} {a b z TI TO i1 i2 : Addr} (D : ZipSep2 z TI TO i1 i2 [i1, a] [i2, b]) (ha1 : a ≠ i1) (hb2 : b ≠ i2) :
    Turn P w K (.Tuple elts kk tpos) (ItZ S1 S2 K a b) [z, TI, TO, i1, i2] z (fun i h => IsZip h z TI TO .none ∧ IsTupOf2 h TI (.ref i1) (.ref i2) ∧ (∃ x y, IsTupOf2 h TO x y) ∧ S1.itr h i1 a i ∧ S2.itr h i2 b i) where
  mem := by simp
  obj := fun i h st c hc => by
    obtain ⟨hz, hTI, ⟨x, y, hTO⟩, h1, h2⟩ := st
    have e' : c = z ∨ c = TI ∨ c = TO ∨ c = i1 ∨ c = i2 := by simpa using hc
    rcases e' with q | q | q | q | q
    · rw [q]; exact ⟨_, hz, fun v q => nomatch q⟩
    · rw [q]; exact ⟨_, hTI, fun v q => nomatch q⟩
    · rw [q]; exact ⟨_, hTO, fun v q => nomatch q⟩
    · rw [q]; exact S1.obj h1
    · rw [q]; exact S2.obj h2
  keep := fun i h h' st k => by
    obtain ⟨hz, hTI, ⟨x, y, hTO⟩, h1, h2⟩ := st
    exact ⟨k z (by simp) _ hz, k TI (by simp) _ hTI, ⟨x, y, k TO (by simp) _ hTO⟩, S1.at_ h1 fun o q => k i1 (by simp) o q, S2.at_ h2 fun o q => k i2 (by simp) o q⟩
  item := by
    intro X hP hw hK hc i pins s σ H E I hf st hg
    subst hP hw hK
    obtain ⟨hz, hTI, ⟨x0, y0, hTO⟩, h1, h2⟩ := st
    obtain ⟨xs, ys, x, y, hqx, hqy, hx, hy⟩ := hg
    obtain ⟨its, rv, p⟩ := S1.inv I hqx
    obtain ⟨its2, rv2, p2⟩ := S2.inv I hqy
    obtain ⟨u, hu, ru⟩ := rv.get hx
    obtain ⟨u2, hu2, ru2⟩ := rv2.get hy
    have hzl : z < s.heap.objs.size := Heap.lt_size hz
    have hlt : i < its.toArray.size := by
      have q := (List.getElem?_eq_some_iff.mp hu).1
      simpa using q
    have hlt2 : i < its2.toArray.size := by
      have q := (List.getElem?_eq_some_iff.mp hu2).1
      simpa using q
    have hh : X.A.in1.handled = none := I.ok.hd hc
    refine wpAny_pyNext_zipD2_item D (S1.draws hh i1 a ha1 its.toArray) (S2.draws hh i2 b hb2 its2.toArray) hz hTI hTO ⟨h1, p⟩ ⟨h2, p2⟩ hlt hlt2 fun v v2 h' tk hv hv2 z' TO' st1 st2 hT hsz hk => ?_
    have ev : u = v := by
      have q : its[i]? = some v := by simpa using hv
      rw [hu] at q; cases q; rfl
    have ev2 : u2 = v2 := by
      have q : its2[i]? = some v2 := by simpa using hv2
      rw [hu2] at q; cases q; rfl
    subst ev ev2
    refine ⟨_, rfl, wpAny_letOwnedTupleGo_zip (s := { s with heap := h', toks := tk }) z' fun h'' z'' sb => ?_⟩
    have hT2 : h''.get? s.heap.objs.size = some { cls := .type "tuple", data := .seq #[u, u2] } := (sb.2 _ (Nat.ne_of_gt hzl)).trans hT
    have new : ObjOk X.prog X.w (upd H s.heap.objs.size (.tup [x, y])) h'' s.heap.objs.size (.tup [x, y]) :=
      ⟨by show 2 ≤ sizeLine; decide, [u, u2], .cons ru (.cons ru2 .nil), ⟨_, hT2, rfl, _, rfl⟩⟩
    have I1 : Inv X pins σ (upd H s.heap.objs.size (.tup [x, y])) { s with heap := h'', toks := tk } :=
      I.turnedNew (ch := [z, TI, TO, i1, i2]) (fun c o hb q => (sb.2 c (fun q' => hb (by simp [q']))).trans (hk c o (fun q' => hb (by simp [q'])) (fun q' => hb (by simp [q'])) (fun q' => hb (by simp [q'])) (fun q' => hb (by simp [q'])) q)) hf (Nat.le_refl _) new
    have zi1 : i1 ≠ z := fun q => D.zf1 (by simp [q])
    have zi2 : i2 ≠ z := fun q => D.zf2 (by simp [q])
    refine ⟨.ref s.heap.objs.size, _, I1, rfl, ⟨_, x, y, rfl, I.hok.fresh (Nat.le_refl _), rfl, fun l hl => by rw [S1.inj I hl hqx]; exact hx, fun l hl => by rw [S2.inj I hl hqy]; exact hy⟩, ⟨z'', ?_, ⟨u, u2, ?_⟩, ?_, ?_⟩, fun c hcm => ?_⟩
    · exact (sb.2 _ D.TIz).trans (hk _ _ D.TIz D.TITO D.TIi1 D.TIi2 hTI)
    · exact (sb.2 _ D.TOz).trans TO'
    · exact S1.at_ st1.1 fun o q => (sb.2 _ zi1).trans q
    · exact S2.at_ st2.1 fun o q => (sb.2 _ zi2).trans q
    · have hlt : c < s.heap.objs.size := by
        have e' : c = z ∨ c = TI ∨ c = TO ∨ c = i1 ∨ c = i2 := by simpa using hcm
        rcases e' with q | q | q | q | q
        · rw [q]; exact hzl
        · rw [q]; exact Heap.lt_size hTI
        · rw [q]; exact Heap.lt_size hTO
        · rw [q]; obtain ⟨_, e1, _⟩ := S1.obj h1; exact Heap.lt_size e1
        · rw [q]; obtain ⟨_, e2, _⟩ := S2.obj h2; exact Heap.lt_size e2
      rw [upd_ne (Nat.ne_of_lt hlt)]
      exact (hf c hcm).1
  done := by
    intro X hP hw hK hc i pins s σ H E I hf st hg
    subst hP hw hK
    obtain ⟨hz, hTI, ⟨x0, y0, hTO⟩, h1, h2⟩ := st
    obtain ⟨xs, ys, hqx, hqy, le1, le2, hend⟩ := hg
    obtain ⟨its, rv, p⟩ := S1.inv I hqx
    obtain ⟨its2, rv2, p2⟩ := S2.inv I hqy
    have l1 := rv.length
    have l2 := rv2.length
    have hh : X.A.in1.handled = none := I.ok.hd hc
    exact wpAny_pyNext_zipD2_end D (S1.draws hh i1 a ha1 its.toArray) (S2.draws hh i2 b hb2 its2.toArray) hz hTI hTO ⟨h1, p⟩ ⟨h2, p2⟩ (by rw [List.size_toArray]; omega) (by rw [List.size_toArray]; omega)
      (by rw [List.size_toArray, List.size_toArray]; omega) fun h' tk hk => ⟨rfl, I.turnedL (t' := tk) (ch := [z, TI, TO, i1, i2]) (fun c o hb q =>
      hk c o (fun q' => hb (by simp [q'])) (fun q' => hb (by simp [q'])) (fun q' => hb (by simp [q'])) (fun q' => hb (by simp [q'])) q) hf⟩
  self := fun A i s Q E st h => wpAny_pyIter_zip st.1 h
def iZpG (S1 S2 : Src) (K : PySem.W.Frag) (ta : TA) : TI := fun σ H R => ta σ H fun vs H1 => ∃ a b xs ys, vs = [.ref a, .ref b] ∧ S1.sq K H1 a xs ∧ S2.sq K H1 b ys ∧ R (ItZ S1 S2 K a b) H1
theorem zipG_run (S1 S2 : Src) {X : Cx} {pins : List (Addr × Obj)} {σ : L2.St} {H1 : Hp} {s1 : Shared} {us : List Value} {vs : List V} {elts : List Expr} {kk : Nat} {tpos : Pos} {R : It → Hp → Prop} (I1 : Inv X pins σ H1 s1) (r1 : Vals vs us)
    (q1 : ∃ (a b : Addr) (xs ys : List V), vs = [.ref a, .ref b] ∧ S1.sq X.K H1 a xs ∧ S2.sq X.K H1 b ys ∧ R (ItZ S1 S2 X.K a b) H1) :
    wpAny (model X.prog X.w) X.A (call (.type "zip") us) (fun v s1 => wpAny (model X.prog X.w) X.A (pyIter v) (PIE X pins σ (.Tuple elts kk tpos) R) X.xe s1) X.xe s1 := by
  obtain ⟨a, b, xs, ys, ex, hqx, hqy, q⟩ := q1
  subst ex
  cases r1 with
  | cons r rr =>
    cases rr with
    | cons r' rr =>
      cases rr
      cases r
      cases r'
      obtain ⟨its, rv, p1⟩ := S1.inv I1 hqx
      obtain ⟨its2, rv2, p2⟩ := S2.inv I1 hqy
      have la := S1.lt p1
      have lb := S2.lt p2
      refine zip_begins2 (S1.beg a its.toArray) (S2.beg b its2.toArray) p1 p2 fun h' hz hTI hTO h1 h2 hsz hk => wpAny_pyIter_zip hz ?_
      have I2 : Inv X pins σ H1 { s1 with heap := h' } := I1.kept (t' := s1.toks) hk
      refine ⟨s1.heap.objs.size + 4, [s1.heap.objs.size + 4, s1.heap.objs.size + 2, s1.heap.objs.size + 3, s1.heap.objs.size, s1.heap.objs.size + 1], _, _, H1, rfl, I2,
        turn_zipG S1 S2 (zip_sep2 (fp1 := [a]) (fp2 := [b]) (by intro c hc; rw [List.mem_singleton.mp hc]; exact la) (by intro c hc; rw [List.mem_singleton.mp hc]; exact lb)) (Nat.ne_of_lt la) (Nat.ne_of_lt (Nat.lt_succ_of_lt lb)),
        ⟨hz, hTI, ⟨_, _, hTO⟩, S1.start h1, S2.start h2⟩, fun c hcm => ?_, q⟩
      have e' : c = s1.heap.objs.size + 4 ∨ c = s1.heap.objs.size + 2 ∨ c = s1.heap.objs.size + 3 ∨ c = s1.heap.objs.size ∨ c = s1.heap.objs.size + 1 := by simpa using hcm
      have hle : s1.heap.objs.size ≤ c := by
        rcases e' with z | z | z | z | z
        · rw [z]; exact Nat.le_add_right _ _
        · rw [z]; exact Nat.le_add_right _ _
        · rw [z]; exact Nat.le_add_right _ _
        · rw [z]; exact Nat.le_refl _
        · rw [z]; exact Nat.le_add_right _ _
      exact I1.fpOk hle (I1.hok.fresh hle)

/-! ### for over them -/
theorem for_enumG (S : Src) {K : PySem.W.Frag} {a : Addr} {xs : List V} {g : TG} {tb : TS} {D : Ends} {σ : L2.St} {H : Hp} (Pv : Nat → L2.St → Hp → Prop) (h0 : Pv 0 σ H) (hq : ∀ i σ H, Pv i σ H → S.sq K H a xs)
    (hs : ∀ (i : Nat) (x : V) (T : Addr) (σ : L2.St) (H : Hp), xs[i]? = some x → Pv i σ H → H T = none → g (.ref T) σ (upd H T (.tup [.int (i : Nat), x])) fun σ2 H2 => tb { D with nx := Pv (i + 1), ct := Pv (i + 1), bk := D.nx } σ2 H2) (hd : ∀ σ H, Pv xs.length σ H → D.nx σ H) :
    ∃ W : Nat → Nat → L2.St → Hp → Prop, (∃ m, W 0 m σ H) ∧ ∀ i m σ H, W i m σ H →
      ((ItE S K a).stop i H ∧ D.nx σ H) ∨ ((ItE S K a).go i H ∧ ∃ N : L2.St → Hp → Prop, (∀ σ' H', N σ' H' → ∃ m', m' < m ∧ W (i + 1) m' σ' H') ∧ ∀ v H', (ItE S K a).yld i H v H' → g v σ H' fun σ2 H2 => tb { D with nx := N, ct := N, bk := D.nx } σ2 H2) := by
  refine ⟨fun i m σ H => m = xs.length - i ∧ i ≤ xs.length ∧ Pv i σ H, ⟨xs.length, rfl, Nat.zero_le _, h0⟩, ?_⟩
  rintro i m σ H ⟨rfl, hi, p⟩
  have qx := hq i σ H p
  by_cases hlt : i < xs.length
  · have hx : xs[i]? = some xs[i] := List.getElem?_eq_getElem hlt
    refine .inr ⟨⟨xs, _, qx, hx⟩, Pv (i + 1), fun σ' H' p' => ⟨xs.length - (i + 1), by omega, rfl, hlt, p'⟩, fun v H' y => ?_⟩
    obtain ⟨T, x', rfl, hT, rfl, f1⟩ := y
    exact hs i x' T σ H (f1 xs qx) p hT
  · have e : i = xs.length := by omega
    subst e
    exact .inl ⟨⟨xs, qx, rfl⟩, hd σ H p⟩
theorem for_zipG (S1 S2 : Src) {K : PySem.W.Frag} {a b : Addr} {xs ys : List V} {g : TG} {tb : TS} {D : Ends} {σ : L2.St} {H : Hp} (hl : xs.length = ys.length) (Pv : Nat → L2.St → Hp → Prop) (h0 : Pv 0 σ H) (hq : ∀ i σ H, Pv i σ H → S1.sq K H a xs ∧ S2.sq K H b ys)
    (hs : ∀ (i : Nat) (x y : V) (T : Addr) (σ : L2.St) (H : Hp), xs[i]? = some x → ys[i]? = some y → Pv i σ H → H T = none → g (.ref T) σ (upd H T (.tup [x, y])) fun σ2 H2 => tb { D with nx := Pv (i + 1), ct := Pv (i + 1), bk := D.nx } σ2 H2) (hd : ∀ σ H, Pv xs.length σ H → D.nx σ H) :
    ∃ W : Nat → Nat → L2.St → Hp → Prop, (∃ m, W 0 m σ H) ∧ ∀ i m σ H, W i m σ H →
      ((ItZ S1 S2 K a b).stop i H ∧ D.nx σ H) ∨ ((ItZ S1 S2 K a b).go i H ∧ ∃ N : L2.St → Hp → Prop, (∀ σ' H', N σ' H' → ∃ m', m' < m ∧ W (i + 1) m' σ' H') ∧ ∀ v H', (ItZ S1 S2 K a b).yld i H v H' → g v σ H' fun σ2 H2 => tb { D with nx := N, ct := N, bk := D.nx } σ2 H2) := by
  refine ⟨fun i m σ H => m = xs.length - i ∧ i ≤ xs.length ∧ Pv i σ H, ⟨xs.length, rfl, Nat.zero_le _, h0⟩, ?_⟩
  rintro i m σ H ⟨rfl, hi, p⟩
  obtain ⟨qx, qy⟩ := hq i σ H p
  by_cases hlt : i < xs.length
  · have hx : xs[i]? = some xs[i] := List.getElem?_eq_getElem hlt
    have hlt2 : i < ys.length := by omega
    have hy : ys[i]? = some ys[i] := List.getElem?_eq_getElem hlt2
    refine .inr ⟨⟨xs, ys, _, _, qx, qy, hx, hy⟩, Pv (i + 1), fun σ' H' p' => ⟨xs.length - (i + 1), by omega, rfl, hlt, p'⟩, fun v H' y => ?_⟩
    obtain ⟨T, x', y', rfl, hT, rfl, f1, f2⟩ := y
    exact hs i x' y' T σ H (f1 xs qx) (f2 ys qy) p hT
  · have e : i = xs.length := by omega
    subst e
    exact .inl ⟨⟨xs, ys, qx, qy, Nat.le_refl _, by omega, .inl rfl⟩, hd σ H p⟩

/-! ### two tuples of the same numbers -/
theorem canLay_ints : ∀ ns : List Nat, PyData.canLayAll0 (ns.map fun n : Nat => PyData.int (n : Int)) = true
  | [] => by simp [PyData.canLayAll0]
  | n :: r => by
    rw [List.map_cons, PyData.canLayAll0, canLay_ints r]
    simp [PyData.canLay0]
theorem depth_ints : ∀ ns : List Nat, PyData.depthAll (ns.map fun n : Nat => PyData.int (n : Int)) ≤ 1
  | [] => by simp [PyData.depthAll]
  | n :: r => by
    have := depth_ints r
    rw [List.map_cons, PyData.depthAll]
    simp [PyData.depth] <;> omega
theorem dp_ints {K : PySem.W.Frag} {H : Hp} : ∀ ns : List Nat, DpAll K H (ns.map vI) (ns.map fun n : Nat => PyData.int (n : Int))
  | [] => .nil
  | n :: r => .cons (.int _) (dp_ints r)
theorem shaped_ints (ns : List Nat) : SeqAt.shaped (.tuple (ns.map fun n : Nat => PyData.int (n : Int))) = true := by
  have h := depth_ints ns
  unfold SeqAt.shaped
  rw [PyData.canLay0, canLay_ints, Bool.true_and]
  refine decide_eq_true ?_
  rw [PyData.depth]
  omega
def rNeI (K : PySem.W.Frag) : R2 := fun x y H Q => ∃ (a b : Addr) (ns : List Nat), x = .ref a ∧ y = .ref b ∧ SqT K H a (ns.map vI) ∧ SqT K H b (ns.map vI) ∧ Q (.bl false) H
theorem op_neI {X : Cx} (hu : X.A.units + 64 < cLine) : OpR X (compareOp .NotEq) (rNeI X.K) := by
  intro pins s σ H x y v u Q I rx ry h
  obtain ⟨a, b, ns, rfl, rfl, ha, hb, q⟩ := h
  refine op_neD hu pins s σ H _ _ v u Q I rx ry ⟨_, _, .tup ha (dp_ints ns), .tup hb (dp_ints ns), shaped_ints ns, shaped_ints ns, ?_⟩
  rw [SeqAt.eqv_refl _ (SeqAt.canLay_of_shaped (shaped_ints ns))]
  exact q
def rEqI (K : PySem.W.Frag) : R2 := fun x y H Q => ∃ (a b : Addr) (ns : List Nat), x = .ref a ∧ y = .ref b ∧ SqT K H a (ns.map vI) ∧ SqT K H b (ns.map vI) ∧ Q (.bl true) H
theorem op_eqI {X : Cx} (hu : X.A.units + 64 < cLine) : OpR X (compareOp .Eq) (rEqI X.K) := by
  intro pins s σ H x y v u Q I rx ry h
  obtain ⟨a, b, ns, rfl, rfl, ha, hb, q⟩ := h
  refine op_eqD hu pins s σ H _ _ v u Q I rx ry ⟨_, _, .tup ha (dp_ints ns), .tup hb (dp_ints ns), shaped_ints ns, shaped_ints ns, ?_⟩
  rw [SeqAt.eqv_refl _ (SeqAt.canLay_of_shaped (shaped_ints ns))]
  exact q

/-! ### list.extend(tuple) -/
theorem ext_tupA (l : Addr) (items : Array Value) (n : Nat) (b : Addr) (items2 : Array Value) (n2 : Nat) (dd : Option Addr) (sl : Array (Option Value)) (hs0 : ¬(!items.isEmpty && Builtin.List.listTooLong (items.size + items2.size)) = true) (hs1 : items.size ≤ sizeLine) (hs2 : items.size + items2.size ≤ sizeLine + 1) :
    Meets (Builtin.«list.extend» ⟨[.ref l, .ref b], []⟩) (fun _ R s => s.heap.get? l = some { cls := .type "list", dict := none, data := .seq items n, slots := #[] } ∧ s.heap.get? b = some { cls := .type "tuple", dict := dd, data := .seq items2 n2, slots := sl } ∧ R (.ok (.ret Value.none)) { s with heap := s.heap.update l (Obj.mapSeq fun x => x ++ items2), toks := s.toks }) :=
  .of_wp fun prog w A R s h => by
    obtain ⟨hp, g, d, tk, os⟩ := s; obtain ⟨hl, hb, h⟩ := h; have f2 := sub_tuple_tuple; have f3 := sub_list_list; have f4 := sub_tuple_list; have f5 := sub_list_tuple
    have hz' : (items ++ items2).size ≤ sizeLine + 1 := by rw [Array.size_append]; exact hs2
    wp_walk using (wpAny_updateSeq hl rfl (hz := hs1) (_hz' := hz')), wpAny_loadPart' hl, wpAny_loadPart' hb
    exact ⟨_, rfl, h⟩
def rExtT (K : PySem.W.Frag) : V → List V → Hp → VK → Prop := fun x vs H Q => ∃ l b xs zs, x = .ref l ∧ vs = [.ref b] ∧ H l = some (.lst xs) ∧ SqT K H b zs ∧ xs.length + zs.length ≤ sizeLine ∧ Q .non (upd H l (.lst (xs ++ zs)))
theorem mt_extT {X : Cx} : MtM X "list.extend" (rExtT X.K) := by
  intro pins s σ H x vs v us Q I rx rv h
  obtain ⟨l, b, xs, zs, rfl, rfl, hH, hB, hz, q⟩ := h
  cases rx
  obtain ⟨u, rfl, ru⟩ := rv.one
  cases ru
  obtain ⟨z, its, n, r, hl, e⟩ := I.lstM hH
  obtain ⟨its2, r2, p2, hl2⟩ := I.tuple hB
  obtain ⟨⟨cls, dd, data, sl⟩, ho, hc, n2, hd⟩ := id p2
  simp only at hc hd
  subst hc hd
  have len2 := r2.length
  have hsz : its.toArray.size + its2.toArray.size ≤ sizeLine := by rw [List.size_toArray, List.size_toArray]; omega
  have hlong : ¬ (!its.toArray.isEmpty && Builtin.List.listTooLong (its.toArray.size + its2.toArray.size)) = true := by
    rw [notLongL hsz, Bool.and_false]
    exact Bool.false_ne_true
  refine call_meets F.slot_list_extend ⟨_, e, rfl⟩ F.entry_list_extend (F.args_list_extend_2 _ _)
    (ext_tupA l its.toArray n b its2.toArray n2 dd sl hlong (by rw [List.size_toArray]; omega) (by omega)) ⟨e, ho, ?_⟩
  refine ⟨.non, _, I.lset (its' := its ++ its2) hH e (by simp) (r.append r2) ?_, rfl, q⟩
  rw [List.length_append]
  omega

/-! ### the source as it comes -/
def iEnX (K : PySem.W.Frag) (ta : TA) : TI := fun σ H R => ta σ H fun vs H1 => ∃ (S : Src) (a : Addr) (xs : List V), vs = [.ref a] ∧ S.sq K H1 a xs ∧ R (ItE S K a) H1
theorem pi_enumX {X : Cx} {e : Expr} {ta : TA} {p pos tpos : Pos} {elts : List Expr} {kk : Nat} (hg : Gl X "enumerate") (hm : X.mg "enumerate" = none) (ha : PA X [e] ta) (hs : starEach [e] X.env = [(false, eval e X.env)] := by rfl) :
    PI X (.Tuple elts kk tpos) (.Call (.Name "enumerate" p) [e] [] pos) (iEnX X.K ta) := by
  refine ⟨fun pins s σ H R I h => ?_⟩
  have h' : ta σ H fun vs H1 => ∃ S : Src, ∃ (a : Addr) (xs : List V), vs = [.ref a] ∧ S.sq X.K H1 a xs ∧ R (ItE S X.K a) H1 := h
  refine Call_ (ld_blt I hg hm boot_enumerate (PyProof.Rows.callWith_type1 (thn (ha.run pos pins s σ H _ I h') fun us s1 ⟨vs, H1, I1, r1, q1⟩ => ?_) hs rfl))
  obtain ⟨S, a, xs, ex, hq, q⟩ := q1
  exact enumG_run S I1 r1 ⟨a, xs, ex, hq, q⟩
def iZpX (K : PySem.W.Frag) (ta : TA) : TI := fun σ H R => ta σ H fun vs H1 => ∃ (S1 S2 : Src) (a b : Addr) (xs ys : List V), vs = [.ref a, .ref b] ∧ S1.sq K H1 a xs ∧ S2.sq K H1 b ys ∧ R (ItZ S1 S2 K a b) H1
theorem pi_zipX {X : Cx} {e e2 : Expr} {ta : TA} {p pos tpos : Pos} {elts : List Expr} {kk : Nat} (hg : Gl X "zip") (hm : X.mg "zip" = none) (ha : PA X [e, e2] ta)
    (hs : starEach [e, e2] X.env = (false, eval e X.env) :: starEach [e2] X.env := by rfl) (hpl : (backTo pos (starEach [e2] X.env)).any (·.1) = false := by rfl) :
    PI X (.Tuple elts kk tpos) (.Call (.Name "zip" p) [e, e2] [] pos) (iZpX X.K ta) := by
  refine ⟨fun pins s σ H R I h => ?_⟩
  have h' : ta σ H fun vs H1 => ∃ S1 S2 : Src, ∃ (a b : Addr) (xs ys : List V), vs = [.ref a, .ref b] ∧ S1.sq X.K H1 a xs ∧ S2.sq X.K H1 b ys ∧ R (ItZ S1 S2 X.K a b) H1 := h
  refine Call_ (ld_blt I hg hm PyProof.Rows.boot_zip (PyProof.Rows.callWith_type1 (thn (ha.run pos pins s σ H _ I h') fun us s1 ⟨vs, H1, I1, r1, q1⟩ => ?_) hs hpl))
  obtain ⟨S1, S2, a, b, xs, ys, ex, hqx, hqy, q⟩ := q1
  exact zipG_run S1 S2 I1 r1 ⟨a, b, xs, ys, ex, hqx, hqy, q⟩
end Bf

set_option Elab.async false
set_option linter.all false
set_option maxRecDepth 100000
set_option maxHeartbeats 4000000
namespace Bf
open PySem PySem.Spec PyProof.Rows L2
/-! ### data of tuples, ints and texts, as they lie -/
mutual
inductive Lay (H : Hp) : V → PyData → Prop
  | non : Lay H .non .none
  | bl (b : Bool) : Lay H (.bl b) (.bool b)
  | int (i : Int) : Lay H (.int i) (.int i)
  | str (x : Str) : Lay H (.str x) (.str x)
  | tup {a : Addr} {xs : List V} {ds : List PyData} : H a = some (.tup xs) → LayAll H xs ds → Lay H (.ref a) (.tuple ds)
inductive LayAll (H : Hp) : List V → List PyData → Prop
  | nil : LayAll H [] []
  | cons {v : V} {vs : List V} {d : PyData} {ds : List PyData} : Lay H v d → LayAll H vs ds → LayAll H (v :: vs) (d :: ds)
end
/-- what is tracked as a tuple in H is so in H' -/
def KeepT (H H' : Hp) : Prop := ∀ b xs, H b = some (.tup xs) → H' b = some (.tup xs)
theorem KeepT.refl (H : Hp) : KeepT H H := fun _ _ h => h
theorem KeepT.same {H H' : Hp} (k : Same H H') : KeepT H H' := fun b xs h => k _ _ h
theorem KeepT.trans {H H1 H2 : Hp} (a : KeepT H H1) (b : KeepT H1 H2) : KeepT H H2 := fun c o h => b c o (a c o h)
theorem KeepT.new {H : Hp} {p : Addr} {o : HO} (h : H p = none) : KeepT H (upd H p o) := fun b u q => by rw [upd_ne (ne_of_none q h)]; exact q
theorem KeepT.lst {H : Hp} {p : Addr} {o : HO} {l : List V} (h : H p = some (.lst l)) : KeepT H (upd H p o) := fun b u q => by
  rw [upd_ne (fun e => by rw [e, h] at q; cases q)]
  exact q
mutual
theorem Lay.keep {H H' : Hp} (k : KeepT H H') : ∀ (d : PyData) (v : V), Lay H v d → Lay H' v d
  | .none, _, h => by cases h; exact .non
  | .bool b, _, h => by cases h; exact .bl b
  | .int i, _, h => by cases h; exact .int i
  | .str x, _, h => by cases h; exact .str x
  | .list ds, _, h => by cases h
  | .tuple ds, _, h => by
    cases h with
    | tup e a => exact .tup (k _ _ e) (LayAll.keep k ds _ a)
  | .dict _, _, h => by cases h
theorem LayAll.keep {H H' : Hp} (k : KeepT H H') : ∀ (ds : List PyData) (vs : List V), LayAll H vs ds → LayAll H' vs ds
  | [], _, h => by cases h; exact .nil
  | d :: ds, _, h => by
    cases h with
    | cons a b => exact .cons (Lay.keep k d _ a) (LayAll.keep k ds _ b)
end
mutual
theorem Lay.dp {K : PySem.W.Frag} {H : Hp} : ∀ (d : PyData) (v : V), Lay H v d → Dp K H v d
  | .none, _, h => by cases h; exact .non
  | .bool b, _, h => by cases h; exact .bl b
  | .int i, _, h => by cases h; exact .int i
  | .str x, _, h => by cases h; exact .str x
  | .list ds, _, h => by cases h
  | .tuple ds, _, h => by
    cases h with
    | tup e a => exact .tup (SqT.of e) (LayAll.dp ds _ a)
  | .dict _, _, h => by cases h
theorem LayAll.dp {K : PySem.W.Frag} {H : Hp} : ∀ (ds : List PyData) (vs : List V), LayAll H vs ds → DpAll K H vs ds
  | [], _, h => by cases h; exact .nil
  | d :: ds, _, h => by
    cases h with
    | cons a b => exact .cons (Lay.dp d _ a) (LayAll.dp ds _ b)
end
theorem Lay.keep' {H H' : Hp} {d : PyData} {v : V} (h : Lay H v d) (k : KeepT H H') : Lay H' v d := Lay.keep k d v h
theorem LayAll.keep' {H H' : Hp} {ds : List PyData} {vs : List V} (h : LayAll H vs ds) (k : KeepT H H') : LayAll H' vs ds := LayAll.keep k ds vs h
theorem Lay.dp' {K : PySem.W.Frag} {H : Hp} {d : PyData} {v : V} (h : Lay H v d) : Dp K H v d := Lay.dp d v h
theorem LayAll.len {H : Hp} : ∀ {vs : List V} {ds : List PyData}, LayAll H vs ds → vs.length = ds.length
  | _, _, .nil => rfl
  | _, _, .cons _ h => by rw [List.length_cons, List.length_cons, h.len]
theorem LayAll.get {H : Hp} {v : V} : ∀ {vs : List V} {ds : List PyData} (i : Nat), LayAll H vs ds → vs[i]? = some v → ∃ d, ds[i]? = some d ∧ Lay H v d
  | [], _, _, _, e => by simp at e
  | _ :: _, _, 0, h, e => by
    cases h with
    | cons a b => cases e; exact ⟨_, rfl, a⟩
  | x :: vs, ds, i + 1, h, e => by
    cases h with
    | cons a b =>
      obtain ⟨d, q, l⟩ := LayAll.get (vs := vs) i b (by simpa using e)
      exact ⟨d, by simpa using q, l⟩
theorem LayAll.at_ {H : Hp} {d : PyData} : ∀ {vs : List V} {ds : List PyData} (i : Nat), LayAll H vs ds → ds[i]? = some d → ∃ v, vs[i]? = some v ∧ Lay H v d
  | _, [], _, _, e => by simp at e
  | _, _ :: _, 0, h, e => by
    cases h with
    | cons a b => cases e; exact ⟨_, rfl, a⟩
  | vs, x :: ds, i + 1, h, e => by
    cases h with
    | cons a b =>
      obtain ⟨d, q, l⟩ := LayAll.at_ (ds := ds) i b (by simpa using e)
      exact ⟨d, by simpa using q, l⟩
theorem LayAll.app {H : Hp} : ∀ {vs us : List V} {ds es : List PyData}, LayAll H vs ds → LayAll H us es → LayAll H (vs ++ us) (ds ++ es)
  | _, _, _, _, .nil, h => h
  | _, _, _, _, .cons a b, h => .cons a (b.app h)
theorem LayAll.snoc {H : Hp} {vs : List V} {ds : List PyData} {v : V} {d : PyData} (h : LayAll H vs ds) (a : Lay H v d) : LayAll H (vs ++ [v]) (ds ++ [d]) := h.app (.cons a .nil)
theorem LayAll.ints {H : Hp} : ∀ ns : List Nat, LayAll H (ns.map vI) (ns.map fun n : Nat => PyData.int (n : Int))
  | [] => .nil
  | n :: ns => .cons (.int _) (LayAll.ints ns)
theorem LayAll.ints_inv {H : Hp} : ∀ {ns : List Nat} {vs : List V}, LayAll H vs (ns.map fun n : Nat => PyData.int (n : Int)) → vs = ns.map vI
  | [], _, .nil => rfl
  | n :: ns, _, .cons (.int _) h => by rw [LayAll.ints_inv h]; rfl
theorem LayAll.strs_inv {H : Hp} : ∀ {ns : List Str} {vs : List V}, LayAll H vs (ns.map PyData.str) → vs = ns.map V.str
  | [], _, .nil => rfl
  | n :: ns, _, .cons (.str _) h => by rw [LayAll.strs_inv h]; rfl
theorem LayAll.strs {H : Hp} : ∀ ns : List Str, LayAll H (ns.map V.str) (ns.map PyData.str)
  | [] => .nil
  | n :: ns => .cons (.str _) (LayAll.strs ns)
theorem Lay.tup_inv {H : Hp} {v : V} {ds : List PyData} (h : Lay H v (.tuple ds)) : ∃ p vs, v = .ref p ∧ H p = some (.tup vs) ∧ LayAll H vs ds := by
  cases h with
  | tup e a => exact ⟨_, _, rfl, e, a⟩
theorem Lay.int_inv {H : Hp} {v : V} {i : Int} (h : Lay H v (.int i)) : v = .int i := by cases h; rfl
theorem Lay.str_inv {H : Hp} {v : V} {z : Str} (h : Lay H v (.str z)) : v = .str z := by cases h; rfl
theorem LayAll.nil_inv {H : Hp} {vs : List V} (h : LayAll H vs []) : vs = [] := by cases h; rfl
theorem LayAll.cons_inv {H : Hp} {vs : List V} {d : PyData} {ds : List PyData} (h : LayAll H vs (d :: ds)) : ∃ v us, vs = v :: us ∧ Lay H v d ∧ LayAll H us ds := by
  cases h with
  | cons a b => exact ⟨_, _, rfl, a, b⟩
/-! ### the shapes that == serves -/
def Sh (k : Nat) (d : PyData) : Prop := d.canLay0 = true ∧ d.depth ≤ k
theorem Sh.int (k : Nat) (i : Int) : Sh k (.int i) := ⟨by simp only [PyData.canLay0], by simp only [PyData.depth]; omega⟩
theorem Sh.all {k : Nat} : ∀ {ds : List PyData}, (∀ d ∈ ds, Sh k d) → PyData.canLayAll0 ds = true ∧ PyData.depthAll ds ≤ k
  | [], _ => ⟨by simp only [PyData.canLayAll0], by simp only [PyData.depthAll]; omega⟩
  | d :: ds, h => by
    have a := h d (by simp)
    have b := Sh.all (ds := ds) fun e he => h e (by simp [he])
    refine ⟨?_, ?_⟩
    · simp only [PyData.canLayAll0]
      rw [a.1, b.1]
      rfl
    · simp only [PyData.depthAll]
      have := a.2
      have := b.2
      omega
theorem Sh.tup {k : Nat} {ds : List PyData} (h : ∀ d ∈ ds, Sh k d) : Sh (k + 1) (.tuple ds) := by
  have q := Sh.all h
  exact ⟨by simp only [PyData.canLay0]; exact q.1, by simp only [PyData.depth]; omega⟩
theorem Sh.lst {k : Nat} {ds : List PyData} (h : ∀ d ∈ ds, Sh k d) : Sh (k + 1) (.list ds) := by
  have q := Sh.all h
  exact ⟨by simp only [PyData.canLay0]; exact q.1, by simp only [PyData.depth]; omega⟩
theorem Sh.shaped {k : Nat} {d : PyData} (h : Sh k d) (hk : k ≤ 64) : SeqAt.shaped d = true := by
  show (d.canLay0 && decide (d.depth ≤ 64)) = true
  rw [Bool.and_eq_true]
  exact ⟨h.1, decide_eq_true (by have := h.2; omega)⟩
mutual
theorem eqv_self : ∀ d : PyData, d.canLay0 = true → PyData.eqv d d = true
  | .none, _ => by simp [PyData.eqv]
  | .bool b, _ => by simp [PyData.eqv]
  | .int i, _ => by simp [PyData.eqv]
  | .str x, _ => by simp [PyData.eqv]
  | .list ds, h => by
    simp only [PyData.canLay0] at h
    simp only [PyData.eqv]
    exact eqvAll_self ds h
  | .tuple ds, h => by
    simp only [PyData.canLay0] at h
    simp only [PyData.eqv]
    exact eqvAll_self ds h
  | .dict _, h => by simp [PyData.canLay0] at h
theorem eqvAll_self : ∀ ds : List PyData, PyData.canLayAll0 ds = true → PyData.eqvAll ds ds = true
  | [], _ => by simp [PyData.eqvAll]
  | d :: ds, h => by
    simp only [PyData.canLayAll0, Bool.and_eq_true] at h
    simp only [PyData.eqvAll, Bool.and_eq_true]
    exact ⟨eqv_self d h.1, eqvAll_self ds h.2⟩
end
/-! ### bits of numbers that are not negative -/
section
variable {X : Cx}
theorem op_xorB : OpR X (binaryOp .BitXor) (fun x y H Q => ∃ n m : Nat, x = .int (n : Int) ∧ y = .int (m : Int) ∧ Q (vI (n ^^^ m)) H) := by
  intro pins s σ H x y v u Q I rx ry h
  obtain ⟨n, m, rfl, rfl, q⟩ := h
  refine op_xor pins s σ H _ _ v u Q I rx ry ⟨_, _, rfl, rfl, ?_⟩
  show Q (V.int (Builtin.bitXor (n : Int) (m : Int))) H
  rw [Bits.bitXor_pp (Int.natCast_nonneg _) (Int.natCast_nonneg _)]
  exact q
theorem op_andB : OpR X (binaryOp .BitAnd) (fun x y H Q => ∃ n m : Nat, x = .int (n : Int) ∧ y = .int (m : Int) ∧ Q (vI (n &&& m)) H) := by
  intro pins s σ H x y v u Q I rx ry h
  obtain ⟨n, m, rfl, rfl, q⟩ := h
  refine op_and pins s σ H _ _ v u Q I rx ry ⟨_, _, rfl, rfl, ?_⟩
  show Q (V.int (Builtin.bitAnd (n : Int) (m : Int))) H
  rw [bitAnd_pp (Int.natCast_nonneg _) (Int.natCast_nonneg _)]
  exact q
theorem op_orB : OpR X (binaryOp .BitOr) (fun x y H Q => ∃ n m : Nat, x = .int (n : Int) ∧ y = .int (m : Int) ∧ Q (vI (n ||| m)) H) := by
  intro pins s σ H x y v u Q I rx ry h
  obtain ⟨n, m, rfl, rfl, q⟩ := h
  refine op_or pins s σ H _ _ v u Q I rx ry ⟨_, _, rfl, rfl, ?_⟩
  show Q (V.int (Builtin.bitOr (n : Int) (m : Int))) H
  rw [Bits.bitOr_pp (Int.natCast_nonneg _) (Int.natCast_nonneg _)]
  exact q
end
/-! ### wide numbers that are not negative -/
theorem natAbs_cast (n : Nat) : ((n : Int)).natAbs = n := rfl
section
variable {X : Cx}
theorem op_fdivNW : OpR X (binaryOp .FloorDiv) (fun x y H Q => ∃ n m : Nat, x = .int (n : Int) ∧ y = .int (m : Int) ∧ (1 ≤ m ∧ m < 2 ^ 9000) ∧ Q (vI (n / m)) H) := by
  intro pins s σ H x y v u Q I rx ry h
  obtain ⟨n, m, rfl, rfl, ⟨h1, h2⟩, q⟩ := h
  exact op_fdivW pins s σ H _ _ v u Q I rx ry ⟨_, _, rfl, rfl, wide_div (b := 9000) (by omega) h2 (by omega) (by omega), q⟩
theorem op_mulNW : OpR X (binaryOp .Mult) (fun x y H Q => ∃ n m : Nat, x = .int (n : Int) ∧ y = .int (m : Int) ∧ (n < 2 ^ 100000 ∧ m < 2 ^ 100000) ∧ Q (vI (n * m)) H) := by
  intro pins s σ H x y v u Q I rx ry h
  obtain ⟨n, m, rfl, rfl, ⟨h1, h2⟩, q⟩ := h
  refine op_mulW pins s σ H _ _ v u Q I rx ry ⟨_, _, rfl, rfl, wide_mul (a := 100000) (b := 100000) h1 h2 (by omega) (by omega) (by omega), ?_⟩
  show Q (V.int ((n : Int) * (m : Int))) H
  rw [← Int.natCast_mul]
  exact q
theorem op_shlNN : OpR X (binaryOp .LShift) (fun x y H Q => ∃ n k : Nat, x = .int (n : Int) ∧ y = .int (k : Int) ∧ (n < 2 ^ 100000 ∧ k ≤ 100000) ∧ Q (vI (n * 2 ^ k)) H) := by
  intro pins s σ H x y v u Q I rx ry h
  obtain ⟨n, k, rfl, rfl, ⟨h1, h2⟩, q⟩ := h
  refine op_shlN pins s σ H _ _ v u Q I rx ry ⟨_, k, rfl, rfl, shl_ok (n := 100000) h1 (by omega), ?_⟩
  have e : ((n : Int) * 2 ^ k) = ((n * 2 ^ k : Nat) : Int) := by simp
  rw [e]
  exact q
theorem op_oneShlN : OpR X (binaryOp .LShift) (fun x y H Q => ∃ k : Nat, x = .int 1 ∧ y = .int (k : Int) ∧ k ≤ 134217727 ∧ Q (vI (2 ^ k)) H) := by
  intro pins s σ H x y v u Q I rx ry h
  obtain ⟨k, rfl, rfl, h1, q⟩ := h
  refine op_oneShl pins s σ H _ _ v u Q I rx ry ⟨k, rfl, rfl, h1, ?_⟩
  have e : ((2 : Int) ^ k) = ((2 ^ k : Nat) : Int) := by simp
  rw [e]
  exact q
end
/-! ### walks -/
theorem walk_enumG (S : Src) {K : PySem.W.Frag} {a : Addr} {xs : List V} : Walk (ItE S K a) xs.length (fun H => S.sq K H a xs) (YPair (fun i => some (.int (i : Nat))) (fun i => xs[i]?)) := by
  refine ⟨fun i _ hi q => ⟨xs, xs[i], q, by simp [hi]⟩, fun _ q => ⟨xs, q, rfl⟩, fun i H v H' _ q y => ?_⟩
  obtain ⟨T, x, h1, h2, h3, h4⟩ := y
  exact ⟨T, .int (i : Nat), x, h1, h2, h3, rfl, h4 xs q⟩
/-! ### small facts -/
theorem refAt {ts : List Addr} {i : Nat} {x : V} (h : (ts.map V.ref)[i]? = some x) : ∃ t, ts[i]? = some t ∧ x = .ref t := by
  rw [List.getElem?_map] at h
  cases e : ts[i]? with
  | none => rw [e] at h; cases h
  | some k => rw [e] at h; exact ⟨k, rfl, (Option.some.inj h).symm⟩
theorem natAt {xs : List Nat} {i : Nat} {x : V} (h : (xs.map vI)[i]? = some x) : ∃ k, xs[i]? = some k ∧ x = vI k := by
  rw [List.getElem?_map] at h
  cases e : xs[i]? with
  | none => rw [e] at h; cases h
  | some k => rw [e] at h; exact ⟨k, rfl, (Option.some.inj h).symm⟩
theorem mapAt {α : Type} {f : α → V} {xs : List α} {i : Nat} {x : V} (h : (xs.map f)[i]? = some x) : ∃ k, xs[i]? = some k ∧ x = f k := by
  rw [List.getElem?_map] at h
  cases e : xs[i]? with
  | none => rw [e] at h; cases h
  | some k => rw [e] at h; exact ⟨k, rfl, (Option.some.inj h).symm⟩
theorem mapAtD {α : Type} {f : α → PyData} {xs : List α} {i : Nat} {x : PyData} (h : (xs.map f)[i]? = some x) : ∃ k, xs[i]? = some k ∧ x = f k := by
  rw [List.getElem?_map] at h
  cases e : xs[i]? with
  | none => rw [e] at h; cases h
  | some k => rw [e] at h; exact ⟨k, rfl, (Option.some.inj h).symm⟩
theorem take_snoc {α : Type} {l : List α} {i : Nat} {x : α} (h : l[i]? = some x) : l.take (i + 1) = l.take i ++ [x] := by
  rw [List.take_add_one, h]
  rfl
theorem same_two {H H' : Hp} {p : Addr} {o : HO} (k : Same H H') (hp : H p = none) : Same H (upd H' p o) := fun b u q => by
  rw [upd_ne (ne_of_none q hp)]
  exact k _ _ q
theorem i62 {n : Nat} (h : n ≤ 1000) : -(2 ^ 62) ≤ (n : Int) ∧ (n : Int) < 2 ^ 62 := by
  have a : (-(2 ^ 62) : Int) ≤ 0 := by decide
  have b : (1001 : Int) ≤ 2 ^ 62 := by decide
  exact ⟨Int.le_trans a (Int.natCast_nonneg _), Int.lt_of_lt_of_le (by omega) b⟩
theorem vInt {i : Int} {n : Nat} (h : i = (n : Int)) : V.int i = vI n := by rw [h]; rfl
theorem all_true : ∀ n : Nat, (List.replicate n true).all id = true
  | 0 => rfl
  | n + 1 => by
    rw [List.replicate_succ, List.all_cons, all_true n]
    rfl
theorem len1000 {n : Nat} (h : n ≤ 1000) : n < sizeLine := small1000 h
end Bf

set_option Elab.async false
set_option linter.all false
set_option maxRecDepth 100000
set_option maxHeartbeats 4000000
namespace Bf
open PySem
/-! ### nets of bits -/
structure Net where
  ins : List Str
  regs : List (Str × Nat × Nat)
  ands : List (Nat × Nat)
  outs : List (Str × Nat)
  cls : List (Str × Nat)
def Net.many (N : Net) : Nat := N.ins.length + N.regs.length
def Net.first (N : Net) : Nat := 1 + N.ins.length + N.regs.length
def Net.size (N : Net) : Nat := N.first + N.ands.length
theorem Net.first_eq (N : Net) : N.first = 1 + N.many := by
  unfold Net.first Net.many
  omega
structure Net.Right (N : Net) : Prop where
  regs : ∀ r ∈ N.regs, r.2.1 < 2 ∧ r.2.2 < 2 * N.size
  ands : ∀ (i : Nat) (p : Nat × Nat), N.ands[i]? = some p → p.1 < 2 * (N.first + i) ∧ p.2 < 2 * (N.first + i)
  outs : ∀ o ∈ N.outs, o.2 < 2 * N.size
  cls : ∀ o ∈ N.cls, o.2 < 2 * N.size
/-! ### masks: all bits of a node at once -/
def whole (m : Nat) : Nat := 2 ^ (2 ^ m) - 1
def maskN (ms : List Nat) (w l : Nat) : Nat := if l % 2 = 1 then ms.getD (l / 2) 0 ^^^ w else ms.getD (l / 2) 0
def patN (m j : Nat) : Nat := whole m / (2 ^ (2 * 2 ^ j) - 1) * ((2 ^ (2 ^ j) - 1) * 2 ^ (2 ^ j))
def patsN (m k : Nat) : List Nat := (List.range k).map (patN m)
def mstep (w : Nat) (ms : List Nat) (p : Nat × Nat) : List Nat := ms ++ [maskN ms w p.1 &&& maskN ms w p.2]
def Net.base (N : Net) : List Nat := 0 :: patsN N.many N.many
def Net.masksTo (N : Net) (i : Nat) : List Nat := (N.ands.take i).foldl (mstep (whole N.many)) N.base
def Net.masks (N : Net) : List Nat := N.masksTo N.ands.length
/-! ### the clauses -/
def andC (n : Nat) (p : Nat × Nat) : List (List Nat) := [[2 * n + 1, p.1], [2 * n + 1, p.2], [2 * n, p.1 ^^^ 1, p.2 ^^^ 1]]
def Net.clausesTo (N : Net) (i : Nat) : List (List Nat) := [1] :: ((List.range i).map fun k => andC (N.first + k) (N.ands.getD k (0, 0))).flatten
def Net.clauses (N : Net) : List (List Nat) := N.clausesTo N.ands.length
def orN (ms : List Nat) (w : Nat) (c : List Nat) : Nat := c.foldl (fun a l => a ||| maskN ms w l) 0
def allN (ms : List Nat) (w : Nat) (cs : List (List Nat)) : Nat := cs.foldl (fun a c => a &&& orN ms w c) w
theorem clausesTo_succ (N : Net) (i : Nat) : N.clausesTo (i + 1) = N.clausesTo i ++ andC (N.first + i) (N.ands.getD i (0, 0)) := by
  unfold Net.clausesTo
  rw [List.range_succ, List.map_append, List.flatten_append]
  simp
theorem masksTo_succ (N : Net) {i : Nat} {p : Nat × Nat} (h : N.ands[i]? = some p) : N.masksTo (i + 1) = N.masksTo i ++ [maskN (N.masksTo i) (whole N.many) p.1 &&& maskN (N.masksTo i) (whole N.many) p.2] := by
  unfold Net.masksTo
  rw [List.take_add_one, h, List.foldl_append]
  rfl
theorem patsN_succ (m k : Nat) : patsN m (k + 1) = patsN m k ++ [patN m k] := by
  unfold patsN
  rw [List.range_succ, List.map_append]
  rfl
theorem patsN_len (m k : Nat) : (patsN m k).length = k := by simp [patsN]
theorem base_len (N : Net) : N.base.length = N.first := by
  unfold Net.base
  rw [List.length_cons, patsN_len, Net.first_eq]
  omega
theorem masksTo_len (N : Net) : ∀ i : Nat, i ≤ N.ands.length → (N.masksTo i).length = N.first + i
  | 0, _ => by
    unfold Net.masksTo
    rw [List.take_zero, List.foldl_nil, base_len]
    rfl
  | i + 1, h => by
    have hi : i < N.ands.length := h
    rw [masksTo_succ N (List.getElem?_eq_getElem hi), List.length_append, masksTo_len N i (by omega)]
    rfl
theorem masksTo_get (N : Net) {n : Nat} : ∀ (i j : Nat), i ≤ j → j ≤ N.ands.length → n < N.first + i → (N.masksTo j)[n]? = (N.masksTo i)[n]? := by
  intro i j hij
  induction hij with
  | refl => intro _ _; rfl
  | @step j h ih =>
    intro hj hn
    have hj' : j < N.ands.length := hj
    have h2 : i ≤ j := h
    rw [masksTo_succ N (List.getElem?_eq_getElem hj'), List.getElem?_append_left (by rw [masksTo_len N j (by omega)]; omega)]
    exact ih (by omega) hn
/-! ### bit by bit -/
theorem whole_bit (m b : Nat) : (whole m).testBit b = decide (b < 2 ^ m) := by
  unfold whole
  exact Nat.testBit_two_pow_sub_one _ _
theorem pat_le (m j : Nat) : patN m j ≤ whole m := by
  unfold patN
  have h1 : (2 ^ (2 ^ j) - 1) * 2 ^ (2 ^ j) ≤ 2 ^ (2 * 2 ^ j) - 1 := by
    rw [Nat.sub_mul, Nat.one_mul, ← Nat.pow_add, show 2 ^ j + 2 ^ j = 2 * 2 ^ j by omega]
    have : 1 ≤ 2 ^ (2 ^ j) := Nat.pow_pos (by decide)
    omega
  exact Nat.le_trans (Nat.mul_le_mul_left _ h1) (Nat.div_mul_le_self _ _)
theorem whole_lt (m : Nat) : whole m < 2 ^ (2 ^ m) := Nat.sub_lt (Nat.pow_pos (by decide)) (by decide)
theorem lt_bit {x W b : Nat} (h : x < 2 ^ W) (hb : ¬ b < W) : x.testBit b = false := Nat.testBit_lt_two_pow (Nat.lt_of_lt_of_le h (Nat.pow_le_pow_right (by decide) (by omega)))
theorem getD_eq {l : List Nat} {n x : Nat} (h : l[n]? = some x) : l.getD n 0 = x := by rw [List.getD_eq_getElem?_getD, h]; rfl
/-- the bit b of a literal -/
def litB (ms : List Nat) (b l : Nat) : Bool := ((ms.getD (l / 2) 0).testBit b) ^^ decide (l % 2 = 1)
def Low (m : Nat) (ms : List Nat) : Prop := ∀ x ∈ ms, x < 2 ^ (2 ^ m)
theorem Low.getD {m : Nat} {ms : List Nat} (h : Low m ms) (n : Nat) : ms.getD n 0 < 2 ^ (2 ^ m) := by
  rw [List.getD_eq_getElem?_getD]
  cases e : ms[n]? with
  | none => exact Nat.pow_pos (by decide)
  | some x => exact h x (List.mem_of_getElem? e)
theorem mask_bit {m : Nat} {ms : List Nat} (b l : Nat) (hb : b < 2 ^ m) : (maskN ms (whole m) l).testBit b = litB ms b l := by
  unfold maskN litB
  by_cases h : l % 2 = 1
  · rw [if_pos h, Nat.testBit_xor, whole_bit, decide_eq_true hb, decide_eq_true h]
  · rw [if_neg h, decide_eq_false h, Bool.xor_false]
theorem mask_lt {m : Nat} {ms : List Nat} (h : Low m ms) (l : Nat) : maskN ms (whole m) l < 2 ^ (2 ^ m) := by
  unfold maskN
  by_cases e : l % 2 = 1
  · rw [if_pos e]
    exact Nat.xor_lt_two_pow (h.getD _) (whole_lt m)
  · rw [if_neg e]
    exact h.getD _
theorem or_bit {m : Nat} {ms : List Nat} (b : Nat) (hb : b < 2 ^ m) : ∀ (c : List Nat) (a : Nat), (c.foldl (fun a l => a ||| maskN ms (whole m) l) a).testBit b = (a.testBit b || c.any (litB ms b))
  | [], a => by simp
  | l :: c, a => by
    rw [List.foldl_cons, or_bit b hb c, Nat.testBit_or, mask_bit b l hb, List.any_cons, Bool.or_assoc]
theorem all_bit {m : Nat} {ms : List Nat} (b : Nat) (hb : b < 2 ^ m) : ∀ (cs : List (List Nat)) (a : Nat), (cs.foldl (fun a c => a &&& orN ms (whole m) c) a).testBit b = (a.testBit b && cs.all fun c => c.any (litB ms b))
  | [], a => by simp
  | c :: cs, a => by
    rw [List.foldl_cons, all_bit b hb cs, Nat.testBit_and, List.all_cons, Bool.and_assoc]
    congr 2
    unfold orN
    rw [or_bit b hb c 0, Nat.zero_testBit, Bool.false_or]
theorem all_le {m : Nat} {ms : List Nat} : ∀ (cs : List (List Nat)) (a : Nat), a < 2 ^ (2 ^ m) → cs.foldl (fun a c => a &&& orN ms (whole m) c) a < 2 ^ (2 ^ m)
  | [], a, h => h
  | c :: cs, a, h => by
    rw [List.foldl_cons]
    exact all_le cs _ (Nat.lt_of_le_of_lt Nat.and_le_left h)
theorem allN_bit {m : Nat} {ms : List Nat} (cs : List (List Nat)) (b : Nat) : (allN ms (whole m) cs).testBit b = (decide (b < 2 ^ m) && cs.all fun c => c.any (litB ms b)) := by
  by_cases hb : b < 2 ^ m
  · unfold allN
    rw [all_bit b hb, whole_bit]
  · rw [decide_eq_false hb, Bool.false_and]
    exact lt_bit (all_le cs _ (whole_lt m)) hb
theorem allN_whole {m : Nat} {ms : List Nat} {cs : List (List Nat)} (h : ∀ b, b < 2 ^ m → ∀ c ∈ cs, c.any (litB ms b) = true) : allN ms (whole m) cs = whole m := by
  apply Nat.eq_of_testBit_eq
  intro b
  rw [allN_bit, whole_bit]
  by_cases hb : b < 2 ^ m
  · rw [decide_eq_true hb, Bool.true_and]
    exact List.all_eq_true.mpr (h b hb)
  · rw [decide_eq_false hb, Bool.false_and]
theorem allN_zero {m : Nat} {ms : List Nat} {cs : List (List Nat)} (h : ∀ b, b < 2 ^ m → ∃ c ∈ cs, c.any (litB ms b) = false) : allN ms (whole m) cs = 0 := by
  apply Nat.eq_of_testBit_eq
  intro b
  rw [allN_bit, Nat.zero_testBit]
  by_cases hb : b < 2 ^ m
  · obtain ⟨c, hc, e⟩ := h b hb
    rw [decide_eq_true hb, Bool.true_and]
    exact List.all_eq_false.mpr ⟨c, hc, by rw [e]; decide⟩
  · rw [decide_eq_false hb, Bool.false_and]
theorem masksTo_low (N : Net) : ∀ i : Nat, i ≤ N.ands.length → Low N.many (N.masksTo i)
  | 0, _ => by
    intro x hx
    have hx : x ∈ N.base := hx
    rcases List.mem_cons.mp hx with e | e
    · rw [e]; exact Nat.pow_pos (by decide)
    · obtain ⟨j, _, rfl⟩ := List.mem_map.mp e
      exact Nat.lt_of_le_of_lt (pat_le _ _) (whole_lt _)
  | i + 1, h => by
    have hi : i < N.ands.length := h
    have ih := masksTo_low N i (by omega)
    rw [masksTo_succ N (List.getElem?_eq_getElem hi)]
    intro x hx
    rcases List.mem_append.mp hx with e | e
    · exact ih x e
    · rw [List.mem_singleton.mp e]
      exact Nat.lt_of_le_of_lt Nat.and_le_left (mask_lt ih _)
/-- a literal of a node ahead has the same bit further on -/
theorem lit_to (N : Net) {i b l : Nat} (hi : i ≤ N.ands.length) (hl : l < 2 * (N.first + i)) : litB (N.masksTo i) b l = litB N.masks b l := by
  unfold litB
  rw [List.getD_eq_getElem?_getD, List.getD_eq_getElem?_getD]
  unfold Net.masks
  rw [masksTo_get N i N.ands.length hi (Nat.le_refl _) (show l / 2 < N.first + i by omega)]
theorem bit_and (N : Net) (R : N.Right) {i b : Nat} {p : Nat × Nat} (h : N.ands[i]? = some p) (hb : b < 2 ^ N.many) : (N.masks.getD (N.first + i) 0).testBit b = (litB N.masks b p.1 && litB N.masks b p.2) := by
  have hi : i < N.ands.length := (List.getElem?_eq_some_iff.mp h).1
  obtain ⟨r1, r2⟩ := R.ands i p h
  have e : N.masks[N.first + i]? = some (maskN (N.masksTo i) (whole N.many) p.1 &&& maskN (N.masksTo i) (whole N.many) p.2) := by
    unfold Net.masks
    rw [masksTo_get N (i + 1) N.ands.length hi (Nat.le_refl _) (by omega), masksTo_succ N h, List.getElem?_append_right (by rw [masksTo_len N i (by omega)]; omega), masksTo_len N i (by omega), Nat.sub_self]
    rfl
  rw [getD_eq e, Nat.testBit_and, mask_bit b _ hb, mask_bit b _ hb, lit_to N (by omega) r1, lit_to N (by omega) r2]
theorem lit_inv (ms : List Nat) (b l : Nat) : litB ms b (l ^^^ 1) = !litB ms b l := by
  unfold litB
  have h1 : (l ^^^ 1) / 2 = l / 2 := by
    have := Nat.xor_div_two (a := l) (b := 1)
    simpa using this
  have h2 : (l ^^^ 1) % 2 = 1 - l % 2 := by
    have q := Nat.testBit_xor l 1 0
    rw [Nat.testBit_zero, Nat.testBit_zero, Nat.testBit_zero] at q
    rcases Nat.mod_two_eq_zero_or_one l with h | h <;> rcases Nat.mod_two_eq_zero_or_one (l ^^^ 1) with g | g <;> rw [h, g] at q <;> simp at q <;> omega
  rw [h1, h2]
  rcases Nat.mod_two_eq_zero_or_one l with h | h <;> rw [h] <;> cases (ms.getD (l / 2) 0).testBit b <;> rfl
theorem lit_even (ms : List Nat) (b n : Nat) : litB ms b (2 * n) = (ms.getD n 0).testBit b := by
  unfold litB
  rw [show 2 * n / 2 = n by omega, show 2 * n % 2 = 0 by omega]
  simp
theorem lit_odd (ms : List Nat) (b n : Nat) : litB ms b (2 * n + 1) = !(ms.getD n 0).testBit b := by
  unfold litB
  rw [show (2 * n + 1) / 2 = n by omega, show (2 * n + 1) % 2 = 1 by omega]
  simp
theorem mem_clauses {N : Net} {c : List Nat} (h : c ∈ N.clauses) : c = [1] ∨ ∃ i p, N.ands[i]? = some p ∧ c ∈ andC (N.first + i) p := by
  rcases List.mem_cons.mp h with h | h
  · exact .inl h
  · obtain ⟨x, hx, hc⟩ := List.mem_flatten.mp h
    obtain ⟨k, hk, rfl⟩ := List.mem_map.mp hx
    have hk' := List.mem_range.mp hk
    have e : N.ands[k]? = some (N.ands.getD k (0, 0)) := by rw [List.getD_eq_getElem?_getD, List.getElem?_eq_getElem hk']; rfl
    exact .inr ⟨k, _, e, hc⟩
theorem clauses_mem {N : Net} {c : List Nat} {i : Nat} {p : Nat × Nat} (h : N.ands[i]? = some p) (hc : c ∈ andC (N.first + i) p) : c ∈ N.clauses := by
  refine List.mem_cons.mpr (.inr (List.mem_flatten.mpr ⟨_, List.mem_map.mpr ⟨i, List.mem_range.mpr (List.getElem?_eq_some_iff.mp h).1, rfl⟩, ?_⟩))
  rw [List.getD_eq_getElem?_getD, h]
  exact hc
theorem and_clauses_bits {ms : List Nat} {b n : Nat} {p : Nat × Nat} : ((andC n p).all fun c => c.any (litB ms b)) = ((ms.getD n 0).testBit b == (litB ms b p.1 && litB ms b p.2)) := by
  show (([2 * n + 1, p.1].any (litB ms b)) && (([2 * n + 1, p.2].any (litB ms b)) && (([2 * n, p.1 ^^^ 1, p.2 ^^^ 1].any (litB ms b)) && true))) = _
  simp only [List.any_cons, List.any_nil, lit_even, lit_odd, lit_inv, Bool.or_false, Bool.and_true]
  cases (ms.getD n 0).testBit b <;> cases litB ms b p.1 <;> cases litB ms b p.2 <;> rfl
theorem clauses_hold (N : Net) (R : N.Right) : allN N.masks (whole N.many) N.clauses = whole N.many := by
  refine allN_whole fun b hb c hc => ?_
  rcases mem_clauses hc with rfl | ⟨i, p, h, hc⟩
  · have e : N.masks[0]? = some 0 := by
      unfold Net.masks
      rw [masksTo_get N 0 N.ands.length (Nat.zero_le _) (Nat.le_refl _) (by rw [Net.first_eq]; omega)]
      rfl
    rw [List.any_cons, List.any_nil, Bool.or_false, show (1 : Nat) = 2 * 0 + 1 from rfl, lit_odd, getD_eq e]
    simp
  · have q : ((andC (N.first + i) p).all fun c => c.any (litB N.masks b)) = true := by
      rw [and_clauses_bits, bit_and N R h hb]
      exact beq_self_eq_true _
    exact List.all_eq_true.mp q c hc
def spoil (ms : List Nat) (n w : Nat) : List Nat := ms.take n ++ [ms.getD n 0 ^^^ w] ++ ms.drop (n + 1)
theorem spoil_get {ms : List Nat} {n w k : Nat} (hn : n < ms.length) : (spoil ms n w).getD k 0 = if k = n then ms.getD n 0 ^^^ w else ms.getD k 0 := by
  unfold spoil
  have lt : (ms.take n).length = n := by rw [List.length_take]; omega
  rw [List.getD_eq_getElem?_getD, List.getD_eq_getElem?_getD]
  by_cases h : k = n
  · rw [if_pos h, List.append_assoc, List.getElem?_append_right (by omega), lt, h, Nat.sub_self, List.singleton_append, List.getElem?_cons_zero]
    rfl
  · rw [if_neg h, List.getD_eq_getElem?_getD]
    congr 1
    by_cases h2 : k < n
    · rw [List.append_assoc, List.getElem?_append_left (by omega), List.getElem?_take_of_lt h2]
    · rw [List.getElem?_append_right (by rw [List.length_append, lt]; simp; omega), List.length_append, lt, List.getElem?_drop]
      congr 1
      simp
      omega
theorem spoil_bit {ms : List Nat} {n m b l : Nat} (hn : n < ms.length) (hb : b < 2 ^ m) : litB (spoil ms n (whole m)) b l = (litB ms b l ^^ decide (l / 2 = n)) := by
  unfold litB
  rw [spoil_get hn]
  by_cases h : l / 2 = n
  · rw [if_pos h, Nat.testBit_xor, whole_bit, decide_eq_true hb, decide_eq_true h, h]
    cases (ms.getD n 0).testBit b <;> cases decide (l % 2 = 1) <;> rfl
  · rw [if_neg h, decide_eq_false h, Bool.xor_false]
theorem spoilt_zero (N : Net) : allN (spoil N.masks 0 (whole N.many)) (whole N.many) N.clauses = 0 := by
  have hl : 0 < N.masks.length := by
    unfold Net.masks
    rw [masksTo_len N _ (Nat.le_refl _), Net.first_eq]
    omega
  refine allN_zero fun b hb => ⟨[1], List.mem_cons_self, ?_⟩
  have e : N.masks[0]? = some 0 := by
    unfold Net.masks
    rw [masksTo_get N 0 N.ands.length (Nat.zero_le _) (Nat.le_refl _) (by rw [Net.first_eq]; omega)]
    rfl
  rw [List.any_cons, List.any_nil, Bool.or_false, spoil_bit hl hb, show (1 : Nat) = 2 * 0 + 1 from rfl, lit_odd, getD_eq e]
  simp
theorem spoilt_and (N : Net) (R : N.Right) {i : Nat} (hi : i < N.ands.length) : allN (spoil N.masks (N.first + i) (whole N.many)) (whole N.many) N.clauses = 0 := by
  have hl : N.first + i < N.masks.length := by
    unfold Net.masks
    rw [masksTo_len N _ (Nat.le_refl _)]
    omega
  have h : N.ands[i]? = some N.ands[i] := List.getElem?_eq_getElem hi
  obtain ⟨r1, r2⟩ := R.ands i _ h
  refine allN_zero fun b hb => ?_
  have q : ((andC (N.first + i) N.ands[i]).all fun c => c.any (litB (spoil N.masks (N.first + i) (whole N.many)) b)) = false := by
    rw [and_clauses_bits, spoil_bit hl hb, spoil_bit hl hb, decide_eq_false (show ¬ (N.ands[i]).1 / 2 = N.first + i by omega), decide_eq_false (show ¬ (N.ands[i]).2 / 2 = N.first + i by omega), Bool.xor_false, Bool.xor_false, ← lit_even, spoil_bit hl hb, lit_even, decide_eq_true (show 2 * (N.first + i) / 2 = N.first + i by omega), bit_and N R h hb]
    cases (litB N.masks b N.ands[i].1 && litB N.masks b N.ands[i].2) <;> rfl
  obtain ⟨c, hc, e⟩ := List.all_eq_false.mp q
  refine ⟨c, clauses_mem h hc, ?_⟩
  cases z : c.any (litB (spoil N.masks (N.first + i) (whole N.many)) b) with
  | false => rfl
  | true => exact absurd z e
end Bf

set_option Elab.async false
set_option linter.all false
set_option maxRecDepth 100000
set_option maxHeartbeats 4000000
namespace Bf
open PySem PySem.Spec PyProof.Rows L2
/-! ### nets, as they lie -/
def intD (n : Nat) : PyData := .int (n : Int)
def regD (r : Str × Nat × Nat) : PyData := .tuple [.str r.1, intD r.2.1, intD r.2.2]
def pairD (p : Nat × Nat) : PyData := .tuple [intD p.1, intD p.2]
def namD (p : Str × Nat) : PyData := .tuple [.str p.1, intD p.2]
def netD (N : Net) : PyData := .tuple [.str "net", .tuple (N.ins.map PyData.str), .tuple (N.regs.map regD), .tuple (N.ands.map pairD), .tuple (N.outs.map namD), .tuple (N.cls.map namD)]
structure NetAt (H : Hp) (p pi pr pa po pc : Addr) (vr va vo vc : List V) (N : Net) : Prop where
  top : H p = some (.tup [.str "net", .ref pi, .ref pr, .ref pa, .ref po, .ref pc])
  hi : H pi = some (.tup (N.ins.map V.str))
  hr : H pr = some (.tup vr)
  lr : LayAll H vr (N.regs.map regD)
  ha : H pa = some (.tup va)
  la : LayAll H va (N.ands.map pairD)
  ho : H po = some (.tup vo)
  lo : LayAll H vo (N.outs.map namD)
  hc : H pc = some (.tup vc)
  lc : LayAll H vc (N.cls.map namD)
theorem NetAt.keep {H H' : Hp} {p pi pr pa po pc : Addr} {vr va vo vc : List V} {N : Net} (h : NetAt H p pi pr pa po pc vr va vo vc N) (k : KeepT H H') : NetAt H' p pi pr pa po pc vr va vo vc N :=
  ⟨k _ _ h.top, k _ _ h.hi, k _ _ h.hr, h.lr.keep' k, k _ _ h.ha, h.la.keep' k, k _ _ h.ho, h.lo.keep' k, k _ _ h.hc, h.lc.keep' k⟩
theorem NetAt.lay {H : Hp} {p pi pr pa po pc : Addr} {vr va vo vc : List V} {N : Net} (h : NetAt H p pi pr pa po pc vr va vo vc N) : Lay H (.ref p) (netD N) :=
  .tup h.top (.cons (.str _) (.cons (.tup h.hi (.strs _)) (.cons (.tup h.hr h.lr) (.cons (.tup h.ha h.la) (.cons (.tup h.ho h.lo) (.cons (.tup h.hc h.lc) .nil))))))
theorem Lay.net {H : Hp} {v : V} {N : Net} (h : Lay H v (netD N)) : ∃ (p pi pr pa po pc : Addr) (vr va vo vc : List V), v = .ref p ∧ NetAt H p pi pr pa po pc vr va vo vc N := by
  obtain ⟨p, vs, rfl, e, l⟩ := h.tup_inv
  obtain ⟨v0, u0, rfl, l0, l⟩ := l.cons_inv
  obtain ⟨v1, u1, rfl, l1, l⟩ := l.cons_inv
  obtain ⟨v2, u2, rfl, l2, l⟩ := l.cons_inv
  obtain ⟨v3, u3, rfl, l3, l⟩ := l.cons_inv
  obtain ⟨v4, u4, rfl, l4, l⟩ := l.cons_inv
  obtain ⟨v5, u5, rfl, l5, l⟩ := l.cons_inv
  obtain rfl := l.nil_inv
  obtain rfl := l0.str_inv
  obtain ⟨p1, w1, rfl, e1, m1⟩ := l1.tup_inv
  obtain ⟨p2, w2, rfl, e2, m2⟩ := l2.tup_inv
  obtain ⟨p3, w3, rfl, e3, m3⟩ := l3.tup_inv
  obtain ⟨p4, w4, rfl, e4, m4⟩ := l4.tup_inv
  obtain ⟨p5, w5, rfl, e5, m5⟩ := l5.tup_inv
  obtain rfl := m1.strs_inv
  exact ⟨p, p1, p2, p3, p4, p5, w2, w3, w4, w5, rfl, ⟨e, e1, e2, m2, e3, m3, e4, m4, e5, m5⟩⟩
theorem NetAt.lens {H : Hp} {p pi pr pa po pc : Addr} {vr va vo vc : List V} {N : Net} (h : NetAt H p pi pr pa po pc vr va vo vc N) : vr.length = N.regs.length ∧ va.length = N.ands.length ∧ vo.length = N.outs.length ∧ vc.length = N.cls.length :=
  ⟨by simpa using h.lr.len, by simpa using h.la.len, by simpa using h.lo.len, by simpa using h.lc.len⟩
theorem Lay.pair {H : Hp} {v : V} {p : Nat × Nat} (h : Lay H v (pairD p)) : ∃ q, v = .ref q ∧ H q = some (.tup [vI p.1, vI p.2]) := by
  obtain ⟨q, vs, rfl, e, l⟩ := h.tup_inv
  obtain ⟨v0, u0, rfl, l0, l⟩ := l.cons_inv
  obtain ⟨v1, u1, rfl, l1, l⟩ := l.cons_inv
  obtain rfl := l.nil_inv
  obtain rfl := l0.int_inv
  obtain rfl := l1.int_inv
  exact ⟨q, rfl, e⟩
theorem Lay.reg {H : Hp} {v : V} {r : Str × Nat × Nat} (h : Lay H v (regD r)) : ∃ q, v = .ref q ∧ H q = some (.tup [.str r.1, vI r.2.1, vI r.2.2]) := by
  obtain ⟨q, vs, rfl, e, l⟩ := h.tup_inv
  obtain ⟨v0, u0, rfl, l0, l⟩ := l.cons_inv
  obtain ⟨v1, u1, rfl, l1, l⟩ := l.cons_inv
  obtain ⟨v2, u2, rfl, l2, l⟩ := l.cons_inv
  obtain rfl := l.nil_inv
  obtain rfl := l0.str_inv
  obtain rfl := l1.int_inv
  obtain rfl := l2.int_inv
  exact ⟨q, rfl, e⟩
theorem Lay.nam {H : Hp} {v : V} {r : Str × Nat} (h : Lay H v (namD r)) : ∃ q, v = .ref q ∧ H q = some (.tup [.str r.1, vI r.2]) := by
  obtain ⟨q, vs, rfl, e, l⟩ := h.tup_inv
  obtain ⟨v0, u0, rfl, l0, l⟩ := l.cons_inv
  obtain ⟨v1, u1, rfl, l1, l⟩ := l.cons_inv
  obtain rfl := l.nil_inv
  obtain rfl := l0.str_inv
  obtain rfl := l1.int_inv
  exact ⟨q, rfl, e⟩
theorem Lay.mkPair {H : Hp} {q : Addr} {a b : Nat} (e : H q = some (.tup [vI a, vI b])) : Lay H (.ref q) (pairD (a, b)) := .tup e (.cons (.int _) (.cons (.int _) .nil))
theorem Lay.mkReg {H : Hp} {q : Addr} {z : Str} {a b : Nat} (e : H q = some (.tup [.str z, vI a, vI b])) : Lay H (.ref q) (regD (z, a, b)) := .tup e (.cons (.str _) (.cons (.int _) (.cons (.int _) .nil)))
theorem Lay.mkNam {H : Hp} {q : Addr} {z : Str} {a : Nat} (e : H q = some (.tup [.str z, vI a])) : Lay H (.ref q) (namD (z, a)) := .tup e (.cons (.str _) (.cons (.int _) .nil))
theorem NetAt.and_ {H : Hp} {p pi pr pa po pc : Addr} {vr va vo vc : List V} {N : Net} (h : NetAt H p pi pr pa po pc vr va vo vc N) {i : Nat} {x : V} (e : va[i]? = some x) : ∃ q p, x = .ref q ∧ N.ands[i]? = some p ∧ H q = some (.tup [vI p.1, vI p.2]) := by
  obtain ⟨d, hd, l⟩ := h.la.get i e
  obtain ⟨p, hp, rfl⟩ := mapAtD hd
  obtain ⟨q, rfl, hq⟩ := l.pair
  exact ⟨q, p, rfl, hp, hq⟩
end Bf

set_option Elab.async false
set_option linter.all false
set_option maxRecDepth 100000
set_option maxHeartbeats 4000000
namespace Bf
open PySem PySem.Spec PyProof.Rows L2
def topS (i : Nat) : Stmt := PySem.Challenge.pw_beatfabric_k39_clauses.main.body.getD i (.Pass ⟨0, 0, 0, 0⟩)
abbrev s_first_and : Stmt := topS 1
abbrev s_ands_of : Stmt := topS 2
abbrev s_and_clauses : Stmt := topS 4
abbrev s_clauses_of : Stmt := topS 5
abbrev s_law_begin : Stmt := topS 7
abbrev s_law_draw : Stmt := topS 8
abbrev s_law_pop : Stmt := topS 9
abbrev s_law_rare : Stmt := topS 10
abbrev s_law_pool : Stmt := topS 11
abbrev s_law_is_int : Stmt := topS 12
abbrev s_law_is_ints : Stmt := topS 13
abbrev s_law_drawn_literal : Stmt := topS 14
abbrev s_law_net : Stmt := topS 15
abbrev s_law_patterns : Stmt := topS 16
abbrev s_law_mask : Stmt := topS 17
abbrev s_law_masks : Stmt := topS 18
abbrev s_law_clauses : Stmt := topS 19
abbrev s_law_is_clauses : Stmt := topS 20
abbrev s_law_all_true : Stmt := topS 21
abbrev s_law_tells_bits : Stmt := topS 22
abbrev s_law : Stmt := topS 23
theorem sc_first_and : FnScope ["net"] ["net"] (defScope s_first_and) := ⟨rfl, rfl, rfl, by decide +kernel, rfl, by decide +kernel, by decide +kernel⟩
theorem sc_ands_of : FnScope ["net", "first", "at", "left", "right"] ["net"] (defScope s_ands_of) := ⟨rfl, rfl, rfl, by decide +kernel, rfl, by decide +kernel, by decide +kernel⟩
theorem sc_and_clauses : FnScope ["node", "left", "right"] ["node", "left", "right"] (defScope s_and_clauses) := ⟨rfl, rfl, rfl, by decide +kernel, rfl, by decide +kernel, by decide +kernel⟩
theorem sc_clauses_of : FnScope ["net", "clauses", "node", "left", "right"] ["net"] (defScope s_clauses_of) := ⟨rfl, rfl, rfl, by decide +kernel, rfl, by decide +kernel, by decide +kernel⟩
theorem sc_law_begin : FnScope ["_law_script", "_law_cell"] ["_law_script"] (defScope s_law_begin) := ⟨rfl, rfl, rfl, by decide +kernel, rfl, by decide +kernel, by decide +kernel⟩
theorem sc_law_draw : FnScope ["_law_d", "_law_many", "_law_found", "_law_size", "_law_cell"] ["_law_d", "_law_many"] (defScope s_law_draw) := ⟨rfl, rfl, rfl, by decide +kernel, rfl, by decide +kernel, by decide +kernel⟩
theorem sc_law_pop : FnScope ["_law_d", "_law_row"] ["_law_d", "_law_row"] (defScope s_law_pop) := ⟨rfl, rfl, rfl, by decide +kernel, rfl, by decide +kernel, by decide +kernel⟩
theorem sc_law_rare : FnScope ["_law_d", "_law_many"] ["_law_d", "_law_many"] (defScope s_law_rare) := ⟨rfl, rfl, rfl, by decide +kernel, rfl, by decide +kernel, by decide +kernel⟩
theorem sc_law_pool : FnScope ["_law_text"] [] (defScope s_law_pool) := ⟨rfl, rfl, rfl, by decide +kernel, rfl, by decide +kernel, by decide +kernel⟩
theorem sc_law_is_int : FnScope ["_law_thing"] ["_law_thing"] (defScope s_law_is_int) := ⟨rfl, rfl, rfl, by decide +kernel, rfl, by decide +kernel, by decide +kernel⟩
theorem sc_law_is_ints : FnScope ["_law_row", "_law_part"] ["_law_row"] (defScope s_law_is_ints) := ⟨rfl, rfl, rfl, by decide +kernel, rfl, by decide +kernel, by decide +kernel⟩
theorem sc_law_drawn_literal : FnScope ["_law_d", "_law_size", "_law_node"] ["_law_d", "_law_size"] (defScope s_law_drawn_literal) := ⟨rfl, rfl, rfl, by decide +kernel, rfl, by decide +kernel, by decide +kernel⟩
theorem sc_law_net : FnScope ["_law_d", "_law_inputs", "_law_regs", "_law_ands", "_law_outputs", "_law_claims", "_law_names", "_law_first", "_law_pairs", "_law_size", "_law_given", "_law_rows", "_law_shown", "_law_asked", "_law_k"] ["_law_d", "_law_inputs", "_law_regs", "_law_ands", "_law_outputs", "_law_claims"] (defScope s_law_net) := ⟨rfl, rfl, rfl, by decide +kernel, rfl, by decide +kernel, by decide +kernel⟩
theorem sc_law_patterns : FnScope ["_law_many", "_law_whole", "_law_found", "_law_j", "_law_step"] ["_law_many"] (defScope s_law_patterns) := ⟨rfl, rfl, rfl, by decide +kernel, rfl, by decide +kernel, by decide +kernel⟩
theorem sc_law_mask : FnScope ["_law_masks_here", "_law_literal", "_law_whole"] ["_law_masks_here", "_law_literal", "_law_whole"] (defScope s_law_mask) := ⟨rfl, rfl, rfl, by decide +kernel, rfl, by decide +kernel, by decide +kernel⟩
theorem sc_law_masks : FnScope ["_law_net_here", "_law_many", "_law_whole", "_law_masks_here", "_law_left", "_law_right"] ["_law_net_here"] (defScope s_law_masks) := ⟨rfl, rfl, rfl, by decide +kernel, rfl, by decide +kernel, by decide +kernel⟩
theorem sc_law_clauses : FnScope ["_law_net_here", "_law_first", "_law_found", "_law_k", "_law_left", "_law_right", "_law_node"] ["_law_net_here"] (defScope s_law_clauses) := ⟨rfl, rfl, rfl, by decide +kernel, rfl, by decide +kernel, by decide +kernel⟩
theorem sc_law_is_clauses : FnScope ["_law_steps", "_law_step"] ["_law_steps"] (defScope s_law_is_clauses) := ⟨rfl, rfl, rfl, by decide +kernel, rfl, by decide +kernel, by decide +kernel⟩
theorem sc_law_all_true : FnScope ["_law_clauses_here", "_law_masks_here", "_law_whole", "_law_rows", "_law_clause", "_law_some", "_law_literal"] ["_law_clauses_here", "_law_masks_here", "_law_whole"] (defScope s_law_all_true) := ⟨rfl, rfl, rfl, by decide +kernel, rfl, by decide +kernel, by decide +kernel⟩
theorem sc_law_tells_bits : FnScope ["_law_net_here", "_law_clauses_here", "_law_many", "_law_whole", "_law_masks_here", "_law_node", "_law_spoilt", "_law_k"] ["_law_net_here", "_law_clauses_here"] (defScope s_law_tells_bits) := ⟨rfl, rfl, rfl, by decide +kernel, rfl, by decide +kernel, by decide +kernel⟩
theorem sc_law : FnScope ["_law_script", "_law_d", "_law_most", "_law_nets", "_law_k", "_law_inputs", "_law_regs", "_law_ands", "_law_net_here", "_law_told"] ["_law_script"] (defScope s_law) := ⟨rfl, rfl, rfl, by decide +kernel, rfl, by decide +kernel, by decide +kernel⟩
structure Txt (mg : Str → Option Value) : Prop where
  n_int : mg "int" = none
  n_len : mg "len" = none
  n_abs : mg "abs" = none
  n_isinstance : mg "isinstance" = none
  n_range : mg "range" = none
  n_tuple : mg "tuple" = none
  n_all : mg "all" = none
  n_list : mg "list" = none
  n_enumerate : mg "enumerate" = none
  n_bool : mg "bool" = none
  n_max : mg "max" = none
/-! ### the draws -/
/-- what stood elsewhere stands -/
def Keep (S : List Addr) (H H' : Hp) : Prop := ∀ b o, b ∉ S → H b = some o → H' b = some o
theorem Keep.refl (S : List Addr) (H : Hp) : Keep S H H := fun _ _ _ h => h
theorem Keep.trans {S : List Addr} {H H1 H2 : Hp} (a : Keep S H H1) (b : Keep S H1 H2) : Keep S H H2 := fun c o n h => b c o n (a c o n h)
theorem Keep.of_same {S : List Addr} {H H1 : Hp} (a : Same H H1) : Keep S H H1 := fun c o _ h => a c o h
theorem Keep.wide {S S' : List Addr} {H H1 : Hp} (a : Keep S H H1) (h : ∀ b, b ∈ S → b ∈ S') : Keep S' H H1 := fun c o n e => a c o (fun q => n (h c q)) e
theorem Keep.upd {S : List Addr} {H : Hp} {a : Addr} {o : HO} (h : a ∈ S) : Keep S H (upd H a o) := fun b u n e => by
  rw [upd_ne (fun q => n (by rw [q]; exact h))]
  exact e
theorem Keep.new {S : List Addr} {H : Hp} {a : Addr} {o : HO} (h : H a = none) : Keep S H (L2.upd H a o) := fun b u n e => by
  rw [upd_ne (ne_of_none e h)]
  exact e
/-- the state of the draws -/
def DS (H : Hp) (a c : Addr) : Prop := ∃ (at_ left st : Int) (cells : List Int), H a = some (.lst [.ref c, .int at_, .int left, .int st, .int 3]) ∧ 0 ≤ at_ ∧ H c = some (.lst (cells.map V.int))
theorem DS.ne {H : Hp} {a c : Addr} {x : V} {xs : List V} {cells : List Int} (h : H a = some (.lst (.ref c :: xs))) (hc : H c = some (.lst (cells.map V.int))) : c ≠ a := by
  intro e
  rw [e, h] at hc
  have q := HO.lst.inj (Option.some.inj hc)
  cases cells with
  | nil => cases q
  | cons x r => cases (List.cons.inj q).1
theorem DS.keep {S : List Addr} {H H' : Hp} {a c : Addr} (h : DS H a c) (k : Keep S H H') (ha : a ∉ S) (hc : c ∉ S) : DS H' a c := by
  obtain ⟨at_, left, st, cells, h1, h2, h3⟩ := h
  exact ⟨at_, left, st, cells, k _ _ ha h1, h2, k _ _ hc h3⟩
theorem DS.same {H H' : Hp} {a c : Addr} (h : DS H a c) (k : Same H H') : DS H' a c := h.keep (S := []) (Keep.of_same k) (by simp) (by simp)
theorem DS.new {H : Hp} {a c l : Addr} (h : DS H a c) (hl : H l = none) : l ≠ a ∧ l ≠ c := by
  obtain ⟨at_, left, st, cells, h1, h2, h3⟩ := h
  exact ⟨(ne_of_none h1 hl).symm, (ne_of_none h3 hl).symm⟩
theorem pow6000 : (0 : Int) < 1 * 2 ^ (6000 : Int).toNat := by
  rw [Int.one_mul]
  exact Int.pow_pos (by decide)
def spDraw : Sp := fun vs H Q _ => ∃ (a c : Addr) (m : Int), vs = [.ref a, .int m] ∧ DS H a c ∧ 1 ≤ m ∧ m < 1073741824 ∧ ∀ (r : Int) (H' : Hp), 0 ≤ r → r < m → DS H' a c → Keep [a] H H' → Q (.int r) H'
section
variable {P : Program} {w : World} {K : PySem.W.Frag} {mg : Str → Option Value} {base : Heap}
theorem ok_draw {f : Addr} {fd : FuncData} (F : Fun K "_law_draw" "_law_draw" s_law_draw f fd) (T : Txt mg) : FnOk P w K mg base CX0 1 f fd ["_law_d", "_law_many"] spDraw := by
  refine F.ok sc_law_draw (fun vs H Q E h => ?_) (fun cdv A outer s H vs Q E hr h => ?_)
  · obtain ⟨a, c, m, rfl, _⟩ := h
    rfl
  obtain ⟨a, c, m, rfl, ⟨at_, left, st, cells, ha, h0, hc⟩, m1, m2, q⟩ := h
  have hca : c ≠ a := DS.ne (x := .non) ha hc
  refine ⟨_, (pss_cons (ps_if (pt_cmpR op_gt (pe_ix ix_list (pv 0) pe_int (fun _ _ => rfl)) pe_int (nomark _)) (pss_cons (ps_set (i := 2) sc_law_draw.nd rfl (Or.inl rfl) (pe_ix ix_list (pv 0) pe_int (fun _ _ => rfl)))
      (pss_cons (ps_asg (pe_op op_fdiv (pv 2) (pv 1)) (pg_sub (pv 0) pe_int set_list))
      (pss_one (ps_ret (pe_op op_mod (pe_callTy call_int1 (by rfl) T.n_int (by decide +kernel) (pa_cons (pv 2) pa_nil)) (pv 1)))))) pss_nil)
      (pss_cons (ps_set (i := 3) sc_law_draw.nd rfl (Or.inl rfl) pe_int)
      (C8.pss_cut (ps_if (pt_cmpR op_lt (pe_ix ix_list (pv 0) pe_int (fun _ _ => rfl)) (pe_callB call_len_seq (by rfl) T.n_len (by decide +kernel) (pa_cons (pe_ix ix_list (pv 0) pe_int (fun _ _ => rfl)) pa_nil)) (nomark _)) (pss_cons (ps_set (i := 4) sc_law_draw.nd rfl (Or.inl rfl) (pe_ix ix_list (pe_ix ix_list (pv 0) pe_int (fun _ _ => rfl)) (pe_ix ix_list (pv 0) pe_int (fun _ _ => rfl)) (fun _ _ => rfl)))
      (pss_one (ps_set (i := 3) sc_law_draw.nd rfl (Or.inl rfl) (pe_op op_add (pe_op op_mul pe_int (pe_callB call_abs (by rfl) T.n_abs (by decide +kernel) (pa_cons (pv 4) pa_nil))) (pe_callTy call_int1 (by rfl) T.n_int (by decide +kernel) (pa_cons (pe_cmpR op_lt (pv 4) pe_int (nomark _)) pa_nil)))))) pss_nil)
      (C8.pss_cut (ps_augS (pv 0) pe_int get_list pe_int ip_add set_list)
      (pss_cons (ps_if (pt_cmpR op_ge (pv 3) (pe_op op_mul pe_int (pe_op op_pow pe_int pe_int)) (nomark _)) (pss_cons (ps_set (i := 2) sc_law_draw.nd rfl (Or.inl rfl) (pe_op op_mod (pe_callTy call_int1 (by rfl) T.n_int (by decide +kernel) (pa_cons (pe_op op_fdiv (pv 3) pe_int) pa_nil)) (pe_op op_shl pe_int pe_int)))
      (pss_cons (ps_asg (pe_op op_fdiv (pv 2) (pv 1)) (pg_sub (pv 0) pe_int set_list))
      (pss_one (ps_ret (pe_op op_mod (pe_callTy call_int1 (by rfl) T.n_int (by decide +kernel) (pa_cons (pv 2) pa_nil)) (pv 1)))))) pss_nil)
      (pss_cons (ps_asg (pe_op op_mod (pe_callTy call_int1 (by rfl) T.n_int (by decide +kernel) (pa_cons (pe_op op_add (pe_op op_add (pe_op op_add (pe_op op_mul (pe_ix ix_list (pv 0) pe_int (fun _ _ => rfl)) pe_int) (pe_op op_mul (pe_op op_mod (pe_callTy call_int1 (by rfl) T.n_int (by decide +kernel) (pa_cons (pv 3) pa_nil)) pe_int) pe_int)) (pe_op op_mul (pe_ix ix_list (pv 0) pe_int (fun _ _ => rfl)) pe_int)) pe_int) pa_nil)) pe_int) (pg_sub (pv 0) pe_int set_list))
      (pss_one (ps_ret (pe_op op_mod (pe_callTy call_int1 (by rfl) T.n_int (by decide +kernel) (pa_cons (pe_op op_fdiv (pe_ix ix_list (pv 0) pe_int (fun _ _ => rfl)) pe_int) pa_nil)) (pv 1)))))))))), ?_⟩
  refine ⟨_, rfl, a, _, _, _, rfl, rfl, SqL.of ha, atI_nat (j := 2) rfl, _, _, rfl, rfl, _, rfl, ?_⟩
  refine ite2 (fun e => ?_) (fun e => ?_)
  · refine ⟨_, rfl, a, _, _, _, rfl, rfl, SqL.of ha, atI_nat (j := 2) rfl, ?_⟩
    refine ⟨_, rfl, _, rfl, left, m, rfl, rfl, ⟨by omega, by omega⟩, _, rfl, a, _, 2, 2, rfl, rfl, ha, rfl, ?_⟩
    refine ⟨_, rfl, .inl ⟨_, rfl, _, rfl, _, _, rfl, rfl, (by omega), ?_⟩⟩
    exact q _ _ (Int.emod_nonneg _ (by omega)) (Int.emod_lt_of_pos _ (by omega)) ⟨at_, left / m, st, cells, upd_same, h0, by rw [upd_ne hca]; exact hc⟩ (Keep.upd (by simp))
  · refine ⟨fun σ' H' => ∃ (z : Int) (v4 : Option V), σ' = [some (.ref a), some (.int m), none, some (.int z), v4] ∧ H' = H, ?_, ?_⟩
    · refine ⟨_, rfl, a, _, _, _, rfl, rfl, SqL.of ha, atI_nat (j := 1) rfl, _, rfl, a, _, _, _, rfl, rfl, SqL.of ha, atI_nat (j := 0) rfl, c, _, rfl, .inl (SqL.of hc), _, _, rfl, rfl, _, rfl, ?_⟩
      refine ite2 (fun e1 => ?_) (fun e1 => ?_)
      · have e2 : at_ < ((cells.map V.int).length : Nat) := of_decide_eq_true e1
        rw [List.length_map] at e2
        have hk : at_.toNat < cells.length := by omega
        have ek : ((at_.toNat : Nat) : Int) = at_ := by omega
        have q1 : atI (cells.map V.int) ((at_.toNat : Nat) : Int) = some (.int cells[at_.toNat]) := atI_nat (by rw [List.getElem?_map, List.getElem?_eq_getElem hk] <;> rfl)
        rw [ek] at q1
        refine ⟨_, rfl, a, _, _, _, rfl, rfl, SqL.of ha, atI_nat (j := 0) rfl, _, rfl, a, _, _, _, rfl, rfl, SqL.of ha, atI_nat (j := 1) rfl, c, _, _, _, rfl, rfl, SqL.of hc, q1, ?_⟩
        refine ⟨_, rfl, _, rfl, _, _, rfl, rfl, .inl ⟨by decide, by decide⟩, _, rfl, _, _, rfl, rfl, .inr ⟨_, rfl, _, _, rfl, rfl, ?_⟩⟩
        exact ⟨_, _, rfl, rfl⟩
      · exact ⟨_, _, rfl, rfl⟩
    · rintro σ' H' ⟨z, v4, rfl, rfl⟩
      refine ⟨fun σ' H1 => σ' = [some (.ref a), some (.int m), none, some (.int z), v4] ∧ H1 a = some (.lst [.ref c, .int (at_ + 1), .int left, .int st, .int 3]) ∧ H1 c = some (.lst (cells.map V.int)) ∧ Keep [a] H' H1, ?_, ?_⟩
      · exact ⟨_, rfl, a, _, 1, .int at_, rfl, rfl, ha, atI_nat (j := 1) rfl, at_, 1, rfl, rfl, a, _, 1, 1, rfl, rfl, ha, rfl, rfl, upd_same, by rw [upd_ne hca]; exact hc, Keep.upd (by simp)⟩
      rintro σ' H1 ⟨rfl, h1, h2, k1⟩
      refine ⟨_, rfl, _, _, rfl, rfl, ⟨by decide, by decide, by decide⟩, _, _, rfl, rfl, .inl ⟨by decide, by decide⟩, _, _, rfl, rfl, _, rfl, ?_⟩
      refine ite2 (fun e3 => ?_) (fun e3 => ?_)
      · refine ⟨_, rfl, z, 2, rfl, rfl, ⟨by decide, by decide⟩, .inl ⟨_, rfl, 1, 6000, rfl, rfl, ⟨by decide, by decide, by decide⟩, _, _, rfl, rfl, pow6000, ?_⟩⟩
        refine ⟨_, rfl, _, rfl, _, m, rfl, rfl, ⟨by omega, by omega⟩, _, rfl, a, _, 2, 2, rfl, rfl, h1, rfl, ?_⟩
        refine ⟨_, rfl, .inl ⟨_, rfl, _, rfl, _, _, rfl, rfl, (by omega), ?_⟩⟩
        refine q _ _ (Int.emod_nonneg _ (by omega)) (Int.emod_lt_of_pos _ (by omega)) ⟨at_ + 1, _, st, cells, upd_same, by omega, by rw [upd_ne hca]; exact h2⟩ (k1.trans (Keep.upd (by simp)))
      · refine ⟨_, rfl, a, _, _, _, rfl, rfl, SqL.of h1, atI_nat (j := 3) rfl, _, _, rfl, rfl, .inr ⟨by decide, by decide⟩, ?_⟩
        refine ⟨_, rfl, .inl ⟨_, rfl, _, _, rfl, rfl, (by show (0 : Int) < 2147483629; decide), _, _, rfl, rfl, .inr ⟨by decide, by decide⟩, _, _, rfl, rfl, ?_⟩⟩
        refine ⟨_, rfl, a, _, _, _, rfl, rfl, SqL.of h1, atI_nat (j := 1) rfl, _, _, rfl, rfl, .inr ⟨by decide, by decide⟩, _, _, rfl, rfl, _, _, rfl, rfl, .inl ⟨_, rfl, _, _, rfl, rfl, (by show (0 : Int) < 2147483647; decide), ?_⟩⟩
        refine ⟨_, rfl, a, _, 3, 3, rfl, rfl, h1, rfl, ?_⟩
        refine ⟨_, rfl, a, _, _, _, rfl, rfl, SqL.of upd_same, atI_nat (j := 3) rfl, _, _, rfl, rfl, ⟨by decide, by decide⟩, .inl ⟨_, rfl, _, rfl, _, _, rfl, rfl, (by omega), ?_⟩⟩
        exact q _ _ (Int.emod_nonneg _ (by omega)) (Int.emod_lt_of_pos _ (by omega)) ⟨at_ + 1, left, _, cells, upd_same, by omega, by rw [upd_ne hca]; exact h2⟩ (k1.trans (Keep.upd (by simp)))
end

/-! ### the beginning of the draws; a draw out of a list; is it an int -/
theorem same_new {H : Hp} {p : Addr} (h : H p = none) (o : HO) : Same H (upd H p o) := fun b u q => by rw [upd_ne (ne_of_none q h)]; exact q
theorem intAt {xs : List Int} {i : Nat} {x : V} (h : (xs.map V.int)[i]? = some x) : ∃ k, xs[i]? = some k ∧ x = V.int k := by
  rw [List.getElem?_map] at h
  cases e : xs[i]? with
  | none => rw [e] at h; cases h
  | some k => rw [e] at h; exact ⟨k, rfl, (Option.some.inj h).symm⟩
def spBegin (K : PySem.W.Frag) : Sp := fun vs H Q _ => ∃ (a : Addr) (ns : List Int), vs = [.ref a] ∧ SqL K H a (ns.map V.int) ∧ ns.length ≤ 63 ∧ ∀ (d c : Addr) (H' : Hp), H d = none → H c = none → DS H' d c → Same H H' → Q (.ref d) H'
section
variable {P : Program} {w : World} {K : PySem.W.Frag} {mg : Str → Option Value} {base : Heap}
theorem ok_begin {f : Addr} {fd : FuncData} (F : Fun K "_law_begin" "_law_begin" s_law_begin f fd) (T : Txt mg) : FnOk P w K mg base CX0 1 f fd ["_law_script"] (spBegin K) := by
  refine F.ok sc_law_begin (fun vs H Q E h => ?_) (fun cdv A outer s H vs Q E hr h => ?_)
  · obtain ⟨a, ns, rfl, _⟩ := h
    rfl
  obtain ⟨a, ns, rfl, hS, h63, q⟩ := h
  refine ⟨_, (pss_one (ps_ret (pe_lst (pa_cons (pe_lc (own := [("_law_cell", 1)]) (g := gName 1) (tt := tYes) rfl sc_law_begin.nd (pi_list (pv 0)) (blkOk_by (N := ["_law_script", "_law_cell"]) (sc := defScope s_law_begin) (by decide +kernel)) (fun _ _ _ _ _ => (pg_name (i := 1) sc_law_begin.nd rfl (Or.inl rfl))) (fun _ _ _ _ _ => pts_nil) (fun _ _ _ _ _ => (pe_callTy call_int1 (by rfl) T.n_int (by decide +kernel) (pa_cons (pv 1) pa_nil)))) (pa_cons pe_int (pa_cons pe_int (pa_cons pe_int (pa_cons pe_int pa_nil)))))))), ?_⟩
  refine ⟨_, rfl, a, rfl, ⟨_, hS⟩, fun D hD => lc_list (K := K) (a := a) (xs := ns.map V.int) (fun i H' => Same H H' ∧ H' D = some (.lst ((ns.take i).map V.int)))
    ⟨same_new hD _, upd_same⟩ (fun i H' _ p => p.1.seq hS) (fun i x H' hx p => ?_) (fun H' p => ?_)⟩
  · obtain ⟨k, hk, rfl⟩ := intAt hx
    refine ⟨rfl, _, rfl, .inl ⟨_, rfl, _, p.2, ?_, ?_, ?_⟩⟩
    · rw [List.length_map, List.length_take]
      exact small1000 (by omega)
    · intro b o e
      rw [upd_ne (ne_of_none e hD)]
      exact p.1 b o e
    · rw [upd_same, List.take_add_one, hk, List.map_append]
      rfl
  · rw [List.length_map, List.take_length] at p
    refine ⟨(by show 5 ≤ sizeLine; decide), fun l hl => ?_⟩
    have nDl : D ≠ l := ne_of_none p.2 hl
    refine q l D _ (p.1.free hl) hD ⟨0, 0, 7, ns, upd_same, Int.le_refl 0, by rw [upd_ne nDl]; exact p.2⟩ (p.1.trans (same_new hl _))
end

def spIsInt : Sp := fun vs H Q _ => ∃ i : Int, vs = [.int i] ∧ Q (.bl true) H
section
variable {P : Program} {w : World} {K : PySem.W.Frag} {mg : Str → Option Value} {base : Heap}
theorem ok_isInt {f : Addr} {fd : FuncData} (F : Fun K "_law_is_int" "_law_is_int" s_law_is_int f fd) (T : Txt mg) : FnOk P w K mg base CX0 1 f fd ["_law_thing"] spIsInt := by
  refine F.ok sc_law_is_int (fun vs H Q E h => ?_) (fun cdv A outer s H vs Q E hr h => ?_)
  · obtain ⟨i, rfl, _⟩ := h
    rfl
  obtain ⟨i, rfl, q⟩ := h
  refine ⟨_, (pss_one (ps_ret (pe_and (pe_callB (call_isi : CallR _ _ (rIsi K)) (by rfl) T.n_isinstance (by decide +kernel) (pa_cons (pv 0) (pa_cons (pe_bltn rfl T.n_int (by decide +kernel) (v := .ty "int") rfl) pa_nil))) (pe_one (pe_not (pe_callB (call_isi : CallR _ _ (rIsi K)) (by rfl) T.n_isinstance (by decide +kernel) (pa_cons (pv 0) (pa_cons (pe_bltn rfl T.n_bool (by decide +kernel) (v := .ty "bool") rfl) pa_nil)))))))), ?_⟩
  refine ⟨_, rfl, _, _, .type "int", .type "int", true, rfl, .ty "int", .base (.int i), kit_ty (by decide +kernel), true, rfl, ?_⟩
  refine iteT ?_
  refine ⟨_, rfl, _, _, .type "int", .type "bool", false, rfl, .ty "bool", .base (.int i), kit_ty (by decide +kernel), false, rfl, ?_⟩
  exact q
end

/-- a draw of an item of a list, which is taken out -/
def spPop : Sp := fun vs H Q _ => ∃ (d c l : Addr) (xs : List V), vs = [.ref d, .ref l] ∧ DS H d c ∧ H l = some (.lst xs) ∧ l ≠ d ∧ l ≠ c ∧ 1 ≤ xs.length ∧ xs.length ≤ 1000 ∧
  ∀ (k : Nat) (y : V) (H' : Hp), xs[k]? = some y → DS H' d c → H' l = some (.lst (xs.eraseIdx k)) → Keep [d, l] H H' → Q y H'
section
variable {P : Program} {w : World} {K : PySem.W.Frag} {mg : Str → Option Value} {base : Heap}
theorem ok_pop {f : Addr} {fd : FuncData} (F : Fun K "_law_pop" "_law_pop" s_law_pop f fd) (T : Txt mg) (D_law_draw : Dn P w K mg base "_law_draw" ["_law_d", "_law_many"] 1 spDraw) :
    FnOk P w K mg base CX0 2 f fd ["_law_d", "_law_row"] spPop := by
  refine F.ok sc_law_pop (fun vs H Q E h => ?_) (fun cdv A outer s H vs Q E hr h => ?_)
  · obtain ⟨d, c, l, xs, rfl, _⟩ := h
    rfl
  obtain ⟨d, c, l, xs, rfl, hd, hl, nld, nlc, h1, h2, q⟩ := h
  refine ⟨_, (pss_one (ps_ret (pe_bm PySem.F.plainAttrs_list PySem.F.slot_list_pop PySem.F.type_list_pop mt_popAt (pv 1) (pa_cons (pe_dn D_law_draw (hr.mono (by decide)) (by rfl) (pa_cons (pv 0) (pa_cons (pe_callB call_len_seq (by rfl) T.n_len (by decide +kernel) (pa_cons (pv 1) pa_nil)) pa_nil))) pa_nil)))), ?_⟩
  refine ⟨_, rfl, .inl ⟨rfl, _, SqL.of hl⟩, _, rfl, _, rfl, l, _, rfl, .inl (SqL.of hl), d, c, _, rfl, hd, (by omega), (by omega), fun r H' r0 r1 hd' k1 => ?_⟩
  have hl' : H' l = some (.lst xs) := k1 _ _ (by simp [nld]) hl
  have hk : r.toNat < xs.length := by omega
  refine ⟨l, xs, r, r.toNat, xs[r.toNat], rfl, rfl, hl', by omega, by omega, seqIndex_of r0 (by omega), List.getElem?_eq_getElem hk, ?_⟩
  refine q _ _ _ (List.getElem?_eq_getElem hk) (hd'.keep (S := [l]) (Keep.upd (by simp)) (by simp [nld.symm]) (by simp [nlc.symm])) upd_same ((k1.wide (by simp)).trans (Keep.upd (by simp)))
end

end Bf

set_option Elab.async false
set_option linter.all false
set_option maxRecDepth 100000
set_option maxHeartbeats 4000000
namespace Bf
open PySem PySem.Spec PyProof.Rows L2
/-! ### drawn nets -/
def spRare : Sp := fun vs H Q _ => ∃ (d c : Addr) (m : Int), vs = [.ref d, .int m] ∧ DS H d c ∧ 1 ≤ m ∧ m < 1000 ∧ ∀ (b : Bool) (H' : Hp), DS H' d c → Keep [d] H H' → Q (.bl b) H'
def spPool : Sp := fun vs H Q _ => vs = [] ∧ ∀ (p : Addr) (xs : List Str), H p = none → xs.length = 61 → Q (.ref p) (upd H p (.lst (xs.map V.str)))
def spLit : Sp := fun vs H Q _ => ∃ (d c : Addr) (i : Int) (n : Nat), vs = [.ref d, .int i] ∧ i = (n : Int) ∧ DS H d c ∧ 1 ≤ n ∧ n ≤ 1000 ∧ ∀ (l : Nat) (H' : Hp), l < 2 * n → DS H' d c → Keep [d] H H' → Q (vI l) H'
theorem DS.at_ {H : Hp} {d c : Addr} (h : DS H d c) : ∃ l, H d = some (.lst l) := let ⟨_, _, _, _, e, _⟩ := h; ⟨_, e⟩
theorem Keep.tups {S : List Addr} {H H' : Hp} (k : Keep S H H') (n : ∀ b ∈ S, ∃ l, H b = some (.lst l)) : KeepT H H' := fun b xs h => k _ _ (fun m => by
  obtain ⟨l, q⟩ := n b m
  rw [q] at h
  cases h) h
theorem Keep.tup1 {H H' : Hp} {d c : Addr} (k : Keep [d] H H') (h : DS H d c) : KeepT H H' := k.tups fun b hb => by rw [List.mem_singleton.mp hb]; exact h.at_
theorem Keep.tup2 {H H' : Hp} {d c l : Addr} {xs : List V} (k : Keep [d, l] H H') (h : DS H d c) (hl : H l = some (.lst xs)) : KeepT H H' := k.tups fun b hb => by
  rcases List.mem_cons.mp hb with e | hb
  · rw [e]; exact h.at_
  · rw [List.mem_singleton.mp hb]; exact ⟨_, hl⟩
section
variable {P : Program} {w : World} {K : PySem.W.Frag} {mg : Str → Option Value} {base : Heap} {f : Addr} {fd : FuncData}
theorem ok_rare (F : Fun K "_law_rare" "_law_rare" s_law_rare f fd) (T : Txt mg) (D_law_draw : Dn P w K mg base "_law_draw" ["_law_d", "_law_many"] 1 spDraw) : FnOk P w K mg base CX0 2 f fd ["_law_d", "_law_many"] spRare := by
  refine F.ok sc_law_rare (fun vs H Q E h => ?_) (fun cdv A outer s H vs Q E hr h => ?_)
  · obtain ⟨d, c, m, rfl, _⟩ := h
    rfl
  obtain ⟨d, c, m, rfl, hd, h1, h2, q⟩ := h
  refine ⟨_, (pss_one (ps_ret (pe_cmpR op_eq (pe_dn D_law_draw (hr.mono (by decide)) (by rfl) (pa_cons (pv 0) (pa_cons (pv 1) pa_nil))) (pe_op op_fdiv (pv 1) pe_int) (nomark _)))), ?_⟩
  refine ⟨_, rfl, _, rfl, d, c, m, rfl, hd, h1, by omega, fun r H' r0 r1 hd' k1 => ?_⟩
  exact ⟨_, rfl, m, 2, rfl, rfl, ⟨by decide, by decide⟩, rfl, q _ _ hd' k1⟩
theorem ok_pool (F : Fun K "_law_pool" "_law_pool" s_law_pool f fd) : FnOk P w K mg base CX0 1 f fd [] spPool := by
  refine F.ok sc_law_pool (fun vs H Q E h => ?_) (fun cdv A outer s H vs Q E hr h => ?_)
  · rw [h.1]
    rfl
  obtain ⟨rfl, q⟩ := h
  refine ⟨_, (pss_cons (ps_set (i := 0) sc_law_pool.nd rfl (Or.inl rfl) pe_str)
      (pss_cons (ps_set (i := 0) sc_law_pool.nd rfl (Or.inl rfl) (pe_op op_add_str (pv 0) pe_str))
      (pss_one (ps_ret (pe_split (pe_op op_add_str (pv 0) pe_str) pe_str))))), ?_⟩
  refine ⟨_, rfl, _, _, rfl, rfl, (by decide +kernel), _, rfl, _, _, rfl, rfl, (by decide +kernel), ?_⟩
  exact ⟨⟨_, rfl⟩, _, _, rfl, rfl, (by decide +kernel), (by decide +kernel), fun p hp => q p _ hp (by decide +kernel)⟩
theorem ok_lit (F : Fun K "_law_drawn_literal" "_law_drawn_literal" s_law_drawn_literal f fd) (T : Txt mg) (D_law_draw : Dn P w K mg base "_law_draw" ["_law_d", "_law_many"] 1 spDraw) : FnOk P w K mg base CX0 2 f fd ["_law_d", "_law_size"] spLit := by
  refine F.ok sc_law_drawn_literal (fun vs H Q E h => ?_) (fun cdv A outer s H vs Q E hr h => ?_)
  · obtain ⟨d, c, i, n, rfl, _⟩ := h
    rfl
  obtain ⟨d, c, i, n, rfl, rfl, hd, h1, h2, q⟩ := h
  refine ⟨_, (pss_cons (ps_set (i := 2) sc_law_drawn_literal.nd rfl (Or.inl rfl) (pe_callB (cr_maxN rfl) (by rfl) T.n_max (by decide +kernel) (pa_cons (pe_dn D_law_draw (hr.mono (by decide)) (by rfl) (pa_cons (pv 0) (pa_cons (pv 1) pa_nil))) (pa_cons (pe_dn D_law_draw (hr.mono (by decide)) (by rfl) (pa_cons (pv 0) (pa_cons (pv 1) pa_nil))) pa_nil))))
      (pss_one (ps_ret (pe_op op_add (pe_op op_mul pe_int (pv 2)) (pe_dn D_law_draw (hr.mono (by decide)) (by rfl) (pa_cons (pv 0) (pa_cons pe_int pa_nil))))))), ?_⟩
  refine ⟨_, rfl, _, rfl, d, c, _, rfl, hd, by omega, by omega, fun r H1 r0 r1 hd1 k1 => ?_⟩
  obtain ⟨x, rfl⟩ := Int.eq_ofNat_of_zero_le r0
  refine ⟨_, rfl, _, rfl, d, c, _, rfl, hd1, by omega, by omega, fun r H2 r0 r1 hd2 k2 => ?_⟩
  obtain ⟨y, rfl⟩ := Int.eq_ofNat_of_zero_le r0
  refine ⟨x, y, rfl, _, rfl, _, _, rfl, rfl, .inl ⟨by decide, by decide⟩, ?_⟩
  refine ⟨_, rfl, d, c, _, rfl, hd2, by decide, by decide, fun r H3 r0 r1 hd3 k3 => ?_⟩
  obtain ⟨z, rfl⟩ := Int.eq_ofNat_of_zero_le r0
  refine ⟨_, _, rfl, rfl, ?_⟩
  have e : (2 : Int) * ((max x y : Nat) : Int) + (z : Int) = ((2 * max x y + z : Nat) : Int) := by omega
  show Q (V.int ((2 : Int) * ((max x y : Nat) : Int) + (z : Int))) H3
  rw [e]
  exact q _ _ (by omega) hd3 ((k1.trans k2).trans k3)
end

end Bf

set_option Elab.async false
set_option linter.all false
set_option maxRecDepth 100000
set_option maxHeartbeats 4000000
namespace Bf
open PySem PySem.Spec PyProof.Rows L2
/-! ### a drawn net -/
/-- the names that are left -/
def Nms (H : Hp) (l : Addr) (n : Nat) : Prop := ∃ names : List V, H l = some (.lst names) ∧ (∀ v ∈ names, ∃ z : Str, v = .str z) ∧ names.length = n
theorem Nms.keep {S : List Addr} {H H' : Hp} {l : Addr} {n : Nat} (h : Nms H l n) (k : Keep S H H') (hl : l ∉ S) : Nms H' l n := let ⟨x, a, b, e⟩ := h; ⟨x, k _ _ hl a, b, e⟩
theorem Nms.same {H H' : Hp} {l : Addr} {n : Nat} (h : Nms H l n) (k : Same H H') : Nms H' l n := let ⟨x, a, b, e⟩ := h; ⟨x, k _ _ a, b, e⟩
theorem Nms.cast {H : Hp} {l : Addr} {n m : Nat} (h : Nms H l n) (e : n = m) : Nms H l m := e ▸ h
theorem Keep.thin {S S' : List Addr} {H H' : Hp} (k : Keep S' H H') (h : ∀ b ∈ S', b ∈ S ∨ H b = none) : Keep S H H' := fun b o n e => k b o (fun m => by
  rcases h b m with q | q
  · exact n q
  · rw [q] at e; cases e) e
theorem Keep.cat {S S' : List Addr} {H H1 H2 : Hp} (a : Keep S H H1) (b : Keep S' H1 H2) : Keep (S ++ S') H H2 := fun c o n h => b c o (fun m => n (List.mem_append_right _ m)) (a c o (fun m => n (List.mem_append_left _ m)) h)
theorem Keep.free {S : List Addr} {H H' : Hp} {l : Addr} (k : Keep S H H') (h : H' l = none) (n : l ∉ S) : H l = none := by
  cases e : H l with
  | none => rfl
  | some o => rw [k l o n e] at h; cases h
theorem Keep.sm {H H' : Hp} (k : Same H H') : Keep [] H H' := .of_same k
theorem Keep.at1 {H : Hp} {a : Addr} {o : HO} : Keep [a] H (L2.upd H a o) := .upd (by simp)
/-- the list at D: data of acc -/
def Acc {α : Type} (D : Addr) (f : α → PyData) (acc : List α) (H : Hp) : Prop := ∃ vs : List V, H D = some (.lst vs) ∧ LayAll H vs (acc.map f)
theorem Acc.nil {α : Type} {D : Addr} {f : α → PyData} {H : Hp} : Acc D f [] (upd H D (.lst [])) := ⟨[], upd_same, .nil⟩
theorem Acc.keep {α : Type} {D : Addr} {f : α → PyData} {acc : List α} {S : List Addr} {H H' : Hp} (h : Acc D f acc H) (k : Keep S H H') (t : KeepT H H') (n : D ∉ S) : Acc D f acc H' := let ⟨vs, a, b⟩ := h; ⟨vs, k _ _ n a, b.keep' t⟩
theorem Acc.same {α : Type} {D : Addr} {f : α → PyData} {acc : List α} {H H' : Hp} (h : Acc D f acc H) (k : Same H H') : Acc D f acc H' := let ⟨vs, a, b⟩ := h; ⟨vs, k _ _ a, b.keep' (.same k)⟩
theorem Acc.push {α : Type} {D : Addr} {f : α → PyData} {acc : List α} {H : Hp} {y : V} {x : α} (h : Acc D f acc H) (l : Lay H y (f x)) (n : acc.length ≤ 1000) :
    ∃ vs, H D = some (.lst vs) ∧ vs.length < sizeLine ∧ Acc D f (acc ++ [x]) (upd H D (.lst (vs ++ [y]))) ∧ KeepT H (upd H D (.lst (vs ++ [y]))) := by
  obtain ⟨vs, a, b⟩ := h
  have e := b.len
  rw [List.length_map] at e
  have kt : KeepT H (upd H D (.lst (vs ++ [y]))) := .lst a
  refine ⟨vs, a, by rw [e]; exact small1000 n, ⟨_, upd_same, ?_⟩, kt⟩
  rw [List.map_append]
  exact (b.snoc l).keep' kt
theorem Acc.at_ {α : Type} {D : Addr} {f : α → PyData} {acc : List α} {H : Hp} (h : Acc D f acc H) : ∃ l, H D = some (.lst l) := let ⟨vs, a, _⟩ := h; ⟨vs, a⟩
def spNet : Sp := fun vs H Q _ => ∃ (d c : Addr) (a b m o k : Nat), vs = [.ref d, vI a, vI b, vI m, vI o, vI k] ∧ DS H d c ∧ a + b + o + k ≤ 61 ∧ m ≤ 100 ∧
  ∀ (v : V) (N : Net) (H' : Hp), Lay H' v (netD N) → N.Right → N.ins.length = a → N.regs.length = b → N.ands.length = m → N.outs.length = o → N.cls.length = k → DS H' d c → Keep [d] H H' → Q v H'
section
variable {P : Program} {w : World} {K : PySem.W.Frag} {mg : Str → Option Value} {base : Heap} {f : Addr} {fd : FuncData}
theorem ok_net (F : Fun K "_law_net" "_law_net" s_law_net f fd) (T : Txt mg) (D_law_draw : Dn P w K mg base "_law_draw" ["_law_d", "_law_many"] 1 spDraw) (D_law_pop : Dn P w K mg base "_law_pop" ["_law_d", "_law_row"] 2 spPop)
    (D_law_pool : Dn P w K mg base "_law_pool" [] 1 spPool) (D_law_drawn_literal : Dn P w K mg base "_law_drawn_literal" ["_law_d", "_law_size"] 2 spLit) :
    FnOk P w K mg base CX0 3 f fd ["_law_d", "_law_inputs", "_law_regs", "_law_ands", "_law_outputs", "_law_claims"] spNet := by
  refine F.ok sc_law_net (fun vs H Q E h => ?_) (fun cdv A outer s H vs Q E hr h => ?_)
  · obtain ⟨d, c, a, b, m, o, k, rfl, _⟩ := h
    rfl
  obtain ⟨d, c, a, b, m, o, k, rfl, hd, h61, h100, q⟩ := h
  refine ⟨_, (pss_cons (ps_set (i := 6) sc_law_net.nd rfl (Or.inr rfl) (pe_dn0 D_law_pool (hr.mono (by decide)) (by rfl)))
      (pss_cons (ps_set (i := 7) sc_law_net.nd rfl (Or.inr rfl) (pe_op op_add (pe_op op_add pe_int (pv 1)) (pv 2)))
      (pss_cons (ps_setLc (i := 8) (own := [("_law_k", 14)]) (g := gName 14) (tt := tYes) rfl sc_law_net.nd rfl rfl (sw_true rfl rfl rfl (by decide +kernel)) (pi_range1 rfl T.n_range (pa_cons (pv 3) pa_nil)) (blkOk_by (N := ["_law_d", "_law_inputs", "_law_regs", "_law_ands", "_law_outputs", "_law_claims", "_law_names", "_law_first", "_law_pairs", "_law_size", "_law_given", "_law_rows", "_law_shown", "_law_asked", "_law_k"]) (sc := defScope s_law_net) (by decide +kernel)) (fun _ _ _ _ _ => (pg_name (i := 14) sc_law_net.nd rfl (Or.inl rfl))) (fun _ _ _ _ _ => pts_nil) (fun _ _ _ _ _ => (pe_tup (pa_cons (pe_dn D_law_drawn_literal (hr.mono (by decide)) (by rfl) (pa_cons (pv 0) (pa_cons (pe_op op_add (pv 7) (pv 14)) pa_nil))) (pa_cons (pe_dn D_law_drawn_literal (hr.mono (by decide)) (by rfl) (pa_cons (pv 0) (pa_cons (pe_op op_add (pv 7) (pv 14)) pa_nil))) pa_nil)))))
      (pss_cons (ps_set (i := 9) sc_law_net.nd rfl (Or.inr rfl) (pe_op op_add (pv 7) (pv 3)))
      (pss_cons (ps_set (i := 10) sc_law_net.nd rfl (Or.inl rfl) (pe_callTy call_tuple_of (by rfl) T.n_tuple (by decide +kernel) (pa_cons (pe_lc (own := [("_law_k", 14)]) (g := gName 14) (tt := tYes) rfl sc_law_net.nd (pi_range1 rfl T.n_range (pa_cons (pv 1) pa_nil)) (blkOk_by (N := ["_law_d", "_law_inputs", "_law_regs", "_law_ands", "_law_outputs", "_law_claims", "_law_names", "_law_first", "_law_pairs", "_law_size", "_law_given", "_law_rows", "_law_shown", "_law_asked", "_law_k"]) (sc := defScope s_law_net) (by decide +kernel)) (fun _ _ _ _ _ => (pg_name (i := 14) sc_law_net.nd rfl (Or.inl rfl))) (fun _ _ _ _ _ => pts_nil) (fun _ _ _ _ _ => (pe_dn D_law_pop (hr.mono (by decide)) (by rfl) (pa_cons (pv 0) (pa_cons (pv 6) pa_nil))))) pa_nil)))
      (pss_cons (ps_setLc (i := 11) (own := [("_law_k", 14)]) (g := gName 14) (tt := tYes) rfl sc_law_net.nd rfl rfl (sw_true rfl rfl rfl (by decide +kernel)) (pi_range1 rfl T.n_range (pa_cons (pv 2) pa_nil)) (blkOk_by (N := ["_law_d", "_law_inputs", "_law_regs", "_law_ands", "_law_outputs", "_law_claims", "_law_names", "_law_first", "_law_pairs", "_law_size", "_law_given", "_law_rows", "_law_shown", "_law_asked", "_law_k"]) (sc := defScope s_law_net) (by decide +kernel)) (fun _ _ _ _ _ => (pg_name (i := 14) sc_law_net.nd rfl (Or.inl rfl))) (fun _ _ _ _ _ => pts_nil) (fun _ _ _ _ _ => (pe_tup (pa_cons (pe_dn D_law_pop (hr.mono (by decide)) (by rfl) (pa_cons (pv 0) (pa_cons (pv 6) pa_nil))) (pa_cons (pe_dn D_law_draw (hr.mono (by decide)) (by rfl) (pa_cons (pv 0) (pa_cons pe_int pa_nil))) (pa_cons (pe_dn D_law_drawn_literal (hr.mono (by decide)) (by rfl) (pa_cons (pv 0) (pa_cons (pv 9) pa_nil))) pa_nil))))))
      (pss_cons (ps_setLc (i := 12) (own := [("_law_k", 14)]) (g := gName 14) (tt := tYes) rfl sc_law_net.nd rfl rfl (sw_true rfl rfl rfl (by decide +kernel)) (pi_range1 rfl T.n_range (pa_cons (pv 4) pa_nil)) (blkOk_by (N := ["_law_d", "_law_inputs", "_law_regs", "_law_ands", "_law_outputs", "_law_claims", "_law_names", "_law_first", "_law_pairs", "_law_size", "_law_given", "_law_rows", "_law_shown", "_law_asked", "_law_k"]) (sc := defScope s_law_net) (by decide +kernel)) (fun _ _ _ _ _ => (pg_name (i := 14) sc_law_net.nd rfl (Or.inl rfl))) (fun _ _ _ _ _ => pts_nil) (fun _ _ _ _ _ => (pe_tup (pa_cons (pe_dn D_law_pop (hr.mono (by decide)) (by rfl) (pa_cons (pv 0) (pa_cons (pv 6) pa_nil))) (pa_cons (pe_dn D_law_drawn_literal (hr.mono (by decide)) (by rfl) (pa_cons (pv 0) (pa_cons (pv 9) pa_nil))) pa_nil)))))
      (pss_cons (ps_setLc (i := 13) (own := [("_law_k", 14)]) (g := gName 14) (tt := tYes) rfl sc_law_net.nd rfl rfl (sw_true rfl rfl rfl (by decide +kernel)) (pi_range1 rfl T.n_range (pa_cons (pv 5) pa_nil)) (blkOk_by (N := ["_law_d", "_law_inputs", "_law_regs", "_law_ands", "_law_outputs", "_law_claims", "_law_names", "_law_first", "_law_pairs", "_law_size", "_law_given", "_law_rows", "_law_shown", "_law_asked", "_law_k"]) (sc := defScope s_law_net) (by decide +kernel)) (fun _ _ _ _ _ => (pg_name (i := 14) sc_law_net.nd rfl (Or.inl rfl))) (fun _ _ _ _ _ => pts_nil) (fun _ _ _ _ _ => (pe_tup (pa_cons (pe_dn D_law_pop (hr.mono (by decide)) (by rfl) (pa_cons (pv 0) (pa_cons (pv 6) pa_nil))) (pa_cons (pe_dn D_law_drawn_literal (hr.mono (by decide)) (by rfl) (pa_cons (pv 0) (pa_cons (pv 9) pa_nil))) pa_nil)))))
      (pss_one (ps_ret (pe_tup (pa_cons pe_str (pa_cons (pv 10) (pa_cons (pe_callTy call_tuple_of (by rfl) T.n_tuple (by decide +kernel) (pa_cons (pv 11) pa_nil)) (pa_cons (pe_callTy call_tuple_of (by rfl) T.n_tuple (by decide +kernel) (pa_cons (pv 8) pa_nil)) (pa_cons (pe_callTy call_tuple_of (by rfl) T.n_tuple (by decide +kernel) (pa_cons (pv 12) pa_nil)) (pa_cons (pe_callTy call_tuple_of (by rfl) T.n_tuple (by decide +kernel) (pa_cons (pv 13) pa_nil)) pa_nil))))))))))))))))), ?_⟩
  refine ⟨rfl, fun pn xs hpn hx => ?_⟩
  have hd1 := hd.same (same_new hpn (.lst (xs.map V.str)))
  obtain ⟨nnd, nnc⟩ := hd.new hpn
  have hn1 : Nms (upd H pn (.lst (xs.map V.str))) pn 61 := ⟨_, upd_same, fun v hv => (let ⟨z, _, e⟩ := List.mem_map.mp hv; ⟨z, e.symm⟩), by rw [List.length_map, hx]⟩
  have k1 : Keep [d] H (upd H pn (.lst (xs.map V.str))) := Keep.new hpn
  generalize upd H pn (.lst (xs.map V.str)) = H1 at hd1 hn1 k1 ⊢
  refine ⟨_, rfl, _, _, rfl, rfl, _, rfl, _, _, rfl, rfl, ?_⟩
  -- the ands
  refine ⟨_, rfl, (m : Int), rfl, (i62 (by omega)).1, (i62 (by omega)).2, fun D1 hD1 => ?_⟩
  obtain ⟨nDd, nDc⟩ := hd1.new hD1
  have nDn : D1 ≠ pn := let ⟨x, e, _⟩ := hn1; (ne_of_none e hD1).symm
  refine lc_range (lo := 0) (n := m) (fun i H' => ∃ acc : List (Nat × Nat), Acc D1 pairD acc H' ∧ acc.length = i ∧ (∀ j p, acc[j]? = some p → p.1 < 2 * (1 + a + b + j) ∧ p.2 < 2 * (1 + a + b + j)) ∧ DS H' d c ∧ Nms H' pn 61 ∧ Keep [d] H H')
    ⟨[], .nil, rfl, fun j p e => by simp at e, hd1.same (same_new hD1 _), hn1.same (same_new hD1 _), k1.trans (Keep.new hD1)⟩ (fun i H2 hi p => ?_) (fun H2 p => ?_)
  · obtain ⟨acc, hA, hl, hb, hd2, hn2, k2⟩ := p
    have hi : i < m := hi
    refine ⟨rfl, _, rfl, _, rfl, _, rfl, _, _, rfl, rfl, d, c, _, 1 + a + b + i, rfl, by omega, hd2, by omega, by omega, fun l1 H3 hl1 hd3 k3 => ?_⟩
    refine ⟨_, rfl, _, rfl, _, rfl, _, _, rfl, rfl, d, c, _, 1 + a + b + i, rfl, by omega, hd3, by omega, by omega, fun l2 H4 hl2 hd4 k4 => ?_⟩
    refine ⟨(by show 2 ≤ sizeLine; decide), fun t ht => ?_⟩
    have st := same_new ht (.tup [vI l1, vI l2])
    have hA5 := ((hA.keep k3 (k3.tup1 hd2) (by simp [nDd])).keep k4 (k4.tup1 hd3) (by simp [nDd])).same st
    have hn5 := ((hn2.keep k3 (by simp [nnd])).keep k4 (by simp [nnd])).same st
    obtain ⟨vs, e, hlen, hA6, _⟩ := hA5.push (x := (l1, l2)) (.mkPair upd_same) (by omega)
    refine ⟨vs, e, hlen, acc ++ [(l1, l2)], hA6, by rw [List.length_append, hl]; rfl, fun j p hp => ?_, ?_, ?_, ?_⟩
    · by_cases hj : j < acc.length
      · rw [List.getElem?_append_left hj] at hp
        exact hb j p hp
      · rw [List.getElem?_append_right (by omega)] at hp
        have hj0 : j - acc.length = 0 := by
          cases z : j - acc.length with
          | zero => rfl
          | succ n => rw [z] at hp; simp at hp
        rw [hj0] at hp
        obtain rfl : (l1, l2) = p := Option.some.inj hp
        exact ⟨by show l1 < _; omega, by show l2 < _; omega⟩
    · exact (hd4.same st).keep (S := [D1]) (Keep.upd (by simp)) (by simp [nDd.symm]) (by simp [nDc.symm])
    · exact hn5.keep (S := [D1]) (Keep.upd (by simp)) (by simp [nDn.symm])
    · exact ((((k2.cat k3).cat k4).cat (.sm st)).cat .at1).thin (by simp [k1.free hD1 (by simp [nDd])])
  obtain ⟨an, hA, hal, hab, hd2, hn2, k2⟩ := p
  clear hd1 hn1 k1
  refine ⟨_, rfl, _, rfl, _, _, rfl, rfl, ?_⟩
  -- the inputs
  refine ⟨_, rfl, (a : Int), rfl, (i62 (by omega)).1, (i62 (by omega)).2, fun D2 hD2 => ?_⟩
  obtain ⟨n2d, n2c⟩ := hd2.new hD2
  have n2n : D2 ≠ pn := let ⟨x, e, _⟩ := hn2; (ne_of_none e hD2).symm
  have n21 : D2 ≠ D1 := let ⟨x, e⟩ := hA.at_; (ne_of_none e hD2).symm
  have f2 : H D2 = none := k2.free hD2 (by simp [n2d])
  refine lc_range (lo := 0) (n := a) (fun i H' => ∃ acc : List Str, Acc D2 PyData.str acc H' ∧ acc.length = i ∧ DS H' d c ∧ Nms H' pn (61 - i) ∧ Acc D1 pairD an H' ∧ Keep [d] H H')
    ⟨[], .nil, rfl, hd2.same (same_new hD2 _), hn2.same (same_new hD2 _), hA.same (same_new hD2 _), k2.trans (Keep.new hD2)⟩ (fun i H3 hi p => ?_) (fun H3 p => ?_)
  · obtain ⟨acc, hB, hl, hd3, hn3, hA3, k3⟩ := p
    have hi : i < a := hi
    obtain ⟨names, hn, hz, h61'⟩ := hn3
    refine ⟨rfl, _, rfl, _, rfl, d, c, pn, names, rfl, hd3, hn, nnd, nnc, by omega, by omega, fun j y H4 hy hd4 hn4 k4 => ?_⟩
    obtain ⟨z, rfl⟩ := hz y (List.mem_of_getElem? hy)
    have t4 := k4.tup2 hd3 hn
    have hB4 := hB.keep k4 t4 (by simp [n2d, n2n])
    obtain ⟨vs, e, hlen, hB5, t5⟩ := hB4.push (x := z) (.str z) (by omega)
    refine ⟨vs, e, hlen, acc ++ [z], hB5, by rw [List.length_append, hl]; rfl, hd4.keep (S := [D2]) Keep.at1 (by simp [n2d.symm]) (by simp [n2c.symm]), ⟨names.eraseIdx j, ?_, fun v hv => hz v (List.mem_of_mem_eraseIdx hv), ?_⟩, ?_, ?_⟩
    · rw [upd_ne n2n.symm]; exact hn4
    · rw [List.length_eraseIdx, if_pos (List.getElem?_eq_some_iff.mp hy).1]; omega
    · exact (hA3.keep k4 t4 (by simp [nDd, nDn])).keep Keep.at1 t5 (by simp [n21.symm])
    · exact ((k3.cat k4).cat .at1).thin (by simp [hpn, f2])
  -- behind the inputs
  obtain ⟨is, ⟨vs, hB, lB⟩, hil, hdS, hnS, hAS, kS⟩ := p
  obtain rfl := lB.strs_inv
  refine ⟨D2, _, rfl, .inl ⟨SqL.of hB, fun pi hpi => ?_⟩⟩
  have st := same_new hpi (.tup (is.map V.str))
  have hP : upd H3 pi (.tup (is.map V.str)) pi = some (.tup (is.map V.str)) := upd_same
  replace hdS := hdS.same st
  replace hnS := hnS.same st
  replace hAS := hAS.same st
  replace kS : Keep [d] H (upd H3 pi (.tup (is.map V.str))) := kS.trans (.of_same st)
  generalize upd H3 pi (.tup (is.map V.str)) = Ht at hP hdS hnS hAS kS ⊢
  have ktS : KeepT Ht Ht := .refl _
  have m1 : D1 ∉ [d, pn] := by simp [nDd, nDn]
  clear hB lB hpi st hd2 hn2 hA k2 hD2 hD1
  -- the regs
  refine ⟨_, rfl, (b : Int), rfl, (i62 (by omega)).1, (i62 (by omega)).2, fun D3 hD => ?_⟩
  obtain ⟨ndD3, ncD3⟩ := hdS.new hD
  have nnD3 : D3 ≠ pn := let ⟨x, e, _⟩ := hnS; (ne_of_none e hD).symm
  have nD3D1 : D3 ≠ D1 := let ⟨x, e⟩ := hAS.at_; (ne_of_none e hD).symm
  have fD3 : H D3 = none := kS.free hD (by simp [ndD3])
  refine lc_range (lo := 0) (n := b) (fun i H' => ∃ acc : List (Str × Nat × Nat), Acc D3 regD acc H' ∧ acc.length = i ∧ (∀ r ∈ acc, r.2.1 < 2 ∧ r.2.2 < 2 * (1 + a + b + m)) ∧ DS H' d c ∧ Nms H' pn (61 - (a) - i) ∧ KeepT Ht H' ∧ Keep [d] H H' ∧ Acc D1 pairD an H')
    ⟨[], .nil, rfl, fun r hr => by simp at hr, hdS.same (same_new hD _), (hnS.same (same_new hD _)).cast (by omega), ktS.trans (.new hD), kS.trans (Keep.new hD), hAS.same (same_new hD _)⟩ (fun i H3 hi p => ?_) (fun H3 p => ?_)
  · obtain ⟨acc, hB, hl, hg, hd3, ⟨names, hn, hz, h61'⟩, kt3, k3, hAS3⟩ := p
    have hi : i < b := hi
    refine ⟨rfl, _, rfl, _, rfl, d, c, pn, names, rfl, hd3, hn, nnd, nnc, by omega, by omega, fun j y H4 hy hd4 hn4 k4 => ?_⟩
    obtain ⟨z, rfl⟩ := hz y (List.mem_of_getElem? hy)
    have t4 := k4.tup2 hd3 hn
    refine ⟨_, rfl, d, c, 2, rfl, hd4, by decide, by decide, fun r H5 r0 r1 hd5 k5 => ?_⟩
    obtain ⟨u, rfl⟩ := Int.eq_ofNat_of_zero_le r0
    have t5 := k5.tup1 hd4
    refine ⟨_, rfl, _, rfl, d, c, _, 1 + a + b + m, rfl, by omega, hd5, by omega, by omega, fun l H6 hl6 hd6 k6 => ?_⟩
    have t6 := k6.tup1 hd5
    refine ⟨(by show 3 ≤ sizeLine; decide), fun t ht => ?_⟩
    have st := same_new ht (.tup [.str z, vI u, vI l])
    have kc : Keep [d, pn] H3 (upd H6 t (.tup [.str z, vI u, vI l])) := (((k4.cat k5).cat k6).cat (.sm st)).wide (by simp)
    have tc : KeepT H3 (upd H6 t (.tup [.str z, vI u, vI l])) := ((t4.trans t5).trans t6).trans (.same st)
    have hn6 : (upd H6 t (.tup [.str z, vI u, vI l])) pn = some (.lst (names.eraseIdx j)) := st _ _ (k6 _ _ (by simp [nnd]) (k5 _ _ (by simp [nnd]) hn4))
    obtain ⟨vs, e, hlen, hB7, t7⟩ := (hB.keep kc tc (by simp [ndD3, nnD3])).push (x := (z, u, l)) (.mkReg upd_same) (by omega)
    refine ⟨vs, e, hlen, acc ++ [(z, u, l)], hB7, by rw [List.length_append, hl]; rfl, fun r hr => ?_, (hd6.same st).keep (S := [D3]) Keep.at1 (by simp [ndD3.symm]) (by simp [ncD3.symm]), ⟨names.eraseIdx j, ?_, fun v hv => hz v (List.mem_of_mem_eraseIdx hv), ?_⟩, (kt3.trans tc).trans t7, ((k3.cat kc).cat .at1).thin (by simp [hpn, fD3]), (hAS3.keep kc tc (by simp [*])).keep Keep.at1 t7 (by simp [nD3D1.symm])⟩
    · rcases List.mem_append.mp hr with q | q
      · exact hg r q
      · rw [List.mem_singleton.mp q]
        exact ⟨by show u < 2; omega, hl6⟩
    · rw [upd_ne nnD3.symm]; exact hn6
    · rw [List.length_eraseIdx, if_pos (List.getElem?_eq_some_iff.mp hy).1]; omega
  obtain ⟨rs, hRS, hrl, hrg, hdS, hnS, ktS, kS, hAS⟩ := p
  -- the outs
  refine ⟨_, rfl, (o : Int), rfl, (i62 (by omega)).1, (i62 (by omega)).2, fun D4 hD => ?_⟩
  obtain ⟨ndD4, ncD4⟩ := hdS.new hD
  have nnD4 : D4 ≠ pn := let ⟨x, e, _⟩ := hnS; (ne_of_none e hD).symm
  have nD4D1 : D4 ≠ D1 := let ⟨x, e⟩ := hAS.at_; (ne_of_none e hD).symm
  have nD4D3 : D4 ≠ D3 := let ⟨x, e⟩ := hRS.at_; (ne_of_none e hD).symm
  have fD4 : H D4 = none := kS.free hD (by simp [ndD4])
  refine lc_range (lo := 0) (n := o) (fun i H' => ∃ acc : List (Str × Nat), Acc D4 namD acc H' ∧ acc.length = i ∧ (∀ r ∈ acc, r.2 < 2 * (1 + a + b + m)) ∧ DS H' d c ∧ Nms H' pn (61 - (a + b) - i) ∧ KeepT Ht H' ∧ Keep [d] H H' ∧ Acc D1 pairD an H' ∧ Acc D3 regD rs H')
    ⟨[], .nil, rfl, fun r hr => by simp at hr, hdS.same (same_new hD _), (hnS.same (same_new hD _)).cast (by omega), ktS.trans (.new hD), kS.trans (Keep.new hD), hAS.same (same_new hD _), hRS.same (same_new hD _)⟩ (fun i H3 hi p => ?_) (fun H3 p => ?_)
  · obtain ⟨acc, hB, hl, hg, hd3, ⟨names, hn, hz, h61'⟩, kt3, k3, hAS3, hRS3⟩ := p
    have hi : i < o := hi
    refine ⟨rfl, _, rfl, _, rfl, d, c, pn, names, rfl, hd3, hn, nnd, nnc, by omega, by omega, fun j y H4 hy hd4 hn4 k4 => ?_⟩
    obtain ⟨z, rfl⟩ := hz y (List.mem_of_getElem? hy)
    have t4 := k4.tup2 hd3 hn
    refine ⟨_, rfl, _, rfl, d, c, _, 1 + a + b + m, rfl, by omega, hd4, by omega, by omega, fun l H6 hl6 hd6 k6 => ?_⟩
    have t6 := k6.tup1 hd4
    refine ⟨(by show 2 ≤ sizeLine; decide), fun t ht => ?_⟩
    have st := same_new ht (.tup [.str z, vI l])
    have kc : Keep [d, pn] H3 (upd H6 t (.tup [.str z, vI l])) := ((k4.cat k6).cat (.sm st)).wide (by simp)
    have tc : KeepT H3 (upd H6 t (.tup [.str z, vI l])) := (t4.trans t6).trans (.same st)
    have hn6 : (upd H6 t (.tup [.str z, vI l])) pn = some (.lst (names.eraseIdx j)) := st _ _ (k6 _ _ (by simp [nnd]) hn4)
    obtain ⟨vs, e, hlen, hB7, t7⟩ := (hB.keep kc tc (by simp [ndD4, nnD4])).push (x := (z, l)) (.mkNam upd_same) (by omega)
    refine ⟨vs, e, hlen, acc ++ [(z, l)], hB7, by rw [List.length_append, hl]; rfl, fun r hr => ?_, (hd6.same st).keep (S := [D4]) Keep.at1 (by simp [ndD4.symm]) (by simp [ncD4.symm]), ⟨names.eraseIdx j, ?_, fun v hv => hz v (List.mem_of_mem_eraseIdx hv), ?_⟩, (kt3.trans tc).trans t7, ((k3.cat kc).cat .at1).thin (by simp [hpn, fD4]), (hAS3.keep kc tc (by simp [*])).keep Keep.at1 t7 (by simp [nD4D1.symm]), (hRS3.keep kc tc (by simp [*])).keep Keep.at1 t7 (by simp [nD4D3.symm])⟩
    · rcases List.mem_append.mp hr with q | q
      · exact hg r q
      · rw [List.mem_singleton.mp q]
        exact hl6
    · rw [upd_ne nnD4.symm]; exact hn6
    · rw [List.length_eraseIdx, if_pos (List.getElem?_eq_some_iff.mp hy).1]; omega
  obtain ⟨os, hOS, hol, hog, hdS, hnS, ktS, kS, hAS, hRS⟩ := p
  -- the cls
  refine ⟨_, rfl, (k : Int), rfl, (i62 (by omega)).1, (i62 (by omega)).2, fun D5 hD => ?_⟩
  obtain ⟨ndD5, ncD5⟩ := hdS.new hD
  have nnD5 : D5 ≠ pn := let ⟨x, e, _⟩ := hnS; (ne_of_none e hD).symm
  have nD5D1 : D5 ≠ D1 := let ⟨x, e⟩ := hAS.at_; (ne_of_none e hD).symm
  have nD5D3 : D5 ≠ D3 := let ⟨x, e⟩ := hRS.at_; (ne_of_none e hD).symm
  have nD5D4 : D5 ≠ D4 := let ⟨x, e⟩ := hOS.at_; (ne_of_none e hD).symm
  have fD5 : H D5 = none := kS.free hD (by simp [ndD5])
  refine lc_range (lo := 0) (n := k) (fun i H' => ∃ acc : List (Str × Nat), Acc D5 namD acc H' ∧ acc.length = i ∧ (∀ r ∈ acc, r.2 < 2 * (1 + a + b + m)) ∧ DS H' d c ∧ Nms H' pn (61 - (a + b + o) - i) ∧ KeepT Ht H' ∧ Keep [d] H H' ∧ Acc D1 pairD an H' ∧ Acc D3 regD rs H' ∧ Acc D4 namD os H')
    ⟨[], .nil, rfl, fun r hr => by simp at hr, hdS.same (same_new hD _), (hnS.same (same_new hD _)).cast (by omega), ktS.trans (.new hD), kS.trans (Keep.new hD), hAS.same (same_new hD _), hRS.same (same_new hD _), hOS.same (same_new hD _)⟩ (fun i H3 hi p => ?_) (fun H3 p => ?_)
  · obtain ⟨acc, hB, hl, hg, hd3, ⟨names, hn, hz, h61'⟩, kt3, k3, hAS3, hRS3, hOS3⟩ := p
    have hi : i < k := hi
    refine ⟨rfl, _, rfl, _, rfl, d, c, pn, names, rfl, hd3, hn, nnd, nnc, by omega, by omega, fun j y H4 hy hd4 hn4 k4 => ?_⟩
    obtain ⟨z, rfl⟩ := hz y (List.mem_of_getElem? hy)
    have t4 := k4.tup2 hd3 hn
    refine ⟨_, rfl, _, rfl, d, c, _, 1 + a + b + m, rfl, by omega, hd4, by omega, by omega, fun l H6 hl6 hd6 k6 => ?_⟩
    have t6 := k6.tup1 hd4
    refine ⟨(by show 2 ≤ sizeLine; decide), fun t ht => ?_⟩
    have st := same_new ht (.tup [.str z, vI l])
    have kc : Keep [d, pn] H3 (upd H6 t (.tup [.str z, vI l])) := ((k4.cat k6).cat (.sm st)).wide (by simp)
    have tc : KeepT H3 (upd H6 t (.tup [.str z, vI l])) := (t4.trans t6).trans (.same st)
    have hn6 : (upd H6 t (.tup [.str z, vI l])) pn = some (.lst (names.eraseIdx j)) := st _ _ (k6 _ _ (by simp [nnd]) hn4)
    obtain ⟨vs, e, hlen, hB7, t7⟩ := (hB.keep kc tc (by simp [ndD5, nnD5])).push (x := (z, l)) (.mkNam upd_same) (by omega)
    refine ⟨vs, e, hlen, acc ++ [(z, l)], hB7, by rw [List.length_append, hl]; rfl, fun r hr => ?_, (hd6.same st).keep (S := [D5]) Keep.at1 (by simp [ndD5.symm]) (by simp [ncD5.symm]), ⟨names.eraseIdx j, ?_, fun v hv => hz v (List.mem_of_mem_eraseIdx hv), ?_⟩, (kt3.trans tc).trans t7, ((k3.cat kc).cat .at1).thin (by simp [hpn, fD5]), (hAS3.keep kc tc (by simp [*])).keep Keep.at1 t7 (by simp [nD5D1.symm]), (hRS3.keep kc tc (by simp [*])).keep Keep.at1 t7 (by simp [nD5D3.symm]), (hOS3.keep kc tc (by simp [*])).keep Keep.at1 t7 (by simp [nD5D4.symm])⟩
    · rcases List.mem_append.mp hr with q | q
      · exact hg r q
      · rw [List.mem_singleton.mp q]
        exact hl6
    · rw [upd_ne nnD5.symm]; exact hn6
    · rw [List.length_eraseIdx, if_pos (List.getElem?_eq_some_iff.mp hy).1]; omega
  obtain ⟨cs, hCS, hcl, hcg, hdS, hnS, ktS, kS, hAS, hRS, hOS⟩ := p
  obtain ⟨va, ea, la⟩ := hAS
  obtain ⟨vr, er, lr⟩ := hRS
  obtain ⟨vo, eo, lo⟩ := hOS
  obtain ⟨vc, ec, lc⟩ := hCS
  refine ⟨_, rfl, _, rfl, D3, _, rfl, .inl ⟨SqL.of er, fun pr hpr => ?_⟩⟩
  have s1 := same_new hpr (.tup vr)
  refine ⟨_, rfl, D1, _, rfl, .inl ⟨SqL.of (s1 _ _ ea), fun pa hpa => ?_⟩⟩
  have s2 := s1.trans (same_new hpa (.tup va))
  refine ⟨_, rfl, D4, _, rfl, .inl ⟨SqL.of (s2 _ _ eo), fun po hpo => ?_⟩⟩
  have s3 := s2.trans (same_new hpo (.tup vo))
  refine ⟨_, rfl, D5, _, rfl, .inl ⟨SqL.of (s3 _ _ ec), fun pc hpc => ?_⟩⟩
  have s4 := s3.trans (same_new hpc (.tup vc))
  refine ⟨(by show 6 ≤ sizeLine; decide), fun p hp => ?_⟩
  have s5 := s4.trans (same_new hp (.tup [.str "net", .ref pi, .ref pr, .ref pa, .ref po, .ref pc]))
  have g1 := same_new hpa (.tup va)
  have g2 := same_new hpo (.tup vo)
  have g3 := same_new hpc (.tup vc)
  have g4 := same_new hp (.tup [.str "net", .ref pi, .ref pr, .ref pa, .ref po, .ref pc])
  have hN : NetAt _ p pi pr pa po pc vr va vo vc ⟨is, rs, an, os, cs⟩ := ⟨upd_same, s5 _ _ (ktS _ _ hP), g4 _ _ (g3 _ _ (g2 _ _ (g1 _ _ upd_same))), lr.keep' (.same s5), g4 _ _ (g3 _ _ (g2 _ _ upd_same)), la.keep' (.same s5), g4 _ _ (g3 _ _ upd_same), lo.keep' (.same s5), g4 _ _ upd_same, lc.keep' (.same s5)⟩
  have e1 : (Net.mk is rs an os cs).first = 1 + a + b := by
    show 1 + is.length + rs.length = _
    rw [hil, hrl]
  have e2 : (Net.mk is rs an os cs).size = 1 + a + b + m := by
    show (Net.mk is rs an os cs).first + an.length = _
    rw [e1, hal]
  exact q _ ⟨is, rs, an, os, cs⟩ _ hN.lay ⟨fun r hr => by rw [e2]; exact hrg r hr, fun i p h => by rw [e1]; exact hab i p h, fun r hr => by rw [e2]; exact hog r hr, fun r hr => by rw [e2]; exact hcg r hr⟩ hil hrl hal hol hcl (hdS.same s5) (kS.trans (.of_same s5))
end

end Bf

set_option Elab.async false
set_option linter.all false
set_option maxRecDepth 100000
set_option maxHeartbeats 4000000
namespace Bf
open PySem PySem.Spec PyProof.Rows L2
/-! ### the program -/
def clD (c : List Nat) : PyData := .tuple (c.map fun n : Nat => PyData.int (n : Int))
theorem Lay.mkCl {H : Hp} {q : Addr} {c : List Nat} (e : H q = some (.tup (c.map vI))) : Lay H (.ref q) (clD c) := .tup e (LayAll.ints c)
theorem Lay.cl {H : Hp} {v : V} {c : List Nat} (h : Lay H v (clD c)) : ∃ q, v = .ref q ∧ H q = some (.tup (c.map vI)) := by
  obtain ⟨q, vs, rfl, e, l⟩ := h.tup_inv
  obtain rfl := l.ints_inv
  exact ⟨q, rfl, e⟩

def spFirst : Sp := fun vs H Q _ => ∃ (v : V) (N : Net), vs = [v] ∧ Lay H v (netD N) ∧ Q (vI N.first) H
def triD (N : Net) (i : Nat) (p : Nat × Nat) : PyData := .tuple [intD (N.first + i), intD p.1, intD p.2]
def trisD (N : Net) (i : Nat) : List PyData := (List.range i).map fun k => triD N k (N.ands.getD k (0, 0))
def spAndsOf : Sp := fun vs H Q _ => ∃ (v : V) (N : Net), vs = [v] ∧ Lay H v (netD N) ∧ N.ands.length ≤ 1000 ∧ ∀ (l : Addr) (xs : List V) (H' : Hp), Same H H' → H l = none → H' l = some (.lst xs) → LayAll H' xs (trisD N N.ands.length) → Q (.ref l) H'
def spAndC : Sp := fun vs H Q _ => ∃ n a b : Nat, vs = [vI n, vI a, vI b] ∧ n ≤ 1000000 ∧ ∀ (l : Addr) (xs : List V) (H' : Hp), Same H H' → H l = none → H' l = some (.lst xs) → LayAll H' xs ((andC n (a, b)).map clD) → Q (.ref l) H'
def spClausesOf : Sp := fun vs H Q _ => ∃ (v : V) (N : Net), vs = [v] ∧ Lay H v (netD N) ∧ N.size ≤ 1000 ∧ ∀ (p : Addr) (xs : List V) (H' : Hp), Same H H' → H' p = some (.tup xs) → LayAll H' xs (N.clauses.map clD) → Q (.ref p) H'
theorem trisD_succ (N : Net) (i : Nat) : trisD N (i + 1) = trisD N i ++ [triD N i (N.ands.getD i (0, 0))] := by
  unfold trisD
  rw [List.range_succ, List.map_append]
  rfl
theorem trisD_len (N : Net) (i : Nat) : (trisD N i).length = i := by simp [trisD]
theorem and_getD {N : Net} {i : Nat} {p : Nat × Nat} (h : N.ands[i]? = some p) : N.ands.getD i (0, 0) = p := by rw [List.getD_eq_getElem?_getD, h]; rfl
section
variable {P : Program} {w : World} {K : PySem.W.Frag} {mg : Str → Option Value} {base : Heap} {f : Addr} {fd : FuncData}
theorem ok_first (F : Fun K "first_and" "first_and" s_first_and f fd) (T : Txt mg) : FnOk P w K mg base CX0 1 f fd ["net"] spFirst := by
  refine F.ok sc_first_and (fun vs H Q E h => ?_) (fun cdv A outer s H vs Q E hr h => ?_)
  · obtain ⟨v, N, rfl, _⟩ := h
    rfl
  obtain ⟨v, N, rfl, hv, q⟩ := h
  refine ⟨_, (pss_one (ps_ret (pe_op op_add (pe_op op_add pe_int (pe_callB call_len_seq (by rfl) T.n_len (by decide +kernel) (pa_cons (pe_ix ix_tup (pv 0) pe_int (fun _ _ => rfl)) pa_nil))) (pe_callB call_len_seq (by rfl) T.n_len (by decide +kernel) (pa_cons (pe_ix ix_tup (pv 0) pe_int (fun _ _ => rfl)) pa_nil))))), ?_⟩
  obtain ⟨p, pi, pr, pa, po, pc, vr, va, vo, vc, rfl, hN⟩ := hv.net
  have hl := hN.lens
  refine ⟨_, rfl, p, _, _, _, rfl, rfl, SqT.of hN.top, atI_nat (j := 1) rfl, pi, _, rfl, .inr (SqT.of hN.hi), _, _, rfl, rfl, ?_⟩
  refine ⟨_, rfl, p, _, _, _, rfl, rfl, SqT.of hN.top, atI_nat (j := 2) rfl, pr, _, rfl, .inr (SqT.of hN.hr), _, _, rfl, rfl, ?_⟩
  have e : vI N.first = V.int ((1 : Int) + ((N.ins.map V.str).length : Nat) + (vr.length : Nat)) := by
    rw [List.length_map, hl.1]
    show V.int _ = _
    congr 1
  rw [e] at q
  exact q
theorem ok_andsOf (F : Fun K "ands_of" "ands_of" s_ands_of f fd) (T : Txt mg) (D_first_and : Dn P w K mg base "first_and" ["net"] 1 spFirst) : FnOk P w K mg base CX0 2 f fd ["net"] spAndsOf := by
  refine F.ok sc_ands_of (fun vs H Q E h => ?_) (fun cdv A outer s H vs Q E hr h => ?_)
  · obtain ⟨v, N, rfl, _⟩ := h
    rfl
  obtain ⟨v, N, rfl, hv, h1000, q⟩ := h
  refine ⟨_, (pss_cons (ps_set (i := 1) sc_ands_of.nd rfl (Or.inr rfl) (pe_dn D_first_and (hr.mono (by decide)) (by rfl) (pa_cons (pv 0) pa_nil)))
      (pss_one (ps_ret (pe_lc (own := [("at", 2), ("left", 3), ("right", 4)]) (g := (gTup K 2 (gCons (gName 2) (gCons (gTup K 2 (gCons (gName 3) (gCons (gName 4) gNil))) gNil)))) (tt := tYes) rfl sc_ands_of.nd (pi_enumX (by rfl) T.n_enumerate (pa_cons (pe_ix ix_tup (pv 0) pe_int (fun _ _ => rfl)) pa_nil)) (blkOk_by (N := ["net", "first", "at", "left", "right"]) (sc := defScope s_ands_of) (by decide +kernel)) (fun _ _ _ _ _ => (pg_tup rfl (pgs_cons (pg_name (i := 2) sc_ands_of.nd rfl (Or.inl rfl)) (pgs_cons (pg_tup rfl (pgs_cons (pg_name (i := 3) sc_ands_of.nd rfl (Or.inl rfl)) (pgs_cons (pg_name (i := 4) sc_ands_of.nd rfl (Or.inl rfl)) pgs_nil))) pgs_nil)))) (fun _ _ _ _ _ => pts_nil) (fun _ _ _ _ _ => (pe_tup (pa_cons (pe_op op_add (pv 1) (pv 2)) (pa_cons (pv 3) (pa_cons (pv 4) pa_nil))))))))), ?_⟩
  obtain ⟨p, pi, pr, pa, po, pc, vr, va, vo, vc, rfl, hN⟩ := hv.net
  have hl := hN.lens
  refine ⟨_, rfl, _, N, rfl, hv, ?_⟩
  refine ⟨_, rfl, p, _, _, _, rfl, rfl, SqT.of hN.top, atI_nat (j := 3) rfl, srcT, pa, va, rfl, SqT.of hN.ha, fun D hD => ?_⟩
  refine lc_it (walk_enumG srcT (xs := va)) (fun i H' => Same H H' ∧ ∃ xs : List V, H' D = some (.lst xs) ∧ LayAll H' xs (trisD N i)) ⟨same_new hD _, [], upd_same, .nil⟩ (fun i H' _ p => seqT_same p.1 (SqT.of hN.ha)) (fun i x H2 H' hi p y => ?_) (fun H' p => ?_)
  · obtain ⟨sm, xs, hx, lx⟩ := p
    obtain ⟨t, a, b, rfl, ht, rfl, ea, eb⟩ := y
    obtain rfl := Option.some.inj ea
    obtain ⟨q1, p1, rfl, hp1, hq1⟩ := (hN.keep (.same sm)).and_ eb
    have st := same_new ht (.tup [.int (i : Nat), .ref q1])
    refine ⟨t, _, rfl, SqT.of upd_same, rfl, _, _, rfl, _, _, rfl, ?_⟩
    refine ⟨q1, _, rfl, SqT.of (st _ _ hq1), rfl, _, _, rfl, _, _, rfl, rfl, rfl, rfl, ?_⟩
    refine ⟨_, rfl, _, rfl, _, _, rfl, rfl, _, rfl, _, rfl, (by show 3 ≤ sizeLine; decide), fun u hu => ?_⟩
    have su := same_new hu (.tup [.int ((N.first : Int) + (i : Int)), vI p1.1, vI p1.2])
    have ln := lx.len
    rw [trisD_len] at ln
    have hx2 := su _ _ (st _ _ hx)
    refine ⟨xs, hx2, len1000 (by omega), same_two ((sm.trans st).trans su) hD, _, upd_same, ?_⟩
    rw [trisD_succ, and_getD hp1]
    have kt : KeepT H2 (upd (upd (upd H2 t (.tup [.int (i : Nat), .ref q1])) u (.tup [.int ((N.first : Int) + (i : Int)), vI p1.1, vI p1.2])) D (.lst (xs ++ [.ref u]))) := (KeepT.same (st.trans su)).trans (.lst hx2)
    refine (lx.keep' kt).snoc (.tup (KeepT.lst hx2 _ _ upd_same) (.cons ?_ (.cons (.int _) (.cons (.int _) .nil))))
    rw [show V.int ((N.first : Int) + (i : Int)) = V.int ((N.first + i : Nat) : Int) from congrArg V.int (by omega)]
    exact .int _
  · obtain ⟨sm, xs, hx, lx⟩ := p
    rw [hl.2.1] at lx
    exact q D xs H' sm hD hx lx
theorem ok_andC (F : Fun K "and_clauses" "and_clauses" s_and_clauses f fd) : FnOk P w K mg base CX0 1 f fd ["node", "left", "right"] spAndC := by
  refine F.ok sc_and_clauses (fun vs H Q E h => ?_) (fun cdv A outer s H vs Q E hr h => ?_)
  · obtain ⟨n, a, b, rfl, _⟩ := h
    rfl
  obtain ⟨n, a, b, rfl, hn, q⟩ := h
  refine ⟨_, (pss_one (ps_ret (pe_lst (pa_cons (pe_tup (pa_cons (pe_op op_add (pe_op op_mul pe_int (pv 0)) pe_int) (pa_cons (pv 1) pa_nil))) (pa_cons (pe_tup (pa_cons (pe_op op_add (pe_op op_mul pe_int (pv 0)) pe_int) (pa_cons (pv 2) pa_nil))) (pa_cons (pe_tup (pa_cons (pe_op op_mul pe_int (pv 0)) (pa_cons (pe_op op_xorB (pv 1) pe_int) (pa_cons (pe_op op_xorB (pv 2) pe_int) pa_nil)))) pa_nil)))))), ?_⟩
  have m2 : CMul 2 (n : Int) := .inl ⟨by decide, by decide⟩
  refine ⟨_, rfl, _, _, rfl, rfl, m2, _, _, rfl, rfl, _, rfl, (by show 2 ≤ sizeLine; decide), fun t1 h1 => ?_⟩
  refine ⟨_, rfl, _, _, rfl, rfl, m2, _, _, rfl, rfl, _, rfl, (by show 2 ≤ sizeLine; decide), fun t2 h2 => ?_⟩
  refine ⟨_, rfl, _, _, rfl, rfl, m2, _, rfl, a, 1, rfl, rfl, _, rfl, b, 1, rfl, rfl, (by show 3 ≤ sizeLine; decide), fun t3 h3 => ?_⟩
  refine ⟨(by show 3 ≤ sizeLine; decide), fun l hl => ?_⟩
  have e1 : V.int ((2 : Int) * (n : Int) + 1) = vI (2 * n + 1) := congrArg V.int (by omega)
  have e2 : V.int ((2 : Int) * (n : Int)) = vI (2 * n) := congrArg V.int (by omega)
  have s1 := same_new h1 (.tup [.int ((2 : Int) * (n : Int) + 1), vI a])
  have s2 := same_new h2 (.tup [.int ((2 : Int) * (n : Int) + 1), vI b])
  have s3 := same_new h3 (.tup [.int ((2 : Int) * (n : Int)), vI (a ^^^ 1), vI (b ^^^ 1)])
  have s4 := same_new hl (.lst [.ref t1, .ref t2, .ref t3])
  refine q l _ _ (((s1.trans s2).trans s3).trans s4) (Same.free ((s1.trans s2).trans s3) hl) upd_same ?_
  refine .cons (Lay.mkCl (c := [2 * n + 1, a]) ?_) (.cons (Lay.mkCl (c := [2 * n + 1, b]) ?_) (.cons (Lay.mkCl (c := [2 * n, a ^^^ 1, b ^^^ 1]) ?_) .nil))
  · show _ = some (HO.tup [vI (2 * n + 1), vI a])
    rw [← e1]
    exact s4 _ _ (s3 _ _ (s2 _ _ upd_same))
  · show _ = some (HO.tup [vI (2 * n + 1), vI b])
    rw [← e1]
    exact s4 _ _ (s3 _ _ upd_same)
  · show _ = some (HO.tup [vI (2 * n), vI (a ^^^ 1), vI (b ^^^ 1)])
    rw [← e2]
    exact s4 _ _ upd_same
theorem ok_clausesOf (F : Fun K "clauses_of" "clauses_of" s_clauses_of f fd) (T : Txt mg) (D_ands_of : Dn P w K mg base "ands_of" ["net"] 2 spAndsOf) (D_and_clauses : Dn P w K mg base "and_clauses" ["node", "left", "right"] 1 spAndC) : FnOk P w K mg base CX0 3 f fd ["net"] spClausesOf := by
  refine F.ok sc_clauses_of (fun vs H Q E h => ?_) (fun cdv A outer s H vs Q E hr h => ?_)
  · obtain ⟨v, N, rfl, _⟩ := h
    rfl
  obtain ⟨v, N, rfl, hv, h1000, q⟩ := h
  have hsz : N.first + N.ands.length ≤ 1000 := h1000
  refine ⟨_, (pss_cons (ps_set (i := 1) sc_clauses_of.nd rfl (Or.inl rfl) (pe_lst (pa_cons (pe_tup (pa_cons pe_int pa_nil)) pa_nil)))
      (pss_cons (ps_for PassesOwn.never rfl (pi_list (pe_dn D_ands_of (hr.mono (by decide)) (by rfl) (pa_cons (pv 0) pa_nil))) (pg_tup rfl (pgs_cons (pg_name (i := 2) sc_clauses_of.nd rfl (Or.inl rfl)) (pgs_cons (pg_name (i := 3) sc_clauses_of.nd rfl (Or.inl rfl)) (pgs_cons (pg_name (i := 4) sc_clauses_of.nd rfl (Or.inl rfl)) pgs_nil)))) (pss_one (ps_expr (pe_bm PySem.F.plainAttrs_list PySem.F.slot_list_extend PySem.F.type_list_extend mt_extend (pv 1) (pa_cons (pe_dn D_and_clauses (hr.mono (by decide)) (by rfl) (pa_cons (pv 2) (pa_cons (pv 3) (pa_cons (pv 4) pa_nil)))) pa_nil)))))
      (pss_one (ps_ret (pe_callTy call_tuple_of (by rfl) T.n_tuple (by decide +kernel) (pa_cons (pv 1) pa_nil)))))), ?_⟩
  refine ⟨(by show 1 ≤ sizeLine; decide), fun t0 h0 => ⟨(by show 1 ≤ sizeLine; decide), fun D hD => ?_⟩⟩
  have s0 := same_new h0 (.tup [.int 1])
  have s1 := s0.trans (same_new hD (.lst [.ref t0]))
  have hD0 : H D = none := s0.free hD
  refine ⟨_, rfl, _, N, rfl, hv.keep' (.same s1), by omega, fun l xs H2 s2 hl hx lx => ?_⟩
  have ln := lx.len
  rw [trisD_len] at ln
  have hDl : D ≠ l := ne_of_none upd_same hl
  refine ⟨l, rfl, ⟨xs, SqL.of hx⟩, ?_⟩
  refine for_it (walk_list (xs := xs)) (fun i σ' H' => ∃ v2 v3 v4 : Option V, σ' = [some v, some (.ref D), v2, v3, v4] ∧ Keep [D] H2 H' ∧ ∃ ys : List V, H' D = some (.lst ys) ∧ LayAll H' ys ((N.clausesTo i).map clD))
    ⟨_, _, _, rfl, .refl _ _, [.ref t0], s2 _ _ upd_same, ?_⟩ (fun i σ' H' hi p => ?_) (fun i x σ' H' H3 hi p y => ?_) (fun σ' H' p => ?_)
  · refine .cons (Lay.mkCl (c := [1]) ?_) .nil
    exact s2 _ _ (same_new hD _ _ _ upd_same)
  · obtain ⟨_, _, _, _, k, _⟩ := p
    exact SqL.of (k _ _ (by simp [hDl.symm]) hx)
  · obtain ⟨v2, v3, v4, rfl, k, ys, hy, ly⟩ := p
    obtain ⟨rfl, ex⟩ := y
    have kt : KeepT H2 H3 := k.tups fun b hb => by rw [List.mem_singleton.mp hb]; exact ⟨_, s2 _ _ upd_same⟩
    obtain ⟨d, hd, lz⟩ := (lx.keep' kt).get i ex
    have hi' : i < N.ands.length := by omega
    have ed : d = triD N i (N.ands.getD i (0, 0)) := by
      unfold trisD at hd
      rw [List.getElem?_map, List.getElem?_range hi'] at hd
      exact (Option.some.inj hd).symm
    subst ed
    obtain ⟨t, vs, rfl, ht, lt⟩ := lz.tup_inv
    obtain ⟨w0, u0, rfl, l0, lt⟩ := lt.cons_inv
    obtain ⟨w1, u1, rfl, l1, lt⟩ := lt.cons_inv
    obtain ⟨w2, u2, rfl, l2, lt⟩ := lt.cons_inv
    obtain rfl := lt.nil_inv
    obtain rfl := l0.int_inv
    obtain rfl := l1.int_inv
    obtain rfl := l2.int_inv
    refine ⟨t, _, rfl, SqT.of ht, rfl, _, _, rfl, _, _, rfl, _, _, rfl, rfl, ?_⟩
    refine ⟨_, rfl, .inl ⟨rfl, _, SqL.of hy⟩, ?_⟩
    refine ⟨_, rfl, _, rfl, _, rfl, N.first + i, (N.ands.getD i (0, 0)).1, (N.ands.getD i (0, 0)).2, rfl, by omega, fun l2 zs H4 s4 hl2 hz lz2 => ?_⟩
    have hy4 := s4 _ _ hy
    have lny := ly.len
    have lnz := lz2.len
    rw [List.length_map] at lny lnz
    have lc : ∀ i, (N.clausesTo i).length = 1 + 3 * i := fun i => by
      induction i with
      | zero => rfl
      | succ i ih => rw [clausesTo_succ, List.length_append, ih]; show _ + 3 = _; omega
    refine ⟨D, l2, ys, zs, rfl, rfl, hy4, hz, ?_, ?_⟩
    · rw [lny, lnz, lc]
      show 1 + 3 * i + 3 ≤ sizeLine
      exact Nat.le_trans (by omega) (show 4000 ≤ sizeLine by decide)
    · have kt4 : KeepT H3 (upd H4 D (.lst (ys ++ zs))) := (KeepT.same s4).trans (.lst hy4)
      refine ⟨_, _, _, rfl, (k.trans (.of_same s4)).trans (.upd (by simp)), _, upd_same, ?_⟩
      rw [clausesTo_succ, List.map_append]
      exact (ly.keep' kt4).app (lz2.keep' (.lst hy4))
  · obtain ⟨v2, v3, v4, rfl, k, ys, hy, ly⟩ := p
    rw [ln] at ly
    refine ⟨_, rfl, D, ys, rfl, .inl ⟨SqL.of hy, fun p hp => ?_⟩⟩
    have k2 : Keep [D] H (upd H' p (.tup ys)) := ((Keep.of_same (S := [D]) (s1.trans s2)).trans k).trans (.new hp)
    refine q p ys _ (fun b o e => k2 b o (fun m => ?_) e) upd_same (ly.keep' (.new hp))
    rw [List.mem_singleton.mp m, hD0] at e
    cases e
end
end Bf

set_option Elab.async false
set_option linter.all false
set_option maxRecDepth 100000
set_option maxHeartbeats 4000000
namespace Bf
open PySem PySem.Spec PyProof.Rows L2
/-! ### the law's own defs -/
def spInts (K : PySem.W.Frag) : Sp := fun vs H Q _ => ∃ (a : Addr) (ns : List Nat), vs = [.ref a] ∧ H a = some (.tup (ns.map vI)) ∧ ns.length ≤ 1000 ∧ ∀ H' : Hp, Same H H' → Q (.bl true) H'
def spMask (K : PySem.W.Frag) : Sp := fun vs H Q _ => ∃ (a : Addr) (ms : List Nat) (l W : Nat), vs = [.ref a, vI l, vI W] ∧ SqL K H a (ms.map vI) ∧ l / 2 < ms.length ∧ Q (vI (maskN ms W l)) H
def spPats : Sp := fun vs H Q _ => ∃ m : Nat, vs = [vI m] ∧ m ≤ 12 ∧ ∀ (a : Addr) (H' : Hp), Same H H' → H a = none → H' a = some (.lst ((patsN m m).map vI)) → Q (.ref a) H'
def spMasks : Sp := fun vs H Q _ => ∃ (v : V) (N : Net), vs = [v] ∧ Lay H v (netD N) ∧ N.Right ∧ N.many ≤ 12 ∧ N.size ≤ 1000 ∧ ∀ (a : Addr) (H' : Hp), Same H H' → H a = none → H' a = some (.lst (N.masks.map vI)) → Q (.ref a) H'
section
variable {P : Program} {w : World} {K : PySem.W.Frag} {mg : Str → Option Value} {base : Heap} {f : Addr} {fd : FuncData}
theorem ok_ints (F : Fun K "_law_is_ints" "_law_is_ints" s_law_is_ints f fd) (T : Txt mg) (D_law_is_int : Dn P w K mg base "_law_is_int" ["_law_thing"] 1 spIsInt) : FnOk P w K mg base CX0 2 f fd ["_law_row"] (spInts K) := by
  refine F.ok sc_law_is_ints (fun vs H Q E h => ?_) (fun cdv A outer s H vs Q E hr h => ?_)
  · obtain ⟨a, ns, rfl, _⟩ := h
    rfl
  obtain ⟨a, ns, rfl, hA, hl, q⟩ := h
  refine ⟨_, (pss_one (ps_ret (pe_and (pe_callB (call_isi : CallR _ _ (rIsi K)) (by rfl) T.n_isinstance (by decide +kernel) (pa_cons (pv 0) (pa_cons (pe_bltn rfl T.n_tuple (by decide +kernel) (v := .ty "tuple") rfl) pa_nil))) (pe_one (pe_callB (cr_all rfl) (by rfl) T.n_all (by decide +kernel) (pa_cons (pe_lc (own := [("_law_part", 1)]) (g := gName 1) (tt := tYes) rfl sc_law_is_ints.nd (pi_tup (pv 0)) (blkOk_by (N := ["_law_row", "_law_part"]) (sc := defScope s_law_is_ints) (by decide +kernel)) (fun _ _ _ _ _ => (pg_name (i := 1) sc_law_is_ints.nd rfl (Or.inl rfl))) (fun _ _ _ _ _ => pts_nil) (fun _ _ _ _ _ => (pe_dn D_law_is_int (hr.mono (by decide)) (by rfl) (pa_cons (pv 1) pa_nil)))) pa_nil)))))), ?_⟩
  refine ⟨_, rfl, _, _, .type "tuple", .type "tuple", true, rfl, .ty "tuple", .base (.tup hA), kit_ty (by decide +kernel), true, rfl, ?_⟩
  refine iteT ?_
  refine ⟨_, rfl, a, rfl, ⟨_, SqT.of hA⟩, fun D hD => lc_tup (K := K) (a := a) (xs := ns.map vI) (fun i H' => Same H H' ∧ H' D = some (.lst ((List.replicate i true).map V.bl)))
    ⟨same_new hD _, upd_same⟩ (fun i H' _ p => seqT_same p.1 (SqT.of hA)) (fun i x H' hx p => ?_) (fun H' p => ?_)⟩
  · obtain ⟨k, hk, rfl⟩ := natAt hx
    have hi := (List.getElem?_eq_some_iff.mp hk).1
    refine ⟨rfl, _, rfl, (k : Int), rfl, _, p.2, ?_, same_two p.1 hD, ?_⟩
    · rw [List.length_map, List.length_replicate]
      exact small1000 (by omega)
    · rw [upd_same, List.replicate_succ', List.map_append]
      rfl
  · refine ⟨D, _, rfl, SqL.of p.2, ?_⟩
    rw [all_true]
    exact q _ p.1
theorem ok_mask (F : Fun K "_law_mask" "_law_mask" s_law_mask f fd) : FnOk P w K mg base CX0 1 f fd ["_law_masks_here", "_law_literal", "_law_whole"] (spMask K) := by
  refine F.ok sc_law_mask (fun vs H Q E h => ?_) (fun cdv A outer s H vs Q E hr h => ?_)
  · obtain ⟨a, ms, l, W, rfl, _⟩ := h
    rfl
  obtain ⟨a, ms, l, W, rfl, ha, hl, q⟩ := h
  refine ⟨_, (pss_cons (ps_if (pt_truth (pe_op op_odd (pv 1) pe_int) (by intro _; rfl)) (pss_one (ps_ret (pe_op op_xorB (pe_ix ix_list (pv 0) (pe_op op_halfN (pv 1) pe_int) (fun _ _ => rfl)) (pv 2)))) pss_nil)
      (pss_one (ps_ret (pe_ix ix_list (pv 0) (pe_op op_halfN (pv 1) pe_int) (fun _ _ => rfl))))), ?_⟩
  have eg : ms[l / 2]? = some (ms.getD (l / 2) 0) := by rw [List.getD_eq_getElem?_getD, List.getElem?_eq_getElem hl]; rfl
  have ea : atI (ms.map vI) ((l / 2 : Nat) : Int) = some (vI (ms.getD (l / 2) 0)) := atI_nat (by rw [List.getElem?_map, eg]; rfl)
  refine ⟨_, rfl, l, rfl, rfl, (((l % 2 : Nat) : Int) != 0), rfl, ?_⟩
  unfold maskN at q
  by_cases h : l % 2 = 1
  · rw [if_pos h] at q
    refine ifY (by rw [h]; rfl) ?_
    refine ⟨_, rfl, _, rfl, l, rfl, rfl, a, _, _, _, rfl, rfl, ha, ea, _, rfl, _, _, rfl, rfl, q⟩
  · rw [if_neg h] at q
    refine ifN (by rw [show l % 2 = 0 by omega]; rfl) ?_
    exact ⟨_, rfl, _, rfl, l, rfl, rfl, a, _, _, _, rfl, rfl, ha, ea, q⟩
theorem ok_pats (F : Fun K "_law_patterns" "_law_patterns" s_law_patterns f fd) (T : Txt mg) : FnOk P w K mg base CX0 1 f fd ["_law_many"] spPats := by
  refine F.ok sc_law_patterns (fun vs H Q E h => ?_) (fun cdv A outer s H vs Q E hr h => ?_)
  · obtain ⟨m, rfl, _⟩ := h
    rfl
  obtain ⟨m, rfl, h12, q⟩ := h
  refine ⟨_, (pss_cons (ps_set (i := 1) sc_law_patterns.nd rfl (Or.inl rfl) (pe_op op_subN (pe_op op_oneShlN pe_int (pe_op op_oneShlN pe_int (pv 0))) pe_int))
      (pss_cons (ps_set (i := 2) sc_law_patterns.nd rfl (Or.inl rfl) (pe_lst pa_nil))
      (pss_cons (ps_for PassesOwn.never rfl (pi_range1 rfl T.n_range (pa_cons (pv 0) pa_nil)) (pg_name (i := 3) sc_law_patterns.nd rfl (Or.inl rfl)) (pss_cons (ps_set (i := 4) sc_law_patterns.nd rfl (Or.inl rfl) (pe_op op_oneShlN pe_int (pv 3)))
      (pss_one (ps_expr (pe_bm PySem.F.plainAttrs_list PySem.F.slot_list_append PySem.F.type_list_append mt_append (pv 2) (pa_cons (pe_op op_mulNW (pe_op op_fdivNW (pv 1) (pe_op op_subN (pe_op op_oneShlN pe_int (pe_op op_mulNW pe_int (pv 4))) pe_int)) (pe_op op_shlNN (pe_op op_subN (pe_op op_oneShlN pe_int (pv 4)) pe_int) (pv 4))) pa_nil))))))
      (pss_one (ps_ret (pv 2)))))), ?_⟩
  have b1 : (2 : Nat) ^ m ≤ 2 ^ 12 := Nat.pow_le_pow_right (by decide) h12
  have b2 : ∀ k : Nat, k ≤ 5000 → (2 : Nat) ^ k < 2 ^ 9000 := fun k hk => Nat.pow_lt_pow_right (by decide) (by omega)
  have b3 : (2 : Nat) ^ 9000 ≤ 2 ^ 100000 := Nat.pow_le_pow_right (by decide) (by decide)
  have b4 : ∀ x : Nat, x < 2 ^ 9000 → x < 2 ^ 100000 := fun x h => Nat.lt_of_lt_of_le h b3
  have p1 : ∀ k : Nat, 1 ≤ (2 : Nat) ^ k := fun k => Nat.pow_pos (by decide)
  refine ⟨_, rfl, m, rfl, rfl, by omega, 2 ^ m, rfl, rfl, by omega, _, 1, rfl, rfl, p1 _, ?_⟩
  refine ⟨Nat.zero_le _, fun D hD => ?_⟩
  refine ⟨_, rfl, (m : Int), rfl, (i62 (by omega)).1, (i62 (by omega)).2, for_it walk_range (fun i σ' H' => ∃ v3 v4 : Option V, σ' = [some (vI m), some (vI (whole m)), some (.ref D), v3, v4] ∧ Same H H' ∧ H' D = some (.lst ((patsN m i).map vI)))
    ⟨_, _, rfl, same_new hD _, upd_same⟩ (fun _ _ _ _ _ => trivial) (fun i x σ' H' H2 hi p y => ?_) (fun σ' H' p => ?_)⟩
  · obtain ⟨v3, v4, rfl, sm, hf⟩ := p
    obtain ⟨rfl, rfl⟩ := y
    have hi : i < m := by simpa using hi
    have c1 : (2 : Nat) ^ i ≤ 2 ^ 11 := Nat.pow_le_pow_right (by decide) (by omega)
    refine ⟨_, rfl, i, rfl, congrArg V.int (by omega), by omega, ?_⟩
    refine ⟨_, rfl, .inl ⟨rfl, _, SqL.of hf⟩, ?_⟩
    have w9 : whole m < 2 ^ 9000 := Nat.lt_trans (whole_lt m) (b2 _ (by omega))
    refine ⟨_, rfl, _, rfl, 2, 2 ^ i, rfl, rfl, ⟨Nat.lt_of_lt_of_le (by decide : 2 < 2 ^ 9) (Nat.pow_le_pow_right (by decide) (by decide)), b4 _ (b2 _ (by omega))⟩, 2 * 2 ^ i, rfl, rfl, by omega, _, 1, rfl, rfl, p1 _, ?_⟩
    refine ⟨whole m, 2 ^ (2 * 2 ^ i) - 1, rfl, rfl, ⟨?_, ?_⟩, ?_⟩
    · have : (2 : Nat) ^ 1 ≤ 2 ^ (2 * 2 ^ i) := Nat.pow_le_pow_right (by decide) (by have := p1 i; omega)
      omega
    · exact Nat.lt_of_le_of_lt (Nat.sub_le _ _) (b2 _ (by omega))
    refine ⟨_, rfl, 2 ^ i, rfl, rfl, by omega, _, 1, rfl, rfl, p1 _, _, rfl, 2 ^ (2 ^ i) - 1, 2 ^ i, rfl, rfl, ⟨?_, by omega⟩, ?_⟩
    · exact b4 _ (Nat.lt_of_le_of_lt (Nat.sub_le _ _) (b2 _ (by omega)))
    refine ⟨whole m / (2 ^ (2 * 2 ^ i) - 1), (2 ^ (2 ^ i) - 1) * 2 ^ (2 ^ i), rfl, rfl, ⟨?_, ?_⟩, ?_⟩
    · exact b4 _ (Nat.lt_of_le_of_lt (Nat.div_le_self _ _) w9)
    · refine b4 _ (Nat.lt_of_le_of_lt (Nat.mul_le_mul_right _ (Nat.sub_le _ _)) ?_)
      rw [← Nat.pow_add]
      exact b2 _ (by omega)
    refine ⟨D, _, _, rfl, rfl, hf, ?_, _, _, rfl, same_two sm hD, ?_⟩
    · rw [List.length_map, patsN_len]
      exact small1000 (by omega)
    · rw [upd_same, patsN_succ, List.map_append]
      rfl
  · obtain ⟨v3, v4, rfl, sm, hf⟩ := p
    exact ⟨_, rfl, q D H' sm hD hf⟩
theorem base_map (N : Net) : N.base.map vI = [V.int 0] ++ (patsN N.many N.many).map vI := rfl
theorem ok_masks (F : Fun K "_law_masks" "_law_masks" s_law_masks f fd) (T : Txt mg) (D_law_patterns : Dn P w K mg base "_law_patterns" ["_law_many"] 1 spPats) (D_law_mask : Dn P w K mg base "_law_mask" ["_law_masks_here", "_law_literal", "_law_whole"] 1 (spMask K)) :
    FnOk P w K mg base CX0 2 f fd ["_law_net_here"] spMasks := by
  refine F.ok sc_law_masks (fun vs H Q E h => ?_) (fun cdv A outer s H vs Q E hr h => ?_)
  · obtain ⟨v, N, rfl, _⟩ := h
    rfl
  obtain ⟨v, N, rfl, hv, R, h12, h1000, q⟩ := h
  have hsz : N.first + N.ands.length ≤ 1000 := h1000
  refine ⟨_, (pss_cons (ps_set (i := 1) sc_law_masks.nd rfl (Or.inl rfl) (pe_op op_addN (pe_callB call_len_seq (by rfl) T.n_len (by decide +kernel) (pa_cons (pe_ix ix_tup (pv 0) pe_int (fun _ _ => rfl)) pa_nil)) (pe_callB call_len_seq (by rfl) T.n_len (by decide +kernel) (pa_cons (pe_ix ix_tup (pv 0) pe_int (fun _ _ => rfl)) pa_nil))))
      (pss_cons (ps_set (i := 2) sc_law_masks.nd rfl (Or.inl rfl) (pe_op op_subN (pe_op op_oneShlN pe_int (pe_op op_oneShlN pe_int (pv 1))) pe_int))
      (pss_cons (ps_set (i := 3) sc_law_masks.nd rfl (Or.inl rfl) (pe_op op_cat (pe_lst (pa_cons pe_int pa_nil)) (pe_dn D_law_patterns (hr.mono (by decide)) (by rfl) (pa_cons (pv 1) pa_nil))))
      (pss_cons (ps_for PassesOwn.never rfl (pi_tup (pe_ix ix_tup (pv 0) pe_int (fun _ _ => rfl))) (pg_tup rfl (pgs_cons (pg_name (i := 4) sc_law_masks.nd rfl (Or.inl rfl)) (pgs_cons (pg_name (i := 5) sc_law_masks.nd rfl (Or.inl rfl)) pgs_nil))) (pss_one (ps_expr (pe_bm PySem.F.plainAttrs_list PySem.F.slot_list_append PySem.F.type_list_append mt_append (pv 3) (pa_cons (pe_op op_andB (pe_dn D_law_mask (hr.mono (by decide)) (by rfl) (pa_cons (pv 3) (pa_cons (pv 4) (pa_cons (pv 2) pa_nil)))) (pe_dn D_law_mask (hr.mono (by decide)) (by rfl) (pa_cons (pv 3) (pa_cons (pv 5) (pa_cons (pv 2) pa_nil))))) pa_nil)))))
      (pss_one (ps_ret (pv 3))))))), ?_⟩
  obtain ⟨p, pi, pr, pa, po, pc, vr, va, vo, vc, rfl, hN⟩ := hv.net
  have hl := hN.lens
  have b1 : (2 : Nat) ^ N.many ≤ 2 ^ 12 := Nat.pow_le_pow_right (by decide) h12
  have em : (N.ins.map V.str).length + vr.length = N.many := by
    rw [List.length_map, hl.1]
    rfl
  refine ⟨_, rfl, p, _, _, _, rfl, rfl, SqT.of hN.top, atI_nat (j := 1) rfl, pi, _, rfl, .inr (SqT.of hN.hi), _, rfl, p, _, _, _, rfl, rfl, SqT.of hN.top, atI_nat (j := 2) rfl, pr, _, rfl, .inr (SqT.of hN.hr), _, _, rfl, rfl, ?_⟩
  rw [em]
  refine ⟨_, rfl, N.many, rfl, rfl, by omega, 2 ^ N.many, rfl, rfl, by omega, _, 1, rfl, rfl, Nat.pow_pos (by decide), ?_⟩
  refine ⟨(by show 1 ≤ sizeLine; decide), fun l0 hl0 => ?_⟩
  refine ⟨_, rfl, N.many, rfl, h12, fun b H1 s1 hb hb1 => ?_⟩
  refine ⟨l0, b, [V.int 0], _, rfl, rfl, s1 _ _ upd_same, hb1, ?_, fun M hM => ?_⟩
  · rw [List.length_map, patsN_len]
    exact le1000 (by show 1 + N.many ≤ 1000; omega)
  have s2 := ((same_new hl0 (.lst [.int 0])).trans s1).trans (same_new hM (.lst ([V.int 0] ++ (patsN N.many N.many).map vI)))
  refine ⟨_, rfl, p, _, _, _, rfl, rfl, SqT.of (s2 _ _ hN.top), atI_nat (j := 3) rfl, pa, rfl, ⟨_, SqT.of (s2 _ _ hN.ha)⟩, ?_⟩
  refine for_it (walk_tup (xs := va)) (fun i σ' H' => ∃ v4 v5 : Option V, σ' = [some (.ref p), some (vI N.many), some (vI (whole N.many)), some (.ref M), v4, v5] ∧ Same H H' ∧ H' M = some (.lst ((N.masksTo i).map vI)))
    ⟨_, _, rfl, s2, upd_same⟩ (fun i σ' H' hi p => ?_) (fun i x σ' H' H3 hi p y => ?_) (fun σ' H' p => ?_)
  · obtain ⟨_, _, _, sm, _⟩ := p
    exact SqT.of (sm _ _ hN.ha)
  · obtain ⟨v4, v5, rfl, sm, hf⟩ := p
    obtain ⟨rfl, ex⟩ := y
    obtain ⟨t, p1, rfl, hp1, ht⟩ := (hN.keep (.same sm)).and_ ex
    have hi' := (List.getElem?_eq_some_iff.mp hp1).1
    obtain ⟨r1, r2⟩ := R.ands i p1 hp1
    have ml := masksTo_len N i (by omega)
    refine ⟨t, _, rfl, SqT.of ht, rfl, _, _, rfl, _, _, rfl, rfl, ?_⟩
    refine ⟨_, rfl, .inl ⟨rfl, _, SqL.of hf⟩, ?_⟩
    refine ⟨_, rfl, _, rfl, _, rfl, M, N.masksTo i, p1.1, whole N.many, rfl, SqL.of hf, by omega, ?_⟩
    refine ⟨_, rfl, _, rfl, _, rfl, M, N.masksTo i, p1.2, whole N.many, rfl, SqL.of hf, by omega, ?_⟩
    refine ⟨_, _, rfl, rfl, M, _, _, rfl, rfl, hf, ?_, _, _, rfl, same_two sm ((((same_new hl0 _).trans s1).free hM)), ?_⟩
    · rw [List.length_map, ml]
      exact small1000 (by omega)
    · rw [upd_same, masksTo_succ N hp1, List.map_append]
      rfl
  · obtain ⟨v4, v5, rfl, sm, hf⟩ := p
    rw [hl.2.1] at hf
    exact ⟨_, rfl, q M H' sm (((same_new hl0 _).trans s1).free hM) hf⟩
/-- clauses as they lie in a list or a tuple: each at its own address -/
def spLClauses : Sp := fun vs H Q _ => ∃ (v : V) (N : Net), vs = [v] ∧ Lay H v (netD N) ∧ N.size ≤ 1000 ∧ ∀ (l : Addr) (xs : List V) (H' : Hp), Same H H' → H l = none → H' l = some (.lst xs) → LayAll H' xs (N.clauses.map clD) → Q (.ref l) H'
def spIsClauses (K : PySem.W.Frag) : Sp := fun vs H Q _ => ∃ (a : Addr) (xs : List V) (cs : List (List Nat)), vs = [.ref a] ∧ H a = some (.tup xs) ∧ LayAll H xs (cs.map clD) ∧ (∀ c ∈ cs, c.length ≤ 1000) ∧ cs.length ≤ 100000 ∧ ∀ H' : Hp, Same H H' → Q (.bl true) H'
theorem push_cl {H : Hp} {D t : Addr} {ys xs : List V} {cs : List (List Nat)} {c : List Nat} (hy : H D = some (.lst ys)) (ly : LayAll H ys (cs.map clD)) (ht : H t = none) (e : xs = c.map vI) :
    (upd H t (.tup xs)) D = some (.lst ys) ∧ (upd (upd H t (.tup xs)) D (.lst (ys ++ [.ref t]))) D = some (.lst (ys ++ [.ref t])) ∧ LayAll (upd (upd H t (.tup xs)) D (.lst (ys ++ [.ref t]))) (ys ++ [.ref t]) ((cs ++ [c]).map clD) ∧
      ∀ {H0 : Hp}, Same H0 H → H0 D = none → Same H0 (upd (upd H t (.tup xs)) D (.lst (ys ++ [.ref t]))) := by
  subst e
  have s1 := same_new ht (.tup (c.map vI))
  have y1 := s1 _ _ hy
  have kt : KeepT H (upd (upd H t (.tup (c.map vI))) D (.lst (ys ++ [.ref t]))) := (KeepT.same s1).trans (.lst y1)
  refine ⟨y1, upd_same, ?_, fun s h0 => same_two (s.trans s1) h0⟩
  rw [List.map_append]
  exact (ly.keep' kt).snoc (Lay.mkCl (KeepT.lst y1 _ _ upd_same))
theorem ok_lclauses (F : Fun K "_law_clauses" "_law_clauses" s_law_clauses f fd) (T : Txt mg) : FnOk P w K mg base CX0 1 f fd ["_law_net_here"] spLClauses := by
  refine F.ok sc_law_clauses (fun vs H Q E h => ?_) (fun cdv A outer s H vs Q E hr h => ?_)
  · obtain ⟨v, N, rfl, _⟩ := h
    rfl
  obtain ⟨v, N, rfl, hv, h1000, q⟩ := h
  have hsz : N.first + N.ands.length ≤ 1000 := h1000
  refine ⟨_, (pss_cons (ps_set (i := 1) sc_law_clauses.nd rfl (Or.inl rfl) (pe_op op_add (pe_op op_add pe_int (pe_callB call_len_seq (by rfl) T.n_len (by decide +kernel) (pa_cons (pe_ix ix_tup (pv 0) pe_int (fun _ _ => rfl)) pa_nil))) (pe_callB call_len_seq (by rfl) T.n_len (by decide +kernel) (pa_cons (pe_ix ix_tup (pv 0) pe_int (fun _ _ => rfl)) pa_nil))))
      (pss_cons (ps_set (i := 2) sc_law_clauses.nd rfl (Or.inl rfl) (pe_lst (pa_cons (pe_tup (pa_cons pe_int pa_nil)) pa_nil)))
      (pss_cons (ps_for PassesOwn.never rfl (pi_range1 rfl T.n_range (pa_cons (pe_callB call_len_seq (by rfl) T.n_len (by decide +kernel) (pa_cons (pe_ix ix_tup (pv 0) pe_int (fun _ _ => rfl)) pa_nil)) pa_nil)) (pg_name (i := 3) sc_law_clauses.nd rfl (Or.inl rfl)) (pss_cons (ps_asg (pe_ix ix_tup (pe_ix ix_tup (pv 0) pe_int (fun _ _ => rfl)) (pv 3) (fun _ _ => rfl)) (pg_tup rfl (pgs_cons (pg_name (i := 4) sc_law_clauses.nd rfl (Or.inl rfl)) (pgs_cons (pg_name (i := 5) sc_law_clauses.nd rfl (Or.inl rfl)) pgs_nil))))
      (pss_cons (ps_set (i := 6) sc_law_clauses.nd rfl (Or.inl rfl) (pe_op op_add (pv 1) (pv 3)))
      (pss_cons (ps_expr (pe_bm PySem.F.plainAttrs_list PySem.F.slot_list_append PySem.F.type_list_append mt_append (pv 2) (pa_cons (pe_tup (pa_cons (pe_op op_add (pe_op op_mul pe_int (pv 6)) pe_int) (pa_cons (pv 4) pa_nil))) pa_nil)))
      (pss_cons (ps_expr (pe_bm PySem.F.plainAttrs_list PySem.F.slot_list_append PySem.F.type_list_append mt_append (pv 2) (pa_cons (pe_tup (pa_cons (pe_op op_add (pe_op op_mul pe_int (pv 6)) pe_int) (pa_cons (pv 5) pa_nil))) pa_nil)))
      (pss_one (ps_expr (pe_bm PySem.F.plainAttrs_list PySem.F.slot_list_append PySem.F.type_list_append mt_append (pv 2) (pa_cons (pe_tup (pa_cons (pe_op op_mul pe_int (pv 6)) (pa_cons (pe_op op_xorB (pv 4) pe_int) (pa_cons (pe_op op_xorB (pv 5) pe_int) pa_nil)))) pa_nil)))))))))
      (pss_one (ps_ret (pv 2)))))), ?_⟩
  obtain ⟨p, pi, pr, pa, po, pc, vr, va, vo, vc, rfl, hN⟩ := hv.net
  have hl := hN.lens
  refine ⟨_, rfl, p, _, _, _, rfl, rfl, SqT.of hN.top, atI_nat (j := 1) rfl, pi, _, rfl, .inr (SqT.of hN.hi), _, _, rfl, rfl, ?_⟩
  refine ⟨_, rfl, p, _, _, _, rfl, rfl, SqT.of hN.top, atI_nat (j := 2) rfl, pr, _, rfl, .inr (SqT.of hN.hr), _, _, rfl, rfl, ?_⟩
  have e : V.int ((1 : Int) + ((N.ins.map V.str).length : Nat) + (vr.length : Nat)) = vI N.first := by
    rw [List.length_map, hl.1]
    show _ = V.int _
    congr 1
  rw [show (fun (i j : Int) => V.int (i + j)) ((1 : Int) + ((N.ins.map V.str).length : Nat)) (vr.length : Nat) = vI N.first from e]
  refine ⟨(by show 1 ≤ sizeLine; decide), fun t0 h0 => ⟨(by show 1 ≤ sizeLine; decide), fun D hD => ?_⟩⟩
  have s0 := same_new h0 (.tup [.int 1])
  have s1 := s0.trans (same_new hD (.lst [.ref t0]))
  have hD0 : H D = none := s0.free hD
  refine ⟨_, rfl, p, _, _, _, rfl, rfl, SqT.of (s1 _ _ hN.top), atI_nat (j := 3) rfl, pa, _, rfl, .inr (SqT.of (s1 _ _ hN.ha)), ?_⟩
  have lc : ∀ i, (N.clausesTo i).length = 1 + 3 * i := fun i => by
    induction i with
    | zero => rfl
    | succ i ih => rw [clausesTo_succ, List.length_append, ih]; show _ + 3 = _; omega
  refine ⟨(va.length : Int), rfl, (i62 (by omega)).1, (i62 (by omega)).2, for_it walk_range (fun i σ' H' => ∃ v3 v4 v5 v6 : Option V, σ' = [some (.ref p), some (vI N.first), some (.ref D), v3, v4, v5, v6] ∧ Same H H' ∧ ∃ ys : List V, H' D = some (.lst ys) ∧ LayAll H' ys ((N.clausesTo i).map clD))
    ⟨_, _, _, _, rfl, s1, [.ref t0], upd_same, .cons (Lay.mkCl (c := [1]) (same_new hD _ _ _ upd_same)) .nil⟩ (fun _ _ _ _ _ => trivial) (fun i x σ' H' H2 hi p y => ?_) (fun σ' H' p => ?_)⟩
  · obtain ⟨v3, v4, v5, v6, rfl, sm, ys, hy, ly⟩ := p
    obtain ⟨rfl, rfl⟩ := y
    have hi : i < va.length := by simpa using hi
    have N2 := hN.keep (.same sm)
    obtain ⟨t, p1, et, hp1, ht⟩ := N2.and_ (List.getElem?_eq_getElem hi)
    have lny := ly.len
    rw [List.length_map, lc] at lny
    refine ⟨_, rfl, p, _, _, _, rfl, rfl, SqT.of N2.top, atI_nat (j := 3) rfl, _, rfl, pa, va, _, .ref t, rfl, rfl, SqT.of N2.ha, ?_, t, _, rfl, SqT.of ht, rfl, _, _, rfl, _, _, rfl, rfl, ?_⟩
    · rw [show (0 + (i : Int)) = ((i : Nat) : Int) by omega]
      exact atI_nat (by rw [List.getElem?_eq_getElem hi, et])
    have m2 : ∀ x : Int, CMul 2 x := fun x => .inl ⟨by decide, by decide⟩
    have en : (N.first : Int) + (0 + (i : Int)) = ((N.first + i : Nat) : Int) := by omega
    refine ⟨_, rfl, _, rfl, _, _, rfl, rfl, ?_⟩
    rw [show (fun (i j : Int) => V.int (i + j)) (N.first : Int) (0 + (i : Int)) = vI (N.first + i) from congrArg V.int en]
    -- the three clauses
    have e1 : ∀ z : V, [V.int ((2 : Int) * ((N.first + i : Nat) : Int) + 1), z] = [vI (2 * (N.first + i) + 1), z] := fun z => congrArg (fun v => [v, z]) (congrArg V.int (by omega))
    have e3 : ∀ z z' : V, [V.int ((2 : Int) * ((N.first + i : Nat) : Int)), z, z'] = [vI (2 * (N.first + i)), z, z'] := fun z z' => congrArg (fun v => [v, z, z']) (congrArg V.int (by omega))
    have bl : ∀ k, k ≤ 4000 → k < sizeLine := fun k hk => Nat.lt_of_le_of_lt hk (by decide)
    refine ⟨_, rfl, .inl ⟨rfl, _, SqL.of hy⟩, ?_⟩
    refine ⟨_, rfl, _, _, rfl, rfl, m2 _, _, _, rfl, rfl, _, rfl, (by show 2 ≤ sizeLine; decide), fun t1 h1 => ?_⟩
    obtain ⟨y1, y2, ly2, sm2⟩ := push_cl hy ly h1 (c := [2 * (N.first + i) + 1, p1.1]) (e1 _)
    refine ⟨D, ys, _, rfl, rfl, y1, bl _ (by omega), ?_⟩
    replace sm2 := sm2 sm hD0
    refine ⟨_, rfl, .inl ⟨rfl, _, SqL.of y2⟩, ?_⟩
    refine ⟨_, rfl, _, _, rfl, rfl, m2 _, _, _, rfl, rfl, _, rfl, (by show 2 ≤ sizeLine; decide), fun t2 h2 => ?_⟩
    obtain ⟨y3, y4, ly4, sm4⟩ := push_cl y2 ly2 h2 (c := [2 * (N.first + i) + 1, p1.2]) (e1 _)
    refine ⟨D, _, _, rfl, rfl, y3, bl _ (by simp only [List.length_append, List.length_cons, List.length_nil]; omega), ?_⟩
    replace sm4 := sm4 sm2 hD0
    refine ⟨_, rfl, .inl ⟨rfl, _, SqL.of y4⟩, ?_⟩
    refine ⟨_, rfl, _, _, rfl, rfl, m2 _, _, rfl, p1.1, 1, rfl, rfl, _, rfl, p1.2, 1, rfl, rfl, (by show 3 ≤ sizeLine; decide), fun t3 h3 => ?_⟩
    obtain ⟨y5, y6, ly6, sm6⟩ := push_cl y4 ly4 h3 (c := [2 * (N.first + i), p1.1 ^^^ 1, p1.2 ^^^ 1]) (e3 _ _)
    refine ⟨D, _, _, rfl, rfl, y5, bl _ (by simp only [List.length_append, List.length_cons, List.length_nil]; omega), ?_⟩
    refine ⟨_, _, _, _, rfl, sm6 sm4 hD0, _, y6, ?_⟩
    rw [clausesTo_succ, and_getD hp1]
    have z : N.clausesTo i ++ andC (N.first + i) p1 = N.clausesTo i ++ [[2 * (N.first + i) + 1, p1.1]] ++ [[2 * (N.first + i) + 1, p1.2]] ++ [[2 * (N.first + i), p1.1 ^^^ 1, p1.2 ^^^ 1]] := by
      rw [List.append_assoc, List.append_assoc]
      rfl
    rw [z]
    exact ly6
  · obtain ⟨v3, v4, v5, v6, rfl, sm, ys, hy, ly⟩ := p
    rw [hl.2.1] at ly
    exact ⟨_, rfl, q D ys H' sm hD0 hy ly⟩
theorem ok_isClauses (F : Fun K "_law_is_clauses" "_law_is_clauses" s_law_is_clauses f fd) (T : Txt mg) (D_law_is_ints : Dn P w K mg base "_law_is_ints" ["_law_row"] 2 (spInts K)) : FnOk P w K mg base CX0 3 f fd ["_law_steps"] (spIsClauses K) := by
  refine F.ok sc_law_is_clauses (fun vs H Q E h => ?_) (fun cdv A outer s H vs Q E hr h => ?_)
  · obtain ⟨a, xs, cs, rfl, _⟩ := h
    rfl
  obtain ⟨a, xs, cs, rfl, hA, lx, hc, hl, q⟩ := h
  refine ⟨_, (pss_one (ps_ret (pe_and (pe_callB (call_isi : CallR _ _ (rIsi K)) (by rfl) T.n_isinstance (by decide +kernel) (pa_cons (pv 0) (pa_cons (pe_bltn rfl T.n_tuple (by decide +kernel) (v := .ty "tuple") rfl) pa_nil))) (pe_one (pe_callB (cr_all rfl) (by rfl) T.n_all (by decide +kernel) (pa_cons (pe_lc (own := [("_law_step", 1)]) (g := gName 1) (tt := tYes) rfl sc_law_is_clauses.nd (pi_tup (pv 0)) (blkOk_by (N := ["_law_steps", "_law_step"]) (sc := defScope s_law_is_clauses) (by decide +kernel)) (fun _ _ _ _ _ => (pg_name (i := 1) sc_law_is_clauses.nd rfl (Or.inl rfl))) (fun _ _ _ _ _ => pts_nil) (fun _ _ _ _ _ => (pe_dn D_law_is_ints (hr.mono (by decide)) (by rfl) (pa_cons (pv 1) pa_nil)))) pa_nil)))))), ?_⟩
  have ln := lx.len
  rw [List.length_map] at ln
  refine ⟨_, rfl, _, _, .type "tuple", .type "tuple", true, rfl, .ty "tuple", .base (.tup hA), kit_ty (by decide +kernel), true, rfl, ?_⟩
  refine iteT ?_
  refine ⟨_, rfl, a, rfl, ⟨_, SqT.of hA⟩, fun D hD => lc_tup (K := K) (a := a) (xs := xs) (fun i H' => Same H H' ∧ H' D = some (.lst ((List.replicate i true).map V.bl)))
    ⟨same_new hD _, upd_same⟩ (fun i H' _ p => seqT_same p.1 (SqT.of hA)) (fun i x H' hx p => ?_) (fun H' p => ?_)⟩
  · have hi := (List.getElem?_eq_some_iff.mp hx).1
    obtain ⟨d, hd, ld⟩ := (lx.keep' (.same p.1)).get i hx
    obtain ⟨c, hc1, rfl⟩ := mapAtD hd
    obtain ⟨t, rfl, ht⟩ := ld.cl
    refine ⟨rfl, _, rfl, t, c, rfl, ht, hc c (List.mem_of_getElem? hc1), fun H2 s2 => ⟨_, s2 _ _ p.2, ?_, same_two (p.1.trans s2) hD, ?_⟩⟩
    · rw [List.length_map, List.length_replicate]
      exact Nat.lt_of_le_of_lt (show i ≤ 100000 by omega) (by decide)
    · rw [upd_same, List.replicate_succ', List.map_append]
      rfl
  · refine ⟨D, _, rfl, SqL.of p.2, ?_⟩
    rw [all_true]
    exact q _ p.1
end
end Bf

set_option Elab.async false
set_option linter.all false
set_option maxRecDepth 100000
set_option maxHeartbeats 4000000
namespace Bf
open PySem PySem.Spec PyProof.Rows L2
/-! ### all clauses at all bits -/
def InLits (ms : List Nat) (cs : List (List Nat)) : Prop := ∀ c ∈ cs, ∀ l ∈ c, l / 2 < ms.length
def spAll (K : PySem.W.Frag) : Sp := fun vs H Q _ => ∃ (a b : Addr) (xs : List V) (cs : List (List Nat)) (ms : List Nat) (W : Nat), vs = [.ref a, .ref b, vI W] ∧ H a = some (.tup xs) ∧ LayAll H xs (cs.map clD) ∧ SqL K H b (ms.map vI) ∧ InLits ms cs ∧ Q (vI (allN ms W cs)) H
section
variable {P : Program} {w : World} {K : PySem.W.Frag} {mg : Str → Option Value} {base : Heap} {f : Addr} {fd : FuncData}
theorem ok_all (F : Fun K "_law_all_true" "_law_all_true" s_law_all_true f fd) (D_law_mask : Dn P w K mg base "_law_mask" ["_law_masks_here", "_law_literal", "_law_whole"] 1 (spMask K)) :
    FnOk P w K mg base CX0 2 f fd ["_law_clauses_here", "_law_masks_here", "_law_whole"] (spAll K) := by
  refine F.ok sc_law_all_true (fun vs H Q E h => ?_) (fun cdv A outer s H vs Q E hr h => ?_)
  · obtain ⟨a, b, xs, cs, ms, W, rfl, _⟩ := h
    rfl
  obtain ⟨a, b, xs, cs, ms, W, rfl, ha, lx, hb, hin, q⟩ := h
  refine ⟨_, (pss_cons (ps_set (i := 3) sc_law_all_true.nd rfl (Or.inl rfl) (pv 2))
      (pss_cons (ps_for PassesOwn.never rfl (pi_tup (pv 0)) (pg_name (i := 4) sc_law_all_true.nd rfl (Or.inl rfl)) (pss_cons (ps_set (i := 5) sc_law_all_true.nd rfl (Or.inl rfl) pe_int)
      (pss_cons (ps_for PassesOwn.never rfl (pi_tup (pv 4)) (pg_name (i := 6) sc_law_all_true.nd rfl (Or.inl rfl)) (pss_one (ps_set (i := 5) sc_law_all_true.nd rfl (Or.inl rfl) (pe_op op_orB (pv 5) (pe_dn D_law_mask (hr.mono (by decide)) (by rfl) (pa_cons (pv 1) (pa_cons (pv 6) (pa_cons (pv 2) pa_nil))))))))
      (pss_one (ps_set (i := 3) sc_law_all_true.nd rfl (Or.inl rfl) (pe_op op_andB (pv 3) (pv 5)))))))
      (pss_one (ps_ret (pv 3))))), ?_⟩
  have ln := lx.len
  rw [List.length_map] at ln
  refine ⟨_, rfl, _, rfl, a, rfl, ⟨xs, SqT.of ha⟩, ?_⟩
  refine for_it (walk_tup (xs := xs)) (fun i σ' H' => ∃ v4 v5 v6 : Option V, σ' = [some (.ref a), some (.ref b), some (vI W), some (vI ((cs.take i).foldl (fun r c => r &&& orN ms W c) W)), v4, v5, v6] ∧ H' = H)
    ⟨_, _, _, rfl, rfl⟩ (fun i σ' H' hi p => ?_) (fun i x σ' H' H3 hi p y => ?_) (fun σ' H' p => ?_)
  · obtain ⟨_, _, _, _, rfl⟩ := p
    exact SqT.of ha
  · obtain ⟨v4, v5, v6, rfl, rfl⟩ := p
    obtain ⟨rfl, ex⟩ := y
    obtain ⟨d, hd, ld⟩ := lx.get i ex
    obtain ⟨c, hc, rfl⟩ := mapAtD hd
    obtain ⟨t, rfl, ht⟩ := ld.cl
    have hc2 := hin c (List.mem_of_getElem? hc)
    refine ⟨_, rfl, t, rfl, ⟨_, SqT.of ht⟩, ?_⟩
    refine for_it (walk_tup (xs := c.map vI)) (fun j σ' H2 => ∃ v6 : Option V, σ' = [some (.ref a), some (.ref b), some (vI W), some (vI ((cs.take i).foldl (fun r c => r &&& orN ms W c) W)), some (.ref t), some (vI ((c.take j).foldl (fun s l => s ||| maskN ms W l) 0)), v6] ∧ H2 = H3)
      ⟨_, rfl, rfl⟩ (fun j σ' H2 hj p => ?_) (fun j x σ' H2 H4 hj p y => ?_) (fun σ' H2 p => ?_)
    · obtain ⟨_, _, rfl⟩ := p
      exact SqT.of ht
    · obtain ⟨v6, rfl, rfl⟩ := p
      obtain ⟨rfl, ex2⟩ := y
      obtain ⟨l, hl, rfl⟩ := natAt ex2
      refine ⟨_, rfl, _, rfl, _, rfl, _, rfl, b, ms, l, W, rfl, hb, hc2 l (List.mem_of_getElem? hl), _, _, rfl, rfl, some (vI l), ?_, rfl⟩
      rw [take_snoc hl, List.foldl_append]
      rfl
    · obtain ⟨v6, rfl, rfl⟩ := p
      rw [List.length_map, List.take_length]
      refine ⟨_, rfl, _, rfl, _, _, rfl, rfl, some (.ref t), some (vI (c.foldl (fun s l => s ||| maskN ms W l) 0)), v6, ?_, rfl⟩
      rw [take_snoc hc, List.foldl_append]
      rfl
  · obtain ⟨v4, v5, v6, rfl, rfl⟩ := p
    rw [ln, List.take_length]
    exact ⟨_, rfl, q⟩
end
def spTells : Sp := fun vs H Q _ => ∃ (v : V) (b : Addr) (xs : List V) (N : Net), vs = [v, .ref b] ∧ Lay H v (netD N) ∧ N.Right ∧ N.many ≤ 12 ∧ N.size ≤ 1000 ∧ H b = some (.tup xs) ∧ LayAll H xs (N.clauses.map clD) ∧ ∀ H', Same H H' → Q (.bl true) H'
theorem clauses_in {N : Net} (R : N.Right) : ∀ c ∈ N.clauses, ∀ l ∈ c, l / 2 < N.size := by
  intro c hc l hl
  rcases mem_clauses hc with rfl | ⟨i, p, h, hc⟩
  · rw [List.mem_singleton.mp hl]
    show 0 < N.first + _
    rw [Net.first_eq]
    omega
  · have hi : i < N.ands.length := (List.getElem?_eq_some_iff.mp h).1
    obtain ⟨r1, r2⟩ := R.ands i p h
    have x1 : ∀ n : Nat, (n ^^^ 1) / 2 = n / 2 := fun n => by
      have := Nat.xor_div_two (a := n) (b := 1)
      simpa using this
    have x2 := x1 p.1
    have x3 := x1 p.2
    show l / 2 < N.first + N.ands.length
    simp only [andC, List.mem_cons, List.not_mem_nil, or_false] at hc
    rcases hc with rfl | rfl | rfl <;> simp only [List.mem_cons, List.not_mem_nil, or_false] at hl
    · rcases hl with rfl | rfl <;> omega
    · rcases hl with rfl | rfl <;> omega
    · rcases hl with rfl | rfl | rfl <;> omega
theorem masks_len (N : Net) : N.masks.length = N.size := masksTo_len N _ (Nat.le_refl _)
theorem spoil_len {ms : List Nat} {n W : Nat} (h : n < ms.length) : (spoil ms n W).length = ms.length := by
  unfold spoil
  rw [List.length_append, List.length_append, List.length_take, List.length_drop]
  simp
  omega
def nodesN (N : Net) (i : Nat) : List Nat := (List.range i).map fun k => N.first + k
theorem nodesN_succ (N : Net) (i : Nat) : nodesN N (i + 1) = nodesN N i ++ [N.first + i] := by
  unfold nodesN
  rw [List.range_succ, List.map_append]
  rfl
theorem nodesN_len (N : Net) (i : Nat) : (nodesN N i).length = i := by simp [nodesN]
theorem spoilt_all {N : Net} (R : N.Right) {n : Nat} (h : n ∈ 0 :: nodesN N N.ands.length) : n < N.size ∧ allN (spoil N.masks n (whole N.many)) (whole N.many) N.clauses = 0 := by
  rcases List.mem_cons.mp h with rfl | h
  · exact ⟨by show 0 < N.first + _; rw [Net.first_eq]; omega, spoilt_zero N⟩
  · obtain ⟨k, hk, rfl⟩ := List.mem_map.mp h
    have hk' := List.mem_range.mp hk
    exact ⟨by show _ < N.first + _; omega, spoilt_and N R hk'⟩
theorem cut_pre (xs : List V) (n : Nat) (h : n ≤ xs.length) : cutV xs none (some (n : Int)) = xs.take n := by
  unfold cutV
  rw [HT.sIx_nat, HT.sIx_none, Nat.min_eq_left h]
  simp
theorem cut_suf (xs : List V) (n : Nat) (h : n ≤ xs.length) : cutV xs (some (n : Int)) none = xs.drop n := by
  unfold cutV
  rw [HT.sIx_nat, HT.sIx_none, Nat.min_eq_left h]
  exact List.take_of_length_le (by rw [List.length_drop] <;> omega)
section
variable {P : Program} {w : World} {K : PySem.W.Frag} {mg : Str → Option Value} {base : Heap} {f : Addr} {fd : FuncData}
theorem ok_tells (F : Fun K "_law_tells_bits" "_law_tells_bits" s_law_tells_bits f fd) (T : Txt mg) (D_law_masks : Dn P w K mg base "_law_masks" ["_law_net_here"] 2 spMasks)
    (D_law_all_true : Dn P w K mg base "_law_all_true" ["_law_clauses_here", "_law_masks_here", "_law_whole"] 2 (spAll K)) : FnOk P w K mg base CX0 3 f fd ["_law_net_here", "_law_clauses_here"] spTells := by
  refine F.ok sc_law_tells_bits (fun vs H Q E h => ?_) (fun cdv A outer s H vs Q E hr h => ?_)
  · obtain ⟨v, b, xs, N, rfl, _⟩ := h
    rfl
  obtain ⟨v, b, xs, N, rfl, hv, R, h12, h1000, hb, lx, q⟩ := h
  have hsz : N.first + N.ands.length ≤ 1000 := h1000
  refine ⟨_, (pss_cons (ps_set (i := 2) sc_law_tells_bits.nd rfl (Or.inr rfl) (pe_op op_addN (pe_callB call_len_seq (by rfl) T.n_len (by decide +kernel) (pa_cons (pe_ix ix_tup (pv 0) pe_int (fun _ _ => rfl)) pa_nil)) (pe_callB call_len_seq (by rfl) T.n_len (by decide +kernel) (pa_cons (pe_ix ix_tup (pv 0) pe_int (fun _ _ => rfl)) pa_nil))))
      (pss_cons (ps_set (i := 3) sc_law_tells_bits.nd rfl (Or.inl rfl) (pe_op op_subN (pe_op op_oneShlN pe_int (pe_op op_oneShlN pe_int (pv 2))) pe_int))
      (pss_cons (ps_set (i := 4) sc_law_tells_bits.nd rfl (Or.inl rfl) (pe_dn D_law_masks (hr.mono (by decide)) (by rfl) (pa_cons (pv 0) pa_nil)))
      (pss_cons (ps_if (pt_cmpR op_ne (pe_dn D_law_all_true (hr.mono (by decide)) (by rfl) (pa_cons (pv 1) (pa_cons (pv 4) (pa_cons (pv 3) pa_nil)))) (pv 3) (nomark _)) (pss_one (ps_ret pe_bl)) pss_nil)
      (pss_cons (ps_for PassesOwn.never rfl (pi_list (pe_op op_cat (pe_lst (pa_cons pe_int pa_nil)) (pe_lc (own := [("_law_k", 7)]) (g := gName 7) (tt := tYes) rfl sc_law_tells_bits.nd (pi_range1 rfl T.n_range (pa_cons (pe_callB call_len_seq (by rfl) T.n_len (by decide +kernel) (pa_cons (pe_ix ix_tup (pv 0) pe_int (fun _ _ => rfl)) pa_nil)) pa_nil)) (blkOk_by (N := ["_law_net_here", "_law_clauses_here", "_law_many", "_law_whole", "_law_masks_here", "_law_node", "_law_spoilt", "_law_k"]) (sc := defScope s_law_tells_bits) (by decide +kernel)) (fun _ _ _ _ _ => (pg_name (i := 7) sc_law_tells_bits.nd rfl (Or.inl rfl))) (fun _ _ _ _ _ => pts_nil) (fun _ _ _ _ _ => (pe_op op_addN (pe_op op_addN pe_int (pv 2)) (pv 7)))))) (pg_name (i := 5) sc_law_tells_bits.nd rfl (Or.inl rfl)) (pss_cons (ps_set (i := 6) sc_law_tells_bits.nd rfl (Or.inl rfl) (pe_op op_cat (pe_op op_cat (pe_slice sl_list (pv 4) po_none (po_some (pv 5))) (pe_lst (pa_cons (pe_op op_xorB (pe_ix ix_list (pv 4) (pv 5) (fun _ _ => rfl)) (pv 3)) pa_nil))) (pe_slice sl_list (pv 4) (po_some (pe_op op_addN (pv 5) pe_int)) po_none)))
      (pss_one (ps_if (pt_cmpR op_ne (pe_dn D_law_all_true (hr.mono (by decide)) (by rfl) (pa_cons (pv 1) (pa_cons (pv 6) (pa_cons (pv 3) pa_nil)))) pe_int (nomark _)) (pss_one (ps_ret pe_bl)) pss_nil))))
      (pss_one (ps_ret pe_bl))))))), ?_⟩
  have hv0 := hv
  obtain ⟨p, pi, pr, pa, po, pc, vr, va, vo, vc, rfl, hN⟩ := hv.net
  have hl := hN.lens
  have b1 : (2 : Nat) ^ N.many ≤ 2 ^ 12 := Nat.pow_le_pow_right (by decide) h12
  have em : (N.ins.map V.str).length + vr.length = N.many := by
    rw [List.length_map, hl.1]
    rfl
  refine ⟨_, rfl, p, _, _, _, rfl, rfl, SqT.of hN.top, atI_nat (j := 1) rfl, pi, _, rfl, .inr (SqT.of hN.hi), _, rfl, p, _, _, _, rfl, rfl, SqT.of hN.top, atI_nat (j := 2) rfl, pr, _, rfl, .inr (SqT.of hN.hr), _, _, rfl, rfl, ?_⟩
  rw [em]
  refine ⟨_, rfl, N.many, rfl, rfl, by omega, 2 ^ N.many, rfl, rfl, by omega, _, 1, rfl, rfl, Nat.pow_pos (by decide), ?_⟩
  refine ⟨_, rfl, _, N, rfl, hv0, R, h12, h1000, fun M H1 s1 hM hf => ?_⟩
  have hin : InLits N.masks N.clauses := fun c hc l hl => by rw [masks_len]; exact clauses_in R c hc l hl
  refine ⟨_, rfl, _, rfl, _, rfl, b, M, xs, N.clauses, N.masks, whole N.many, rfl, s1 _ _ hb, lx.keep' (.same s1), SqL.of hf, hin, ?_⟩
  rw [clauses_hold N R]
  refine ⟨_, rfl, rfl, _, rfl, ifN (by rw [decide_eq_true (show vI (whole N.many) = V.int ((2 ^ 2 ^ N.many - 1 : Nat) : Int) from rfl)]; rfl) ?_⟩
  refine ⟨(by show 1 ≤ sizeLine; decide), fun l0 hl0 => ?_⟩
  have s2 := s1.trans (same_new hl0 (.lst [.int 0]))
  refine ⟨_, rfl, p, _, _, _, rfl, rfl, SqT.of (s2 _ _ hN.top), atI_nat (j := 3) rfl, pa, _, rfl, .inr (SqT.of (s2 _ _ hN.ha)), ?_⟩
  rw [hl.2.1]
  refine ⟨(N.ands.length : Int), rfl, (i62 (by omega)).1, (i62 (by omega)).2, fun D hD => ?_⟩
  refine lc_range (lo := 0) (n := N.ands.length) (fun i H' => Same (upd H1 l0 (.lst [.int 0])) H' ∧ H' D = some (.lst ((nodesN N i).map vI)))
    ⟨same_new hD _, upd_same⟩ (fun i H' hi p => ?_) (fun H2 p => ?_)
  · refine ⟨rfl, _, rfl, 1, _, rfl, rfl, _, rfl, 1 + N.many, i, rfl, congrArg V.int (by omega), _, p.2, ?_, same_two p.1 hD, ?_⟩
    · rw [List.length_map, nodesN_len]
      exact small1000 (by have : i < N.ands.length := hi; omega)
    · rw [upd_same, nodesN_succ, List.map_append, Net.first_eq]
      rfl
  obtain ⟨sm2, hf2⟩ := p
  refine ⟨l0, D, _, _, rfl, rfl, sm2 _ _ upd_same, hf2, ?_, fun Z hZ => ?_⟩
  · rw [List.length_map, nodesN_len]
    exact le1000 (by show 1 + _ ≤ 1000; rw [Net.first_eq] at hsz; omega)
  have ez : ([V.int 0] ++ (nodesN N N.ands.length).map vI) = (0 :: nodesN N N.ands.length).map vI := rfl
  rw [ez]
  have s3 := (s2.trans sm2).trans (same_new hZ (.lst ((0 :: nodesN N N.ands.length).map vI)))
  have g3 : Same H1 (upd H2 Z (.lst ((0 :: nodesN N N.ands.length).map vI))) := ((same_new hl0 _).trans sm2).trans (same_new hZ _)
  refine ⟨Z, rfl, ⟨_, SqL.of upd_same⟩, ?_⟩
  refine for_it (walk_list (xs := (0 :: nodesN N N.ands.length).map vI)) (fun i σ' H' => ∃ v5 v6 v7 : Option V, σ' = [some (.ref p), some (.ref b), some (vI N.many), some (vI (whole N.many)), some (.ref M), v5, v6, v7] ∧ Same (upd H2 Z (.lst ((0 :: nodesN N N.ands.length).map vI))) H')
    ⟨_, _, _, rfl, .refl _⟩ (fun i σ' H' hi p => ?_) (fun i x σ' H' H3 hi p y => ?_) (fun σ' H' p => ?_)
  · obtain ⟨_, _, _, _, sm⟩ := p
    exact SqL.of (sm _ _ upd_same)
  · obtain ⟨v5, v6, v7, rfl, sm⟩ := p
    obtain ⟨rfl, ex⟩ := y
    obtain ⟨n, hn, rfl⟩ := natAt ex
    obtain ⟨nlt, nz⟩ := spoilt_all R (List.mem_of_getElem? hn)
    have hM3 : H3 M = some (.lst (N.masks.map vI)) := sm _ _ (g3 _ _ hf)
    have ml := masks_len N
    have mlv : (N.masks.map vI).length = N.size := by rw [List.length_map, ml]
    have nM : (N.masks.map vI)[n]? = some (vI (N.masks.getD n 0)) := by
      rw [List.getElem?_map, List.getD_eq_getElem?_getD, List.getElem?_eq_getElem (by rw [ml]; exact nlt)]
      rfl
    refine ⟨_, rfl, _, rfl, n, rfl, M, _, rfl, SqL.of hM3, fun t1 h1 => ?_⟩
    rw [cut_pre _ n (by rw [mlv]; omega), ← List.map_take]
    have q1 := same_new h1 (.lst ((N.masks.take n).map vI))
    refine ⟨_, rfl, _, rfl, M, _, _, _, rfl, rfl, SqL.of (q1 _ _ hM3), atI_nat nM, _, rfl, _, _, rfl, rfl, (by show 1 ≤ sizeLine; decide), fun t2 h2 => ?_⟩
    have q2 := q1.trans (same_new h2 (.lst [vI (N.masks.getD n 0 ^^^ whole N.many)]))
    refine ⟨t1, t2, _, _, rfl, rfl, same_new h2 _ _ _ upd_same, upd_same, ?_, fun t3 h3 => ?_⟩
    · rw [List.length_map, List.length_take]
      exact le1000 (by show _ + 1 ≤ 1000; rw [ml]; have : N.size ≤ 1000 := h1000; omega)
    have q3 := q2.trans (same_new h3 (.lst ((N.masks.take n).map vI ++ [vI (N.masks.getD n 0 ^^^ whole N.many)])))
    refine ⟨_, rfl, _, rfl, n, 1, rfl, rfl, _, rfl, M, _, rfl, SqL.of (q3 _ _ hM3), fun t4 h4 => ?_⟩
    rw [cut_suf _ (n + 1) (by rw [mlv]; omega), ← List.map_drop]
    have q4 := q3.trans (same_new h4 (.lst ((N.masks.drop (n + 1)).map vI)))
    refine ⟨t3, t4, _, _, rfl, rfl, same_new h4 _ _ _ upd_same, upd_same, ?_, fun t5 h5 => ?_⟩
    · rw [List.length_append, List.length_map, List.length_map, List.length_take, List.length_drop]
      exact le1000 (by show _ + 1 + _ ≤ 1000; rw [ml]; have : N.size ≤ 1000 := h1000; omega)
    have esp : (N.masks.take n).map vI ++ [vI (N.masks.getD n 0 ^^^ whole N.many)] ++ (N.masks.drop (n + 1)).map vI = (spoil N.masks n (whole N.many)).map vI := by
      unfold spoil
      rw [List.map_append, List.map_append]
      rfl
    rw [esp]
    have q5 := q4.trans (same_new h5 (.lst ((spoil N.masks n (whole N.many)).map vI)))
    have hb5 := q5 _ _ (sm _ _ (s3 _ _ hb))
    refine ⟨_, rfl, _, rfl, _, rfl, b, t5, xs, N.clauses, spoil N.masks n (whole N.many), whole N.many, rfl, hb5, lx.keep' (.same ((s3.trans sm).trans q5)), SqL.of upd_same, fun c hc l hl => by rw [spoil_len (by rw [ml]; exact nlt)]; exact hin c hc l hl, ?_⟩
    rw [nz]
    refine ⟨rfl, _, rfl, ifN (by rfl) ?_⟩
    exact ⟨_, _, _, rfl, sm.trans q5⟩
  · obtain ⟨v5, v6, v7, rfl, sm⟩ := p
    exact q _ (s3.trans sm)
end
end Bf

set_option Elab.async false
set_option linter.all false
set_option maxRecDepth 100000
set_option maxHeartbeats 4000000
namespace Bf
open PySem PySem.Spec PyProof.Rows L2
/-! ### the law -/
def spLaw (K : PySem.W.Frag) : Sp := fun vs H Q _ => ∃ (a : Addr) (ns : List Int), vs = [.ref a] ∧ SqL K H a (ns.map V.int) ∧ ns.length ≤ 63 ∧ ∀ H', Q (.bl true) H'
def Fine (N : Net) : Prop := N.Right ∧ N.many ≤ 7 ∧ N.size ≤ 100
theorem clauses_len {N : Net} {c : List Nat} (h : c ∈ N.clauses) : c.length ≤ 1000 := by
  rcases mem_clauses h with rfl | ⟨i, p, _, hc⟩
  · decide
  · simp only [andC, List.mem_cons, List.not_mem_nil, or_false] at hc
    rcases hc with rfl | rfl | rfl <;> simp
theorem clauses_many (N : Net) : N.clauses.length = 1 + 3 * N.ands.length := by
  have lc : ∀ i, (N.clausesTo i).length = 1 + 3 * i := fun i => by
    induction i with
    | zero => rfl
    | succ i ih => rw [clausesTo_succ, List.length_append, ih]; show _ + 3 = _; omega
  exact lc _
theorem sh_cl (c : List Nat) : Sh 1 (clD c) := Sh.tup fun d hd => by
  obtain ⟨n, _, rfl⟩ := List.mem_map.mp hd
  exact Sh.int _ _
theorem sh_cls (cs : List (List Nat)) : Sh 2 (.list (cs.map clD)) := Sh.lst fun d hd => by
  obtain ⟨c, _, rfl⟩ := List.mem_map.mp hd
  exact sh_cl c
section
variable {P : Program} {w : World} {K : PySem.W.Frag} {mg : Str → Option Value} {base : Heap} {f : Addr} {fd : FuncData}
theorem ok_law (F : Fun K "law" "law" s_law f fd) (T : Txt mg) (D_law_begin : Dn P w K mg base "_law_begin" ["_law_script"] 1 (spBegin K)) (D_law_draw : Dn P w K mg base "_law_draw" ["_law_d", "_law_many"] 1 spDraw)
    (D_law_rare : Dn P w K mg base "_law_rare" ["_law_d", "_law_many"] 2 spRare) (D_law_net : Dn P w K mg base "_law_net" ["_law_d", "_law_inputs", "_law_regs", "_law_ands", "_law_outputs", "_law_claims"] 3 spNet)
    (D_clauses_of : Dn P w K mg base "clauses_of" ["net"] 3 spClausesOf) (D_law_is_clauses : Dn P w K mg base "_law_is_clauses" ["_law_steps"] 3 (spIsClauses K))
    (D_law_clauses : Dn P w K mg base "_law_clauses" ["_law_net_here"] 1 spLClauses) (D_law_tells_bits : Dn P w K mg base "_law_tells_bits" ["_law_net_here", "_law_clauses_here"] 3 spTells) :
    FnOk P w K mg base CX0 4 f fd ["_law_script"] (spLaw K) := by
  refine F.ok sc_law (fun vs H Q E h => ?_) (fun cdv A outer s H vs Q E hr h => ?_)
  · obtain ⟨a, ns, rfl, _⟩ := h
    rfl
  obtain ⟨a, ns, rfl, hS, h63, q⟩ := h
  refine ⟨_, (pss_cons (ps_set (i := 1) sc_law.nd rfl (Or.inl rfl) (pe_dn D_law_begin (hr.mono (by decide)) (by rfl) (pa_cons (pv 0) pa_nil)))
      (C8.pss_cut (ps_set (i := 2) sc_law.nd rfl (Or.inl rfl) (pe_ifExp (pt_val (pe_dn D_law_rare (hr.mono (by decide)) (by rfl) (pa_cons (pv 1) (pa_cons pe_int pa_nil)))) pe_int pe_int))
      (pss_cons (ps_set (i := 3) sc_law.nd rfl (Or.inl rfl) (pe_lst pa_nil))
      (pss_cons (ps_for PassesOwn.never rfl (pi_range1 rfl T.n_range (pa_cons pe_int pa_nil)) (pg_name (i := 4) sc_law.nd rfl (Or.inl rfl)) (pss_cons (ps_par3 (i := 5) (j := 6) (l := 7) (by rfl) sc_law.nd rfl rfl rfl (by decide) (by decide) (by decide) rfl rfl rfl (pa_cons (pe_dn D_law_draw (hr.mono (by decide)) (by rfl) (pa_cons (pv 1) (pa_cons pe_int pa_nil))) (pa_cons (pe_dn D_law_draw (hr.mono (by decide)) (by rfl) (pa_cons (pv 1) (pa_cons pe_int pa_nil))) (pa_cons (pe_dn D_law_draw (hr.mono (by decide)) (by rfl) (pa_cons (pv 1) (pa_cons (pv 2) pa_nil))) pa_nil))) (by rfl))
      (pss_one (ps_expr (pe_bm PySem.F.plainAttrs_list PySem.F.slot_list_append PySem.F.type_list_append mt_append (pv 3) (pa_cons (pe_dn D_law_net (hr.mono (by decide)) (by rfl) (pa_cons (pv 1) (pa_cons (pv 5) (pa_cons (pv 6) (pa_cons (pv 7) (pa_cons pe_int (pa_cons (pe_dn D_law_draw (hr.mono (by decide)) (by rfl) (pa_cons (pv 1) (pa_cons pe_int pa_nil))) pa_nil))))))) pa_nil))))))
      (pss_cons (ps_for PassesOwn.never rfl (pi_list (pe_op op_cat (pv 3) (pe_slice sl_list (pv 3) po_none (po_some pe_int)))) (pg_name (i := 8) sc_law.nd rfl (Or.inl rfl)) (pss_cons (ps_set (i := 9) sc_law.nd rfl (Or.inl rfl) (pe_dn D_clauses_of (hr.mono (by decide)) (by rfl) (pa_cons (pv 8) pa_nil)))
      (pss_cons (ps_if (PW.pt (pw_or (pt_not (pt_val (pe_dn D_law_is_clauses (hr.mono (by decide)) (by rfl) (pa_cons (pv 9) pa_nil)))) (pw_or1 (pt_cmpR (op_neD hr.units) (pe_callTy call_list_of (by rfl) T.n_list (by decide +kernel) (pa_cons (pv 9) pa_nil)) (pe_dn D_law_clauses (hr.mono (by decide)) (by rfl) (pa_cons (pv 8) pa_nil)) (nomark _))))) (pss_one (ps_ret pe_bl)) pss_nil)
      (pss_one (ps_if (pt_not (pt_val (pe_dn D_law_tells_bits (hr.mono (by decide)) (by rfl) (pa_cons (pv 8) (pa_cons (pv 9) pa_nil))))) (pss_one (ps_ret pe_bl)) pss_nil)))))
      (pss_one (ps_ret pe_bl))))))), ?_⟩
  refine ⟨_, rfl, a, ns, rfl, hS, h63, fun d c H1 nd nc hd1 s1 => ?_⟩
  refine ⟨fun σ' H' => ∃ m : Nat, σ' = [some (.ref a), some (.ref d), some (vI m), none, none, none, none, none, none, none] ∧ DS H' d c ∧ 1 ≤ m ∧ m ≤ 31, ?_, ?_⟩
  · refine ⟨_, rfl, d, c, 16, rfl, hd1, by decide, by decide, fun b H2 hd2 k2 => ⟨b, rfl, ?_⟩⟩
    cases b with
    | true => exact iteT ⟨31, rfl, hd2, by omega, by omega⟩
    | false => exact iteF ⟨13, rfl, hd2, by omega, by omega⟩
  rintro σ' H2 ⟨m, rfl, hd2, m1, m31⟩
  refine ⟨Nat.zero_le _, fun L hL => ?_⟩
  obtain ⟨nLd, nLc⟩ := hd2.new hL
  refine ⟨2, rfl, by decide, by decide, for_it walk_range (fun i σ' H' => ∃ (v4 v5 v6 v7 : Option V) (Ns : List Net), σ' = [some (.ref a), some (.ref d), some (vI m), some (.ref L), v4, v5, v6, v7, none, none] ∧ DS H' d c ∧ Acc L netD Ns H' ∧ Ns.length = i ∧ ∀ N ∈ Ns, Fine N)
    ⟨_, _, _, _, [], rfl, hd2.same (same_new hL _), .nil, rfl, fun N hN => by simp at hN⟩ (fun _ _ _ _ _ => trivial) (fun i x σ' H' H3 hi p y => ?_) (fun σ' H' p => ?_)⟩
  · obtain ⟨v4, v5, v6, v7, Ns, rfl, hd3, hA3, hl, hF⟩ := p
    obtain ⟨rfl, rfl⟩ := y
    have hi : i < 2 := hi
    refine ⟨_, rfl, d, c, 5, rfl, hd3, by decide, by decide, fun r H4 r0 r1 hd4 k4 => ?_⟩
    obtain ⟨x1, rfl⟩ := Int.eq_ofNat_of_zero_le r0
    refine ⟨_, rfl, d, c, 4, rfl, hd4, by decide, by decide, fun r H5 r0 r2 hd5 k5 => ?_⟩
    obtain ⟨x2, rfl⟩ := Int.eq_ofNat_of_zero_le r0
    refine ⟨_, rfl, _, rfl, d, c, m, rfl, hd5, by omega, by omega, fun r H6 r0 r3 hd6 k6 => ?_⟩
    obtain ⟨x3, rfl⟩ := Int.eq_ofNat_of_zero_le r0
    refine ⟨_, _, _, rfl, ?_⟩
    have hA7 := (((hA3.keep k4 (k4.tup1 hd3) (by simp [nLd])).keep k5 (k5.tup1 hd4) (by simp [nLd])).keep k6 (k6.tup1 hd5) (by simp [nLd]))
    obtain ⟨lv, elv⟩ := hA7.at_
    refine ⟨_, rfl, .inl ⟨rfl, _, SqL.of elv⟩, ?_⟩
    refine ⟨_, rfl, _, rfl, _, rfl, _, rfl, _, rfl, d, c, 2, rfl, hd6, by decide, by decide, fun r H8 r0 r4 hd8 k8 => ?_⟩
    obtain ⟨x4, rfl⟩ := Int.eq_ofNat_of_zero_le r0
    refine ⟨d, c, x1, x2, x3, 1, x4, rfl, hd8, by omega, by omega, fun v N H9 hv R e1 e2 e3 e4 e5 hd9 k9 => ?_⟩
    have hA9 := (hA7.keep k8 (k8.tup1 hd6) (by simp [nLd])).keep k9 (k9.tup1 hd8) (by simp [nLd])
    obtain ⟨vs, e, hlen, hA10, _⟩ := hA9.push (x := N) hv (by omega)
    refine ⟨L, vs, _, rfl, rfl, e, hlen, _, _, _, _, Ns ++ [N], rfl, hd9.keep (S := [L]) Keep.at1 (by simp [nLd.symm]) (by simp [nLc.symm]), hA10, by rw [List.length_append, hl]; rfl, fun M hM => ?_⟩
    rcases List.mem_append.mp hM with z | z
    · exact hF M z
    · rw [List.mem_singleton.mp z]
      refine ⟨R, ?_, ?_⟩
      · show N.ins.length + N.regs.length ≤ 7
        omega
      · show 1 + N.ins.length + N.regs.length + N.ands.length ≤ 100
        omega
  obtain ⟨v4, v5, v6, v7, Ns, rfl, hd3, ⟨vs, hL3, lvs⟩, hl, hF⟩ := p
  have hl : Ns.length = 2 := hl
  have lv := lvs.len
  rw [List.length_map, hl] at lv
  refine ⟨_, rfl, _, rfl, 1, rfl, L, vs, rfl, SqL.of hL3, fun t1 h1 => ?_⟩
  rw [show (1 : Int) = ((1 : Nat) : Int) from rfl, cut_pre _ 1 (by omega)]
  have s2 := same_new h1 (.lst (vs.take 1))
  refine ⟨L, t1, vs, _, rfl, rfl, s2 _ _ hL3, upd_same, ?_, fun Z hZ => ?_⟩
  · rw [List.length_take, lv]
    exact le1000 (by omega)
  have s3 := s2.trans (same_new hZ (.lst (vs ++ vs.take 1)))
  refine ⟨Z, rfl, ⟨_, SqL.of upd_same⟩, ?_⟩
  refine for_it (walk_list (xs := vs ++ vs.take 1)) (fun i σ' H'' => ∃ (v4 v5 v6 v7 v8 v9 : Option V), σ' = [some (.ref a), some (.ref d), some (vI m), some (.ref L), v4, v5, v6, v7, v8, v9] ∧ Same (upd (upd H' t1 (.lst (vs.take 1))) Z (.lst (vs ++ vs.take 1))) H'')
    ⟨_, _, _, _, _, _, rfl, .refl _⟩ (fun i σ' H' hi p => ?_) (fun i x σ' H'' H3 hi p y => ?_) (fun σ' H' p => ?_)
  · obtain ⟨_, _, _, _, _, _, _, sm⟩ := p
    exact SqL.of (sm _ _ upd_same)
  · obtain ⟨v4, v5, v6, v7, v8, v9, rfl, sm⟩ := p
    obtain ⟨rfl, ex⟩ := y
    have hx : ∃ N, Lay H3 x (netD N) ∧ Fine N := by
      have hm : x ∈ vs := by
        rcases List.mem_append.mp (List.mem_of_getElem? ex) with z | z
        · exact z
        · exact List.mem_of_mem_take z
      obtain ⟨j, hj⟩ := List.mem_iff_getElem?.mp hm
      obtain ⟨d, hd, ld⟩ := (lvs.keep' (.same (s3.trans sm))).get j hj
      obtain ⟨N, hN, rfl⟩ := mapAtD hd
      exact ⟨N, ld, hF N (List.mem_of_getElem? hN)⟩
    obtain ⟨N, hv, R, hm7, h100⟩ := hx
    refine ⟨_, rfl, x, N, rfl, hv, by omega, fun p xs H4 s4 hp lp => ?_⟩
    have lp' := lp.len
    rw [List.length_map, clauses_many] at lp'
    have hnl : N.ands.length ≤ 100 := Nat.le_trans (Nat.le_add_left _ _) h100
    refine ⟨_, rfl, p, xs, N.clauses, rfl, hp, lp, fun c hc => clauses_len hc, by rw [clauses_many]; omega, fun H5 s5 => ⟨true, rfl, iteF ?_⟩⟩
    refine ⟨_, rfl, p, xs, rfl, .inr (SqT.of (s5 _ _ hp)), fun l hl => ?_⟩
    have s6 := s5.trans (same_new hl (.lst xs))
    refine ⟨_, rfl, x, N, rfl, hv.keep' (.same (s4.trans s6)), by omega, fun l2 ys H6 s7 hl2 hy ly => ?_⟩
    have s8 := s6.trans s7
    refine ⟨.list (N.clauses.map clD), .list (N.clauses.map clD), .lst (SqL.of (s7 _ _ upd_same)) (LayAll.dp _ _ (lp.keep' (.same s8))), .lst (SqL.of hy) (LayAll.dp _ _ ly), (sh_cls _).shaped (by omega), (sh_cls _).shaped (by omega), ?_⟩
    rw [eqv_self _ (sh_cls _).1]
    refine ⟨_, rfl, iteF ?_⟩
    refine ⟨_, rfl, _, rfl, x, p, xs, N, rfl, hv.keep' (.same (s4.trans s8)), R, by omega, by omega, s8 _ _ hp, lp.keep' (.same s8), fun H7 s9 => ⟨true, rfl, iteF ?_⟩⟩
    exact ⟨_, _, _, _, _, _, rfl, sm.trans ((s4.trans s8).trans s9)⟩
  · exact q _
end
end Bf

set_option Elab.async false
set_option linter.all false
set_option maxRecDepth 100000
set_option maxHeartbeats 4000000
namespace Bf
open PySem PySem.Spec PyProof.Rows L2
/-! ### what the top has written -/
theorem all_mk {l : PySem.W.OpenLaw} {w : World} {K : PySem.W.Frag} {h : Heap} {mg : Str → Option Value} {fa f__law_draw f__law_begin f__law_pop f__law_rare f__law_pool f__law_is_int f__law_is_ints f__law_drawn_literal f__law_net f__law_patterns f__law_mask f__law_masks f__law_clauses f__law_is_clauses f__law_all_true f__law_tells_bits f_first_and f_ands_of f_and_clauses f_clauses_of f_law : Addr} (X : K.In h) (G : h.Ns mainGlobals mg) (hfa : mg "law" = some (.ref fa))
    {od2 an2 : Option Addr} {sl2 : Array (Option Value)} {oc2 kV2 dc2 pm2 cd2 ct2 : Value}
    {od4 an4 : Option Addr} {sl4 : Array (Option Value)} {oc4 kV4 dc4 pm4 cd4 ct4 : Value}
    {od6 an6 : Option Addr} {sl6 : Array (Option Value)} {oc6 kV6 dc6 pm6 cd6 ct6 : Value}
    {od8 an8 : Option Addr} {sl8 : Array (Option Value)} {oc8 kV8 dc8 pm8 cd8 ct8 : Value}
    {od10 an10 : Option Addr} {sl10 : Array (Option Value)} {oc10 kV10 dc10 pm10 cd10 ct10 : Value}
    {od12 an12 : Option Addr} {sl12 : Array (Option Value)} {oc12 kV12 dc12 pm12 cd12 ct12 : Value}
    {od14 an14 : Option Addr} {sl14 : Array (Option Value)} {oc14 kV14 dc14 pm14 cd14 ct14 : Value}
    {od16 an16 : Option Addr} {sl16 : Array (Option Value)} {oc16 kV16 dc16 pm16 cd16 ct16 : Value}
    {od18 an18 : Option Addr} {sl18 : Array (Option Value)} {oc18 kV18 dc18 pm18 cd18 ct18 : Value}
    {od20 an20 : Option Addr} {sl20 : Array (Option Value)} {oc20 kV20 dc20 pm20 cd20 ct20 : Value}
    {od22 an22 : Option Addr} {sl22 : Array (Option Value)} {oc22 kV22 dc22 pm22 cd22 ct22 : Value}
    {od24 an24 : Option Addr} {sl24 : Array (Option Value)} {oc24 kV24 dc24 pm24 cd24 ct24 : Value}
    {od26 an26 : Option Addr} {sl26 : Array (Option Value)} {oc26 kV26 dc26 pm26 cd26 ct26 : Value}
    {od28 an28 : Option Addr} {sl28 : Array (Option Value)} {oc28 kV28 dc28 pm28 cd28 ct28 : Value}
    {od30 an30 : Option Addr} {sl30 : Array (Option Value)} {oc30 kV30 dc30 pm30 cd30 ct30 : Value}
    {od32 an32 : Option Addr} {sl32 : Array (Option Value)} {oc32 kV32 dc32 pm32 cd32 ct32 : Value}
    {od34 an34 : Option Addr} {sl34 : Array (Option Value)} {oc34 kV34 dc34 pm34 cd34 ct34 : Value}
    {od36 an36 : Option Addr} {sl36 : Array (Option Value)} {oc36 kV36 dc36 pm36 cd36 ct36 : Value}
    {od38 an38 : Option Addr} {sl38 : Array (Option Value)} {oc38 kV38 dc38 pm38 cd38 ct38 : Value}
    {od40 an40 : Option Addr} {sl40 : Array (Option Value)} {oc40 kV40 dc40 pm40 cd40 ct40 : Value}
    {od42 an42 : Option Addr} {sl42 : Array (Option Value)} {oc42 kV42 dc42 pm42 cd42 ct42 : Value}
    (a1 : PySem.W.nsIn K mainGlobals "_law_draw" = some (some (.ref f__law_draw)))
    (l2 : K.lookup f__law_draw = some ⟨oc2, od2, .func (PySem.W.fnOf "_law_draw" "_law_draw" (defArgs s_law_draw) (defBody s_law_draw) (defScope s_law_draw) .none kV2 dc2 pm2 an2 cd2 ct2), sl2⟩) (c2 : PySem.W.codeIn K cd2 "_law_draw" = true) (k2 : PySem.W.keepIn K (.ref f__law_draw) = true)
    (a3 : PySem.W.nsIn K mainGlobals "_law_begin" = some (some (.ref f__law_begin)))
    (l4 : K.lookup f__law_begin = some ⟨oc4, od4, .func (PySem.W.fnOf "_law_begin" "_law_begin" (defArgs s_law_begin) (defBody s_law_begin) (defScope s_law_begin) .none kV4 dc4 pm4 an4 cd4 ct4), sl4⟩) (c4 : PySem.W.codeIn K cd4 "_law_begin" = true) (k4 : PySem.W.keepIn K (.ref f__law_begin) = true)
    (a5 : PySem.W.nsIn K mainGlobals "_law_pop" = some (some (.ref f__law_pop)))
    (l6 : K.lookup f__law_pop = some ⟨oc6, od6, .func (PySem.W.fnOf "_law_pop" "_law_pop" (defArgs s_law_pop) (defBody s_law_pop) (defScope s_law_pop) .none kV6 dc6 pm6 an6 cd6 ct6), sl6⟩) (c6 : PySem.W.codeIn K cd6 "_law_pop" = true) (k6 : PySem.W.keepIn K (.ref f__law_pop) = true)
    (a7 : PySem.W.nsIn K mainGlobals "_law_rare" = some (some (.ref f__law_rare)))
    (l8 : K.lookup f__law_rare = some ⟨oc8, od8, .func (PySem.W.fnOf "_law_rare" "_law_rare" (defArgs s_law_rare) (defBody s_law_rare) (defScope s_law_rare) .none kV8 dc8 pm8 an8 cd8 ct8), sl8⟩) (c8 : PySem.W.codeIn K cd8 "_law_rare" = true) (k8 : PySem.W.keepIn K (.ref f__law_rare) = true)
    (a9 : PySem.W.nsIn K mainGlobals "_law_pool" = some (some (.ref f__law_pool)))
    (l10 : K.lookup f__law_pool = some ⟨oc10, od10, .func (PySem.W.fnOf "_law_pool" "_law_pool" (defArgs s_law_pool) (defBody s_law_pool) (defScope s_law_pool) .none kV10 dc10 pm10 an10 cd10 ct10), sl10⟩) (c10 : PySem.W.codeIn K cd10 "_law_pool" = true) (k10 : PySem.W.keepIn K (.ref f__law_pool) = true)
    (a11 : PySem.W.nsIn K mainGlobals "_law_is_int" = some (some (.ref f__law_is_int)))
    (l12 : K.lookup f__law_is_int = some ⟨oc12, od12, .func (PySem.W.fnOf "_law_is_int" "_law_is_int" (defArgs s_law_is_int) (defBody s_law_is_int) (defScope s_law_is_int) .none kV12 dc12 pm12 an12 cd12 ct12), sl12⟩) (c12 : PySem.W.codeIn K cd12 "_law_is_int" = true) (k12 : PySem.W.keepIn K (.ref f__law_is_int) = true)
    (a13 : PySem.W.nsIn K mainGlobals "_law_is_ints" = some (some (.ref f__law_is_ints)))
    (l14 : K.lookup f__law_is_ints = some ⟨oc14, od14, .func (PySem.W.fnOf "_law_is_ints" "_law_is_ints" (defArgs s_law_is_ints) (defBody s_law_is_ints) (defScope s_law_is_ints) .none kV14 dc14 pm14 an14 cd14 ct14), sl14⟩) (c14 : PySem.W.codeIn K cd14 "_law_is_ints" = true) (k14 : PySem.W.keepIn K (.ref f__law_is_ints) = true)
    (a15 : PySem.W.nsIn K mainGlobals "_law_drawn_literal" = some (some (.ref f__law_drawn_literal)))
    (l16 : K.lookup f__law_drawn_literal = some ⟨oc16, od16, .func (PySem.W.fnOf "_law_drawn_literal" "_law_drawn_literal" (defArgs s_law_drawn_literal) (defBody s_law_drawn_literal) (defScope s_law_drawn_literal) .none kV16 dc16 pm16 an16 cd16 ct16), sl16⟩) (c16 : PySem.W.codeIn K cd16 "_law_drawn_literal" = true) (k16 : PySem.W.keepIn K (.ref f__law_drawn_literal) = true)
    (a17 : PySem.W.nsIn K mainGlobals "_law_net" = some (some (.ref f__law_net)))
    (l18 : K.lookup f__law_net = some ⟨oc18, od18, .func (PySem.W.fnOf "_law_net" "_law_net" (defArgs s_law_net) (defBody s_law_net) (defScope s_law_net) .none kV18 dc18 pm18 an18 cd18 ct18), sl18⟩) (c18 : PySem.W.codeIn K cd18 "_law_net" = true) (k18 : PySem.W.keepIn K (.ref f__law_net) = true)
    (a19 : PySem.W.nsIn K mainGlobals "_law_patterns" = some (some (.ref f__law_patterns)))
    (l20 : K.lookup f__law_patterns = some ⟨oc20, od20, .func (PySem.W.fnOf "_law_patterns" "_law_patterns" (defArgs s_law_patterns) (defBody s_law_patterns) (defScope s_law_patterns) .none kV20 dc20 pm20 an20 cd20 ct20), sl20⟩) (c20 : PySem.W.codeIn K cd20 "_law_patterns" = true) (k20 : PySem.W.keepIn K (.ref f__law_patterns) = true)
    (a21 : PySem.W.nsIn K mainGlobals "_law_mask" = some (some (.ref f__law_mask)))
    (l22 : K.lookup f__law_mask = some ⟨oc22, od22, .func (PySem.W.fnOf "_law_mask" "_law_mask" (defArgs s_law_mask) (defBody s_law_mask) (defScope s_law_mask) .none kV22 dc22 pm22 an22 cd22 ct22), sl22⟩) (c22 : PySem.W.codeIn K cd22 "_law_mask" = true) (k22 : PySem.W.keepIn K (.ref f__law_mask) = true)
    (a23 : PySem.W.nsIn K mainGlobals "_law_masks" = some (some (.ref f__law_masks)))
    (l24 : K.lookup f__law_masks = some ⟨oc24, od24, .func (PySem.W.fnOf "_law_masks" "_law_masks" (defArgs s_law_masks) (defBody s_law_masks) (defScope s_law_masks) .none kV24 dc24 pm24 an24 cd24 ct24), sl24⟩) (c24 : PySem.W.codeIn K cd24 "_law_masks" = true) (k24 : PySem.W.keepIn K (.ref f__law_masks) = true)
    (a25 : PySem.W.nsIn K mainGlobals "_law_clauses" = some (some (.ref f__law_clauses)))
    (l26 : K.lookup f__law_clauses = some ⟨oc26, od26, .func (PySem.W.fnOf "_law_clauses" "_law_clauses" (defArgs s_law_clauses) (defBody s_law_clauses) (defScope s_law_clauses) .none kV26 dc26 pm26 an26 cd26 ct26), sl26⟩) (c26 : PySem.W.codeIn K cd26 "_law_clauses" = true) (k26 : PySem.W.keepIn K (.ref f__law_clauses) = true)
    (a27 : PySem.W.nsIn K mainGlobals "_law_is_clauses" = some (some (.ref f__law_is_clauses)))
    (l28 : K.lookup f__law_is_clauses = some ⟨oc28, od28, .func (PySem.W.fnOf "_law_is_clauses" "_law_is_clauses" (defArgs s_law_is_clauses) (defBody s_law_is_clauses) (defScope s_law_is_clauses) .none kV28 dc28 pm28 an28 cd28 ct28), sl28⟩) (c28 : PySem.W.codeIn K cd28 "_law_is_clauses" = true) (k28 : PySem.W.keepIn K (.ref f__law_is_clauses) = true)
    (a29 : PySem.W.nsIn K mainGlobals "_law_all_true" = some (some (.ref f__law_all_true)))
    (l30 : K.lookup f__law_all_true = some ⟨oc30, od30, .func (PySem.W.fnOf "_law_all_true" "_law_all_true" (defArgs s_law_all_true) (defBody s_law_all_true) (defScope s_law_all_true) .none kV30 dc30 pm30 an30 cd30 ct30), sl30⟩) (c30 : PySem.W.codeIn K cd30 "_law_all_true" = true) (k30 : PySem.W.keepIn K (.ref f__law_all_true) = true)
    (a31 : PySem.W.nsIn K mainGlobals "_law_tells_bits" = some (some (.ref f__law_tells_bits)))
    (l32 : K.lookup f__law_tells_bits = some ⟨oc32, od32, .func (PySem.W.fnOf "_law_tells_bits" "_law_tells_bits" (defArgs s_law_tells_bits) (defBody s_law_tells_bits) (defScope s_law_tells_bits) .none kV32 dc32 pm32 an32 cd32 ct32), sl32⟩) (c32 : PySem.W.codeIn K cd32 "_law_tells_bits" = true) (k32 : PySem.W.keepIn K (.ref f__law_tells_bits) = true)
    (a33 : PySem.W.nsIn K mainGlobals "first_and" = some (some (.ref f_first_and)))
    (l34 : K.lookup f_first_and = some ⟨oc34, od34, .func (PySem.W.fnOf "first_and" "first_and" (defArgs s_first_and) (defBody s_first_and) (defScope s_first_and) .none kV34 dc34 pm34 an34 cd34 ct34), sl34⟩) (c34 : PySem.W.codeIn K cd34 "first_and" = true) (k34 : PySem.W.keepIn K (.ref f_first_and) = true)
    (a35 : PySem.W.nsIn K mainGlobals "ands_of" = some (some (.ref f_ands_of)))
    (l36 : K.lookup f_ands_of = some ⟨oc36, od36, .func (PySem.W.fnOf "ands_of" "ands_of" (defArgs s_ands_of) (defBody s_ands_of) (defScope s_ands_of) .none kV36 dc36 pm36 an36 cd36 ct36), sl36⟩) (c36 : PySem.W.codeIn K cd36 "ands_of" = true) (k36 : PySem.W.keepIn K (.ref f_ands_of) = true)
    (a37 : PySem.W.nsIn K mainGlobals "and_clauses" = some (some (.ref f_and_clauses)))
    (l38 : K.lookup f_and_clauses = some ⟨oc38, od38, .func (PySem.W.fnOf "and_clauses" "and_clauses" (defArgs s_and_clauses) (defBody s_and_clauses) (defScope s_and_clauses) .none kV38 dc38 pm38 an38 cd38 ct38), sl38⟩) (c38 : PySem.W.codeIn K cd38 "and_clauses" = true) (k38 : PySem.W.keepIn K (.ref f_and_clauses) = true)
    (a39 : PySem.W.nsIn K mainGlobals "clauses_of" = some (some (.ref f_clauses_of)))
    (l40 : K.lookup f_clauses_of = some ⟨oc40, od40, .func (PySem.W.fnOf "clauses_of" "clauses_of" (defArgs s_clauses_of) (defBody s_clauses_of) (defScope s_clauses_of) .none kV40 dc40 pm40 an40 cd40 ct40), sl40⟩) (c40 : PySem.W.codeIn K cd40 "clauses_of" = true) (k40 : PySem.W.keepIn K (.ref f_clauses_of) = true)
    (a41 : PySem.W.nsIn K mainGlobals "law" = some (some (.ref f_law)))
    (l42 : K.lookup f_law = some ⟨oc42, od42, .func (PySem.W.fnOf "law" "law" (defArgs s_law) (defBody s_law) (defScope s_law) .none kV42 dc42 pm42 an42 cd42 ct42), sl42⟩) (c42 : PySem.W.codeIn K cd42 "law" = true) (k42 : PySem.W.keepIn K (.ref f_law) = true)
    (z43 : PySem.W.nsIn K mainGlobals "int" = some none)
    (z44 : PySem.W.nsIn K mainGlobals "len" = some none)
    (z45 : PySem.W.nsIn K mainGlobals "abs" = some none)
    (z46 : PySem.W.nsIn K mainGlobals "isinstance" = some none)
    (z47 : PySem.W.nsIn K mainGlobals "range" = some none)
    (z48 : PySem.W.nsIn K mainGlobals "tuple" = some none)
    (z49 : PySem.W.nsIn K mainGlobals "all" = some none)
    (z50 : PySem.W.nsIn K mainGlobals "list" = some none)
    (z51 : PySem.W.nsIn K mainGlobals "enumerate" = some none)
    (z52 : PySem.W.nsIn K mainGlobals "bool" = some none)
    (z53 : PySem.W.nsIn K mainGlobals "max" = some none) :
    ∃ fd : FuncData, (∀ (s : Shared) (v : Value), BindsTo s fd ⟨[v], []⟩ [("_law_script", v)]) ∧ ∀ base : Heap, K.In base → base.Ns mainGlobals mg → FnOk l.prog w K mg base CX0 4 fa fd ["_law_script"] (spLaw K) := by
  have e := hfa.symm.trans (PySem.W.mg_of X G a41)
  cases e
  have T : Txt mg := ⟨PySem.W.mg_none_of X G z43, PySem.W.mg_none_of X G z44, PySem.W.mg_none_of X G z45, PySem.W.mg_none_of X G z46, PySem.W.mg_none_of X G z47, PySem.W.mg_none_of X G z48, PySem.W.mg_none_of X G z49, PySem.W.mg_none_of X G z50, PySem.W.mg_none_of X G z51, PySem.W.mg_none_of X G z52, PySem.W.mg_none_of X G z53⟩
  have F_law_draw := fun_mk (st := s_law_draw) l2 c2 k2
  have F_law_begin := fun_mk (st := s_law_begin) l4 c4 k4
  have F_law_pop := fun_mk (st := s_law_pop) l6 c6 k6
  have F_law_rare := fun_mk (st := s_law_rare) l8 c8 k8
  have F_law_pool := fun_mk (st := s_law_pool) l10 c10 k10
  have F_law_is_int := fun_mk (st := s_law_is_int) l12 c12 k12
  have F_law_is_ints := fun_mk (st := s_law_is_ints) l14 c14 k14
  have F_law_drawn_literal := fun_mk (st := s_law_drawn_literal) l16 c16 k16
  have F_law_net := fun_mk (st := s_law_net) l18 c18 k18
  have F_law_patterns := fun_mk (st := s_law_patterns) l20 c20 k20
  have F_law_mask := fun_mk (st := s_law_mask) l22 c22 k22
  have F_law_masks := fun_mk (st := s_law_masks) l24 c24 k24
  have F_law_clauses := fun_mk (st := s_law_clauses) l26 c26 k26
  have F_law_is_clauses := fun_mk (st := s_law_is_clauses) l28 c28 k28
  have F_law_all_true := fun_mk (st := s_law_all_true) l30 c30 k30
  have F_law_tells_bits := fun_mk (st := s_law_tells_bits) l32 c32 k32
  have F_first_and := fun_mk (st := s_first_and) l34 c34 k34
  have F_ands_of := fun_mk (st := s_ands_of) l36 c36 k36
  have F_and_clauses := fun_mk (st := s_and_clauses) l38 c38 k38
  have F_clauses_of := fun_mk (st := s_clauses_of) l40 c40 k40
  have F_law := fun_mk (st := s_law) l42 c42 k42
  refine ⟨PySem.W.fnOf "law" "law" (defArgs s_law) (defBody s_law) (defScope s_law) .none kV42 dc42 pm42 an42 cd42 ct42, fun s v => .of_eq rfl, fun base _ _ => ?_⟩
  have D_law_draw : Dn l.prog w K mg base "_law_draw" ["_law_d", "_law_many"] 1 spDraw := ⟨f__law_draw, _, ok_draw F_law_draw T, PySem.W.mg_of X G a1, k2, (F_law_draw.binds (ps := ["_law_d", "_law_many"]) fun _ _ _ _ _ _ us hl => match us, hl with | [_, _], _ => rfl)⟩
  have D_law_begin : Dn l.prog w K mg base "_law_begin" ["_law_script"] 1 (spBegin K) := ⟨f__law_begin, _, ok_begin F_law_begin T, PySem.W.mg_of X G a3, k4, (F_law_begin.binds (ps := ["_law_script"]) fun _ _ _ _ _ _ us hl => match us, hl with | [_], _ => rfl)⟩
  have D_law_pop : Dn l.prog w K mg base "_law_pop" ["_law_d", "_law_row"] 2 spPop := ⟨f__law_pop, _, ok_pop F_law_pop T D_law_draw, PySem.W.mg_of X G a5, k6, (F_law_pop.binds (ps := ["_law_d", "_law_row"]) fun _ _ _ _ _ _ us hl => match us, hl with | [_, _], _ => rfl)⟩
  have D_law_rare : Dn l.prog w K mg base "_law_rare" ["_law_d", "_law_many"] 2 spRare := ⟨f__law_rare, _, ok_rare F_law_rare T D_law_draw, PySem.W.mg_of X G a7, k8, (F_law_rare.binds (ps := ["_law_d", "_law_many"]) fun _ _ _ _ _ _ us hl => match us, hl with | [_, _], _ => rfl)⟩
  have D_law_pool : Dn l.prog w K mg base "_law_pool" [] 1 spPool := ⟨f__law_pool, _, ok_pool F_law_pool , PySem.W.mg_of X G a9, k10, (F_law_pool.binds (ps := []) fun _ _ _ _ _ _ us hl => match us, hl with | [], _ => rfl)⟩
  have D_law_is_int : Dn l.prog w K mg base "_law_is_int" ["_law_thing"] 1 spIsInt := ⟨f__law_is_int, _, ok_isInt F_law_is_int T, PySem.W.mg_of X G a11, k12, (F_law_is_int.binds (ps := ["_law_thing"]) fun _ _ _ _ _ _ us hl => match us, hl with | [_], _ => rfl)⟩
  have D_law_is_ints : Dn l.prog w K mg base "_law_is_ints" ["_law_row"] 2 (spInts K) := ⟨f__law_is_ints, _, ok_ints F_law_is_ints T D_law_is_int, PySem.W.mg_of X G a13, k14, (F_law_is_ints.binds (ps := ["_law_row"]) fun _ _ _ _ _ _ us hl => match us, hl with | [_], _ => rfl)⟩
  have D_law_drawn_literal : Dn l.prog w K mg base "_law_drawn_literal" ["_law_d", "_law_size"] 2 spLit := ⟨f__law_drawn_literal, _, ok_lit F_law_drawn_literal T D_law_draw, PySem.W.mg_of X G a15, k16, (F_law_drawn_literal.binds (ps := ["_law_d", "_law_size"]) fun _ _ _ _ _ _ us hl => match us, hl with | [_, _], _ => rfl)⟩
  have D_law_net : Dn l.prog w K mg base "_law_net" ["_law_d", "_law_inputs", "_law_regs", "_law_ands", "_law_outputs", "_law_claims"] 3 spNet := ⟨f__law_net, _, ok_net F_law_net T D_law_draw D_law_pop D_law_pool D_law_drawn_literal, PySem.W.mg_of X G a17, k18, (F_law_net.binds (ps := ["_law_d", "_law_inputs", "_law_regs", "_law_ands", "_law_outputs", "_law_claims"]) fun _ _ _ _ _ _ us hl => match us, hl with | [_, _, _, _, _, _], _ => rfl)⟩
  have D_law_patterns : Dn l.prog w K mg base "_law_patterns" ["_law_many"] 1 spPats := ⟨f__law_patterns, _, ok_pats F_law_patterns T, PySem.W.mg_of X G a19, k20, (F_law_patterns.binds (ps := ["_law_many"]) fun _ _ _ _ _ _ us hl => match us, hl with | [_], _ => rfl)⟩
  have D_law_mask : Dn l.prog w K mg base "_law_mask" ["_law_masks_here", "_law_literal", "_law_whole"] 1 (spMask K) := ⟨f__law_mask, _, ok_mask F_law_mask , PySem.W.mg_of X G a21, k22, (F_law_mask.binds (ps := ["_law_masks_here", "_law_literal", "_law_whole"]) fun _ _ _ _ _ _ us hl => match us, hl with | [_, _, _], _ => rfl)⟩
  have D_law_masks : Dn l.prog w K mg base "_law_masks" ["_law_net_here"] 2 spMasks := ⟨f__law_masks, _, ok_masks F_law_masks T D_law_patterns D_law_mask, PySem.W.mg_of X G a23, k24, (F_law_masks.binds (ps := ["_law_net_here"]) fun _ _ _ _ _ _ us hl => match us, hl with | [_], _ => rfl)⟩
  have D_law_clauses : Dn l.prog w K mg base "_law_clauses" ["_law_net_here"] 1 spLClauses := ⟨f__law_clauses, _, ok_lclauses F_law_clauses T, PySem.W.mg_of X G a25, k26, (F_law_clauses.binds (ps := ["_law_net_here"]) fun _ _ _ _ _ _ us hl => match us, hl with | [_], _ => rfl)⟩
  have D_law_is_clauses : Dn l.prog w K mg base "_law_is_clauses" ["_law_steps"] 3 (spIsClauses K) := ⟨f__law_is_clauses, _, ok_isClauses F_law_is_clauses T D_law_is_ints, PySem.W.mg_of X G a27, k28, (F_law_is_clauses.binds (ps := ["_law_steps"]) fun _ _ _ _ _ _ us hl => match us, hl with | [_], _ => rfl)⟩
  have D_law_all_true : Dn l.prog w K mg base "_law_all_true" ["_law_clauses_here", "_law_masks_here", "_law_whole"] 2 (spAll K) := ⟨f__law_all_true, _, ok_all F_law_all_true D_law_mask, PySem.W.mg_of X G a29, k30, (F_law_all_true.binds (ps := ["_law_clauses_here", "_law_masks_here", "_law_whole"]) fun _ _ _ _ _ _ us hl => match us, hl with | [_, _, _], _ => rfl)⟩
  have D_law_tells_bits : Dn l.prog w K mg base "_law_tells_bits" ["_law_net_here", "_law_clauses_here"] 3 spTells := ⟨f__law_tells_bits, _, ok_tells F_law_tells_bits T D_law_masks D_law_all_true, PySem.W.mg_of X G a31, k32, (F_law_tells_bits.binds (ps := ["_law_net_here", "_law_clauses_here"]) fun _ _ _ _ _ _ us hl => match us, hl with | [_, _], _ => rfl)⟩
  have D_first_and : Dn l.prog w K mg base "first_and" ["net"] 1 spFirst := ⟨f_first_and, _, ok_first F_first_and T, PySem.W.mg_of X G a33, k34, (F_first_and.binds (ps := ["net"]) fun _ _ _ _ _ _ us hl => match us, hl with | [_], _ => rfl)⟩
  have D_ands_of : Dn l.prog w K mg base "ands_of" ["net"] 2 spAndsOf := ⟨f_ands_of, _, ok_andsOf F_ands_of T D_first_and, PySem.W.mg_of X G a35, k36, (F_ands_of.binds (ps := ["net"]) fun _ _ _ _ _ _ us hl => match us, hl with | [_], _ => rfl)⟩
  have D_and_clauses : Dn l.prog w K mg base "and_clauses" ["node", "left", "right"] 1 spAndC := ⟨f_and_clauses, _, ok_andC F_and_clauses , PySem.W.mg_of X G a37, k38, (F_and_clauses.binds (ps := ["node", "left", "right"]) fun _ _ _ _ _ _ us hl => match us, hl with | [_, _, _], _ => rfl)⟩
  have D_clauses_of : Dn l.prog w K mg base "clauses_of" ["net"] 3 spClausesOf := ⟨f_clauses_of, _, ok_clausesOf F_clauses_of T D_ands_of D_and_clauses, PySem.W.mg_of X G a39, k40, (F_clauses_of.binds (ps := ["net"]) fun _ _ _ _ _ _ us hl => match us, hl with | [_], _ => rfl)⟩
  exact ok_law F_law T D_law_begin D_law_draw D_law_rare D_law_net D_clauses_of D_law_is_clauses D_law_clauses D_law_tells_bits
end Bf
open PySem PySem.W PyProof.Rows
set_option maxRecDepth 100000 in
set_option maxHeartbeats 0 in
theorem PySem.Challenge.cw_beatfabric_k39_clauses_holds : PySem.Challenge.rw_beatfabric_k39_clauses.Holds := by
  w_on; o_law; k_head; (case hw => w_witness2)
  k_fill
  refine L2.walk_of (l := PySem.Challenge.rw_beatfabric_k39_clauses) (n := 63) (k := 4) (x := "_law_script") (CX := fun _ => L2.CX0) (sp := fun w => Bf.spLaw _) rfl (by decide) rfl ⟨rfl, by decide, by decide⟩ (fun w h Y => PySem.W.kIn_of Y) ?F (fun _ _ a ns hl _ hS => ⟨a, ns, rfl, hS, hl, fun _ => rfl⟩) (fun _ _ _ _ _ h => h)
  case F =>
    intro w mg fa h KX G hmg
    refine' Bf.all_mk KX G hmg ?a1 ?l2 ?c2 ?k2 ?a3 ?l4 ?c4 ?k4 ?a5 ?l6 ?c6 ?k6 ?a7 ?l8 ?c8 ?k8 ?a9 ?l10 ?c10 ?k10 ?a11 ?l12 ?c12 ?k12 ?a13 ?l14 ?c14 ?k14 ?a15 ?l16 ?c16 ?k16 ?a17 ?l18 ?c18 ?k18 ?a19 ?l20 ?c20 ?k20 ?a21 ?l22 ?c22 ?k22 ?a23 ?l24 ?c24 ?k24 ?a25 ?l26 ?c26 ?k26 ?a27 ?l28 ?c28 ?k28 ?a29 ?l30 ?c30 ?k30 ?a31 ?l32 ?c32 ?k32 ?a33 ?l34 ?c34 ?k34 ?a35 ?l36 ?c36 ?k36 ?a37 ?l38 ?c38 ?k38 ?a39 ?l40 ?c40 ?k40 ?a41 ?l42 ?c42 ?k42 ?z43 ?z44 ?z45 ?z46 ?z47 ?z48 ?z49 ?z50 ?z51 ?z52 ?z53
    (case a1 => k_is)
    (case l2 => k_is)
    (case c2 => k_is)
    (case k2 => k_is)
    (case a3 => k_is)
    (case l4 => k_is)
    (case c4 => k_is)
    (case k4 => k_is)
    (case a5 => k_is)
    (case l6 => k_is)
    (case c6 => k_is)
    (case k6 => k_is)
    (case a7 => k_is)
    (case l8 => k_is)
    (case c8 => k_is)
    (case k8 => k_is)
    (case a9 => k_is)
    (case l10 => k_is)
    (case c10 => k_is)
    (case k10 => k_is)
    (case a11 => k_is)
    (case l12 => k_is)
    (case c12 => k_is)
    (case k12 => k_is)
    (case a13 => k_is)
    (case l14 => k_is)
    (case c14 => k_is)
    (case k14 => k_is)
    (case a15 => k_is)
    (case l16 => k_is)
    (case c16 => k_is)
    (case k16 => k_is)
    (case a17 => k_is)
    (case l18 => k_is)
    (case c18 => k_is)
    (case k18 => k_is)
    (case a19 => k_is)
    (case l20 => k_is)
    (case c20 => k_is)
    (case k20 => k_is)
    (case a21 => k_is)
    (case l22 => k_is)
    (case c22 => k_is)
    (case k22 => k_is)
    (case a23 => k_is)
    (case l24 => k_is)
    (case c24 => k_is)
    (case k24 => k_is)
    (case a25 => k_is)
    (case l26 => k_is)
    (case c26 => k_is)
    (case k26 => k_is)
    (case a27 => k_is)
    (case l28 => k_is)
    (case c28 => k_is)
    (case k28 => k_is)
    (case a29 => k_is)
    (case l30 => k_is)
    (case c30 => k_is)
    (case k30 => k_is)
    (case a31 => k_is)
    (case l32 => k_is)
    (case c32 => k_is)
    (case k32 => k_is)
    (case a33 => k_is)
    (case l34 => k_is)
    (case c34 => k_is)
    (case k34 => k_is)
    (case a35 => k_is)
    (case l36 => k_is)
    (case c36 => k_is)
    (case k36 => k_is)
    (case a37 => k_is)
    (case l38 => k_is)
    (case c38 => k_is)
    (case k38 => k_is)
    (case a39 => k_is)
    (case l40 => k_is)
    (case c40 => k_is)
    (case k40 => k_is)
    (case a41 => k_is)
    (case l42 => k_is)
    (case c42 => k_is)
    (case k42 => k_is)
    (case z43 => k_is)
    (case z44 => k_is)
    (case z45 => k_is)
    (case z46 => k_is)
    (case z47 => k_is)
    (case z48 => k_is)
    (case z49 => k_is)
    (case z50 => k_is)
    (case z51 => k_is)
    (case z52 => k_is)
    (case z53 => k_is)
