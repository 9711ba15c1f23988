import PyProof.Rows.All
import Wide.All
import OpenK.AllK
import Wide.FinOn
import HandS.Base
import HandS.Call
import HandS.List
import HandS.Comp
import HandS.Ends
import HandS.Words
import HandS.Wide
import HandS.WideBits
import HandS.More
import HandS.IsInst
import HandS.CallLocal
import HandS.Text
import HandS.Iter
import HandS.Dict
import HandS.Defaults
import HandS.DeepEq
import HandS.Codes
import HandS.Zip
import HandS.Walk
import HandS.TupAny
import KE.GoesEnum
import KE.GoesMore
import HandS.Style
import HandS.SortInts
import PySem.PyData
import HandS.Conv
import PySem.Challenge.RW_beatfabric_k28_codes_found
set_option Elab.async false
set_option linter.all false
set_option maxRecDepth 100000
set_option maxHeartbeats 4000000
namespace Bf
open PySem PySem.Spec PyProof.Rows L2

/-! ### rules that the layer lacks -/
section
variable {X : Cx}
def rGetL : V → V → Hp → VK → Prop := fun o i H Q => ∃ p xs k v, o = .ref p ∧ i = .int k ∧ H p = some (.lst xs) ∧ atI xs k = some v ∧ Q v H
theorem get_list : PGet X rGetL := by
  intro pins s σ H o i ov iv Q I ro ri h
  obtain ⟨p, xs, k, z, rfl, rfl, hp, he, q⟩ := h
  cases ro
  obtain ⟨t, rfl⟩ := ri
  obtain ⟨its, r, pl, hz⟩ := I.list (SqL.of hp)
  obtain ⟨j, h1, h2, h3, h4, h5⟩ := atI_get he
  obtain ⟨w, ew, rw'⟩ := r.get h2
  have hl := r.length
  have hn := line63
  have fin : EP X pins σ Q w s := ⟨z, H, I, rw', q⟩
  by_cases h0 : 0 ≤ k
  · have hj : k.toNat = j := by
      rw [seqIndex_of h0 h5] at h1
      exact Option.some.inj h1
    refine PySem.wpAny_getItem_list pl.isList h0 (by omega) (by rw [hj]; simpa using ew) fin
  · have hj : (k + (its.toArray.size : Int)).toNat = j := by
      rw [seqIndex_neg (by omega) h4] at h1
      rw [List.size_toArray, ← hl]
      exact Option.some.inj h1
    exact wpAny_getItem_list_neg pl.isList (by omega) (by rw [List.size_toArray] <;> omega) (by omega) (by rw [hj]; simpa using ew) fin

/-- max, min of two numbers that are not negative -/
theorem cr_maxN (hc : X.calm = true) : CallR X (.builtin "max") (fun xs H Q => ∃ i j : Nat, xs = [V.int i, V.int j] ∧ Q (V.int ((max i j : Nat) : Int)) H) := by
  intro pins s σ H vs us Q I r h
  obtain ⟨i, j, rfl, q⟩ := h
  refine call_max2 hc pins s σ H _ us Q I r ⟨i, j, rfl, ?_⟩
  have e : (if (j : Int) > (i : Int) then (j : Int) else (i : Int)) = ((max i j : Nat) : Int) := by
    by_cases h : (j : Int) > i
    · rw [if_pos h, Nat.max_eq_right (by omega)]
    · rw [if_neg h, Nat.max_eq_left (by omega)]
  rw [e]
  exact q
theorem cr_minN (hc : X.calm = true) : CallR X (.builtin "min") (fun xs H Q => ∃ i j : Nat, xs = [V.int i, V.int j] ∧ Q (V.int ((min i j : Nat) : Int)) H) := by
  intro pins s σ H vs us Q I r h
  obtain ⟨i, j, rfl, q⟩ := h
  refine call_min2 hc pins s σ H _ us Q I r ⟨i, j, rfl, ?_⟩
  have e : (if (j : Int) < (i : Int) then (j : Int) else (i : Int)) = ((min i j : Nat) : Int) := by
    by_cases h : (j : Int) < i
    · rw [if_pos h, Nat.min_eq_right (by omega)]
    · rw [if_neg h, Nat.min_eq_left (by omega)]
  rw [e]
  exact q
/-- sum of a tuple of ints -/
def rSumT (K : PySem.W.Frag) : List V → Hp → VK → Prop := fun vs H Q => ∃ (a : Addr) (ns : List Int), vs = [V.ref a] ∧ SqT K H a (ns.map V.int) ∧ Q (.int ns.sum) H
theorem cr_sumT (hc : X.calm = true) : CallR X (.builtin "sum") (rSumT X.K) := by
  intro pins s σ H vs us Q I r h
  obtain ⟨a, ns, rfl, hs, q⟩ := h
  obtain ⟨its, rv, hl, _⟩ := I.tuple hs
  rw [Vals.ref1 r]
  obtain ⟨xs, e⟩ := rv.ints.allInts.items
  have hn : numsOf (intItems xs).toList = ns := by rw [← e]; exact rv.ints.numsOf
  rw [nums_intItems] at hn
  have hl' : s.heap.IsTuple a (intItems xs) := by
    rw [← e]
    exact hl
  refine PySem.W.ktm_sumG (I.ok.hd hc) hl' fun h' tk t' hk => ?_
  rw [preSum_eq, List.take_of_length_le (by simp), hn]
  exact ⟨.int _, H, I.kept hk, ⟨_, rfl⟩, q⟩
end

/-- a def that stands, with its promise -/
def vI (n : Nat) : V := .int (n : Int)
structure Dn (P : Program) (w : World) (K : PySem.W.Frag) (mg : Str → Option Value) (base : Heap) (x : Str) (ps : List Str) (k : Nat) (sp : Sp) : Prop where
  ex : ∃ (f : Addr) (fd : FuncData), FnOk P w K mg base CX0 k f fd ps sp ∧ mg x = some (.ref f) ∧ PySem.W.keepIn K (.ref f) = true ∧ Binds K fd ps []
def tCallD (sp : Sp) (t : TA) : TE := fun σ H Q => t σ H fun vs H1 => sp vs H1 Q E0
section
variable {X : Cx} {x : Str} {ps : List Str} {k : Nat} {sp : Sp} {e : Expr} {es : List Expr} {t : TA} {p pos : Pos}
theorem pe_dn (D : Dn X.prog X.w X.K X.mg X.base x ps k sp) (hr : Room k X.A) (hg : Gl X x) (ha : PA X (e :: es) t) (hdb : (x == ("__debug__" : Str)) = false := by decide)
    (he : starEach (e :: es) X.env = (false, eval e X.env) :: starEach es X.env := by rfl) (hpl : (backTo pos (starEach es X.env)).any (·.1) = false := by rfl) :
    PE X (.Call (.Name x p) (e :: es) [] pos) (tCallD sp t) := by
  obtain ⟨f, fd, F, hm, hk, hb⟩ := D.ex
  refine ⟨fun pins s σ H Q I h => (pe_call (E := E0) F hr hg hm hk hb .nil pass0 ha hdb he hpl).run pins s σ H Q I ?_⟩
  have e0 : (fun (vs : List V) (H1 : Hp) => sp (vs ++ []) H1 Q E0) = fun vs H1 => sp vs H1 Q E0 := by
    funext vs H1
    rw [List.append_nil]
  show t σ H (fun vs H1 => sp (vs ++ []) H1 Q E0)
  rw [e0]
  exact h
theorem pe_dn0 (D : Dn X.prog X.w X.K X.mg X.base x ps k sp) (hr : Room k X.A) (hg : Gl X x) (hdb : (x == ("__debug__" : Str)) = false := by decide) :
    PE X (.Call (.Name x p) [] [] pos) (tCallD sp tNil) := by
  obtain ⟨f, fd, F, hm, hk, hb⟩ := D.ex
  exact ⟨fun pins s σ H Q I h => (pe_call0 (E := E0) F hr hg hm hk hb .nil pass0 hdb).run pins s σ H Q I h⟩
end
/-- the same where the last arguments are defaults -/
structure DnD (P : Program) (w : World) (K : PySem.W.Frag) (mg : Str → Option Value) (base : Heap) (x : Str) (ps : List Str) (dvs : List V) (k : Nat) (sp : Sp) : Prop where
  ex : ∃ (f : Addr) (fd : FuncData) (ds : List Value), FnOk P w K mg base CX0 k f fd ps sp ∧ mg x = some (.ref f) ∧ PySem.W.keepIn K (.ref f) = true ∧ Binds K fd ps ds ∧ Vals dvs ds
theorem pe_dnD {X : Cx} {x : Str} {ps : List Str} {dvs : List V} {k : Nat} {sp : Sp} {e : Expr} {es : List Expr} {t : TA} {p pos : Pos} (D : DnD X.prog X.w X.K X.mg X.base x ps dvs k sp) (hr : Room k X.A) (hg : Gl X x) (ha : PA X (e :: es) t) (hdb : (x == ("__debug__" : Str)) = false := by decide)
    (he : starEach (e :: es) X.env = (false, eval e X.env) :: starEach es X.env := by rfl) (hpl : (backTo pos (starEach es X.env)).any (·.1) = false := by rfl) :
    PE X (.Call (.Name x p) (e :: es) [] pos) (tCall sp dvs E0 t) := by
  obtain ⟨f, fd, ds, F, hm, hk, hb, hv⟩ := D.ex
  exact pe_call (E := E0) F hr hg hm hk hb hv pass0 ha hdb he hpl
/-- a def of the text, its promise: the level a letter -/
theorem Dn.mk' {P : Program} {w : World} {K : PySem.W.Frag} {mg : Str → Option Value} {base : Heap} {x : Str} {st : Stmt} {ps : List Str} {k : Nat} {sp : Sp} {f : Addr} {fd : FuncData}
    (F : Fun K x x st f fd) (hm : mg x = some (.ref f)) (hb : Binds K fd ps []) (ok : FnOk P w K mg base CX0 k f fd ps sp) : Dn P w K mg base x ps k sp :=
  ⟨f, fd, ok, hm, F.kp, hb⟩
end Bf
namespace Bf
open PySem PySem.Spec PyProof.Rows L2
section
variable {X : Cx} {d : Addr} {es : Array DictEntry} {n : Nat}
/-- d[k], d a dict of the module with text keys -/
theorem ix_kd (D : KDict X.K X.w d es n) : IxR X (fun x y H Q => ∃ (z : Str) (u0 : Value) (v0 : V), x = .ref d ∧ y = .str z ∧ PySem.W.nsIn X.K d z = some (some u0) ∧ RelV v0 u0 ∧ Q v0 H) := by
  intro value slice pins s σ H x y v u Q I rx ry h hs
  have h0 := h
  obtain ⟨z, u0, v0, rfl, rfl, e, r, q⟩ := h
  cases rx
  exact tail_any (kd_type D I) PySem.slot_dict_getitem.lookup (op_item_kd D pins s σ H (V.ref d) (V.str z) _ u Q I (show RelV (V.ref d) (Value.ref d) from rfl) ry h0) hs
/-- of several defs that the slot may hold: the def and its promise are told in the reading -/
def tCallH (P : Program) (w : World) (K : PySem.W.Frag) (mg : Str → Option Value) (base : Heap) (k i : Nat) (t : TA) : TE := fun σ H Q => ∃ f sp fd ps, σ[i]? = some (some (.ref f)) ∧ FnOk P w K mg base CX0 k f fd ps sp ∧ PySem.W.keepIn K (.ref f) = true ∧ Binds K fd ps [] ∧ t σ H fun vs H1 => sp vs H1 Q E0
theorem pe_held {i k : Nat} {x : Str} {p pos : Pos} {e : Expr} {es : List Expr} {t : TA} (hr : Room k X.A) (hN : X.N[i]? = some x) (hv : Vis X.env.scope x) (ha : PA X (e :: es) t)
    (hdb : (x == ("__debug__" : Str)) = false := by decide) (hcd : (x == ("__classdict__" : Str)) = false := by decide)
    (he : starEach (e :: es) X.env = (false, eval e X.env) :: starEach es X.env := by rfl) (hpl : (backTo pos (starEach es X.env)).any (·.1) = false := by rfl) : PE X (.Call (.Name x p) (e :: es) [] pos) (tCallH X.prog X.w X.K X.mg X.base k i t) := by
  refine ⟨fun pins s σ H Q I h => ?_⟩
  obtain ⟨f, sp, fd, ps, hs, F, hk, hb, ht⟩ := h
  refine (pe_callL (i := i) (f := f) (sp := sp) (dvs := []) (E := E0) F hr hN hv hk hb .nil pass0 ha hdb hcd he hpl).run pins s σ H Q I ⟨hs, ?_⟩
  have e0 : (fun (vs : List V) (H1 : Hp) => sp (vs ++ []) H1 Q E0) = fun vs H1 => sp vs H1 Q E0 := by
    funext vs H1
    rw [List.append_nil]
  show t σ H (fun vs H1 => sp (vs ++ []) H1 Q E0)
  rw [e0]
  exact ht
end
end Bf

set_option Elab.async false
set_option linter.all false
set_option maxRecDepth 100000
set_option maxHeartbeats 4000000
namespace Bf
open PySem PySem.Spec PyProof.Rows L2
/-! ### small steps of a reading -/
theorem ifY {c : Bool} {A B : Prop} (e : c = true) (h : A) : if c = true then A else B := by
  rw [if_pos e]
  exact h
theorem ifN {c : Bool} {A B : Prop} (e : c = false) (h : B) : if c = true then A else B := by
  rw [e]
  exact iteF h
theorem rdL {K : PySem.W.Frag} {H : Hp} {a : Addr} {xs : List V} {i : Int} {v : V} {Q : VK} (h : SqL K H a xs) (e : atI xs i = some v) (k : Q v H) : rIxL K (.ref a) (.int i) H Q := ⟨a, xs, _, v, rfl, rfl, h, e, k⟩
theorem rdC {v : V} {σ : L2.St} {H : Hp} {Q : VK} (k : Q v H) : tC v σ H Q := k
theorem seqNew {K : PySem.W.Frag} {H : Hp} {a p : Addr} {o : HO} {xs : List V} (hp : H p = none) (h : SqL K H a xs) : SqL K (upd H p o) a xs := by
  rcases h with (h | ⟨u, h⟩) | h
  · exact .inl (.inl (by rw [upd_ne (ne_of_none h hp)]; exact h))
  · exact .inl (.inr ⟨u, by rw [upd_ne (ne_of_none h hp)]; exact h⟩)
  · exact .inr h
theorem le1000 {n : Nat} (h : n ≤ 1000) : n ≤ sizeLine := Nat.le_of_lt (small1000 h)
end Bf

set_option Elab.async false
set_option linter.all false
set_option maxRecDepth 100000
set_option maxHeartbeats 4000000
namespace Bf
open PySem PySem.Spec PyProof.Rows L2

/-! ### what enumerate and zip walk: a list or a tuple -/
structure Src where
  sq : PySem.W.Frag → Hp → Addr → List V → Prop
  itr : Heap → Addr → Addr → Nat → Prop
  isS : Heap → Addr → Array Value → Prop
  ob : Addr → Obj
  inv : ∀ {X : Cx} {pins : List (Addr × Obj)} {σ : L2.St} {H : Hp} {s : Shared} {a : Addr} {xs : List V}, Inv X pins σ H s → sq X.K H a xs → ∃ its : List Value, Vals xs its ∧ isS s.heap a its.toArray
  inj : ∀ {X : Cx} {pins : List (Addr × Obj)} {σ : L2.St} {H : Hp} {s : Shared} {a : Addr} {xs ys : List V}, Inv X pins σ H s → sq X.K H a xs → sq X.K H a ys → xs = ys
  draws : ∀ {prog : Program} {w : World} {A : Around}, A.handled = none → ∀ (it l : Addr), l ≠ it → ∀ (items : Array Value), Draws prog w A it [it, l] items.size (fun i v => items[i]? = some v) (fun i h => itr h it l i ∧ isS h l items)
  obj : ∀ {h : Heap} {it a : Addr} {i : Nat}, itr h it a i → ∃ o, h.get? it = some o ∧ ∀ v, o.data ≠ .cell v
  at_ : ∀ {h h' : Heap} {it a : Addr} {i : Nat}, itr h it a i → (∀ o, h.get? it = some o → h'.get? it = some o) → itr h' it a i
  beg : ∀ (a : Addr) (items : Array Value), Begins (.ref a) (ob a) (fun h => isS h a items)
  start : ∀ {h : Heap} {it a : Addr}, h.get? it = some (ob a) → itr h it a 0
  lt : ∀ {h : Heap} {a : Addr} {items : Array Value}, isS h a items → a < h.objs.size
  keep : ∀ {K : PySem.W.Frag} {H H' : Hp} {a : Addr} {xs : List V}, Same H H' → sq K H a xs → sq K H' a xs
theorem seqT_same {K : PySem.W.Frag} {H H' : Hp} {a : Addr} {xs : List V} (k : Same H H') (h : SqT K H a xs) : SqT K H' a xs := by
  rcases h with (h | ⟨u, h⟩) | h
  · exact .inl (.inl (k _ _ h))
  · exact .inl (.inr ⟨u, k _ _ h⟩)
  · exact .inr h

def srcL : Src where
  sq := fun K H a xs => SqL K H a xs
  itr := fun h it a i => h.IsListIter it a i
  isS := fun h a items => h.IsList a items
  ob := fun a => { cls := .type "list_iterator", data := .fields #[.ref a, .int 0 0] }
  inv := fun I h => let ⟨its, r, p, _⟩ := I.list h; ⟨its, r, p.isList⟩
  inj := fun I h h' => I.list_inj h h'
  draws := fun hh it l hne items => Draws.list hh it l hne items
  obj := fun ⟨o, e, c, d⟩ => ⟨o, e, fun v z => by rw [d] at z; cases z⟩
  at_ := fun x k => x.at k
  beg := fun a items => begins_list a items
  start := fun e => ⟨_, e, rfl, rfl⟩
  lt := fun ⟨o, e, _⟩ => Heap.lt_size e
  keep := fun k h => k.seq h

def srcT : Src where
  sq := fun K H a xs => SqT K H a xs
  itr := fun h it a i => h.IsTupleIter it a i
  isS := fun h a items => h.IsTuple a items
  ob := fun a => { cls := .type "tuple_iterator", data := .fields #[.ref a, .int 0 0] }
  inv := fun I h => let ⟨its, r, p, _⟩ := I.tuple h; ⟨its, r, p⟩
  inj := fun I h h' => I.tuple_inj h h'
  draws := fun hh it l hne items => Draws.tuple hh it l hne items
  obj := fun ⟨o, e, c, d⟩ => ⟨o, e, fun v z => by rw [d] at z; cases z⟩
  at_ := fun x k => x.at k
  beg := fun a items => begins_tuple a items
  start := fun e => ⟨_, e, rfl, rfl⟩
  lt := fun ⟨o, e, _⟩ => Heap.lt_size e
  keep := fun k h => seqT_same k h

/-! ### enumerate -/
def ItE (S : Src) (K : PySem.W.Frag) (a : Addr) : It :=
  ⟨fun i H => ∃ (xs : List V) (x : V), S.sq K H a xs ∧ xs[i]? = some x, fun i H v H' => ∃ T x, v = .ref T ∧ H T = none ∧ H' = upd H T (.tup [.int (i : Nat), x]) ∧ ∀ xs, S.sq K H a xs → xs[i]? = some x, fun i H => ∃ xs : List V, S.sq K H a xs ∧ xs.length = i⟩

theorem turn_enumG (S : Src) {P : Program} {w : World} {K : PySem.W.Frag} {elts : List Expr} {kk : Nat} {tpos : Pos} (a e it : Addr) :
    Turn P w K (.Tuple elts kk tpos) (ItE S K a) [e, it] e (fun i h => (∃ old, IsEnum h e it ((i : Nat) : Int) old) ∧ S.itr h it a i ∧ e ≠ it ∧ e ≠ a ∧ a ≠ it) where
  mem := by simp
  obj := fun i h st b hb => by
    obtain ⟨⟨old, he⟩, hi, _⟩ := st
    have e' : b = e ∨ b = it := by simpa using hb
    rcases e' with z | z
    · rw [z]; exact ⟨_, he, fun v q => nomatch q⟩
    · rw [z]; exact S.obj hi
  keep := fun i h h' st k => let ⟨⟨old, he⟩, hi, r⟩ := st; ⟨⟨old, k e (by simp) _ he⟩, S.at_ hi fun o q => k it (by simp) o q, r⟩
  item := by
    intro X hP hw hK hc i pins s σ H E I hf st hg
    subst hP hw hK
    obtain ⟨⟨old, he⟩, hit, hne, hea, hai⟩ := st
    obtain ⟨xs, x, hq, hx⟩ := hg
    obtain ⟨its, rv, p⟩ := S.inv I hq
    obtain ⟨u, hu, ru⟩ := rv.get hx
    have hel : e < s.heap.objs.size := Heap.lt_size he
    have hil : it < s.heap.objs.size := by obtain ⟨_, q, _⟩ := S.obj hit; exact Heap.lt_size q
    have hlt : i < its.toArray.size := by
      have q := (List.getElem?_eq_some_iff.mp hu).1
      simpa using q
    refine wpAny_pyNext_enum_itemD (S.draws (show X.A.in1.handled = none from I.ok.hd hc) it a hai its.toArray) he ⟨hit, p⟩ hlt hne (by simp [hne, hea]) fun v h' tk hv ho hst hT hsz hk => ?_
    have ev : u = v := by
      have q : its[i]? = some v := by simpa using hv
      rw [hu] at q; cases q; rfl
    subst ev
    refine ⟨_, rfl, wpAny_letOwnedTupleGo_enum (s := { s with heap := h', toks := tk + 1 }) ho fun h'' he' sb => ?_⟩
    have hT2 : h''.get? s.heap.objs.size = some { cls := .type "tuple", data := .seq #[.int i tk, u] } := (sb.2 _ (Nat.ne_of_gt hel)).trans hT
    have new : ObjOk X.prog X.w (upd H s.heap.objs.size (.tup [.int (i : Nat), x])) h'' s.heap.objs.size (.tup [.int (i : Nat), x]) :=
      ⟨by show 2 ≤ sizeLine; decide, [.int i tk, u], .cons ⟨_, rfl⟩ (.cons ru .nil), ⟨_, hT2, rfl, _, rfl⟩⟩
    have I1 : Inv X pins σ (upd H s.heap.objs.size (.tup [.int (i : Nat), x])) { s with heap := h'', toks := tk + 1 } :=
      I.turnedNew (ch := [e, it]) (fun b ob hb q => (sb.2 b (fun z => hb (by simp [z]))).trans (hk b ob (fun z => hb (by simp [z])) (fun z => hb (by simp [z])) q)) hf (Nat.le_refl _) new
    refine ⟨.ref s.heap.objs.size, _, I1, rfl, ⟨_, x, rfl, I.hok.fresh (Nat.le_refl _), rfl, fun ys hy => by rw [S.inj I hy hq]; exact hx⟩, ⟨⟨u, ?_⟩, S.at_ hst.1 fun o q => (sb.2 it (Ne.symm hne)).trans q, hne, hea, hai⟩, fun b hb => ?_⟩
    · have e1 : ((i + 1 : Nat) : Int) = (i : Int) + 1 := by omega
      rw [e1]; exact he'
    · have hb' : b < s.heap.objs.size := by
        have e' : b = e ∨ b = it := by simpa using hb
        rcases e' with z | z
        · rw [z]; exact hel
        · rw [z]; exact hil
      rw [upd_ne (Nat.ne_of_lt hb')]
      exact (hf b hb).1
  done := by
    intro X hP hw hK hc i pins s σ H E I hf st hg
    subst hP hw hK
    obtain ⟨⟨old, he⟩, hit, hne, hea, hai⟩ := st
    obtain ⟨xs, hq, hx⟩ := hg
    obtain ⟨its, rv, p⟩ := S.inv I hq
    obtain ⟨f0, f1, f2, f3, f4, f5⟩ := hf it (by simp)
    have hl := rv.length
    have hn : its.toArray.size = i := by rw [List.size_toArray]; omega
    subst hn
    exact wpAny_pyNext_enum_endD (S.draws (show X.A.in1.handled = none from I.ok.hd hc) it a hai its.toArray) he ⟨hit, p⟩ fun h' eb => ⟨rfl, I.turned (t' := s.toks) (fun b o hb q => eb b o hb q) f0 f1 f3 f4 f5⟩
  self := fun A i s Q E st h => let ⟨⟨_, he⟩, _⟩ := st; wpAny_pyIter_enum he h

theorem meets_enum_new0 {v : Value} {o : Obj} {H : Heap → Prop} (B : Begins v o H) :
    Meets (Builtin.«enumerate.__new__» ⟨[.type "enumerate", v], []⟩) (fun _ R s => H s.heap ∧
      R (.ok (.ret (.ref (s.heap.push o).objs.size))) { s with heap := (s.heap.push o).push { cls := .type "enumerate", data := .fields #[.none, .bool false, .ref s.heap.objs.size, rawInt 0, .none, .none] } }) :=
  .of_wp fun prog w A R s h => by
    obtain ⟨hp, g, d, tk, os⟩ := s; obtain ⟨h1, h⟩ := h
    have hsub := sub_enumerate
    have q1 : ∀ {A' : Around} {E : Value → Shared → Prop} {Q : Value → Shared → Prop}, Q (.ref hp.objs.size) ⟨hp.push o, g, d, tk, os⟩ → wpAny (model prog w) A' (pyIter v) Q E ⟨hp, g, d, tk, os⟩ :=
      fun q => B.iter prog w _ _ ⟨hp, g, d, tk, os⟩ _ h1 q
    wp_walk using q1
    refine wpAny_stack_any fun st => wpAny_pure ?_
    split
    · rename_i c _ _ _ _ _
      cases (c == Value.type "enumerate")
      · wp_walk using q1
        exact ⟨_, rfl, h⟩
      · wp_walk using q1
        exact ⟨_, rfl, h⟩
    · wp_walk using q1
      exact ⟨_, rfl, h⟩
section
variable {prog : Program} {w : World} {A : Around} {E : Value → Shared → Prop} {s : Shared}
theorem enum_begins0 {v : Value} {o : Obj} {H : Heap → Prop} {Q : Value → Shared → Prop} (B : Begins v o H) (h1 : H s.heap)
    (h : ∀ h', IsEnum h' (s.heap.objs.size + 1) s.heap.objs.size 0 .none → h'.get? s.heap.objs.size = some o → h'.objs.size = s.heap.objs.size + 2 →
      (∀ b o, s.heap.get? b = some o → h'.get? b = some o) → Q (.ref (s.heap.objs.size + 1)) { s with heap := h' }) :
    wpAny (model prog w) A (call (.type "enumerate") [v]) Q E s := by
  refine callType_new F.called_enumerate (by decide) (F.typeCall_enumerate_1 _) (F.newCall_enumerate_1 _) (fun obj => F.args_object_init_2 obj _) F.entry_enumerate_new
    (meets_enum_new0 B) ⟨h1, ?_⟩
  have hz : (s.heap.push o).objs.size = s.heap.objs.size + 1 := Heap.size_push ..
  show _ ∧ _
  rw [hz]
  have he : IsEnum ((s.heap.push o).push { cls := .type "enumerate", data := .fields #[.none, .bool false, .ref s.heap.objs.size, rawInt 0, .none, .none] }) (s.heap.objs.size + 1) s.heap.objs.size 0 .none := by
    have := Heap.get?_push_size (s.heap.push o) (o := { cls := .type "enumerate", data := .fields #[.none, .bool false, .ref s.heap.objs.size, rawInt 0, .none, .none] }) rfl
    rw [hz] at this; exact this
  exact ⟨⟨_, he, rfl⟩, h _ he (Heap.get?_push_of_some _ (Heap.get?_push_size _ B.free)) (by rw [Heap.size_push, hz]) fun b o x => Heap.get?_push_of_some _ (Heap.get?_push_of_some _ x)⟩
end
def iEnG (S : Src) (K : PySem.W.Frag) (ta : TA) : TI := fun σ H R => ta σ H fun vs H1 => ∃ a xs, vs = [.ref a] ∧ S.sq K H1 a xs ∧ R (ItE S K a) H1
theorem enumG_run (S : Src) {X : Cx} {pins : List (Addr × Obj)} {σ : L2.St} {H1 : Hp} {s1 : Shared} {us : List Value} {vs : List V} {elts : List Expr} {kk : Nat} {tpos : Pos} {R : It → Hp → Prop} (I1 : Inv X pins σ H1 s1) (r1 : Vals vs us)
    (q1 : ∃ (a : Addr) (xs : List V), vs = [.ref a] ∧ S.sq X.K H1 a xs ∧ R (ItE S X.K a) H1) :
    wpAny (model X.prog X.w) X.A (call (.type "enumerate") us) (fun v s1 => wpAny (model X.prog X.w) X.A (pyIter v) (PIE X pins σ (.Tuple elts kk tpos) R) X.xe s1) X.xe s1 := by
  obtain ⟨a, xs, ex, hq, q⟩ := q1
  subst ex
  cases r1 with
  | cons r rr =>
    cases rr
    cases r
    obtain ⟨its, rv, p'⟩ := S.inv I1 hq
    have la := S.lt p'
    refine enum_begins0 (S.beg a its.toArray) p' fun h' he hit hsz hk => wpAny_pyIter_enum he ?_
    have I2 : Inv X pins σ H1 { s1 with heap := h' } := I1.kept (t' := s1.toks) hk
    refine ⟨s1.heap.objs.size + 1, [s1.heap.objs.size + 1, s1.heap.objs.size], _, _, H1, rfl, I2, turn_enumG S a (s1.heap.objs.size + 1) s1.heap.objs.size, ⟨⟨.none, he⟩, S.start hit, Nat.succ_ne_self _, Nat.ne_of_gt (Nat.lt_succ_of_lt la), Nat.ne_of_lt la⟩, fun b hb => ?_, q⟩
    have e' : b = s1.heap.objs.size + 1 ∨ b = s1.heap.objs.size := by simpa using hb
    have hle : s1.heap.objs.size ≤ b := by
      rcases e' with z | z
      · rw [z]; exact Nat.le_add_right _ _
      · rw [z]; exact Nat.le_refl _
    exact I1.fpOk hle (I1.hok.fresh hle)

/-! ### zip of two -/
def ItZ (S1 S2 : Src) (K : PySem.W.Frag) (a b : Addr) : It :=
  ⟨fun i H => ∃ (xs ys : List V) (x y : V), S1.sq K H a xs ∧ S2.sq K H b ys ∧ xs[i]? = some x ∧ ys[i]? = some y,
    fun i H v H' => ∃ T x y, v = .ref T ∧ H T = none ∧ H' = upd H T (.tup [x, y]) ∧ (∀ xs, S1.sq K H a xs → xs[i]? = some x) ∧ ∀ ys, S2.sq K H b ys → ys[i]? = some y,
    fun i H => ∃ xs ys : List V, S1.sq K H a xs ∧ S2.sq K H b ys ∧ i ≤ xs.length ∧ i ≤ ys.length ∧ (i = xs.length ∨ i = ys.length)⟩
theorem turn_zipG (S1 S2 : Src) {P : Program} {w : World} {K : PySem.W.Frag} {elts : List Expr} {kk : Nat} {tpos : Pos} {a b z TI TO i1 i2 : Addr} (D : ZipSep2 z TI TO i1 i2 [i1, a] [i2, b]) (ha1 : a ≠ i1) (hb2 : b ≠ i2) :
    Turn P w K (.Tuple elts kk tpos) (ItZ S1 S2 K a b) [z, TI, TO, i1, i2] z (fun i h => IsZip h z TI TO .none ∧ IsTupOf2 h TI (.ref i1) (.ref i2) ∧ (∃ x y, IsTupOf2 h TO x y) ∧ S1.itr h i1 a i ∧ S2.itr h i2 b i) where
  mem := by simp
  obj := fun i h st c hc => by
    obtain ⟨hz, hTI, ⟨x, y, hTO⟩, h1, h2⟩ := st
    have e' : c = z ∨ c = TI ∨ c = TO ∨ c = i1 ∨ c = i2 := by simpa using hc
    rcases e' with q | q | q | q | q
    · rw [q]; exact ⟨_, hz, fun v q => nomatch q⟩
    · rw [q]; exact ⟨_, hTI, fun v q => nomatch q⟩
    · rw [q]; exact ⟨_, hTO, fun v q => nomatch q⟩
    · rw [q]; exact S1.obj h1
    · rw [q]; exact S2.obj h2
  keep := fun i h h' st k => by
    obtain ⟨hz, hTI, ⟨x, y, hTO⟩, h1, h2⟩ := st
    exact ⟨k z (by simp) _ hz, k TI (by simp) _ hTI, ⟨x, y, k TO (by simp) _ hTO⟩, S1.at_ h1 fun o q => k i1 (by simp) o q, S2.at_ h2 fun o q => k i2 (by simp) o q⟩
  item := by
    intro X hP hw hK hc i pins s σ H E I hf st hg
    subst hP hw hK
    obtain ⟨hz, hTI, ⟨x0, y0, hTO⟩, h1, h2⟩ := st
    obtain ⟨xs, ys, x, y, hqx, hqy, hx, hy⟩ := hg
    obtain ⟨its, rv, p⟩ := S1.inv I hqx
    obtain ⟨its2, rv2, p2⟩ := S2.inv I hqy
    obtain ⟨u, hu, ru⟩ := rv.get hx
    obtain ⟨u2, hu2, ru2⟩ := rv2.get hy
    have hzl : z < s.heap.objs.size := Heap.lt_size hz
    have hlt : i < its.toArray.size := by
      have q := (List.getElem?_eq_some_iff.mp hu).1
      simpa using q
    have hlt2 : i < its2.toArray.size := by
      have q := (List.getElem?_eq_some_iff.mp hu2).1
      simpa using q
    have hh : X.A.in1.handled = none := I.ok.hd hc
    refine wpAny_pyNext_zipD2_item D (S1.draws hh i1 a ha1 its.toArray) (S2.draws hh i2 b hb2 its2.toArray) hz hTI hTO ⟨h1, p⟩ ⟨h2, p2⟩ hlt hlt2 fun v v2 h' tk hv hv2 z' TO' st1 st2 hT hsz hk => ?_
    have ev : u = v := by
      have q : its[i]? = some v := by simpa using hv
      rw [hu] at q; cases q; rfl
    have ev2 : u2 = v2 := by
      have q : its2[i]? = some v2 := by simpa using hv2
      rw [hu2] at q; cases q; rfl
    subst ev ev2
    refine ⟨_, rfl, wpAny_letOwnedTupleGo_zip (s := { s with heap := h', toks := tk }) z' fun h'' z'' sb => ?_⟩
    have hT2 : h''.get? s.heap.objs.size = some { cls := .type "tuple", data := .seq #[u, u2] } := (sb.2 _ (Nat.ne_of_gt hzl)).trans hT
    have new : ObjOk X.prog X.w (upd H s.heap.objs.size (.tup [x, y])) h'' s.heap.objs.size (.tup [x, y]) :=
      ⟨by show 2 ≤ sizeLine; decide, [u, u2], .cons ru (.cons ru2 .nil), ⟨_, hT2, rfl, _, rfl⟩⟩
    have I1 : Inv X pins σ (upd H s.heap.objs.size (.tup [x, y])) { s with heap := h'', toks := tk } :=
      I.turnedNew (ch := [z, TI, TO, i1, i2]) (fun c o hb q => (sb.2 c (fun q' => hb (by simp [q']))).trans (hk c o (fun q' => hb (by simp [q'])) (fun q' => hb (by simp [q'])) (fun q' => hb (by simp [q'])) (fun q' => hb (by simp [q'])) q)) hf (Nat.le_refl _) new
    have zi1 : i1 ≠ z := fun q => D.zf1 (by simp [q])
    have zi2 : i2 ≠ z := fun q => D.zf2 (by simp [q])
    refine ⟨.ref s.heap.objs.size, _, I1, rfl, ⟨_, x, y, rfl, I.hok.fresh (Nat.le_refl _), rfl, fun l hl => by rw [S1.inj I hl hqx]; exact hx, fun l hl => by rw [S2.inj I hl hqy]; exact hy⟩, ⟨z'', ?_, ⟨u, u2, ?_⟩, ?_, ?_⟩, fun c hcm => ?_⟩
    · exact (sb.2 _ D.TIz).trans (hk _ _ D.TIz D.TITO D.TIi1 D.TIi2 hTI)
    · exact (sb.2 _ D.TOz).trans TO'
    · exact S1.at_ st1.1 fun o q => (sb.2 _ zi1).trans q
    · exact S2.at_ st2.1 fun o q => (sb.2 _ zi2).trans q
    · have hlt : c < s.heap.objs.size := by
        have e' : c = z ∨ c = TI ∨ c = TO ∨ c = i1 ∨ c = i2 := by simpa using hcm
        rcases e' with q | q | q | q | q
        · rw [q]; exact hzl
        · rw [q]; exact Heap.lt_size hTI
        · rw [q]; exact Heap.lt_size hTO
        · rw [q]; obtain ⟨_, e1, _⟩ := S1.obj h1; exact Heap.lt_size e1
        · rw [q]; obtain ⟨_, e2, _⟩ := S2.obj h2; exact Heap.lt_size e2
      rw [upd_ne (Nat.ne_of_lt hlt)]
      exact (hf c hcm).1
  done := by
    intro X hP hw hK hc i pins s σ H E I hf st hg
    subst hP hw hK
    obtain ⟨hz, hTI, ⟨x0, y0, hTO⟩, h1, h2⟩ := st
    obtain ⟨xs, ys, hqx, hqy, le1, le2, hend⟩ := hg
    obtain ⟨its, rv, p⟩ := S1.inv I hqx
    obtain ⟨its2, rv2, p2⟩ := S2.inv I hqy
    have l1 := rv.length
    have l2 := rv2.length
    have hh : X.A.in1.handled = none := I.ok.hd hc
    exact wpAny_pyNext_zipD2_end D (S1.draws hh i1 a ha1 its.toArray) (S2.draws hh i2 b hb2 its2.toArray) hz hTI hTO ⟨h1, p⟩ ⟨h2, p2⟩ (by rw [List.size_toArray]; omega) (by rw [List.size_toArray]; omega)
      (by rw [List.size_toArray, List.size_toArray]; omega) fun h' tk hk => ⟨rfl, I.turnedL (t' := tk) (ch := [z, TI, TO, i1, i2]) (fun c o hb q =>
      hk c o (fun q' => hb (by simp [q'])) (fun q' => hb (by simp [q'])) (fun q' => hb (by simp [q'])) (fun q' => hb (by simp [q'])) q) hf⟩
  self := fun A i s Q E st h => wpAny_pyIter_zip st.1 h
def iZpG (S1 S2 : Src) (K : PySem.W.Frag) (ta : TA) : TI := fun σ H R => ta σ H fun vs H1 => ∃ a b xs ys, vs = [.ref a, .ref b] ∧ S1.sq K H1 a xs ∧ S2.sq K H1 b ys ∧ R (ItZ S1 S2 K a b) H1
theorem zipG_run (S1 S2 : Src) {X : Cx} {pins : List (Addr × Obj)} {σ : L2.St} {H1 : Hp} {s1 : Shared} {us : List Value} {vs : List V} {elts : List Expr} {kk : Nat} {tpos : Pos} {R : It → Hp → Prop} (I1 : Inv X pins σ H1 s1) (r1 : Vals vs us)
    (q1 : ∃ (a b : Addr) (xs ys : List V), vs = [.ref a, .ref b] ∧ S1.sq X.K H1 a xs ∧ S2.sq X.K H1 b ys ∧ R (ItZ S1 S2 X.K a b) H1) :
    wpAny (model X.prog X.w) X.A (call (.type "zip") us) (fun v s1 => wpAny (model X.prog X.w) X.A (pyIter v) (PIE X pins σ (.Tuple elts kk tpos) R) X.xe s1) X.xe s1 := by
  obtain ⟨a, b, xs, ys, ex, hqx, hqy, q⟩ := q1
  subst ex
  cases r1 with
  | cons r rr =>
    cases rr with
    | cons r' rr =>
      cases rr
      cases r
      cases r'
      obtain ⟨its, rv, p1⟩ := S1.inv I1 hqx
      obtain ⟨its2, rv2, p2⟩ := S2.inv I1 hqy
      have la := S1.lt p1
      have lb := S2.lt p2
      refine zip_begins2 (S1.beg a its.toArray) (S2.beg b its2.toArray) p1 p2 fun h' hz hTI hTO h1 h2 hsz hk => wpAny_pyIter_zip hz ?_
      have I2 : Inv X pins σ H1 { s1 with heap := h' } := I1.kept (t' := s1.toks) hk
      refine ⟨s1.heap.objs.size + 4, [s1.heap.objs.size + 4, s1.heap.objs.size + 2, s1.heap.objs.size + 3, s1.heap.objs.size, s1.heap.objs.size + 1], _, _, H1, rfl, I2,
        turn_zipG S1 S2 (zip_sep2 (fp1 := [a]) (fp2 := [b]) (by intro c hc; rw [List.mem_singleton.mp hc]; exact la) (by intro c hc; rw [List.mem_singleton.mp hc]; exact lb)) (Nat.ne_of_lt la) (Nat.ne_of_lt (Nat.lt_succ_of_lt lb)),
        ⟨hz, hTI, ⟨_, _, hTO⟩, S1.start h1, S2.start h2⟩, fun c hcm => ?_, q⟩
      have e' : c = s1.heap.objs.size + 4 ∨ c = s1.heap.objs.size + 2 ∨ c = s1.heap.objs.size + 3 ∨ c = s1.heap.objs.size ∨ c = s1.heap.objs.size + 1 := by simpa using hcm
      have hle : s1.heap.objs.size ≤ c := by
        rcases e' with z | z | z | z | z
        · rw [z]; exact Nat.le_add_right _ _
        · rw [z]; exact Nat.le_add_right _ _
        · rw [z]; exact Nat.le_add_right _ _
        · rw [z]; exact Nat.le_refl _
        · rw [z]; exact Nat.le_add_right _ _
      exact I1.fpOk hle (I1.hok.fresh hle)

/-! ### for over them -/
theorem for_enumG (S : Src) {K : PySem.W.Frag} {a : Addr} {xs : List V} {g : TG} {tb : TS} {D : Ends} {σ : L2.St} {H : Hp} (Pv : Nat → L2.St → Hp → Prop) (h0 : Pv 0 σ H) (hq : ∀ i σ H, Pv i σ H → S.sq K H a xs)
    (hs : ∀ (i : Nat) (x : V) (T : Addr) (σ : L2.St) (H : Hp), xs[i]? = some x → Pv i σ H → H T = none → g (.ref T) σ (upd H T (.tup [.int (i : Nat), x])) fun σ2 H2 => tb { D with nx := Pv (i + 1), ct := Pv (i + 1), bk := D.nx } σ2 H2) (hd : ∀ σ H, Pv xs.length σ H → D.nx σ H) :
    ∃ W : Nat → Nat → L2.St → Hp → Prop, (∃ m, W 0 m σ H) ∧ ∀ i m σ H, W i m σ H →
      ((ItE S K a).stop i H ∧ D.nx σ H) ∨ ((ItE S K a).go i H ∧ ∃ N : L2.St → Hp → Prop, (∀ σ' H', N σ' H' → ∃ m', m' < m ∧ W (i + 1) m' σ' H') ∧ ∀ v H', (ItE S K a).yld i H v H' → g v σ H' fun σ2 H2 => tb { D with nx := N, ct := N, bk := D.nx } σ2 H2) := by
  refine ⟨fun i m σ H => m = xs.length - i ∧ i ≤ xs.length ∧ Pv i σ H, ⟨xs.length, rfl, Nat.zero_le _, h0⟩, ?_⟩
  rintro i m σ H ⟨rfl, hi, p⟩
  have qx := hq i σ H p
  by_cases hlt : i < xs.length
  · have hx : xs[i]? = some xs[i] := List.getElem?_eq_getElem hlt
    refine .inr ⟨⟨xs, _, qx, hx⟩, Pv (i + 1), fun σ' H' p' => ⟨xs.length - (i + 1), by omega, rfl, hlt, p'⟩, fun v H' y => ?_⟩
    obtain ⟨T, x', rfl, hT, rfl, f1⟩ := y
    exact hs i x' T σ H (f1 xs qx) p hT
  · have e : i = xs.length := by omega
    subst e
    exact .inl ⟨⟨xs, qx, rfl⟩, hd σ H p⟩
theorem for_zipG (S1 S2 : Src) {K : PySem.W.Frag} {a b : Addr} {xs ys : List V} {g : TG} {tb : TS} {D : Ends} {σ : L2.St} {H : Hp} (hl : xs.length = ys.length) (Pv : Nat → L2.St → Hp → Prop) (h0 : Pv 0 σ H) (hq : ∀ i σ H, Pv i σ H → S1.sq K H a xs ∧ S2.sq K H b ys)
    (hs : ∀ (i : Nat) (x y : V) (T : Addr) (σ : L2.St) (H : Hp), xs[i]? = some x → ys[i]? = some y → Pv i σ H → H T = none → g (.ref T) σ (upd H T (.tup [x, y])) fun σ2 H2 => tb { D with nx := Pv (i + 1), ct := Pv (i + 1), bk := D.nx } σ2 H2) (hd : ∀ σ H, Pv xs.length σ H → D.nx σ H) :
    ∃ W : Nat → Nat → L2.St → Hp → Prop, (∃ m, W 0 m σ H) ∧ ∀ i m σ H, W i m σ H →
      ((ItZ S1 S2 K a b).stop i H ∧ D.nx σ H) ∨ ((ItZ S1 S2 K a b).go i H ∧ ∃ N : L2.St → Hp → Prop, (∀ σ' H', N σ' H' → ∃ m', m' < m ∧ W (i + 1) m' σ' H') ∧ ∀ v H', (ItZ S1 S2 K a b).yld i H v H' → g v σ H' fun σ2 H2 => tb { D with nx := N, ct := N, bk := D.nx } σ2 H2) := by
  refine ⟨fun i m σ H => m = xs.length - i ∧ i ≤ xs.length ∧ Pv i σ H, ⟨xs.length, rfl, Nat.zero_le _, h0⟩, ?_⟩
  rintro i m σ H ⟨rfl, hi, p⟩
  obtain ⟨qx, qy⟩ := hq i σ H p
  by_cases hlt : i < xs.length
  · have hx : xs[i]? = some xs[i] := List.getElem?_eq_getElem hlt
    have hlt2 : i < ys.length := by omega
    have hy : ys[i]? = some ys[i] := List.getElem?_eq_getElem hlt2
    refine .inr ⟨⟨xs, ys, _, _, qx, qy, hx, hy⟩, Pv (i + 1), fun σ' H' p' => ⟨xs.length - (i + 1), by omega, rfl, hlt, p'⟩, fun v H' y => ?_⟩
    obtain ⟨T, x', y', rfl, hT, rfl, f1, f2⟩ := y
    exact hs i x' y' T σ H (f1 xs qx) (f2 ys qy) p hT
  · have e : i = xs.length := by omega
    subst e
    exact .inl ⟨⟨xs, ys, qx, qy, Nat.le_refl _, by omega, .inl rfl⟩, hd σ H p⟩

/-! ### two tuples of the same numbers -/
theorem canLay_ints : ∀ ns : List Nat, PyData.canLayAll0 (ns.map fun n : Nat => PyData.int (n : Int)) = true
  | [] => by simp [PyData.canLayAll0]
  | n :: r => by
    rw [List.map_cons, PyData.canLayAll0, canLay_ints r]
    simp [PyData.canLay0]
theorem depth_ints : ∀ ns : List Nat, PyData.depthAll (ns.map fun n : Nat => PyData.int (n : Int)) ≤ 1
  | [] => by simp [PyData.depthAll]
  | n :: r => by
    have := depth_ints r
    rw [List.map_cons, PyData.depthAll]
    simp [PyData.depth] <;> omega
theorem dp_ints {K : PySem.W.Frag} {H : Hp} : ∀ ns : List Nat, DpAll K H (ns.map vI) (ns.map fun n : Nat => PyData.int (n : Int))
  | [] => .nil
  | n :: r => .cons (.int _) (dp_ints r)
theorem shaped_ints (ns : List Nat) : SeqAt.shaped (.tuple (ns.map fun n : Nat => PyData.int (n : Int))) = true := by
  have h := depth_ints ns
  unfold SeqAt.shaped
  rw [PyData.canLay0, canLay_ints, Bool.true_and]
  refine decide_eq_true ?_
  rw [PyData.depth]
  omega
def rNeI (K : PySem.W.Frag) : R2 := fun x y H Q => ∃ (a b : Addr) (ns : List Nat), x = .ref a ∧ y = .ref b ∧ SqT K H a (ns.map vI) ∧ SqT K H b (ns.map vI) ∧ Q (.bl false) H
theorem op_neI {X : Cx} (hu : X.A.units + 64 < cLine) : OpR X (compareOp .NotEq) (rNeI X.K) := by
  intro pins s σ H x y v u Q I rx ry h
  obtain ⟨a, b, ns, rfl, rfl, ha, hb, q⟩ := h
  refine op_neD hu pins s σ H _ _ v u Q I rx ry ⟨_, _, .tup ha (dp_ints ns), .tup hb (dp_ints ns), shaped_ints ns, shaped_ints ns, ?_⟩
  rw [SeqAt.eqv_refl _ (SeqAt.canLay_of_shaped (shaped_ints ns))]
  exact q
def rEqI (K : PySem.W.Frag) : R2 := fun x y H Q => ∃ (a b : Addr) (ns : List Nat), x = .ref a ∧ y = .ref b ∧ SqT K H a (ns.map vI) ∧ SqT K H b (ns.map vI) ∧ Q (.bl true) H
theorem op_eqI {X : Cx} (hu : X.A.units + 64 < cLine) : OpR X (compareOp .Eq) (rEqI X.K) := by
  intro pins s σ H x y v u Q I rx ry h
  obtain ⟨a, b, ns, rfl, rfl, ha, hb, q⟩ := h
  refine op_eqD hu pins s σ H _ _ v u Q I rx ry ⟨_, _, .tup ha (dp_ints ns), .tup hb (dp_ints ns), shaped_ints ns, shaped_ints ns, ?_⟩
  rw [SeqAt.eqv_refl _ (SeqAt.canLay_of_shaped (shaped_ints ns))]
  exact q

/-! ### list.extend(tuple) -/
theorem ext_tupA (l : Addr) (items : Array Value) (n : Nat) (b : Addr) (items2 : Array Value) (n2 : Nat) (dd : Option Addr) (sl : Array (Option Value)) (hs0 : ¬(!items.isEmpty && Builtin.List.listTooLong (items.size + items2.size)) = true) (hs1 : items.size ≤ sizeLine) (hs2 : items.size + items2.size ≤ sizeLine + 1) :
    Meets (Builtin.«list.extend» ⟨[.ref l, .ref b], []⟩) (fun _ R s => s.heap.get? l = some { cls := .type "list", dict := none, data := .seq items n, slots := #[] } ∧ s.heap.get? b = some { cls := .type "tuple", dict := dd, data := .seq items2 n2, slots := sl } ∧ R (.ok (.ret Value.none)) { s with heap := s.heap.update l (Obj.mapSeq fun x => x ++ items2), toks := s.toks }) :=
  .of_wp fun prog w A R s h => by
    obtain ⟨hp, g, d, tk, os⟩ := s; obtain ⟨hl, hb, h⟩ := h; have f2 := sub_tuple_tuple; have f3 := sub_list_list; have f4 := sub_tuple_list; have f5 := sub_list_tuple
    have hz' : (items ++ items2).size ≤ sizeLine + 1 := by rw [Array.size_append]; exact hs2
    wp_walk using (wpAny_updateSeq hl rfl (hz := hs1) (_hz' := hz')), wpAny_loadPart' hl, wpAny_loadPart' hb
    exact ⟨_, rfl, h⟩
def rExtT (K : PySem.W.Frag) : V → List V → Hp → VK → Prop := fun x vs H Q => ∃ l b xs zs, x = .ref l ∧ vs = [.ref b] ∧ H l = some (.lst xs) ∧ SqT K H b zs ∧ xs.length + zs.length ≤ sizeLine ∧ Q .non (upd H l (.lst (xs ++ zs)))
theorem mt_extT {X : Cx} : MtM X "list.extend" (rExtT X.K) := by
  intro pins s σ H x vs v us Q I rx rv h
  obtain ⟨l, b, xs, zs, rfl, rfl, hH, hB, hz, q⟩ := h
  cases rx
  obtain ⟨u, rfl, ru⟩ := rv.one
  cases ru
  obtain ⟨z, its, n, r, hl, e⟩ := I.lstM hH
  obtain ⟨its2, r2, p2, hl2⟩ := I.tuple hB
  obtain ⟨⟨cls, dd, data, sl⟩, ho, hc, n2, hd⟩ := id p2
  simp only at hc hd
  subst hc hd
  have len2 := r2.length
  have hsz : its.toArray.size + its2.toArray.size ≤ sizeLine := by rw [List.size_toArray, List.size_toArray]; omega
  have hlong : ¬ (!its.toArray.isEmpty && Builtin.List.listTooLong (its.toArray.size + its2.toArray.size)) = true := by
    rw [notLongL hsz, Bool.and_false]
    exact Bool.false_ne_true
  refine call_meets F.slot_list_extend ⟨_, e, rfl⟩ F.entry_list_extend (F.args_list_extend_2 _ _)
    (ext_tupA l its.toArray n b its2.toArray n2 dd sl hlong (by rw [List.size_toArray]; omega) (by omega)) ⟨e, ho, ?_⟩
  refine ⟨.non, _, I.lset (its' := its ++ its2) hH e (by simp) (r.append r2) ?_, rfl, q⟩
  rw [List.length_append]
  omega

/-! ### the source as it comes -/
def iEnX (K : PySem.W.Frag) (ta : TA) : TI := fun σ H R => ta σ H fun vs H1 => ∃ (S : Src) (a : Addr) (xs : List V), vs = [.ref a] ∧ S.sq K H1 a xs ∧ R (ItE S K a) H1
theorem pi_enumX {X : Cx} {e : Expr} {ta : TA} {p pos tpos : Pos} {elts : List Expr} {kk : Nat} (hg : Gl X "enumerate") (hm : X.mg "enumerate" = none) (ha : PA X [e] ta) (hs : starEach [e] X.env = [(false, eval e X.env)] := by rfl) :
    PI X (.Tuple elts kk tpos) (.Call (.Name "enumerate" p) [e] [] pos) (iEnX X.K ta) := by
  refine ⟨fun pins s σ H R I h => ?_⟩
  have h' : ta σ H fun vs H1 => ∃ S : Src, ∃ (a : Addr) (xs : List V), vs = [.ref a] ∧ S.sq X.K H1 a xs ∧ R (ItE S X.K a) H1 := h
  refine Call_ (ld_blt I hg hm boot_enumerate (PyProof.Rows.callWith_type1 (thn (ha.run pos pins s σ H _ I h') fun us s1 ⟨vs, H1, I1, r1, q1⟩ => ?_) hs rfl))
  obtain ⟨S, a, xs, ex, hq, q⟩ := q1
  exact enumG_run S I1 r1 ⟨a, xs, ex, hq, q⟩
def iZpX (K : PySem.W.Frag) (ta : TA) : TI := fun σ H R => ta σ H fun vs H1 => ∃ (S1 S2 : Src) (a b : Addr) (xs ys : List V), vs = [.ref a, .ref b] ∧ S1.sq K H1 a xs ∧ S2.sq K H1 b ys ∧ R (ItZ S1 S2 K a b) H1
theorem pi_zipX {X : Cx} {e e2 : Expr} {ta : TA} {p pos tpos : Pos} {elts : List Expr} {kk : Nat} (hg : Gl X "zip") (hm : X.mg "zip" = none) (ha : PA X [e, e2] ta)
    (hs : starEach [e, e2] X.env = (false, eval e X.env) :: starEach [e2] X.env := by rfl) (hpl : (backTo pos (starEach [e2] X.env)).any (·.1) = false := by rfl) :
    PI X (.Tuple elts kk tpos) (.Call (.Name "zip" p) [e, e2] [] pos) (iZpX X.K ta) := by
  refine ⟨fun pins s σ H R I h => ?_⟩
  have h' : ta σ H fun vs H1 => ∃ S1 S2 : Src, ∃ (a b : Addr) (xs ys : List V), vs = [.ref a, .ref b] ∧ S1.sq X.K H1 a xs ∧ S2.sq X.K H1 b ys ∧ R (ItZ S1 S2 X.K a b) H1 := h
  refine Call_ (ld_blt I hg hm PyProof.Rows.boot_zip (PyProof.Rows.callWith_type1 (thn (ha.run pos pins s σ H _ I h') fun us s1 ⟨vs, H1, I1, r1, q1⟩ => ?_) hs hpl))
  obtain ⟨S1, S2, a, b, xs, ys, ex, hqx, hqy, q⟩ := q1
  exact zipG_run S1 S2 I1 r1 ⟨a, b, xs, ys, ex, hqx, hqy, q⟩
end Bf

set_option Elab.async false
set_option linter.all false
set_option maxRecDepth 100000
set_option maxHeartbeats 4000000
namespace Bf
open PySem PySem.Spec PyProof.Rows L2
/-! ### data of tuples, ints and texts, as they lie -/
mutual
inductive Lay (H : Hp) : V → PyData → Prop
  | non : Lay H .non .none
  | bl (b : Bool) : Lay H (.bl b) (.bool b)
  | int (i : Int) : Lay H (.int i) (.int i)
  | str (x : Str) : Lay H (.str x) (.str x)
  | tup {a : Addr} {xs : List V} {ds : List PyData} : H a = some (.tup xs) → LayAll H xs ds → Lay H (.ref a) (.tuple ds)
inductive LayAll (H : Hp) : List V → List PyData → Prop
  | nil : LayAll H [] []
  | cons {v : V} {vs : List V} {d : PyData} {ds : List PyData} : Lay H v d → LayAll H vs ds → LayAll H (v :: vs) (d :: ds)
end
/-- what is tracked as a tuple in H is so in H' -/
def KeepT (H H' : Hp) : Prop := ∀ b xs, H b = some (.tup xs) → H' b = some (.tup xs)
theorem KeepT.refl (H : Hp) : KeepT H H := fun _ _ h => h
theorem KeepT.same {H H' : Hp} (k : Same H H') : KeepT H H' := fun b xs h => k _ _ h
theorem KeepT.trans {H H1 H2 : Hp} (a : KeepT H H1) (b : KeepT H1 H2) : KeepT H H2 := fun c o h => b c o (a c o h)
theorem KeepT.new {H : Hp} {p : Addr} {o : HO} (h : H p = none) : KeepT H (upd H p o) := fun b u q => by rw [upd_ne (ne_of_none q h)]; exact q
theorem KeepT.lst {H : Hp} {p : Addr} {o : HO} {l : List V} (h : H p = some (.lst l)) : KeepT H (upd H p o) := fun b u q => by
  rw [upd_ne (fun e => by rw [e, h] at q; cases q)]
  exact q
mutual
theorem Lay.keep {H H' : Hp} (k : KeepT H H') : ∀ (d : PyData) (v : V), Lay H v d → Lay H' v d
  | .none, _, h => by cases h; exact .non
  | .bool b, _, h => by cases h; exact .bl b
  | .int i, _, h => by cases h; exact .int i
  | .str x, _, h => by cases h; exact .str x
  | .list ds, _, h => by cases h
  | .tuple ds, _, h => by
    cases h with
    | tup e a => exact .tup (k _ _ e) (LayAll.keep k ds _ a)
  | .dict _, _, h => by cases h
theorem LayAll.keep {H H' : Hp} (k : KeepT H H') : ∀ (ds : List PyData) (vs : List V), LayAll H vs ds → LayAll H' vs ds
  | [], _, h => by cases h; exact .nil
  | d :: ds, _, h => by
    cases h with
    | cons a b => exact .cons (Lay.keep k d _ a) (LayAll.keep k ds _ b)
end
mutual
theorem Lay.dp {K : PySem.W.Frag} {H : Hp} : ∀ (d : PyData) (v : V), Lay H v d → Dp K H v d
  | .none, _, h => by cases h; exact .non
  | .bool b, _, h => by cases h; exact .bl b
  | .int i, _, h => by cases h; exact .int i
  | .str x, _, h => by cases h; exact .str x
  | .list ds, _, h => by cases h
  | .tuple ds, _, h => by
    cases h with
    | tup e a => exact .tup (SqT.of e) (LayAll.dp ds _ a)
  | .dict _, _, h => by cases h
theorem LayAll.dp {K : PySem.W.Frag} {H : Hp} : ∀ (ds : List PyData) (vs : List V), LayAll H vs ds → DpAll K H vs ds
  | [], _, h => by cases h; exact .nil
  | d :: ds, _, h => by
    cases h with
    | cons a b => exact .cons (Lay.dp d _ a) (LayAll.dp ds _ b)
end
theorem Lay.keep' {H H' : Hp} {d : PyData} {v : V} (h : Lay H v d) (k : KeepT H H') : Lay H' v d := Lay.keep k d v h
theorem LayAll.keep' {H H' : Hp} {ds : List PyData} {vs : List V} (h : LayAll H vs ds) (k : KeepT H H') : LayAll H' vs ds := LayAll.keep k ds vs h
theorem Lay.dp' {K : PySem.W.Frag} {H : Hp} {d : PyData} {v : V} (h : Lay H v d) : Dp K H v d := Lay.dp d v h
theorem LayAll.len {H : Hp} : ∀ {vs : List V} {ds : List PyData}, LayAll H vs ds → vs.length = ds.length
  | _, _, .nil => rfl
  | _, _, .cons _ h => by rw [List.length_cons, List.length_cons, h.len]
theorem LayAll.get {H : Hp} {v : V} : ∀ {vs : List V} {ds : List PyData} (i : Nat), LayAll H vs ds → vs[i]? = some v → ∃ d, ds[i]? = some d ∧ Lay H v d
  | [], _, _, _, e => by simp at e
  | _ :: _, _, 0, h, e => by
    cases h with
    | cons a b => cases e; exact ⟨_, rfl, a⟩
  | x :: vs, ds, i + 1, h, e => by
    cases h with
    | cons a b =>
      obtain ⟨d, q, l⟩ := LayAll.get (vs := vs) i b (by simpa using e)
      exact ⟨d, by simpa using q, l⟩
theorem LayAll.at_ {H : Hp} {d : PyData} : ∀ {vs : List V} {ds : List PyData} (i : Nat), LayAll H vs ds → ds[i]? = some d → ∃ v, vs[i]? = some v ∧ Lay H v d
  | _, [], _, _, e => by simp at e
  | _, _ :: _, 0, h, e => by
    cases h with
    | cons a b => cases e; exact ⟨_, rfl, a⟩
  | vs, x :: ds, i + 1, h, e => by
    cases h with
    | cons a b =>
      obtain ⟨d, q, l⟩ := LayAll.at_ (ds := ds) i b (by simpa using e)
      exact ⟨d, by simpa using q, l⟩
theorem LayAll.app {H : Hp} : ∀ {vs us : List V} {ds es : List PyData}, LayAll H vs ds → LayAll H us es → LayAll H (vs ++ us) (ds ++ es)
  | _, _, _, _, .nil, h => h
  | _, _, _, _, .cons a b, h => .cons a (b.app h)
theorem LayAll.snoc {H : Hp} {vs : List V} {ds : List PyData} {v : V} {d : PyData} (h : LayAll H vs ds) (a : Lay H v d) : LayAll H (vs ++ [v]) (ds ++ [d]) := h.app (.cons a .nil)
theorem LayAll.ints {H : Hp} : ∀ ns : List Nat, LayAll H (ns.map vI) (ns.map fun n : Nat => PyData.int (n : Int))
  | [] => .nil
  | n :: ns => .cons (.int _) (LayAll.ints ns)
theorem LayAll.ints_inv {H : Hp} : ∀ {ns : List Nat} {vs : List V}, LayAll H vs (ns.map fun n : Nat => PyData.int (n : Int)) → vs = ns.map vI
  | [], _, .nil => rfl
  | n :: ns, _, .cons (.int _) h => by rw [LayAll.ints_inv h]; rfl
theorem LayAll.strs_inv {H : Hp} : ∀ {ns : List Str} {vs : List V}, LayAll H vs (ns.map PyData.str) → vs = ns.map V.str
  | [], _, .nil => rfl
  | n :: ns, _, .cons (.str _) h => by rw [LayAll.strs_inv h]; rfl
theorem LayAll.strs {H : Hp} : ∀ ns : List Str, LayAll H (ns.map V.str) (ns.map PyData.str)
  | [] => .nil
  | n :: ns => .cons (.str _) (LayAll.strs ns)
theorem Lay.tup_inv {H : Hp} {v : V} {ds : List PyData} (h : Lay H v (.tuple ds)) : ∃ p vs, v = .ref p ∧ H p = some (.tup vs) ∧ LayAll H vs ds := by
  cases h with
  | tup e a => exact ⟨_, _, rfl, e, a⟩
theorem Lay.int_inv {H : Hp} {v : V} {i : Int} (h : Lay H v (.int i)) : v = .int i := by cases h; rfl
theorem Lay.str_inv {H : Hp} {v : V} {z : Str} (h : Lay H v (.str z)) : v = .str z := by cases h; rfl
theorem LayAll.nil_inv {H : Hp} {vs : List V} (h : LayAll H vs []) : vs = [] := by cases h; rfl
theorem LayAll.cons_inv {H : Hp} {vs : List V} {d : PyData} {ds : List PyData} (h : LayAll H vs (d :: ds)) : ∃ v us, vs = v :: us ∧ Lay H v d ∧ LayAll H us ds := by
  cases h with
  | cons a b => exact ⟨_, _, rfl, a, b⟩
/-! ### the shapes that == serves -/
def Sh (k : Nat) (d : PyData) : Prop := d.canLay0 = true ∧ d.depth ≤ k
theorem Sh.int (k : Nat) (i : Int) : Sh k (.int i) := ⟨by simp only [PyData.canLay0], by simp only [PyData.depth]; omega⟩
theorem Sh.all {k : Nat} : ∀ {ds : List PyData}, (∀ d ∈ ds, Sh k d) → PyData.canLayAll0 ds = true ∧ PyData.depthAll ds ≤ k
  | [], _ => ⟨by simp only [PyData.canLayAll0], by simp only [PyData.depthAll]; omega⟩
  | d :: ds, h => by
    have a := h d (by simp)
    have b := Sh.all (ds := ds) fun e he => h e (by simp [he])
    refine ⟨?_, ?_⟩
    · simp only [PyData.canLayAll0]
      rw [a.1, b.1]
      rfl
    · simp only [PyData.depthAll]
      have := a.2
      have := b.2
      omega
theorem Sh.tup {k : Nat} {ds : List PyData} (h : ∀ d ∈ ds, Sh k d) : Sh (k + 1) (.tuple ds) := by
  have q := Sh.all h
  exact ⟨by simp only [PyData.canLay0]; exact q.1, by simp only [PyData.depth]; omega⟩
theorem Sh.lst {k : Nat} {ds : List PyData} (h : ∀ d ∈ ds, Sh k d) : Sh (k + 1) (.list ds) := by
  have q := Sh.all h
  exact ⟨by simp only [PyData.canLay0]; exact q.1, by simp only [PyData.depth]; omega⟩
theorem Sh.shaped {k : Nat} {d : PyData} (h : Sh k d) (hk : k ≤ 64) : SeqAt.shaped d = true := by
  show (d.canLay0 && decide (d.depth ≤ 64)) = true
  rw [Bool.and_eq_true]
  exact ⟨h.1, decide_eq_true (by have := h.2; omega)⟩
mutual
theorem eqv_self : ∀ d : PyData, d.canLay0 = true → PyData.eqv d d = true
  | .none, _ => by simp [PyData.eqv]
  | .bool b, _ => by simp [PyData.eqv]
  | .int i, _ => by simp [PyData.eqv]
  | .str x, _ => by simp [PyData.eqv]
  | .list ds, h => by
    simp only [PyData.canLay0] at h
    simp only [PyData.eqv]
    exact eqvAll_self ds h
  | .tuple ds, h => by
    simp only [PyData.canLay0] at h
    simp only [PyData.eqv]
    exact eqvAll_self ds h
  | .dict _, h => by simp [PyData.canLay0] at h
theorem eqvAll_self : ∀ ds : List PyData, PyData.canLayAll0 ds = true → PyData.eqvAll ds ds = true
  | [], _ => by simp [PyData.eqvAll]
  | d :: ds, h => by
    simp only [PyData.canLayAll0, Bool.and_eq_true] at h
    simp only [PyData.eqvAll, Bool.and_eq_true]
    exact ⟨eqv_self d h.1, eqvAll_self ds h.2⟩
end
/-! ### bits of numbers that are not negative -/
section
variable {X : Cx}
theorem op_xorB : OpR X (binaryOp .BitXor) (fun x y H Q => ∃ n m : Nat, x = .int (n : Int) ∧ y = .int (m : Int) ∧ Q (vI (n ^^^ m)) H) := by
  intro pins s σ H x y v u Q I rx ry h
  obtain ⟨n, m, rfl, rfl, q⟩ := h
  refine op_xor pins s σ H _ _ v u Q I rx ry ⟨_, _, rfl, rfl, ?_⟩
  show Q (V.int (Builtin.bitXor (n : Int) (m : Int))) H
  rw [Bits.bitXor_pp (Int.natCast_nonneg _) (Int.natCast_nonneg _)]
  exact q
theorem op_andB : OpR X (binaryOp .BitAnd) (fun x y H Q => ∃ n m : Nat, x = .int (n : Int) ∧ y = .int (m : Int) ∧ Q (vI (n &&& m)) H) := by
  intro pins s σ H x y v u Q I rx ry h
  obtain ⟨n, m, rfl, rfl, q⟩ := h
  refine op_and pins s σ H _ _ v u Q I rx ry ⟨_, _, rfl, rfl, ?_⟩
  show Q (V.int (Builtin.bitAnd (n : Int) (m : Int))) H
  rw [bitAnd_pp (Int.natCast_nonneg _) (Int.natCast_nonneg _)]
  exact q
theorem op_orB : OpR X (binaryOp .BitOr) (fun x y H Q => ∃ n m : Nat, x = .int (n : Int) ∧ y = .int (m : Int) ∧ Q (vI (n ||| m)) H) := by
  intro pins s σ H x y v u Q I rx ry h
  obtain ⟨n, m, rfl, rfl, q⟩ := h
  refine op_or pins s σ H _ _ v u Q I rx ry ⟨_, _, rfl, rfl, ?_⟩
  show Q (V.int (Builtin.bitOr (n : Int) (m : Int))) H
  rw [Bits.bitOr_pp (Int.natCast_nonneg _) (Int.natCast_nonneg _)]
  exact q
end
/-! ### wide numbers that are not negative -/
theorem natAbs_cast (n : Nat) : ((n : Int)).natAbs = n := rfl
section
variable {X : Cx}
theorem op_fdivNW : OpR X (binaryOp .FloorDiv) (fun x y H Q => ∃ n m : Nat, x = .int (n : Int) ∧ y = .int (m : Int) ∧ (1 ≤ m ∧ m < 2 ^ 9000) ∧ Q (vI (n / m)) H) := by
  intro pins s σ H x y v u Q I rx ry h
  obtain ⟨n, m, rfl, rfl, ⟨h1, h2⟩, q⟩ := h
  exact op_fdivW pins s σ H _ _ v u Q I rx ry ⟨_, _, rfl, rfl, wide_div (b := 9000) (by omega) h2 (by omega) (by omega), q⟩
theorem op_mulNW : OpR X (binaryOp .Mult) (fun x y H Q => ∃ n m : Nat, x = .int (n : Int) ∧ y = .int (m : Int) ∧ (n < 2 ^ 100000 ∧ m < 2 ^ 100000) ∧ Q (vI (n * m)) H) := by
  intro pins s σ H x y v u Q I rx ry h
  obtain ⟨n, m, rfl, rfl, ⟨h1, h2⟩, q⟩ := h
  refine op_mulW pins s σ H _ _ v u Q I rx ry ⟨_, _, rfl, rfl, wide_mul (a := 100000) (b := 100000) h1 h2 (by omega) (by omega) (by omega), ?_⟩
  show Q (V.int ((n : Int) * (m : Int))) H
  rw [← Int.natCast_mul]
  exact q
theorem op_shlNN : OpR X (binaryOp .LShift) (fun x y H Q => ∃ n k : Nat, x = .int (n : Int) ∧ y = .int (k : Int) ∧ (n < 2 ^ 100000 ∧ k ≤ 100000) ∧ Q (vI (n * 2 ^ k)) H) := by
  intro pins s σ H x y v u Q I rx ry h
  obtain ⟨n, k, rfl, rfl, ⟨h1, h2⟩, q⟩ := h
  refine op_shlN pins s σ H _ _ v u Q I rx ry ⟨_, k, rfl, rfl, shl_ok (n := 100000) h1 (by omega), ?_⟩
  have e : ((n : Int) * 2 ^ k) = ((n * 2 ^ k : Nat) : Int) := by simp
  rw [e]
  exact q
theorem op_oneShlN : OpR X (binaryOp .LShift) (fun x y H Q => ∃ k : Nat, x = .int 1 ∧ y = .int (k : Int) ∧ k ≤ 134217727 ∧ Q (vI (2 ^ k)) H) := by
  intro pins s σ H x y v u Q I rx ry h
  obtain ⟨k, rfl, rfl, h1, q⟩ := h
  refine op_oneShl pins s σ H _ _ v u Q I rx ry ⟨k, rfl, rfl, h1, ?_⟩
  have e : ((2 : Int) ^ k) = ((2 ^ k : Nat) : Int) := by simp
  rw [e]
  exact q
end
/-! ### walks -/
theorem walk_enumG (S : Src) {K : PySem.W.Frag} {a : Addr} {xs : List V} : Walk (ItE S K a) xs.length (fun H => S.sq K H a xs) (YPair (fun i => some (.int (i : Nat))) (fun i => xs[i]?)) := by
  refine ⟨fun i _ hi q => ⟨xs, xs[i], q, by simp [hi]⟩, fun _ q => ⟨xs, q, rfl⟩, fun i H v H' _ q y => ?_⟩
  obtain ⟨T, x, h1, h2, h3, h4⟩ := y
  exact ⟨T, .int (i : Nat), x, h1, h2, h3, rfl, h4 xs q⟩
def rLenK (K : PySem.W.Frag) (xs : List V) (H : Hp) (Q : V → Hp → Prop) : Prop := ∃ p ys, xs = [.ref p] ∧ (SqL K H p ys ∨ SqT K H p ys) ∧ Q (.int ys.length) H
theorem call_lenK {X : Cx} : CallR X (.builtin "len") (rLenK X.K) := call_len_seq
/-! ### small facts -/
theorem refAt {ts : List Addr} {i : Nat} {x : V} (h : (ts.map V.ref)[i]? = some x) : ∃ t, ts[i]? = some t ∧ x = .ref t := by
  rw [List.getElem?_map] at h
  cases e : ts[i]? with
  | none => rw [e] at h; cases h
  | some k => rw [e] at h; exact ⟨k, rfl, (Option.some.inj h).symm⟩
theorem natAt {xs : List Nat} {i : Nat} {x : V} (h : (xs.map vI)[i]? = some x) : ∃ k, xs[i]? = some k ∧ x = vI k := by
  rw [List.getElem?_map] at h
  cases e : xs[i]? with
  | none => rw [e] at h; cases h
  | some k => rw [e] at h; exact ⟨k, rfl, (Option.some.inj h).symm⟩
theorem mapAt {α : Type} {f : α → V} {xs : List α} {i : Nat} {x : V} (h : (xs.map f)[i]? = some x) : ∃ k, xs[i]? = some k ∧ x = f k := by
  rw [List.getElem?_map] at h
  cases e : xs[i]? with
  | none => rw [e] at h; cases h
  | some k => rw [e] at h; exact ⟨k, rfl, (Option.some.inj h).symm⟩
theorem mapAtD {α : Type} {f : α → PyData} {xs : List α} {i : Nat} {x : PyData} (h : (xs.map f)[i]? = some x) : ∃ k, xs[i]? = some k ∧ x = f k := by
  rw [List.getElem?_map] at h
  cases e : xs[i]? with
  | none => rw [e] at h; cases h
  | some k => rw [e] at h; exact ⟨k, rfl, (Option.some.inj h).symm⟩
theorem take_snoc {α : Type} {l : List α} {i : Nat} {x : α} (h : l[i]? = some x) : l.take (i + 1) = l.take i ++ [x] := by
  rw [List.take_add_one, h]
  rfl
theorem same_two {H H' : Hp} {p : Addr} {o : HO} (k : Same H H') (hp : H p = none) : Same H (upd H' p o) := fun b u q => by
  rw [upd_ne (ne_of_none q hp)]
  exact k _ _ q
theorem i62 {n : Nat} (h : n ≤ 1000) : -(2 ^ 62) ≤ (n : Int) ∧ (n : Int) < 2 ^ 62 := by
  have a : (-(2 ^ 62) : Int) ≤ 0 := by decide
  have b : (1001 : Int) ≤ 2 ^ 62 := by decide
  exact ⟨Int.le_trans a (Int.natCast_nonneg _), Int.lt_of_lt_of_le (by omega) b⟩
theorem vInt {i : Int} {n : Nat} (h : i = (n : Int)) : V.int i = vI n := by rw [h]; rfl
theorem all_true : ∀ n : Nat, (List.replicate n true).all id = true
  | 0 => rfl
  | n + 1 => by
    rw [List.replicate_succ, List.all_cons, all_true n]
    rfl
theorem len1000 {n : Nat} (h : n ≤ 1000) : n < sizeLine := small1000 h
end Bf

set_option Elab.async false
set_option linter.all false
set_option maxRecDepth 100000
set_option maxHeartbeats 4000000
namespace Bf
open PySem PySem.Spec PyProof.Rows L2
/-! ### zip of a list or tuple and a text -/
theorem strAt {h h' : Heap} {a : Addr} {ty : String} {x : Str} {t : Tok} {i : Nat} (y : h.IsStrIter a ty x t i) (k : ∀ o, h.get? a = some o → h'.get? a = some o) : h'.IsStrIter a ty x t i := let ⟨o, e, r⟩ := y; ⟨o, k o e, r⟩
def ItZS (S1 : Src) (K : PySem.W.Frag) (a : Addr) (zt : Str) : It :=
  ⟨fun i H => ∃ (xs : List V) (x : V) (c : Nat), S1.sq K H a xs ∧ xs[i]? = some x ∧ zt.cps[i]? = some c,
    fun i H v H' => ∃ T x c, v = .ref T ∧ H T = none ∧ H' = upd H T (.tup [x, .str ⟨#[c]⟩]) ∧ (∀ xs, S1.sq K H a xs → xs[i]? = some x) ∧ zt.cps[i]? = some c,
    fun i H => ∃ xs : List V, S1.sq K H a xs ∧ i ≤ xs.length ∧ i ≤ zt.cps.size ∧ (i = xs.length ∨ i = zt.cps.size)⟩
theorem turn_zipS (S1 : Src) {P : Program} {w : World} {K : PySem.W.Frag} {elts : List Expr} {kk : Nat} {tpos : Pos} {a z TI TO i1 i2 : Addr} {zt : Str} {tz : Tok} (D : ZipSep2 z TI TO i1 i2 [i1, a] [i2]) (ha1 : a ≠ i1) :
    Turn P w K (.Tuple elts kk tpos) (ItZS S1 K a zt) [z, TI, TO, i1, i2] z (fun i h => IsZip h z TI TO .none ∧ IsTupOf2 h TI (.ref i1) (.ref i2) ∧ (∃ x y, IsTupOf2 h TO x y) ∧ S1.itr h i1 a i ∧ h.IsStrIter i2 (strIterType zt) zt tz i) where
  mem := by simp
  obj := fun i h st c hc => by
    obtain ⟨hz, hTI, ⟨x, y, hTO⟩, h1, h2⟩ := st
    have e' : c = z ∨ c = TI ∨ c = TO ∨ c = i1 ∨ c = i2 := by simpa using hc
    rcases e' with q | q | q | q | q
    · rw [q]; exact ⟨_, hz, fun v q => nomatch q⟩
    · rw [q]; exact ⟨_, hTI, fun v q => nomatch q⟩
    · rw [q]; exact ⟨_, hTO, fun v q => nomatch q⟩
    · rw [q]; exact S1.obj h1
    · rw [q]; obtain ⟨o, e, _, d⟩ := h2; exact ⟨o, e, fun v z => by rw [d] at z; cases z⟩
  keep := fun i h h' st k => by
    obtain ⟨hz, hTI, ⟨x, y, hTO⟩, h1, h2⟩ := st
    exact ⟨k z (by simp) _ hz, k TI (by simp) _ hTI, ⟨x, y, k TO (by simp) _ hTO⟩, S1.at_ h1 fun o q => k i1 (by simp) o q, strAt h2 fun o q => k i2 (by simp) o q⟩
  item := by
    intro X hP hw hK hc i pins s σ H E I hf st hg
    subst hP hw hK
    obtain ⟨hz, hTI, ⟨x0, y0, hTO⟩, h1, h2⟩ := st
    obtain ⟨xs, x, c0, hqx, hx, hy⟩ := hg
    obtain ⟨its, rv, p⟩ := S1.inv I hqx
    obtain ⟨u, hu, ru⟩ := rv.get hx
    have hzl : z < s.heap.objs.size := Heap.lt_size hz
    have hlt : i < its.toArray.size := by
      have q := (List.getElem?_eq_some_iff.mp hu).1
      simpa using q
    have hlt2 : i < zt.cps.size := (Array.getElem?_eq_some_iff.mp hy).1
    have hh : X.A.in1.handled = none := I.ok.hd hc
    refine wpAny_pyNext_zipD2_item D (S1.draws hh i1 a ha1 its.toArray) (Draws.text hh i2 zt tz) hz hTI hTO ⟨h1, p⟩ h2 hlt hlt2 fun v v2 h' tk hv hv2 z' TO' st1 st2 hT hsz hk => ?_
    have ev : u = v := by
      have q : its[i]? = some v := by simpa using hv
      rw [hu] at q; cases q; rfl
    obtain ⟨c, uu, hcc, rfl⟩ := hv2
    obtain rfl : c0 = c := Option.some.inj (hy.symm.trans hcc)
    subst ev
    refine ⟨_, rfl, wpAny_letOwnedTupleGo_zip (s := { s with heap := h', toks := tk }) z' fun h'' z'' sb => ?_⟩
    have hT2 : h''.get? s.heap.objs.size = some { cls := .type "tuple", data := .seq #[u, .str ⟨#[c0]⟩ uu] } := (sb.2 _ (Nat.ne_of_gt hzl)).trans hT
    have new : ObjOk X.prog X.w (upd H s.heap.objs.size (.tup [x, .str ⟨#[c0]⟩])) h'' s.heap.objs.size (.tup [x, .str ⟨#[c0]⟩]) :=
      ⟨by show 2 ≤ sizeLine; decide, [u, .str ⟨#[c0]⟩ uu], .cons ru (.cons ⟨_, rfl⟩ .nil), ⟨_, hT2, rfl, _, rfl⟩⟩
    have I1 : Inv X pins σ (upd H s.heap.objs.size (.tup [x, .str ⟨#[c0]⟩])) { s with heap := h'', toks := tk } :=
      I.turnedNew (ch := [z, TI, TO, i1, i2]) (fun c o hb q => (sb.2 c (fun q' => hb (by simp [q']))).trans (hk c o (fun q' => hb (by simp [q'])) (fun q' => hb (by simp [q'])) (fun q' => hb (by simp [q'])) (fun q' => hb (by simp [q'])) q)) hf (Nat.le_refl _) new
    have zi1 : i1 ≠ z := fun q => D.zf1 (by simp [q])
    have zi2 : i2 ≠ z := fun q => D.zf2 (by simp [q])
    refine ⟨.ref s.heap.objs.size, _, I1, rfl, ⟨_, x, c0, rfl, I.hok.fresh (Nat.le_refl _), rfl, fun l hl => by rw [S1.inj I hl hqx]; exact hx, hy⟩, ⟨z'', ?_, ⟨u, .str ⟨#[c0]⟩ uu, ?_⟩, ?_, ?_⟩, fun c hcm => ?_⟩
    · exact (sb.2 _ D.TIz).trans (hk _ _ D.TIz D.TITO D.TIi1 D.TIi2 hTI)
    · exact (sb.2 _ D.TOz).trans TO'
    · exact S1.at_ st1.1 fun o q => (sb.2 _ zi1).trans q
    · exact strAt st2 fun o q => (sb.2 _ zi2).trans q
    · have hlt : c < s.heap.objs.size := by
        have e' : c = z ∨ c = TI ∨ c = TO ∨ c = i1 ∨ c = i2 := by simpa using hcm
        rcases e' with q | q | q | q | q
        · rw [q]; exact hzl
        · rw [q]; exact Heap.lt_size hTI
        · rw [q]; exact Heap.lt_size hTO
        · rw [q]; obtain ⟨_, e1, _⟩ := S1.obj h1; exact Heap.lt_size e1
        · rw [q]; obtain ⟨_, e2, _⟩ := h2; exact Heap.lt_size e2
      rw [upd_ne (Nat.ne_of_lt hlt)]
      exact (hf c hcm).1
  done := by
    intro X hP hw hK hc i pins s σ H E I hf st hg
    subst hP hw hK
    obtain ⟨hz, hTI, ⟨x0, y0, hTO⟩, h1, h2⟩ := st
    obtain ⟨xs, hqx, le1, le2, hend⟩ := hg
    obtain ⟨its, rv, p⟩ := S1.inv I hqx
    have l1 := rv.length
    have hh : X.A.in1.handled = none := I.ok.hd hc
    exact wpAny_pyNext_zipD2_end D (S1.draws hh i1 a ha1 its.toArray) (Draws.text hh i2 zt tz) hz hTI hTO ⟨h1, p⟩ h2 (by rw [List.size_toArray]; omega) le2
      (by rw [List.size_toArray]; omega) fun h' tk hk => ⟨rfl, I.turnedL (t' := tk) (ch := [z, TI, TO, i1, i2]) (fun c o hb q =>
      hk c o (fun q' => hb (by simp [q'])) (fun q' => hb (by simp [q'])) (fun q' => hb (by simp [q'])) (fun q' => hb (by simp [q'])) q) hf⟩
  self := fun A i s Q E st h => wpAny_pyIter_zip st.1 h
theorem zipS_run (S1 : Src) {X : Cx} {pins : List (Addr × Obj)} {σ : L2.St} {H1 : Hp} {s1 : Shared} {us : List Value} {vs : List V} {elts : List Expr} {kk : Nat} {tpos : Pos} {R : It → Hp → Prop} (I1 : Inv X pins σ H1 s1) (r1 : Vals vs us)
    (q1 : ∃ (a : Addr) (zt : Str) (xs : List V), vs = [.ref a, .str zt] ∧ S1.sq X.K H1 a xs ∧ R (ItZS S1 X.K a zt) H1) :
    wpAny (model X.prog X.w) X.A (call (.type "zip") us) (fun v s1 => wpAny (model X.prog X.w) X.A (pyIter v) (PIE X pins σ (.Tuple elts kk tpos) R) X.xe s1) X.xe s1 := by
  obtain ⟨a, zt, xs, ex, hqx, q⟩ := q1
  subst ex
  cases r1 with
  | cons r rr =>
    cases rr with
    | cons r' rr =>
      cases rr
      cases r
      obtain ⟨tz, rfl⟩ := r'
      obtain ⟨its, rv, p1⟩ := S1.inv I1 hqx
      have la := S1.lt p1
      refine zip_begins2 (S1.beg a its.toArray) (begins_text zt tz) p1 trivial fun h' hz hTI hTO h1 h2 hsz hk => wpAny_pyIter_zip hz ?_
      have I2 : Inv X pins σ H1 { s1 with heap := h' } := I1.kept (t' := s1.toks) hk
      refine ⟨s1.heap.objs.size + 4, [s1.heap.objs.size + 4, s1.heap.objs.size + 2, s1.heap.objs.size + 3, s1.heap.objs.size, s1.heap.objs.size + 1], _, _, H1, rfl, I2,
        turn_zipS S1 (zip_sep2 (fp1 := [a]) (fp2 := []) (by intro c hc; rw [List.mem_singleton.mp hc]; exact la) (by intro c hc; cases hc)) (Nat.ne_of_lt la),
        ⟨hz, hTI, ⟨_, _, hTO⟩, S1.start h1, ⟨_, h2, rfl, rfl⟩⟩, fun c hcm => ?_, q⟩
      have e' : c = s1.heap.objs.size + 4 ∨ c = s1.heap.objs.size + 2 ∨ c = s1.heap.objs.size + 3 ∨ c = s1.heap.objs.size ∨ c = s1.heap.objs.size + 1 := by simpa using hcm
      have hle : s1.heap.objs.size ≤ c := by
        rcases e' with z | z | z | z | z
        · rw [z]; exact Nat.le_add_right _ _
        · rw [z]; exact Nat.le_add_right _ _
        · rw [z]; exact Nat.le_add_right _ _
        · rw [z]; exact Nat.le_refl _
        · rw [z]; exact Nat.le_add_right _ _
      exact I1.fpOk hle (I1.hok.fresh hle)
def iZpS (K : PySem.W.Frag) (ta : TA) : TI := fun σ H R => ta σ H fun vs H1 => ∃ (S1 : Src) (a : Addr) (zt : Str) (xs : List V), vs = [.ref a, .str zt] ∧ S1.sq K H1 a xs ∧ R (ItZS S1 K a zt) H1
theorem pi_zipS {X : Cx} {e e2 : Expr} {ta : TA} {p pos tpos : Pos} {elts : List Expr} {kk : Nat} (hg : Gl X "zip") (hm : X.mg "zip" = none) (ha : PA X [e, e2] ta)
    (hs : starEach [e, e2] X.env = (false, eval e X.env) :: starEach [e2] X.env := by rfl) (hpl : (backTo pos (starEach [e2] X.env)).any (·.1) = false := by rfl) :
    PI X (.Tuple elts kk tpos) (.Call (.Name "zip" p) [e, e2] [] pos) (iZpS X.K ta) := by
  refine ⟨fun pins s σ H R I h => ?_⟩
  have h' : ta σ H fun vs H1 => ∃ S1 : Src, ∃ (a : Addr) (zt : Str) (xs : List V), vs = [.ref a, .str zt] ∧ S1.sq X.K H1 a xs ∧ R (ItZS S1 X.K a zt) H1 := h
  refine Call_ (ld_blt I hg hm PyProof.Rows.boot_zip (PyProof.Rows.callWith_type1 (thn (ha.run pos pins s σ H _ I h') fun us s1 ⟨vs, H1, I1, r1, q1⟩ => ?_) hs hpl))
  obtain ⟨S1, a, zt, xs, ex, hqx, q⟩ := q1
  exact zipS_run S1 I1 r1 ⟨a, zt, xs, ex, hqx, q⟩
theorem walk_zipS (S1 : Src) {K : PySem.W.Frag} {a : Addr} {xs : List V} {zt : Str} (h : xs.length = zt.cps.size) : Walk (ItZS S1 K a zt) xs.length (fun H => S1.sq K H a xs) (YPair (fun i => xs[i]?) (fun i => zt.cps[i]?.map fun c => V.str ⟨#[c]⟩)) := by
  refine ⟨fun i _ hi q => ⟨xs, xs[i], zt.cps[i]'(by omega), q, by simp [hi], by simp [show i < zt.cps.size by omega]⟩, fun _ q => ⟨xs, q, Nat.le_refl _, by omega, .inl rfl⟩, fun i H v H' _ q y => ?_⟩
  obtain ⟨T, x, c, h1, h2, h3, h4, h5⟩ := y
  exact ⟨T, x, _, h1, h2, h3, h4 xs q, by show (zt.cps[i]?.map fun c => V.str ⟨#[c]⟩) = _; rw [h5]; rfl⟩
end Bf

set_option Elab.async false
set_option linter.all false
set_option maxRecDepth 100000
set_option maxHeartbeats 4000000
namespace Bf
open PySem PySem.Spec PyProof.Rows L2
section
variable {X : Cx}
/-- sorted(d), d a dict with int keys, of any length -/
theorem cr_sortedKeysI (hcalm : X.calm = true) : CallR X (.builtin "sorted") (fun xs H Q => ∃ (a : Addr) (kvs : List (Key × V)) (ks : List Int), xs = [.ref a] ∧ Rd H a (.dK kvs) ∧ kvs.map (·.1) = ks.map Sum.inl ∧
    ∀ (ys : List Int) (p : Addr), ys.Perm ks → ys.Pairwise (· ≤ ·) → H p = none → Q (.ref p) (upd H p (.lst (ys.map V.int)))) := by
  intro pins s σ H xs us Q I r q
  obtain ⟨a, kvs, ks, ex, hd, hks, q⟩ := q
  subst ex
  obtain ⟨u, eu, rx⟩ := vals1 r
  subst eu
  cases rx
  obtain ⟨z, lo, vs, rel, dd⟩ := dk_rd I.hok hd
  obtain ⟨ep, hat⟩ := dd.dictAt
  have hkeys : vs.map (·.1) = ks.map Sum.inl := rel.keys.symm.trans hks
  have hl : vs.length = ks.length := by
    have e := congrArg List.length hkeys
    rw [List.length_map, List.length_map] at e
    exact e
  have h16 : vs.length ≤ sizeLine := by
    rw [← Paired.length rel]
    exact z
  refine Calls.call_function_entry PyProof.Rows.kind_sorted PyProof.Rows.plain_sorted PyProof.Rows.entry_sorted (PyProof.Rows.args_sorted1 _) ?_
  unfold Builtin.«sorted»
  refine wpAny_bind (m := checkCount "sorted" 1 1 _) (wpAny_pure ?_)
  refine wpAny_bind (PySem.W.kdu_collect (A := X.A.in1) (PySem.W.kdl_dict (knd := mixKind X.prog X.w) (kvs := vs) (ep := ep) lo) (I.ok.hd hcalm) hat h16 fun h' tk acc hk hacc => ?_)
  have hal : acc.toList.length = ks.length := by rw [Array.length_toList, hacc.1, hl]
  have hS : IntsAre acc.toList ks := ints_each hal fun j v e => by
    obtain ⟨k, x, e1, e2⟩ := hacc.2 j v (by rw [← Array.getElem?_toList]; exact e)
    have e3 : (vs.map (·.1))[j]? = some k := by rw [List.getElem?_map, e1]; rfl
    rw [hkeys, List.getElem?_map] at e3
    cases e4 : ks[j]? with
    | none => rw [e4] at e3; cases e3
    | some y =>
      rw [e4] at e3
      have e5 : Sum.inl y = k := Option.some.inj e3
      subst e5
      rcases keyIs_shape (show keyIs (Sum.inl y) v = true from e2) with ⟨i, t, ek, ev⟩ | ⟨z, t, ek, ev⟩
      · cases ek
        exact ⟨y, t, rfl, ev⟩
      · cases ek
  have I1 : Inv X pins σ H { s with heap := h', toks := tk } := I.kept hk
  have hal2 : acc.toList.length ≤ sizeLine := by rw [hal, ← hl]; exact h16
  refine wpAny_bind (wpAny_newList ?_ (by rw [hal, ← hl]; exact h16))
  have hoL : (h'.push (seqObj "list" acc.toList.toArray 0)).get? h'.objs.size = some (seqObj "list" acc.toList.toArray 0) := Heap.get?_push_size _ rfl
  show wpAny _ _ _ _ _ { s with heap := h'.push (seqObj "list" acc.toList.toArray 0), toks := tk }
  refine wpAny_bind (wpAny_holding (wpAny_call_entry PyProof.Rows.slot_list_sort ⟨_, hoL, rfl⟩ PyProof.Rows.entry_list_sort
    (SrtO.list_sort_ord (s := { s with heap := h'.push (seqObj "list" acc.toList.toArray 0), toks := tk }) SrtO.swo_int hoL hal2 (fun h2 => SrtO.ints_sortable hS h2) fun out h1 h2 => ⟨_, rfl, ?_⟩) (PyProof.Rows.args_list_sort _)))
  obtain ⟨g1, g2, g3⟩ := SrtO.ints_out hS h1 h2
  obtain ⟨e', he'⟩ := PyProof.Rows.sortedHeap_at (vs := acc.toList) (out := out.toArray) hoL
  have hlen : ((out.map SrtO.iv).map V.int).length ≤ sizeLine := by
    rw [List.length_map, g2.length_eq, ← hl]
    exact h16
  refine wpAny_pure ⟨_, rfl, .ref h'.objs.size, upd H h'.objs.size (.lst ((out.map SrtO.iv).map V.int)), I1.laid (t' := tk) (fun b u e => ?_) (Nat.le_refl _)
    (show ObjOk X.prog X.w _ _ _ (.lst ((out.map SrtO.iv).map V.int)) from ⟨hlen, out, e', vals_of_ints g1, he'⟩), rfl, q _ _ g2 g3 (I1.hok.fresh (Nat.le_refl _))⟩
  have hb : b < h'.objs.size := Heap.lt_size e
  rw [PyProof.Rows.sortedHeap_old (Nat.ne_of_lt hb) (by rw [size_push']; exact Nat.lt_succ_of_lt hb)]
  exact Heap.get?_push_of_some _ e
end
/-- two ascending lists of the same numbers are one -/
theorem sorted_same {xs ys : List Int} (hx : xs.Pairwise (· ≤ ·)) (hy : ys.Pairwise (· ≤ ·)) (h : xs.Perm ys) : xs = ys :=
  h.eq_of_pairwise (fun a b _ _ h1 h2 => Int.le_antisymm h1 h2) hx hy
end Bf

set_option Elab.async false
set_option linter.all false
set_option maxRecDepth 100000
set_option maxHeartbeats 4000000
namespace Bf
open PySem
/-! ### graphs of words: their nodes, picks -/
structure Nd where
  op : Str
  w : Nat
  args : List Nat
/-- node n can stand at place i -/
structure Nd.Ok (n : Nd) (i : Nat) : Prop where
  pick : n.op = "pick" → ∃ c a b, n.args = [c, a, b] ∧ a < i ∧ b < i
  const : n.op = "const" → ∃ v, n.args = [v]
  w1 : 1 ≤ n.w
  w8 : n.w ≤ 8
  len : n.args.length ≤ 3
def NdsOk (ns : List Nd) : Prop := ∀ (i : Nat) (n : Nd), ns[i]? = some n → n.Ok i
def HasW (ns : List Nd) (w : Nat) : Prop := ∃ (i : Nat) (n : Nd), ns[i]? = some n ∧ n.w = w
theorem NdsOk.snoc {ns : List Nd} {n : Nd} (h : NdsOk ns) (k : n.Ok ns.length) : NdsOk (ns ++ [n]) := fun i m e => by
  by_cases hi : i < ns.length
  · rw [List.getElem?_append_left hi] at e
    exact h i m e
  · rw [List.getElem?_append_right (by omega)] at e
    have e0 : i - ns.length = 0 := by
      cases q : i - ns.length with
      | zero => rfl
      | succ n => rw [q] at e; simp at e
    rw [e0] at e
    obtain rfl : n = m := Option.some.inj e
    rw [show i = ns.length by omega]
    exact k
theorem HasW.app {ns ms : List Nd} {w : Nat} (h : HasW ns w) : HasW (ns ++ ms) w := by
  obtain ⟨i, n, e, q⟩ := h
  exact ⟨i, n, by rw [List.getElem?_append_left (List.getElem?_eq_some_iff.mp e).1]; exact e, q⟩
theorem HasW.last {ns : List Nd} {n : Nd} : HasW (ns ++ [n]) n.w := ⟨ns.length, n, by simp, rfl⟩
/-- what is reached from s over the arms of picks -/
inductive Rch (ns : List Nd) (s : Nat) : Nat → Prop
  | base : Rch ns s s
  | step {i x c a b : Nat} {n : Nd} : Rch ns s i → ns[i]? = some n → n.op = "pick" → n.args = [c, a, b] → x = a ∨ x = b → Rch ns s x
theorem Rch.lt {ns : List Nd} {s x : Nat} (G : NdsOk ns) (hs : s < ns.length) (h : Rch ns s x) : x < ns.length ∧ x ≤ s := by
  induction h with
  | base => exact ⟨hs, Nat.le_refl _⟩
  | step _ e p q z ih =>
    obtain ⟨c', a', b', e', h1, h2⟩ := (G _ _ e).pick p
    rw [q] at e'
    cases e'
    rcases z with rfl | rfl <;> omega
/-- a depth-first search: met M, to do T -/
structure DInv (ns : List Nd) (s : Nat) (M T : List Nat) : Prop where
  m : ∀ x ∈ M, Rch ns s x
  t : ∀ x ∈ T, Rch ns s x
  b : s ∈ M ∨ s ∈ T
  cl : ∀ x ∈ M, ∀ (n : Nd) (c a b : Nat), ns[x]? = some n → n.op = "pick" → n.args = [c, a, b] → (a ∈ M ∨ a ∈ T) ∧ (b ∈ M ∨ b ∈ T)
theorem DInv.start (ns : List Nd) (s : Nat) : DInv ns s [] [s] := ⟨fun x h => (by cases h), fun x h => (by rw [List.mem_singleton.mp h]; exact .base), .inr (by simp), fun x h => (by cases h)⟩
theorem DInv.skip {ns : List Nd} {s x : Nat} {M T : List Nat} (h : DInv ns s M (T ++ [x])) (hx : x ∈ M) : DInv ns s M T where
  m := h.m
  t := fun y hy => h.t y (by simp [hy])
  b := by
    rcases h.b with q | q
    · exact .inl q
    · rcases List.mem_append.mp q with q | q
      · exact .inr q
      · rw [List.mem_singleton.mp q]; exact .inl hx
  cl := fun y hy n c a b e p q => by
    have k : ∀ z, z ∈ M ∨ z ∈ T ++ [x] → z ∈ M ∨ z ∈ T := fun z hz => by
      rcases hz with hz | hz
      · exact .inl hz
      · rcases List.mem_append.mp hz with hz | hz
        · exact .inr hz
        · rw [List.mem_singleton.mp hz]; exact .inl hx
    obtain ⟨h1, h2⟩ := h.cl y hy n c a b e p q
    exact ⟨k _ h1, k _ h2⟩
theorem DInv.leaf {ns : List Nd} {s x : Nat} {M T : List Nat} {n : Nd} (h : DInv ns s M (T ++ [x])) (e : ns[x]? = some n) (np : ¬ n.op = "pick") : DInv ns s (M ++ [x]) T where
  m := fun y hy => by
    rcases List.mem_append.mp hy with q | q
    · exact h.m y q
    · rw [List.mem_singleton.mp q]; exact h.t x (by simp)
  t := fun y hy => h.t y (by simp [hy])
  b := by
    rcases h.b with q | q
    · exact .inl (by simp [q])
    · rcases List.mem_append.mp q with q | q
      · exact .inr q
      · rw [List.mem_singleton.mp q]; exact .inl (by simp)
  cl := fun y hy m c a b e1 p q => by
    have k : ∀ z, z ∈ M ∨ z ∈ T ++ [x] → z ∈ M ++ [x] ∨ z ∈ T := fun z hz => by
      rcases hz with hz | hz
      · exact .inl (by simp [hz])
      · rcases List.mem_append.mp hz with hz | hz
        · exact .inr hz
        · rw [List.mem_singleton.mp hz]; exact .inl (by simp)
    rcases List.mem_append.mp hy with hy | hy
    · obtain ⟨h1, h2⟩ := h.cl y hy m c a b e1 p q
      exact ⟨k _ h1, k _ h2⟩
    · rw [List.mem_singleton.mp hy, e] at e1
      cases e1
      exact absurd p np
theorem DInv.pick {ns : List Nd} {s x c a b : Nat} {M T : List Nat} {n : Nd} (h : DInv ns s M (T ++ [x])) (e : ns[x]? = some n) (p : n.op = "pick") (q : n.args = [c, a, b]) : DInv ns s (M ++ [x]) (T ++ [a, b]) where
  m := fun y hy => by
    rcases List.mem_append.mp hy with q | q
    · exact h.m y q
    · rw [List.mem_singleton.mp q]; exact h.t x (by simp)
  t := fun y hy => by
    rcases List.mem_append.mp hy with hy | hy
    · exact h.t y (by simp [hy])
    · have z : y = a ∨ y = b := by simpa using hy
      exact .step (h.t x (by simp)) e p q z
  b := by
    rcases h.b with q | q
    · exact .inl (by simp [q])
    · rcases List.mem_append.mp q with q | q
      · exact .inr (by simp [q])
      · rw [List.mem_singleton.mp q]; exact .inl (by simp)
  cl := fun y hy m c' a' b' e1 p1 q1 => by
    have k : ∀ z, z ∈ M ∨ z ∈ T ++ [x] → z ∈ M ++ [x] ∨ z ∈ T ++ [a, b] := fun z hz => by
      rcases hz with hz | hz
      · exact .inl (by simp [hz])
      · rcases List.mem_append.mp hz with hz | hz
        · exact .inr (by simp [hz])
        · rw [List.mem_singleton.mp hz]; exact .inl (by simp)
    rcases List.mem_append.mp hy with hy | hy
    · obtain ⟨h1, h2⟩ := h.cl y hy m c' a' b' e1 p1 q1
      exact ⟨k _ h1, k _ h2⟩
    · rw [List.mem_singleton.mp hy, e] at e1
      cases e1
      rw [q] at q1
      cases q1
      exact ⟨.inr (by simp), .inr (by simp)⟩
theorem DInv.done {ns : List Nd} {s : Nat} {M : List Nat} (h : DInv ns s M []) (G : NdsOk ns) (x : Nat) : x ∈ M ↔ Rch ns s x := by
  have z : ∀ y, y ∈ M ∨ y ∈ ([] : List Nat) → y ∈ M := fun y hy => by
    rcases hy with q | q
    · exact q
    · cases q
  refine ⟨h.m x, fun r => ?_⟩
  induction r with
  | base => exact z _ h.b
  | step _ e p q y ih =>
    obtain ⟨h1, h2⟩ := h.cl _ ih _ _ _ _ e p q
    rcases y with rfl | rfl
    · exact z _ h1
    · exact z _ h2
/-- a sweep from above: what is at k and above has been looked at -/
structure SInv (ns : List Nd) (s : Nat) (M : List Nat) (k : Nat) : Prop where
  m : ∀ x ∈ M, Rch ns s x
  b : s ∈ M
  cl : ∀ x ∈ M, k ≤ x → ∀ (n : Nd) (c a b : Nat), ns[x]? = some n → n.op = "pick" → n.args = [c, a, b] → a ∈ M ∧ b ∈ M
theorem SInv.start (ns : List Nd) (s : Nat) : SInv ns s [s] (s + 1) := ⟨fun x h => (by rw [List.mem_singleton.mp h]; exact .base), by simp, fun x h hk => (by rw [List.mem_singleton.mp h] at hk; omega)⟩
theorem SInv.skip {ns : List Nd} {s k : Nat} {M : List Nat} (h : SInv ns s M (k + 1)) (hk : k ∉ M) : SInv ns s M k := ⟨h.m, h.b, fun x hx hkx n c a b e p q => by
  have : x ≠ k := fun z => hk (z ▸ hx)
  exact h.cl x hx (by omega) n c a b e p q⟩
theorem SInv.leaf {ns : List Nd} {s k : Nat} {M : List Nat} {n : Nd} (h : SInv ns s M (k + 1)) (e : ns[k]? = some n) (np : ¬ n.op = "pick") : SInv ns s M k := ⟨h.m, h.b, fun x hx hkx m c a b e1 p q => by
  by_cases z : x = k
  · rw [z, e] at e1
    cases e1
    exact absurd p np
  · exact h.cl x hx (by omega) m c a b e1 p q⟩
def addN (M : List Nat) (x : Nat) : List Nat := if x ∈ M then M else M ++ [x]
theorem mem_addN {M : List Nat} {x y : Nat} : y ∈ addN M x ↔ y ∈ M ∨ y = x := by
  unfold addN
  by_cases h : x ∈ M
  · rw [if_pos h]
    exact ⟨.inl, fun q => q.elim id fun e => e ▸ h⟩
  · rw [if_neg h]
    simp
theorem addN_nodup {M : List Nat} {x : Nat} (h : M.Nodup) : (addN M x).Nodup := by
  unfold addN
  by_cases q : x ∈ M
  · rw [if_pos q]; exact h
  · rw [if_neg q]
    exact List.nodup_append.mpr ⟨h, by simp, fun a ha b hb e => q (by rw [← List.mem_singleton.mp hb, ← e]; exact ha)⟩
theorem SInv.pick {ns : List Nd} {s k c a b : Nat} {M : List Nat} {n : Nd} (h : SInv ns s M (k + 1)) (hk : k ∈ M) (e : ns[k]? = some n) (p : n.op = "pick") (q : n.args = [c, a, b]) (ha : a < k) (hb : b < k) : SInv ns s (addN (addN M a) b) k where
  m := fun x hx => by
    rcases mem_addN.mp hx with hx | rfl
    · rcases mem_addN.mp hx with hx | rfl
      · exact h.m x hx
      · exact .step (h.m k hk) e p q (.inl rfl)
    · exact .step (h.m k hk) e p q (.inr rfl)
  b := mem_addN.mpr (.inl (mem_addN.mpr (.inl h.b)))
  cl := fun x hx hkx m c' a' b' e1 p1 q1 => by
    have up : ∀ y ∈ M, y ∈ addN (addN M a) b := fun y hy => mem_addN.mpr (.inl (mem_addN.mpr (.inl hy)))
    by_cases z : x = k
    · rw [z, e] at e1
      cases e1
      rw [q] at q1
      cases q1
      exact ⟨mem_addN.mpr (.inl (mem_addN.mpr (.inr rfl))), mem_addN.mpr (.inr rfl)⟩
    · rcases mem_addN.mp hx with hx | rfl
      · rcases mem_addN.mp hx with hx | rfl
        · obtain ⟨h1, h2⟩ := h.cl x hx (by omega) m c' a' b' e1 p1 q1
          exact ⟨up _ h1, up _ h2⟩
        · omega
      · omega
theorem SInv.done {ns : List Nd} {s : Nat} {M : List Nat} (h : SInv ns s M 0) (x : Nat) : x ∈ M ↔ Rch ns s x := by
  refine ⟨h.m x, fun r => ?_⟩
  induction r with
  | base => exact h.b
  | step _ e p q y ih =>
    obtain ⟨h1, h2⟩ := h.cl _ ih (Nat.zero_le _) _ _ _ _ e p q
    rcases y with rfl | rfl
    · exact h1
    · exact h2
/-- the words of the consts that are reached; something else is reached -/
def Cv (ns : List Nd) (s v : Nat) : Prop := ∃ (x : Nat) (n : Nd), Rch ns s x ∧ ns[x]? = some n ∧ n.op = "const" ∧ n.args = [v]
def Bad (ns : List Nd) (own : Nd → Bool) (s : Nat) : Prop := ∃ (x : Nat) (n : Nd), Rch ns s x ∧ ns[x]? = some n ∧ n.op ≠ "const" ∧ n.op ≠ "pick" ∧ own n = false
/-- ascending numbers -/
theorem asc_same {xs ys : List Nat} (hx : xs.Pairwise (· < ·)) (hy : ys.Pairwise (· < ·)) (h : ∀ v, v ∈ xs ↔ v ∈ ys) : xs = ys := by
  have nx : xs.Nodup := hx.imp fun h => Nat.ne_of_lt h
  have ny : ys.Nodup := hy.imp fun h => Nat.ne_of_lt h
  exact ((List.perm_ext_iff_of_nodup nx ny).mpr h).eq_of_pairwise (fun a b _ _ h1 h2 => absurd h1 (Nat.lt_asymm h2)) hx hy
end Bf

set_option Elab.async false
set_option linter.all false
set_option maxRecDepth 100000
set_option maxHeartbeats 4000000
namespace Bf
open PySem PySem.Spec PyProof.Rows L2
/-! ### nodes of graphs, as they lie -/
def nodeD (n : Nd) : PyData := .tuple (.str n.op :: .int (n.w : Int) :: n.args.map fun a : Nat => PyData.int (a : Int))
theorem Lay.node {H : Hp} {v : V} {n : Nd} (h : Lay H v (nodeD n)) : ∃ q, v = .ref q ∧ H q = some (.tup (.str n.op :: vI n.w :: n.args.map vI)) := by
  obtain ⟨q, vs, rfl, e, la⟩ := h.tup_inv
  obtain ⟨v0, u0, rfl, l0, lb⟩ := la.cons_inv
  obtain ⟨v1, u1, rfl, l1, lc⟩ := lb.cons_inv
  obtain rfl := l0.str_inv
  obtain rfl := l1.int_inv
  obtain rfl := lc.ints_inv
  exact ⟨q, rfl, e⟩
theorem Lay.mkNode {H : Hp} {q : Addr} {op : Str} {w : Nat} {args : List Nat} (e : H q = some (.tup (.str op :: vI w :: args.map vI))) : Lay H (.ref q) (nodeD ⟨op, w, args⟩) := .tup e (.cons (.str _) (.cons (.int _) (LayAll.ints _)))
theorem sh_node (n : Nd) (hs : PyData.strOk n.op = true) : Sh 1 (nodeD n) := Sh.tup fun d hd => by
  rcases List.mem_cons.mp hd with rfl | hd
  · exact ⟨by simp only [PyData.canLay0]; exact hs, by simp only [PyData.depth]; omega⟩
  · rcases List.mem_cons.mp hd with rfl | hd
    · exact Sh.int _ _
    · obtain ⟨a, _, rfl⟩ := List.mem_map.mp hd
      exact Sh.int _ _
/-- nodes that can stand so -/
structure Good (ns : List Nd) : Prop where
  ok : NdsOk ns
  st : ∀ n ∈ ns, PyData.strOk n.op = true
theorem Good.snoc {ns : List Nd} {n : Nd} (h : Good ns) (k : n.Ok ns.length) (s : PyData.strOk n.op = true) : Good (ns ++ [n]) := ⟨h.ok.snoc k, fun m hm => by
  rcases List.mem_append.mp hm with q | q
  · exact h.st m q
  · rw [List.mem_singleton.mp q]; exact s⟩
/-- is it the node of the register itself? -/
def own (w r : Nat) (n : Nd) : Bool := PyData.eqv (nodeD n) (nodeD ⟨"reg", w, [r]⟩)
def wIdx (ns : List Nd) (w i : Nat) : List Nat := (List.range i).filter fun j => decide (ns[j]?.map Nd.w = some w)
theorem wIdx_succ {ns : List Nd} {w i : Nat} {n : Nd} (h : ns[i]? = some n) : wIdx ns w (i + 1) = if n.w = w then wIdx ns w i ++ [i] else wIdx ns w i := by
  unfold wIdx
  rw [List.range_succ, List.filter_append]
  by_cases e : n.w = w
  · rw [if_pos e, List.filter_cons_of_pos (by rw [h]; simp [e])]
    rfl
  · rw [if_neg e, List.filter_cons_of_neg (by rw [h]; simp [e])]
    simp
theorem wIdx_mem {ns : List Nd} {w k : Nat} (h : k ∈ wIdx ns w ns.length) : ∃ n, ns[k]? = some n ∧ n.w = w := by
  obtain ⟨h1, h2⟩ := List.mem_filter.mp h
  have hk := List.mem_range.mp h1
  have h3 := of_decide_eq_true h2
  rw [List.getElem?_eq_getElem hk] at h3
  exact ⟨ns[k], List.getElem?_eq_getElem hk, Option.some.inj h3⟩
theorem wIdx_some {ns : List Nd} {w : Nat} (h : HasW ns w) : 1 ≤ (wIdx ns w ns.length).length := by
  obtain ⟨i, n, e, q⟩ := h
  have hi := (List.getElem?_eq_some_iff.mp e).1
  have : i ∈ wIdx ns w ns.length := List.mem_filter.mpr ⟨List.mem_range.mpr hi, decide_eq_true (by rw [e, ← q]; rfl)⟩
  exact List.length_pos_of_mem this
theorem wIdx_len (ns : List Nd) (w i : Nat) : (wIdx ns w i).length ≤ i := by
  have := List.length_filter_le (fun j => decide (ns[j]?.map Nd.w = some w)) (List.range i)
  rwa [List.length_range] at this
end Bf

set_option Elab.async false
set_option linter.all false
set_option maxRecDepth 100000
set_option maxHeartbeats 4000000
namespace Bf
open PySem PySem.Spec PyProof.Rows L2
def topS (i : Nat) : Stmt := PySem.Challenge.pw_beatfabric_k28_codes_found.main.body.getD i (.Pass ⟨0, 0, 0, 0⟩)
abbrev s_room_width : Stmt := topS 2
abbrev s_picked_nodes : Stmt := topS 4
abbrev s_picked_words : Stmt := topS 5
abbrev s_ranked_codes : Stmt := topS 6
abbrev s_code_paper : Stmt := topS 7
abbrev s_law_begin : Stmt := topS 9
abbrev s_law_draw : Stmt := topS 10
abbrev s_law_pick : Stmt := topS 11
abbrev s_law_pop : Stmt := topS 12
abbrev s_law_shuffled : Stmt := topS 13
abbrev s_law_pool : Stmt := topS 14
abbrev s_law_is_int : Stmt := topS 15
abbrev s_law_is_rows : Stmt := topS 16
abbrev s_law_of_width : Stmt := topS 17
abbrev s_law_new_node : Stmt := topS 18
abbrev s_law_graph : Stmt := topS 19
abbrev s_law_tree : Stmt := topS 20
abbrev s_law_chain : Stmt := topS 21
abbrev s_law_machines : Stmt := topS 22
abbrev s_law_olds : Stmt := topS 23
abbrev s_law_paper : Stmt := topS 24
abbrev s_law_is_paper : Stmt := topS 25
abbrev s_law : Stmt := topS 26
theorem sc_room_width : FnScope ["many", "width"] ["many"] (defScope s_room_width) := ⟨rfl, rfl, rfl, by decide +kernel, rfl, by decide +kernel, by decide +kernel⟩
theorem sc_picked_nodes : FnScope ["nodes", "start", "reached", "todo", "at"] ["nodes", "start"] (defScope s_picked_nodes) := ⟨rfl, rfl, rfl, by decide +kernel, rfl, by decide +kernel, by decide +kernel⟩
theorem sc_picked_words : FnScope ["graph", "reg", "_", "nodes", "regs", "words", "at", "node"] ["graph", "reg"] (defScope s_picked_words) := ⟨rfl, rfl, rfl, by decide +kernel, rfl, by decide +kernel, by decide +kernel⟩
theorem sc_ranked_codes : FnScope ["olds", "style", "width", "rank", "old"] ["olds", "style"] (defScope s_ranked_codes) := ⟨rfl, rfl, rfl, by decide +kernel, rfl, by decide +kernel, by decide +kernel⟩
theorem sc_code_paper : FnScope ["graph", "style", "paper", "at", "reg", "words", "olds", "ranked"] ["graph", "style"] (defScope s_code_paper) := ⟨rfl, rfl, rfl, by decide +kernel, rfl, by decide +kernel, by decide +kernel⟩
theorem sc_law_begin : FnScope ["_law_script", "_law_cell"] ["_law_script"] (defScope s_law_begin) := ⟨rfl, rfl, rfl, by decide +kernel, rfl, by decide +kernel, by decide +kernel⟩
theorem sc_law_draw : FnScope ["_law_d", "_law_many", "_law_found", "_law_size", "_law_cell"] ["_law_d", "_law_many"] (defScope s_law_draw) := ⟨rfl, rfl, rfl, by decide +kernel, rfl, by decide +kernel, by decide +kernel⟩
theorem sc_law_pick : FnScope ["_law_d", "_law_row"] ["_law_d", "_law_row"] (defScope s_law_pick) := ⟨rfl, rfl, rfl, by decide +kernel, rfl, by decide +kernel, by decide +kernel⟩
theorem sc_law_pop : FnScope ["_law_d", "_law_row"] ["_law_d", "_law_row"] (defScope s_law_pop) := ⟨rfl, rfl, rfl, by decide +kernel, rfl, by decide +kernel, by decide +kernel⟩
theorem sc_law_shuffled : FnScope ["_law_d", "_law_row", "_law_left", "_law_found", "_law_k"] ["_law_d", "_law_row"] (defScope s_law_shuffled) := ⟨rfl, rfl, rfl, by decide +kernel, rfl, by decide +kernel, by decide +kernel⟩
theorem sc_law_pool : FnScope ["_law_text"] [] (defScope s_law_pool) := ⟨rfl, rfl, rfl, by decide +kernel, rfl, by decide +kernel, by decide +kernel⟩
theorem sc_law_is_int : FnScope ["_law_thing"] ["_law_thing"] (defScope s_law_is_int) := ⟨rfl, rfl, rfl, by decide +kernel, rfl, by decide +kernel, by decide +kernel⟩
theorem sc_law_is_rows : FnScope ["_law_rows", "_law_kinds", "_law_row", "_law_part", "_law_kind"] ["_law_rows", "_law_kinds"] (defScope s_law_is_rows) := ⟨rfl, rfl, rfl, by decide +kernel, rfl, by decide +kernel, by decide +kernel⟩
theorem sc_law_of_width : FnScope ["_law_d", "_law_nodes", "_law_width", "_law_at"] ["_law_d", "_law_nodes", "_law_width"] (defScope s_law_of_width) := ⟨rfl, rfl, rfl, by decide +kernel, rfl, by decide +kernel, by decide +kernel⟩
theorem sc_law_new_node : FnScope ["_law_d", "_law_nodes", "_law_stores", "_law_most", "_law_at", "_law_width", "_law_turn", "_law_op", "_law_other", "_law_low", "_law_store", "_law_wide"] ["_law_d", "_law_nodes", "_law_stores", "_law_most"] (defScope s_law_new_node) := ⟨rfl, rfl, rfl, by decide +kernel, rfl, by decide +kernel, by decide +kernel⟩
theorem sc_law_graph : FnScope ["_law_d", "_law_inputs", "_law_regs", "_law_mems", "_law_nodes", "_law_most", "_law_names", "_law_k", "_law_given", "_law_kept", "_law_stores", "_law_found", "_law_name", "_law_wide", "_law_rows", "_law_mems_told", "_law_size", "_law_writes", "_law_shown", "_law_asked"] ["_law_d", "_law_inputs", "_law_regs", "_law_mems", "_law_nodes", "_law_most"] (defScope s_law_graph) := ⟨rfl, rfl, rfl, by decide +kernel, rfl, by decide +kernel, by decide +kernel⟩
theorem sc_law_tree : FnScope ["_law_d", "_law_nodes", "_law_reg", "_law_wide", "_law_words", "_law_made", "_law_depth", "_law_turn", "_law_leaf", "_law_left", "_law_right"] ["_law_d", "_law_nodes", "_law_reg", "_law_wide", "_law_words", "_law_made", "_law_depth"] (defScope s_law_tree) := ⟨rfl, rfl, rfl, by decide +kernel, rfl, by decide +kernel, by decide +kernel⟩
theorem sc_law_chain : FnScope ["_law_d", "_law_nodes", "_law_reg", "_law_wide", "_law_words", "_law_found", "_law_word", "_law_told", "_law_when"] ["_law_d", "_law_nodes", "_law_reg", "_law_wide", "_law_words"] (defScope s_law_chain) := ⟨rfl, rfl, rfl, by decide +kernel, rfl, by decide +kernel, by decide +kernel⟩
theorem sc_law_machines : FnScope ["_law_d", "_law_graph_here", "_law_many", "_law_longest", "_law_nodes", "_law_regs", "_law_shown", "_law_first", "_law_k", "_law_name", "_law_wide", "_law_start", "_law_after", "_law_words", "_law_word", "_law_more", "_law_n"] ["_law_d", "_law_graph_here", "_law_many", "_law_longest"] (defScope s_law_machines) := ⟨rfl, rfl, rfl, by decide +kernel, rfl, by decide +kernel, by decide +kernel⟩
theorem sc_law_olds : FnScope ["_law_graph_here", "_law_reg", "_law_name", "_law_wide", "_law_start", "_law_after", "_law_met", "_law_found", "_law_at", "_law_node"] ["_law_graph_here", "_law_reg"] (defScope s_law_olds) := ⟨rfl, rfl, rfl, by decide +kernel, rfl, by decide +kernel, by decide +kernel⟩
theorem sc_law_paper : FnScope ["_law_graph_here", "_law_style", "_law_rows", "_law_reg", "_law_olds_here", "_law_width", "_law_codes", "_law_rank"] ["_law_graph_here", "_law_style"] (defScope s_law_paper) := ⟨rfl, rfl, rfl, by decide +kernel, rfl, by decide +kernel, by decide +kernel⟩
theorem sc_law_is_paper : FnScope ["_law_told", "_law_row"] ["_law_told"] (defScope s_law_is_paper) := ⟨rfl, rfl, rfl, by decide +kernel, rfl, by decide +kernel, by decide +kernel⟩
theorem sc_law : FnScope ["_law_script", "_law_d", "_law_most", "_law_graph_here", "_law_styles", "_law_style", "_law_told"] ["_law_script"] (defScope s_law) := ⟨rfl, rfl, rfl, by decide +kernel, rfl, by decide +kernel, by decide +kernel⟩
structure Txt (mg : Str → Option Value) : Prop where
  n_int : mg "int" = none
  n_len : mg "len" = none
  n_abs : mg "abs" = none
  n_isinstance : mg "isinstance" = none
  n_range : mg "range" = none
  n_tuple : mg "tuple" = none
  n_all : mg "all" = none
  n_list : mg "list" = none
  n_enumerate : mg "enumerate" = none
  n_bool : mg "bool" = none
  n_max : mg "max" = none
  n_min : mg "min" = none
  n_str : mg "str" = none
  n_sorted : mg "sorted" = none
  n_zip : mg "zip" = none
  n_reversed : mg "reversed" = none
/-- the program's own constant -/
structure TxtP (mg : Str → Option Value) (tM : Tok) : Prop extends Txt mg where
  g_MOST_WIDTH : mg "MOST_WIDTH" = some (.int 8 tM)
/-! ### the draws -/
/-- what stood elsewhere stands -/
def Keep (S : List Addr) (H H' : Hp) : Prop := ∀ b o, b ∉ S → H b = some o → H' b = some o
theorem Keep.refl (S : List Addr) (H : Hp) : Keep S H H := fun _ _ _ h => h
theorem Keep.trans {S : List Addr} {H H1 H2 : Hp} (a : Keep S H H1) (b : Keep S H1 H2) : Keep S H H2 := fun c o n h => b c o n (a c o n h)
theorem Keep.of_same {S : List Addr} {H H1 : Hp} (a : Same H H1) : Keep S H H1 := fun c o _ h => a c o h
theorem Keep.wide {S S' : List Addr} {H H1 : Hp} (a : Keep S H H1) (h : ∀ b, b ∈ S → b ∈ S') : Keep S' H H1 := fun c o n e => a c o (fun q => n (h c q)) e
theorem Keep.upd {S : List Addr} {H : Hp} {a : Addr} {o : HO} (h : a ∈ S) : Keep S H (upd H a o) := fun b u n e => by
  rw [upd_ne (fun q => n (by rw [q]; exact h))]
  exact e
theorem Keep.new {S : List Addr} {H : Hp} {a : Addr} {o : HO} (h : H a = none) : Keep S H (L2.upd H a o) := fun b u n e => by
  rw [upd_ne (ne_of_none e h)]
  exact e
/-- the state of the draws -/
def DS (H : Hp) (a c : Addr) : Prop := ∃ (at_ left st : Int) (cells : List Int), H a = some (.lst [.ref c, .int at_, .int left, .int st, .int 3]) ∧ 0 ≤ at_ ∧ H c = some (.lst (cells.map V.int))
theorem DS.ne {H : Hp} {a c : Addr} {x : V} {xs : List V} {cells : List Int} (h : H a = some (.lst (.ref c :: xs))) (hc : H c = some (.lst (cells.map V.int))) : c ≠ a := by
  intro e
  rw [e, h] at hc
  have q := HO.lst.inj (Option.some.inj hc)
  cases cells with
  | nil => cases q
  | cons x r => cases (List.cons.inj q).1
theorem DS.keep {S : List Addr} {H H' : Hp} {a c : Addr} (h : DS H a c) (k : Keep S H H') (ha : a ∉ S) (hc : c ∉ S) : DS H' a c := by
  obtain ⟨at_, left, st, cells, h1, h2, h3⟩ := h
  exact ⟨at_, left, st, cells, k _ _ ha h1, h2, k _ _ hc h3⟩
theorem DS.same {H H' : Hp} {a c : Addr} (h : DS H a c) (k : Same H H') : DS H' a c := h.keep (S := []) (Keep.of_same k) (by simp) (by simp)
theorem DS.new {H : Hp} {a c l : Addr} (h : DS H a c) (hl : H l = none) : l ≠ a ∧ l ≠ c := by
  obtain ⟨at_, left, st, cells, h1, h2, h3⟩ := h
  exact ⟨(ne_of_none h1 hl).symm, (ne_of_none h3 hl).symm⟩
theorem pow6000 : (0 : Int) < 1 * 2 ^ (6000 : Int).toNat := by
  rw [Int.one_mul]
  exact Int.pow_pos (by decide)
def spDraw : Sp := fun vs H Q _ => ∃ (a c : Addr) (m : Int), vs = [.ref a, .int m] ∧ DS H a c ∧ 1 ≤ m ∧ m < 1073741824 ∧ ∀ (r : Int) (H' : Hp), 0 ≤ r → r < m → DS H' a c → Keep [a] H H' → Q (.int r) H'
section
variable {P : Program} {w : World} {K : PySem.W.Frag} {mg : Str → Option Value} {base : Heap}
theorem ok_draw {f : Addr} {fd : FuncData} (F : Fun K "_law_draw" "_law_draw" s_law_draw f fd) (T : Txt mg) : FnOk P w K mg base CX0 1 f fd ["_law_d", "_law_many"] spDraw := by
  refine F.ok sc_law_draw (fun vs H Q E h => ?_) (fun cdv A outer s H vs Q E hr h => ?_)
  · obtain ⟨a, c, m, rfl, _⟩ := h
    rfl
  obtain ⟨a, c, m, rfl, ⟨at_, left, st, cells, ha, h0, hc⟩, m1, m2, q⟩ := h
  have hca : c ≠ a := DS.ne (x := .non) ha hc
  refine ⟨_, (pss_cons (ps_if (pt_cmpR op_gt (pe_ix ix_list (pv 0) pe_int (fun _ _ => rfl)) pe_int (nomark _)) (pss_cons (ps_set (i := 2) sc_law_draw.nd rfl (Or.inl rfl) (pe_ix ix_list (pv 0) pe_int (fun _ _ => rfl)))
      (pss_cons (ps_asg (pe_op op_fdiv (pv 2) (pv 1)) (pg_sub (pv 0) pe_int set_list))
      (pss_one (ps_ret (pe_op op_mod (pe_callTy call_int1 (by rfl) T.n_int (by decide +kernel) (pa_cons (pv 2) pa_nil)) (pv 1)))))) pss_nil)
      (pss_cons (ps_set (i := 3) sc_law_draw.nd rfl (Or.inl rfl) pe_int)
      (C8.pss_cut (ps_if (pt_cmpR op_lt (pe_ix ix_list (pv 0) pe_int (fun _ _ => rfl)) (pe_callB call_len_seq (by rfl) T.n_len (by decide +kernel) (pa_cons (pe_ix ix_list (pv 0) pe_int (fun _ _ => rfl)) pa_nil)) (nomark _)) (pss_cons (ps_set (i := 4) sc_law_draw.nd rfl (Or.inl rfl) (pe_ix ix_list (pe_ix ix_list (pv 0) pe_int (fun _ _ => rfl)) (pe_ix ix_list (pv 0) pe_int (fun _ _ => rfl)) (fun _ _ => rfl)))
      (pss_one (ps_set (i := 3) sc_law_draw.nd rfl (Or.inl rfl) (pe_op op_add (pe_op op_mul pe_int (pe_callB call_abs (by rfl) T.n_abs (by decide +kernel) (pa_cons (pv 4) pa_nil))) (pe_callTy call_int1 (by rfl) T.n_int (by decide +kernel) (pa_cons (pe_cmpR op_lt (pv 4) pe_int (nomark _)) pa_nil)))))) pss_nil)
      (C8.pss_cut (ps_augS (pv 0) pe_int get_list pe_int ip_add set_list)
      (pss_cons (ps_if (pt_cmpR op_ge (pv 3) (pe_op op_mul pe_int (pe_op op_pow pe_int pe_int)) (nomark _)) (pss_cons (ps_set (i := 2) sc_law_draw.nd rfl (Or.inl rfl) (pe_op op_mod (pe_callTy call_int1 (by rfl) T.n_int (by decide +kernel) (pa_cons (pe_op op_fdiv (pv 3) pe_int) pa_nil)) (pe_op op_shl pe_int pe_int)))
      (pss_cons (ps_asg (pe_op op_fdiv (pv 2) (pv 1)) (pg_sub (pv 0) pe_int set_list))
      (pss_one (ps_ret (pe_op op_mod (pe_callTy call_int1 (by rfl) T.n_int (by decide +kernel) (pa_cons (pv 2) pa_nil)) (pv 1)))))) pss_nil)
      (pss_cons (ps_asg (pe_op op_mod (pe_callTy call_int1 (by rfl) T.n_int (by decide +kernel) (pa_cons (pe_op op_add (pe_op op_add (pe_op op_add (pe_op op_mul (pe_ix ix_list (pv 0) pe_int (fun _ _ => rfl)) pe_int) (pe_op op_mul (pe_op op_mod (pe_callTy call_int1 (by rfl) T.n_int (by decide +kernel) (pa_cons (pv 3) pa_nil)) pe_int) pe_int)) (pe_op op_mul (pe_ix ix_list (pv 0) pe_int (fun _ _ => rfl)) pe_int)) pe_int) pa_nil)) pe_int) (pg_sub (pv 0) pe_int set_list))
      (pss_one (ps_ret (pe_op op_mod (pe_callTy call_int1 (by rfl) T.n_int (by decide +kernel) (pa_cons (pe_op op_fdiv (pe_ix ix_list (pv 0) pe_int (fun _ _ => rfl)) pe_int) pa_nil)) (pv 1)))))))))), ?_⟩
  refine ⟨_, rfl, a, _, _, _, rfl, rfl, SqL.of ha, atI_nat (j := 2) rfl, _, _, rfl, rfl, _, rfl, ?_⟩
  refine ite2 (fun e => ?_) (fun e => ?_)
  · refine ⟨_, rfl, a, _, _, _, rfl, rfl, SqL.of ha, atI_nat (j := 2) rfl, ?_⟩
    refine ⟨_, rfl, _, rfl, left, m, rfl, rfl, ⟨by omega, by omega⟩, _, rfl, a, _, 2, 2, rfl, rfl, ha, rfl, ?_⟩
    refine ⟨_, rfl, .inl ⟨_, rfl, _, rfl, _, _, rfl, rfl, (by omega), ?_⟩⟩
    exact q _ _ (Int.emod_nonneg _ (by omega)) (Int.emod_lt_of_pos _ (by omega)) ⟨at_, left / m, st, cells, upd_same, h0, by rw [upd_ne hca]; exact hc⟩ (Keep.upd (by simp))
  · refine ⟨fun σ' H' => ∃ (z : Int) (v4 : Option V), σ' = [some (.ref a), some (.int m), none, some (.int z), v4] ∧ H' = H, ?_, ?_⟩
    · refine ⟨_, rfl, a, _, _, _, rfl, rfl, SqL.of ha, atI_nat (j := 1) rfl, _, rfl, a, _, _, _, rfl, rfl, SqL.of ha, atI_nat (j := 0) rfl, c, _, rfl, .inl (SqL.of hc), _, _, rfl, rfl, _, rfl, ?_⟩
      refine ite2 (fun e1 => ?_) (fun e1 => ?_)
      · have e2 : at_ < ((cells.map V.int).length : Nat) := of_decide_eq_true e1
        rw [List.length_map] at e2
        have hk : at_.toNat < cells.length := by omega
        have ek : ((at_.toNat : Nat) : Int) = at_ := by omega
        have q1 : atI (cells.map V.int) ((at_.toNat : Nat) : Int) = some (.int cells[at_.toNat]) := atI_nat (by rw [List.getElem?_map, List.getElem?_eq_getElem hk] <;> rfl)
        rw [ek] at q1
        refine ⟨_, rfl, a, _, _, _, rfl, rfl, SqL.of ha, atI_nat (j := 0) rfl, _, rfl, a, _, _, _, rfl, rfl, SqL.of ha, atI_nat (j := 1) rfl, c, _, _, _, rfl, rfl, SqL.of hc, q1, ?_⟩
        refine ⟨_, rfl, _, rfl, _, _, rfl, rfl, .inl ⟨by decide, by decide⟩, _, rfl, _, _, rfl, rfl, .inr ⟨_, rfl, _, _, rfl, rfl, ?_⟩⟩
        exact ⟨_, _, rfl, rfl⟩
      · exact ⟨_, _, rfl, rfl⟩
    · rintro σ' H' ⟨z, v4, rfl, rfl⟩
      refine ⟨fun σ' H1 => σ' = [some (.ref a), some (.int m), none, some (.int z), v4] ∧ H1 a = some (.lst [.ref c, .int (at_ + 1), .int left, .int st, .int 3]) ∧ H1 c = some (.lst (cells.map V.int)) ∧ Keep [a] H' H1, ?_, ?_⟩
      · exact ⟨_, rfl, a, _, 1, .int at_, rfl, rfl, ha, atI_nat (j := 1) rfl, at_, 1, rfl, rfl, a, _, 1, 1, rfl, rfl, ha, rfl, rfl, upd_same, by rw [upd_ne hca]; exact hc, Keep.upd (by simp)⟩
      rintro σ' H1 ⟨rfl, h1, h2, k1⟩
      refine ⟨_, rfl, _, _, rfl, rfl, ⟨by decide, by decide, by decide⟩, _, _, rfl, rfl, .inl ⟨by decide, by decide⟩, _, _, rfl, rfl, _, rfl, ?_⟩
      refine ite2 (fun e3 => ?_) (fun e3 => ?_)
      · refine ⟨_, rfl, z, 2, rfl, rfl, ⟨by decide, by decide⟩, .inl ⟨_, rfl, 1, 6000, rfl, rfl, ⟨by decide, by decide, by decide⟩, _, _, rfl, rfl, pow6000, ?_⟩⟩
        refine ⟨_, rfl, _, rfl, _, m, rfl, rfl, ⟨by omega, by omega⟩, _, rfl, a, _, 2, 2, rfl, rfl, h1, rfl, ?_⟩
        refine ⟨_, rfl, .inl ⟨_, rfl, _, rfl, _, _, rfl, rfl, (by omega), ?_⟩⟩
        refine q _ _ (Int.emod_nonneg _ (by omega)) (Int.emod_lt_of_pos _ (by omega)) ⟨at_ + 1, _, st, cells, upd_same, by omega, by rw [upd_ne hca]; exact h2⟩ (k1.trans (Keep.upd (by simp)))
      · refine ⟨_, rfl, a, _, _, _, rfl, rfl, SqL.of h1, atI_nat (j := 3) rfl, _, _, rfl, rfl, .inr ⟨by decide, by decide⟩, ?_⟩
        refine ⟨_, rfl, .inl ⟨_, rfl, _, _, rfl, rfl, (by show (0 : Int) < 2147483629; decide), _, _, rfl, rfl, .inr ⟨by decide, by decide⟩, _, _, rfl, rfl, ?_⟩⟩
        refine ⟨_, rfl, a, _, _, _, rfl, rfl, SqL.of h1, atI_nat (j := 1) rfl, _, _, rfl, rfl, .inr ⟨by decide, by decide⟩, _, _, rfl, rfl, _, _, rfl, rfl, .inl ⟨_, rfl, _, _, rfl, rfl, (by show (0 : Int) < 2147483647; decide), ?_⟩⟩
        refine ⟨_, rfl, a, _, 3, 3, rfl, rfl, h1, rfl, ?_⟩
        refine ⟨_, rfl, a, _, _, _, rfl, rfl, SqL.of upd_same, atI_nat (j := 3) rfl, _, _, rfl, rfl, ⟨by decide, by decide⟩, .inl ⟨_, rfl, _, rfl, _, _, rfl, rfl, (by omega), ?_⟩⟩
        exact q _ _ (Int.emod_nonneg _ (by omega)) (Int.emod_lt_of_pos _ (by omega)) ⟨at_ + 1, left, _, cells, upd_same, by omega, by rw [upd_ne hca]; exact h2⟩ (k1.trans (Keep.upd (by simp)))
end

/-! ### the beginning of the draws; a draw out of a list; is it an int -/
theorem same_new {H : Hp} {p : Addr} (h : H p = none) (o : HO) : Same H (upd H p o) := fun b u q => by rw [upd_ne (ne_of_none q h)]; exact q
theorem intAt {xs : List Int} {i : Nat} {x : V} (h : (xs.map V.int)[i]? = some x) : ∃ k, xs[i]? = some k ∧ x = V.int k := by
  rw [List.getElem?_map] at h
  cases e : xs[i]? with
  | none => rw [e] at h; cases h
  | some k => rw [e] at h; exact ⟨k, rfl, (Option.some.inj h).symm⟩
def spBegin (K : PySem.W.Frag) : Sp := fun vs H Q _ => ∃ (a : Addr) (ns : List Int), vs = [.ref a] ∧ SqL K H a (ns.map V.int) ∧ ns.length ≤ 63 ∧ ∀ (d c : Addr) (H' : Hp), H d = none → H c = none → DS H' d c → Same H H' → Q (.ref d) H'
section
variable {P : Program} {w : World} {K : PySem.W.Frag} {mg : Str → Option Value} {base : Heap}
theorem ok_begin {f : Addr} {fd : FuncData} (F : Fun K "_law_begin" "_law_begin" s_law_begin f fd) (T : Txt mg) : FnOk P w K mg base CX0 1 f fd ["_law_script"] (spBegin K) := by
  refine F.ok sc_law_begin (fun vs H Q E h => ?_) (fun cdv A outer s H vs Q E hr h => ?_)
  · obtain ⟨a, ns, rfl, _⟩ := h
    rfl
  obtain ⟨a, ns, rfl, hS, h63, q⟩ := h
  refine ⟨_, (pss_one (ps_ret (pe_lst (pa_cons (pe_lc (own := [("_law_cell", 1)]) (g := gName 1) (tt := tYes) rfl sc_law_begin.nd (pi_list (pv 0)) (blkOk_by (N := ["_law_script", "_law_cell"]) (sc := defScope s_law_begin) (by decide +kernel)) (fun _ _ _ _ _ => (pg_name (i := 1) sc_law_begin.nd rfl (Or.inl rfl))) (fun _ _ _ _ _ => pts_nil) (fun _ _ _ _ _ => (pe_callTy call_int1 (by rfl) T.n_int (by decide +kernel) (pa_cons (pv 1) pa_nil)))) (pa_cons pe_int (pa_cons pe_int (pa_cons pe_int (pa_cons pe_int pa_nil)))))))), ?_⟩
  refine ⟨_, rfl, a, rfl, ⟨_, hS⟩, fun D hD => lc_list (K := K) (a := a) (xs := ns.map V.int) (fun i H' => Same H H' ∧ H' D = some (.lst ((ns.take i).map V.int)))
    ⟨same_new hD _, upd_same⟩ (fun i H' _ p => p.1.seq hS) (fun i x H' hx p => ?_) (fun H' p => ?_)⟩
  · obtain ⟨k, hk, rfl⟩ := intAt hx
    refine ⟨rfl, _, rfl, .inl ⟨_, rfl, _, p.2, ?_, ?_, ?_⟩⟩
    · rw [List.length_map, List.length_take]
      exact small1000 (by omega)
    · intro b o e
      rw [upd_ne (ne_of_none e hD)]
      exact p.1 b o e
    · rw [upd_same, List.take_add_one, hk, List.map_append]
      rfl
  · rw [List.length_map, List.take_length] at p
    refine ⟨(by show 5 ≤ sizeLine; decide), fun l hl => ?_⟩
    have nDl : D ≠ l := ne_of_none p.2 hl
    refine q l D _ (p.1.free hl) hD ⟨0, 0, 7, ns, upd_same, Int.le_refl 0, by rw [upd_ne nDl]; exact p.2⟩ (p.1.trans (same_new hl _))
end

def spIsInt : Sp := fun vs H Q _ => ∃ i : Int, vs = [.int i] ∧ Q (.bl true) H
section
variable {P : Program} {w : World} {K : PySem.W.Frag} {mg : Str → Option Value} {base : Heap}
theorem ok_isInt {f : Addr} {fd : FuncData} (F : Fun K "_law_is_int" "_law_is_int" s_law_is_int f fd) (T : Txt mg) : FnOk P w K mg base CX0 1 f fd ["_law_thing"] spIsInt := by
  refine F.ok sc_law_is_int (fun vs H Q E h => ?_) (fun cdv A outer s H vs Q E hr h => ?_)
  · obtain ⟨i, rfl, _⟩ := h
    rfl
  obtain ⟨i, rfl, q⟩ := h
  refine ⟨_, (pss_one (ps_ret (pe_and (pe_callB (call_isi : CallR _ _ (rIsi K)) (by rfl) T.n_isinstance (by decide +kernel) (pa_cons (pv 0) (pa_cons (pe_bltn rfl T.n_int (by decide +kernel) (v := .ty "int") rfl) pa_nil))) (pe_one (pe_not (pe_callB (call_isi : CallR _ _ (rIsi K)) (by rfl) T.n_isinstance (by decide +kernel) (pa_cons (pv 0) (pa_cons (pe_bltn rfl T.n_bool (by decide +kernel) (v := .ty "bool") rfl) pa_nil)))))))), ?_⟩
  refine ⟨_, rfl, _, _, .type "int", .type "int", true, rfl, .ty "int", .base (.int i), kit_ty (by decide +kernel), true, rfl, ?_⟩
  refine iteT ?_
  refine ⟨_, rfl, _, _, .type "int", .type "bool", false, rfl, .ty "bool", .base (.int i), kit_ty (by decide +kernel), false, rfl, ?_⟩
  exact q
end

/-- a draw of an item of a list, which is taken out -/
def spPop : Sp := fun vs H Q _ => ∃ (d c l : Addr) (xs : List V), vs = [.ref d, .ref l] ∧ DS H d c ∧ H l = some (.lst xs) ∧ l ≠ d ∧ l ≠ c ∧ 1 ≤ xs.length ∧ xs.length ≤ 1000 ∧
  ∀ (k : Nat) (y : V) (H' : Hp), xs[k]? = some y → DS H' d c → H' l = some (.lst (xs.eraseIdx k)) → Keep [d, l] H H' → Q y H'
section
variable {P : Program} {w : World} {K : PySem.W.Frag} {mg : Str → Option Value} {base : Heap}
theorem ok_pop {f : Addr} {fd : FuncData} (F : Fun K "_law_pop" "_law_pop" s_law_pop f fd) (T : Txt mg) (D_law_draw : Dn P w K mg base "_law_draw" ["_law_d", "_law_many"] 1 spDraw) :
    FnOk P w K mg base CX0 2 f fd ["_law_d", "_law_row"] spPop := by
  refine F.ok sc_law_pop (fun vs H Q E h => ?_) (fun cdv A outer s H vs Q E hr h => ?_)
  · obtain ⟨d, c, l, xs, rfl, _⟩ := h
    rfl
  obtain ⟨d, c, l, xs, rfl, hd, hl, nld, nlc, h1, h2, q⟩ := h
  refine ⟨_, (pss_one (ps_ret (pe_bm PySem.F.plainAttrs_list PySem.F.slot_list_pop PySem.F.type_list_pop mt_popAt (pv 1) (pa_cons (pe_dn D_law_draw (hr.mono (by decide)) (by rfl) (pa_cons (pv 0) (pa_cons (pe_callB call_len_seq (by rfl) T.n_len (by decide +kernel) (pa_cons (pv 1) pa_nil)) pa_nil))) pa_nil)))), ?_⟩
  refine ⟨_, rfl, .inl ⟨rfl, _, SqL.of hl⟩, _, rfl, _, rfl, l, _, rfl, .inl (SqL.of hl), d, c, _, rfl, hd, (by omega), (by omega), fun r H' r0 r1 hd' k1 => ?_⟩
  have hl' : H' l = some (.lst xs) := k1 _ _ (by simp [nld]) hl
  have hk : r.toNat < xs.length := by omega
  refine ⟨l, xs, r, r.toNat, xs[r.toNat], rfl, rfl, hl', by omega, by omega, seqIndex_of r0 (by omega), List.getElem?_eq_getElem hk, ?_⟩
  refine q _ _ _ (List.getElem?_eq_getElem hk) (hd'.keep (S := [l]) (Keep.upd (by simp)) (by simp [nld.symm]) (by simp [nlc.symm])) upd_same ((k1.wide (by simp)).trans (Keep.upd (by simp)))
end

/-! ### what stands -/
theorem DS.at_ {H : Hp} {d c : Addr} (h : DS H d c) : ∃ l, H d = some (.lst l) := let ⟨_, _, _, _, e, _⟩ := h; ⟨_, e⟩
theorem Keep.tups {S : List Addr} {H H' : Hp} (k : Keep S H H') (n : ∀ b ∈ S, ∃ l, H b = some (.lst l)) : KeepT H H' := fun b xs h => k _ _ (fun m => by
  obtain ⟨l, q⟩ := n b m
  rw [q] at h
  cases h) h
theorem Keep.tup1 {H H' : Hp} {d c : Addr} (k : Keep [d] H H') (h : DS H d c) : KeepT H H' := k.tups fun b hb => by rw [List.mem_singleton.mp hb]; exact h.at_
theorem Keep.tup2 {H H' : Hp} {d c l : Addr} {xs : List V} (k : Keep [d, l] H H') (h : DS H d c) (hl : H l = some (.lst xs)) : KeepT H H' := k.tups fun b hb => by
  rcases List.mem_cons.mp hb with e | hb
  · rw [e]; exact h.at_
  · rw [List.mem_singleton.mp hb]; exact ⟨_, hl⟩
/-- the names that are left -/
def Nms (H : Hp) (l : Addr) (n : Nat) : Prop := ∃ names : List V, H l = some (.lst names) ∧ (∀ v ∈ names, ∃ z : Str, v = .str z) ∧ names.length = n
theorem Nms.keep {S : List Addr} {H H' : Hp} {l : Addr} {n : Nat} (h : Nms H l n) (k : Keep S H H') (hl : l ∉ S) : Nms H' l n := let ⟨x, a, b, e⟩ := h; ⟨x, k _ _ hl a, b, e⟩
theorem Nms.same {H H' : Hp} {l : Addr} {n : Nat} (h : Nms H l n) (k : Same H H') : Nms H' l n := let ⟨x, a, b, e⟩ := h; ⟨x, k _ _ a, b, e⟩
theorem Nms.cast {H : Hp} {l : Addr} {n m : Nat} (h : Nms H l n) (e : n = m) : Nms H l m := e ▸ h
theorem Keep.thin {S S' : List Addr} {H H' : Hp} (k : Keep S' H H') (h : ∀ b ∈ S', b ∈ S ∨ H b = none) : Keep S H H' := fun b o n e => k b o (fun m => by
  rcases h b m with q | q
  · exact n q
  · rw [q] at e; cases e) e
theorem Keep.cat {S S' : List Addr} {H H1 H2 : Hp} (a : Keep S H H1) (b : Keep S' H1 H2) : Keep (S ++ S') H H2 := fun c o n h => b c o (fun m => n (List.mem_append_right _ m)) (a c o (fun m => n (List.mem_append_left _ m)) h)
theorem Keep.free {S : List Addr} {H H' : Hp} {l : Addr} (k : Keep S H H') (h : H' l = none) (n : l ∉ S) : H l = none := by
  cases e : H l with
  | none => rfl
  | some o => rw [k l o n e] at h; cases h
theorem Keep.sm {H H' : Hp} (k : Same H H') : Keep [] H H' := .of_same k
theorem Keep.at1 {H : Hp} {a : Addr} {o : HO} : Keep [a] H (L2.upd H a o) := .upd (by simp)
/-- the list at D: data of acc -/
def Acc {α : Type} (D : Addr) (f : α → PyData) (acc : List α) (H : Hp) : Prop := ∃ vs : List V, H D = some (.lst vs) ∧ LayAll H vs (acc.map f)
theorem Acc.nil {α : Type} {D : Addr} {f : α → PyData} {H : Hp} : Acc D f [] (upd H D (.lst [])) := ⟨[], upd_same, .nil⟩
theorem Acc.keep {α : Type} {D : Addr} {f : α → PyData} {acc : List α} {S : List Addr} {H H' : Hp} (h : Acc D f acc H) (k : Keep S H H') (t : KeepT H H') (n : D ∉ S) : Acc D f acc H' := let ⟨vs, a, b⟩ := h; ⟨vs, k _ _ n a, b.keep' t⟩
theorem Acc.same {α : Type} {D : Addr} {f : α → PyData} {acc : List α} {H H' : Hp} (h : Acc D f acc H) (k : Same H H') : Acc D f acc H' := let ⟨vs, a, b⟩ := h; ⟨vs, k _ _ a, b.keep' (.same k)⟩
theorem Acc.push {α : Type} {D : Addr} {f : α → PyData} {acc : List α} {H : Hp} {y : V} {x : α} (h : Acc D f acc H) (l : Lay H y (f x)) (n : acc.length ≤ 1000) :
    ∃ vs, H D = some (.lst vs) ∧ vs.length < sizeLine ∧ Acc D f (acc ++ [x]) (upd H D (.lst (vs ++ [y]))) ∧ KeepT H (upd H D (.lst (vs ++ [y]))) := by
  obtain ⟨vs, a, b⟩ := h
  have e := b.len
  rw [List.length_map] at e
  have kt : KeepT H (upd H D (.lst (vs ++ [y]))) := .lst a
  refine ⟨vs, a, by rw [e]; exact small1000 n, ⟨_, upd_same, ?_⟩, kt⟩
  rw [List.map_append]
  exact (b.snoc l).keep' kt
theorem Acc.at_ {α : Type} {D : Addr} {f : α → PyData} {acc : List α} {H : Hp} (h : Acc D f acc H) : ∃ l, H D = some (.lst l) := let ⟨vs, a, _⟩ := h; ⟨vs, a⟩

def spPool : Sp := fun vs H Q _ => vs = [] ∧ ∀ (p : Addr) (xs : List Str), H p = none → xs.length = 61 → Q (.ref p) (upd H p (.lst (xs.map V.str)))
section
variable {P : Program} {w : World} {K : PySem.W.Frag} {mg : Str → Option Value} {base : Heap} {f : Addr} {fd : FuncData}
theorem ok_pool (F : Fun K "_law_pool" "_law_pool" s_law_pool f fd) : FnOk P w K mg base CX0 1 f fd [] spPool := by
  refine F.ok sc_law_pool (fun vs H Q E h => ?_) (fun cdv A outer s H vs Q E hr h => ?_)
  · rw [h.1]
    rfl
  obtain ⟨rfl, q⟩ := h
  refine ⟨_, (pss_cons (ps_set (i := 0) sc_law_pool.nd rfl (Or.inl rfl) pe_str)
      (pss_cons (ps_set (i := 0) sc_law_pool.nd rfl (Or.inl rfl) (pe_op op_add_str (pv 0) pe_str))
      (pss_one (ps_ret (pe_split (pe_op op_add_str (pv 0) pe_str) pe_str))))), ?_⟩
  refine ⟨_, rfl, _, _, rfl, rfl, (by decide +kernel), _, rfl, _, _, rfl, rfl, (by decide +kernel), ?_⟩
  exact ⟨⟨_, rfl⟩, _, _, rfl, rfl, (by decide +kernel), (by decide +kernel), fun p hp => q p _ hp (by decide +kernel)⟩
end

/-! ### an item of a list by draws; a list in a drawn order -/
def spPick (K : PySem.W.Frag) : Sp := fun vs H Q _ => ∃ (d c l : Addr) (xs : List V), vs = [.ref d, .ref l] ∧ DS H d c ∧ l ≠ d ∧ SqL K H l xs ∧ 1 ≤ xs.length ∧ xs.length ≤ 1000 ∧
  ∀ (k : Nat) (y : V) (H' : Hp), xs[k]? = some y → DS H' d c → Keep [d] H H' → Q y H'
theorem Keep.seqL {S : List Addr} {K : PySem.W.Frag} {H H' : Hp} {a : Addr} {xs : List V} (k : Keep S H H') (n : a ∉ S) (h : SqL K H a xs) : SqL K H' a xs := by
  rcases h with (h | ⟨u, h⟩) | h
  · exact .inl (.inl (k _ _ n h))
  · exact .inl (.inr ⟨u, k _ _ n h⟩)
  · exact .inr h
section
variable {P : Program} {w : World} {K : PySem.W.Frag} {mg : Str → Option Value} {base : Heap} {f : Addr} {fd : FuncData}
theorem ok_pick (F : Fun K "_law_pick" "_law_pick" s_law_pick f fd) (T : Txt mg) (D_law_draw : Dn P w K mg base "_law_draw" ["_law_d", "_law_many"] 1 spDraw) : FnOk P w K mg base CX0 2 f fd ["_law_d", "_law_row"] (spPick K) := by
  refine F.ok sc_law_pick (fun vs H Q E h => ?_) (fun cdv A outer s H vs Q E hr h => ?_)
  · obtain ⟨d, c, l, xs, rfl, _⟩ := h
    rfl
  obtain ⟨d, c, l, xs, rfl, hd, nld, hl, h1, h2, q⟩ := h
  refine ⟨_, (pss_one (ps_ret (pe_ix ix_list (pv 1) (pe_dn D_law_draw (hr.mono (by decide)) (by rfl) (pa_cons (pv 0) (pa_cons (pe_callB call_len_seq (by rfl) T.n_len (by decide +kernel) (pa_cons (pv 1) pa_nil)) pa_nil))) (fun _ _ => rfl)))), ?_⟩
  refine ⟨_, rfl, _, rfl, _, rfl, l, _, rfl, .inl hl, d, c, _, rfl, hd, by omega, by omega, fun r H' r0 r1 hd' k1 => ?_⟩
  obtain ⟨x, rfl⟩ := Int.eq_ofNat_of_zero_le r0
  have hx : x < xs.length := by omega
  exact ⟨l, xs, _, _, rfl, rfl, k1.seqL (by simp [nld]) hl, atI_nat (List.getElem?_eq_getElem hx), q _ _ _ (List.getElem?_eq_getElem hx) hd' k1⟩
end

theorem erase_perm : ∀ (zs : List V) (k : Nat) (y : V), zs[k]? = some y → (y :: zs.eraseIdx k).Perm zs
  | [], _, _, h => by simp at h
  | z :: zs, 0, y, h => by
    cases h
    exact .refl _
  | z :: zs, k + 1, y, h => (List.Perm.swap z y _).trans (.cons z (erase_perm zs k y (by simpa using h)))
def spShuf (K : PySem.W.Frag) : Sp := fun vs H Q _ => ∃ (d c l : Addr) (xs : List V), vs = [.ref d, .ref l] ∧ DS H d c ∧ l ≠ d ∧ (SqL K H l xs ∨ SqT K H l xs) ∧ xs.length ≤ 1000 ∧
  ∀ (p : Addr) (ys : List V) (H' : Hp), ys.Perm xs → H p = none → H' p = some (.lst ys) → DS H' d c → Keep [d] H H' → Q (.ref p) H'
section
variable {P : Program} {w : World} {K : PySem.W.Frag} {mg : Str → Option Value} {base : Heap} {f : Addr} {fd : FuncData}
theorem ok_shuf (F : Fun K "_law_shuffled" "_law_shuffled" s_law_shuffled f fd) (T : Txt mg) (D_law_draw : Dn P w K mg base "_law_draw" ["_law_d", "_law_many"] 1 spDraw) : FnOk P w K mg base CX0 2 f fd ["_law_d", "_law_row"] (spShuf K) := by
  refine F.ok sc_law_shuffled (fun vs H Q E h => ?_) (fun cdv A outer s H vs Q E hr h => ?_)
  · obtain ⟨d, c, l, xs, rfl, _⟩ := h
    rfl
  obtain ⟨d, c, l, xs, rfl, hd, nld, hl, h2, q⟩ := h
  refine ⟨_, (pss_cons (ps_set (i := 2) sc_law_shuffled.nd rfl (Or.inl rfl) (pe_callTy call_list_of (by rfl) T.n_list (by decide +kernel) (pa_cons (pv 1) pa_nil)))
      (pss_cons (ps_set (i := 3) sc_law_shuffled.nd rfl (Or.inl rfl) (pe_lst pa_nil))
      (pss_cons (ps_for PassesOwn.never rfl (pi_range1 rfl T.n_range (pa_cons (pe_callB call_len_seq (by rfl) T.n_len (by decide +kernel) (pa_cons (pv 2) pa_nil)) pa_nil)) (pg_name (i := 4) sc_law_shuffled.nd rfl (Or.inl rfl)) (pss_one (ps_expr (pe_bm PySem.F.plainAttrs_list PySem.F.slot_list_append PySem.F.type_list_append mt_append (pv 3) (pa_cons (pe_bm PySem.F.plainAttrs_list PySem.F.slot_list_pop PySem.F.type_list_pop mt_popAt (pv 2) (pa_cons (pe_dn D_law_draw (hr.mono (by decide)) (by rfl) (pa_cons (pv 0) (pa_cons (pe_callB call_len_seq (by rfl) T.n_len (by decide +kernel) (pa_cons (pv 2) pa_nil)) pa_nil))) pa_nil)) pa_nil)))))
      (pss_one (ps_ret (pv 3)))))), ?_⟩
  refine ⟨_, rfl, l, xs, rfl, hl, fun L hL => ?_⟩
  obtain ⟨nLd, nLc⟩ := hd.new hL
  have hd1 := hd.same (same_new hL (.lst xs))
  refine ⟨Nat.zero_le _, fun F hF => ?_⟩
  obtain ⟨nFd, nFc⟩ := hd1.new hF
  have nFL : F ≠ L := (ne_of_none upd_same hF).symm
  have s2 := (same_new hL (.lst xs)).trans (same_new hF (.lst []))
  refine ⟨_, rfl, L, xs, rfl, .inl (SqL.of (same_new hF _ _ _ upd_same)), ?_⟩
  have f0 : H F = none := (same_new hL _).free hF
  refine ⟨(xs.length : Int), rfl, (i62 (by omega)).1, (i62 (by omega)).2, for_it walk_range (fun i σ' H' => ∃ (v4 : Option V) (zs ys : List V), σ' = [some (.ref d), some (.ref l), some (.ref L), some (.ref F), v4] ∧ DS H' d c ∧ H' L = some (.lst zs) ∧ H' F = some (.lst ys) ∧ (ys ++ zs).Perm xs ∧ ys.length = i ∧ Keep [d] H H')
    ⟨_, xs, [], rfl, hd1.same (same_new hF _), same_new hF _ _ _ upd_same, upd_same, .refl _, rfl, Keep.of_same s2⟩ (fun _ _ _ _ _ => trivial) (fun i x σ' H' H3 hi p y => ?_) (fun σ' H' p => ?_)⟩
  · obtain ⟨v4, zs, ys, rfl, hd3, hL3, hF3, hp, hyl, k3⟩ := p
    obtain ⟨rfl, rfl⟩ := y
    have hi : i < xs.length := by simpa using hi
    have ln := hp.length_eq
    rw [List.length_append] at ln
    refine ⟨_, rfl, .inl ⟨rfl, _, SqL.of hF3⟩, ?_⟩
    refine ⟨_, rfl, .inl ⟨rfl, _, SqL.of hL3⟩, _, rfl, _, rfl, L, zs, rfl, .inl (SqL.of hL3), d, c, _, rfl, hd3, by omega, by omega, fun r H4 r0 r1 hd4 k4 => ?_⟩
    obtain ⟨x, rfl⟩ := Int.eq_ofNat_of_zero_le r0
    have hx : x < zs.length := by omega
    have hL4 := k4 _ _ (by simp [nLd]) hL3
    have hF4 := k4 _ _ (by simp [nFd]) hF3
    refine ⟨L, zs, _, x, zs[x], rfl, rfl, hL4, by omega, by omega, seqIndex_of r0 (by omega), List.getElem?_eq_getElem hx, ?_⟩
    have hF5 : (upd H4 L (.lst (zs.eraseIdx x))) F = some (.lst ys) := by rw [upd_ne nFL]; exact hF4
    refine ⟨F, ys, _, rfl, rfl, hF5, len1000 (by omega), _, zs.eraseIdx x, ys ++ [zs[x]], rfl, ?_, ?_, upd_same, ?_, by rw [List.length_append, hyl]; rfl, ?_⟩
    · exact (hd4.keep (S := [L]) Keep.at1 (by simp [nLd.symm]) (by simp [nLc.symm])).keep (S := [F]) Keep.at1 (by simp [nFd.symm]) (by simp [nFc.symm])
    · rw [upd_ne nFL.symm, upd_same]
    · rw [List.append_assoc]
      exact (List.Perm.append_left ys (erase_perm zs x _ (List.getElem?_eq_getElem hx))).trans hp
    · exact (((k3.cat k4).cat (Keep.at1 (a := L))).cat (Keep.at1 (a := F))).thin (by simp [hL, f0])
  · obtain ⟨v4, zs, ys, rfl, hd3, hL3, hF3, hp, hyl, k3⟩ := p
    have ln := hp.length_eq
    rw [List.length_append] at ln
    have hz : zs = [] := List.eq_nil_of_length_eq_zero (by omega)
    rw [hz, List.append_nil] at hp
    exact ⟨_, rfl, q F ys _ hp f0 hF3 hd3 k3⟩
end

end Bf

set_option Elab.async false
set_option linter.all false
set_option maxRecDepth 100000
set_option maxHeartbeats 4000000
namespace Bf
open PySem PySem.Spec PyProof.Rows L2
/-! ### nodes by draws -/
theorem Acc.get {α : Type} {D : Addr} {f : α → PyData} {acc : List α} {H : Hp} (h : Acc D f acc H) : ∃ vs : List V, H D = some (.lst vs) ∧ vs.length = acc.length ∧ LayAll H vs (acc.map f) := by
  obtain ⟨vs, e, l⟩ := h
  exact ⟨vs, e, by simpa using l.len, l⟩
theorem nodeAt {H : Hp} {vs : List V} {ns : List Nd} {i : Nat} (h : LayAll H vs (ns.map nodeD)) (hi : i < ns.length) : ∃ (n : Nd) (q : Addr), ns[i]? = some n ∧ vs[i]? = some (.ref q) ∧ H q = some (.tup (.str n.op :: vI n.w :: n.args.map vI)) := by
  have e : (ns.map nodeD)[i]? = some (nodeD ns[i]) := by rw [List.getElem?_map, List.getElem?_eq_getElem hi]; rfl
  obtain ⟨v, hv, l⟩ := h.at_ i e
  obtain ⟨q, rfl, hq⟩ := l.node
  exact ⟨ns[i], q, List.getElem?_eq_getElem hi, hv, hq⟩
/-- a memory: its name, width and size -/
def storD (s : Str × Nat × Nat) : PyData := .tuple [.str s.1, .int (s.2.1 : Int), .int (s.2.2 : Int)]
def spOfW : Sp := fun vs H Q _ => ∃ (d c l : Addr) (ns : List Nd) (w : Nat), vs = [.ref d, .ref l, vI w] ∧ DS H d c ∧ l ≠ d ∧ Acc l nodeD ns H ∧ ns.length ≤ 900 ∧ HasW ns w ∧
  ∀ (k : Nat) (n : Nd) (H' : Hp), ns[k]? = some n → n.w = w → DS H' d c → Keep [d] H H' → Q (vI k) H'
section
variable {P : Program} {w : World} {K : PySem.W.Frag} {mg : Str → Option Value} {base : Heap} {f : Addr} {fd : FuncData}
theorem ok_ofW (F : Fun K "_law_of_width" "_law_of_width" s_law_of_width f fd) (T : Txt mg) (D_law_pick : Dn P w K mg base "_law_pick" ["_law_d", "_law_row"] 2 (spPick K)) : FnOk P w K mg base CX0 3 f fd ["_law_d", "_law_nodes", "_law_width"] spOfW := by
  refine F.ok sc_law_of_width (fun vs H Q E h => ?_) (fun cdv A outer s H vs Q E hr h => ?_)
  · obtain ⟨d, c, l, ns, w, rfl, _⟩ := h
    rfl
  obtain ⟨d, c, l, ns, wd, rfl, hd, nld, hA, h900, hw, q⟩ := h
  refine ⟨_, (pss_one (ps_ret (pe_dn D_law_pick (hr.mono (by decide)) (by rfl) (pa_cons (pv 0) (pa_cons (pe_lc (own := [("_law_at", 3)]) (g := gName 3) rfl sc_law_of_width.nd (pi_range1 rfl T.n_range (pa_cons (pe_callB call_len_seq (by rfl) T.n_len (by decide +kernel) (pa_cons (pv 1) pa_nil)) pa_nil)) (blkOk_by (N := ["_law_d", "_law_nodes", "_law_width", "_law_at"]) (sc := defScope s_law_of_width) (by decide +kernel)) (fun _ _ _ _ _ => (pg_name (i := 3) sc_law_of_width.nd rfl (Or.inl rfl))) (fun _ _ _ _ _ => (pts_one (pt_cmpR op_eq (pe_ix (ix_tup : IxR _ (rIxT K)) (pe_ix (ix_list : IxR _ (rIxL K)) (pv 1) (pv 3) (fun _ _ => rfl)) pe_int (fun _ _ => rfl)) (pv 2) (nomark _)))) (fun _ _ _ _ _ => (pv 3))) pa_nil))))), ?_⟩
  obtain ⟨vs, e, vl, lv⟩ := hA.get
  refine ⟨_, rfl, _, rfl, l, vs, rfl, .inl (SqL.of e), (vs.length : Int), rfl, (i62 (by omega)).1, (i62 (by omega)).2, fun D hD => ?_⟩
  refine lc_range (lo := 0) (n := vs.length) (fun i H' => Same H H' ∧ H' D = some (.lst ((wIdx ns wd i).map vI))) ⟨same_new hD _, upd_same⟩ (fun i H' hi p => ?_) (fun H' p => ?_)
  · obtain ⟨sm, hf⟩ := p
    have hi : i < vs.length := hi
    obtain ⟨n, qn, hn, hv, hq⟩ := nodeAt (lv.keep' (.same sm)) (show i < ns.length by omega)
    refine ⟨rfl, _, rfl, _, rfl, l, vs, _, .ref qn, rfl, rfl, SqL.of (sm _ _ e), ?_, qn, _, _, _, rfl, rfl, SqT.of hq, atI_nat (j := 1) rfl, _, rfl, rfl, ?_⟩
    · rw [show (0 + (i : Int)) = ((i : Nat) : Int) by omega]
      exact atI_nat hv
    refine ⟨_, rfl, ?_⟩
    have wl := wIdx_len ns wd i
    have es := wIdx_succ (w := wd) hn
    have ev : decide (vI n.w = vI wd) = decide (n.w = wd) := by
      by_cases z : n.w = wd
      · rw [z, decide_eq_true rfl, decide_eq_true rfl]
      · rw [decide_eq_false z]
        exact decide_eq_false fun y => z (by have := V.int.inj y; omega)
    rw [ev]
    by_cases z : n.w = wd
    · rw [if_pos z] at es
      refine ifY (decide_eq_true z) ⟨_, rfl, _, hf, ?_, same_two sm hD, ?_⟩
      · rw [List.length_map]
        exact len1000 (by omega)
      · rw [upd_same, es, List.map_append, show (0 + (i : Int)) = ((i : Nat) : Int) by omega]
        rfl
    · rw [if_neg z] at es
      refine ifN (decide_eq_false z) ⟨sm, ?_⟩
      rw [es]
      exact hf
  · obtain ⟨sm, hf⟩ := p
    rw [vl] at hf
    have w1 := wIdx_some hw
    have w2 := wIdx_len ns wd ns.length
    refine ⟨d, c, D, _, rfl, hd.same sm, (hd.new hD).1, SqL.of hf, by rw [List.length_map]; exact w1, by rw [List.length_map]; omega, fun k y H2 hy hd2 k2 => ?_⟩
    obtain ⟨j, hj, rfl⟩ := natAt hy
    obtain ⟨n, hn, ew⟩ := wIdx_mem (List.mem_of_getElem? hj)
    exact q j n H2 hn ew hd2 ((Keep.of_same sm).trans k2)
end
def spNewNode : Sp := fun vs H Q _ => ∃ (d c l s : Addr) (ns : List Nd) (ss : List (Str × Nat × Nat)) (most : Nat), vs = [.ref d, .ref l, .ref s, vI most] ∧ DS H d c ∧ l ≠ d ∧ s ≠ d ∧ Acc l nodeD ns H ∧ Acc s storD ss H ∧ Good ns ∧ ns.length ≤ 900 ∧ 1 ≤ ns.length ∧ HasW ns 1 ∧
  (∀ st ∈ ss, 1 ≤ st.2.1 ∧ st.2.1 ≤ 8) ∧ ss.length ≤ 100 ∧ 1 ≤ most ∧ most ≤ 8 ∧
  ∀ (v : V) (n : Nd) (H' : Hp), Lay H' v (nodeD n) → n.Ok ns.length → PyData.strOk n.op = true → DS H' d c → Keep [d] H H' → Q v H'
theorem ok_of {op : Str} {w : Nat} {args : List Nat} {i : Nat} (h1 : op ≠ "pick") (h2 : op ≠ "const") (w1 : 1 ≤ w) (w8 : w ≤ 8) (hl : args.length ≤ 3) : (Nd.mk op w args).Ok i := ⟨fun e => absurd e h1, fun e => absurd e h2, w1, w8, hl⟩
theorem litSh (ops : List Str) : PyData.strOk "reg" = true := by decide +kernel
/-- a drawn word of a list of words -/
theorem wordAt {ops : List Str} {k : Nat} {y : V} (h : (ops.map V.str)[k]? = some y) : ∃ o, o ∈ ops ∧ y = .str o := by
  obtain ⟨o, e, rfl⟩ := mapAt h
  exact ⟨o, List.mem_of_getElem? e, rfl⟩
section
variable {P : Program} {w : World} {K : PySem.W.Frag} {mg : Str → Option Value} {base : Heap} {f : Addr} {fd : FuncData}
theorem ok_newNode (F : Fun K "_law_new_node" "_law_new_node" s_law_new_node f fd) (T : Txt mg) (D_law_draw : Dn P w K mg base "_law_draw" ["_law_d", "_law_many"] 1 spDraw) (D_law_pick : Dn P w K mg base "_law_pick" ["_law_d", "_law_row"] 2 (spPick K))
    (D_law_of_width : Dn P w K mg base "_law_of_width" ["_law_d", "_law_nodes", "_law_width"] 3 spOfW) : FnOk P w K mg base CX0 4 f fd ["_law_d", "_law_nodes", "_law_stores", "_law_most"] spNewNode := by
  refine F.ok sc_law_new_node (fun vs H Q E h => ?_) (fun cdv A outer s H vs Q E hr h => ?_)
  · obtain ⟨d, c, l, s, ns, ss, most, rfl, _⟩ := h
    rfl
  obtain ⟨d, c, l, sl, ns, ss, most, rfl, hd, nld, nsd, hA, hS, G, h900, h1, hw1, hst, hs100, m1, m8, q⟩ := h
  refine ⟨_, (pss_cons (ps_set (i := 4) sc_law_new_node.nd rfl (Or.inl rfl) (pe_callB (cr_maxN rfl) (by rfl) T.n_max (by decide +kernel) (pa_cons (pe_dn D_law_draw (hr.mono (by decide)) (by rfl) (pa_cons (pv 0) (pa_cons (pe_callB call_len_seq (by rfl) T.n_len (by decide +kernel) (pa_cons (pv 1) pa_nil)) pa_nil))) (pa_cons (pe_dn D_law_draw (hr.mono (by decide)) (by rfl) (pa_cons (pv 0) (pa_cons (pe_callB call_len_seq (by rfl) T.n_len (by decide +kernel) (pa_cons (pv 1) pa_nil)) pa_nil))) pa_nil))))
      (pss_cons (ps_set (i := 5) sc_law_new_node.nd rfl (Or.inl rfl) (pe_ix ix_tup (pe_ix ix_list (pv 1) (pv 4) (fun _ _ => rfl)) pe_int (fun _ _ => rfl)))
      (pss_cons (ps_set (i := 6) sc_law_new_node.nd rfl (Or.inl rfl) (pe_dn D_law_draw (hr.mono (by decide)) (by rfl) (pa_cons (pv 0) (pa_cons pe_int pa_nil))))
      (pss_cons (ps_if (pt_cmpR op_lt (pv 6) pe_int (nomark _)) (pss_cons (ps_set (i := 7) sc_law_new_node.nd rfl (Or.inl rfl) (pe_dn D_law_pick (hr.mono (by decide)) (by rfl) (pa_cons (pv 0) (pa_cons (pe_lst (pa_cons pe_str (pa_cons pe_str (pa_cons pe_str (pa_cons pe_str (pa_cons pe_str (pa_cons pe_str pa_nil))))))) pa_nil))))
      (pss_one (ps_ret (pe_tup (pa_cons (pv 7) (pa_cons (pv 5) (pa_cons (pv 4) (pa_cons (pe_dn D_law_of_width (hr.mono (by decide)) (by rfl) (pa_cons (pv 0) (pa_cons (pv 1) (pa_cons (pv 5) pa_nil)))) pa_nil)))))))) pss_nil)
      (pss_cons (ps_if (pt_cmpR op_eq (pv 6) pe_int (nomark _)) (pss_one (ps_ret (pe_tup (pa_cons (pe_dn D_law_pick (hr.mono (by decide)) (by rfl) (pa_cons (pv 0) (pa_cons (pe_lst (pa_cons pe_str (pa_cons pe_str (pa_cons pe_str (pa_cons pe_str pa_nil))))) pa_nil))) (pa_cons pe_int (pa_cons (pv 4) (pa_cons (pe_dn D_law_of_width (hr.mono (by decide)) (by rfl) (pa_cons (pv 0) (pa_cons (pv 1) (pa_cons (pv 5) pa_nil)))) pa_nil))))))) pss_nil)
      (pss_cons (ps_if (pt_cmpR op_eq (pv 6) pe_int (nomark _)) (pss_one (ps_ret (pe_tup (pa_cons (pe_dn D_law_pick (hr.mono (by decide)) (by rfl) (pa_cons (pv 0) (pa_cons (pe_lst (pa_cons pe_str (pa_cons pe_str pa_nil))) pa_nil))) (pa_cons (pv 5) (pa_cons (pv 4) (pa_cons (pe_dn D_law_draw (hr.mono (by decide)) (by rfl) (pa_cons (pv 0) (pa_cons (pe_callB call_len_seq (by rfl) T.n_len (by decide +kernel) (pa_cons (pv 1) pa_nil)) pa_nil))) pa_nil))))))) pss_nil)
      (pss_cons (ps_if (pt_cmpR op_eq (pv 6) pe_int (nomark _)) (pss_one (ps_ret (pe_tup (pa_cons (pe_dn D_law_pick (hr.mono (by decide)) (by rfl) (pa_cons (pv 0) (pa_cons (pe_lst (pa_cons pe_str (pa_cons pe_str pa_nil))) pa_nil))) (pa_cons (pv 5) (pa_cons (pv 4) pa_nil)))))) pss_nil)
      (pss_cons (ps_if (pt_cmpR op_eq (pv 6) pe_int (nomark _)) (pss_one (ps_ret (pe_tup (pa_cons (pe_dn D_law_pick (hr.mono (by decide)) (by rfl) (pa_cons (pv 0) (pa_cons (pe_lst (pa_cons pe_str (pa_cons pe_str (pa_cons pe_str pa_nil)))) pa_nil))) (pa_cons pe_int (pa_cons (pv 4) pa_nil)))))) pss_nil)
      (pss_cons (ps_if (pt_cmpR op_eq (pv 6) pe_int (nomark _)) (pss_cons (ps_set (i := 8) sc_law_new_node.nd rfl (Or.inl rfl) (pe_dn D_law_draw (hr.mono (by decide)) (by rfl) (pa_cons (pv 0) (pa_cons (pe_callB call_len_seq (by rfl) T.n_len (by decide +kernel) (pa_cons (pv 1) pa_nil)) pa_nil))))
      (pss_cons (ps_if (pt_cmpR op_le (pe_op op_add (pv 5) (pe_ix ix_tup (pe_ix ix_list (pv 1) (pv 8) (fun _ _ => rfl)) pe_int (fun _ _ => rfl))) (pv 3) (nomark _)) (pss_one (ps_ret (pe_tup (pa_cons pe_str (pa_cons (pe_op op_add (pv 5) (pe_ix ix_tup (pe_ix ix_list (pv 1) (pv 8) (fun _ _ => rfl)) pe_int (fun _ _ => rfl))) (pa_cons (pv 4) (pa_cons (pv 8) pa_nil))))))) pss_nil)
      (pss_one (ps_ret (pe_tup (pa_cons pe_str (pa_cons (pe_op op_add pe_int (pe_dn D_law_draw (hr.mono (by decide)) (by rfl) (pa_cons (pv 0) (pa_cons (pv 3) pa_nil)))) (pa_cons (pv 4) pa_nil)))))))) pss_nil)
      (pss_cons (ps_if (pt_cmpR op_eq (pv 6) pe_int (nomark _)) (pss_cons (ps_set (i := 9) sc_law_new_node.nd rfl (Or.inl rfl) (pe_dn D_law_draw (hr.mono (by decide)) (by rfl) (pa_cons (pv 0) (pa_cons (pv 5) pa_nil))))
      (pss_one (ps_ret (pe_tup (pa_cons pe_str (pa_cons (pe_op op_add pe_int (pe_dn D_law_draw (hr.mono (by decide)) (by rfl) (pa_cons (pv 0) (pa_cons (pe_op op_sub (pv 5) (pv 9)) pa_nil)))) (pa_cons (pv 4) (pa_cons (pv 9) pa_nil)))))))) pss_nil)
      (pss_cons (ps_if (pt_cmpR op_eq (pv 6) pe_int (nomark _)) (pss_one (ps_ret (pe_tup (pa_cons pe_str (pa_cons (pe_callB (cr_maxN rfl) (by rfl) T.n_max (by decide +kernel) (pa_cons (pv 5) (pa_cons (pe_op op_add pe_int (pe_dn D_law_draw (hr.mono (by decide)) (by rfl) (pa_cons (pv 0) (pa_cons (pv 3) pa_nil)))) pa_nil))) (pa_cons (pv 4) pa_nil)))))) pss_nil)
      (C8.pss_cut (ps_if (PW.pt (pw_and (pt_cmpR op_eq (pv 6) pe_int (nomark _)) (pw_and1 (pt_cmpR op_gt (pe_callB call_len_seq (by rfl) T.n_len (by decide +kernel) (pa_cons (pv 2) pa_nil)) pe_int (nomark _))))) (pss_cons (ps_set (i := 10) sc_law_new_node.nd rfl (Or.inl rfl) (pe_dn D_law_draw (hr.mono (by decide)) (by rfl) (pa_cons (pv 0) (pa_cons (pe_callB call_len_seq (by rfl) T.n_len (by decide +kernel) (pa_cons (pv 2) pa_nil)) pa_nil))))
      (pss_one (ps_ret (pe_tup (pa_cons pe_str (pa_cons (pe_ix ix_tup (pe_ix ix_list (pv 2) (pv 10) (fun _ _ => rfl)) pe_int (fun _ _ => rfl)) (pa_cons (pv 10) (pa_cons (pv 4) pa_nil)))))))) pss_nil)
      (pss_cons (ps_if (pt_cmpR op_eq (pv 6) pe_int (nomark _)) (pss_cons (ps_set (i := 11) sc_law_new_node.nd rfl (Or.inl rfl) (pe_op op_add pe_int (pe_dn D_law_draw (hr.mono (by decide)) (by rfl) (pa_cons (pv 0) (pa_cons (pv 3) pa_nil)))))
      (pss_one (ps_ret (pe_tup (pa_cons pe_str (pa_cons (pv 11) (pa_cons (pe_dn D_law_draw (hr.mono (by decide)) (by rfl) (pa_cons (pv 0) (pa_cons (pe_op op_oneShl pe_int (pv 11)) pa_nil))) pa_nil))))))) pss_nil)
      (pss_one (ps_ret (pe_tup (pa_cons pe_str (pa_cons (pv 5) (pa_cons (pe_dn D_law_of_width (hr.mono (by decide)) (by rfl) (pa_cons (pv 0) (pa_cons (pv 1) (pa_cons pe_int pa_nil)))) (pa_cons (pv 4) (pa_cons (pe_dn D_law_of_width (hr.mono (by decide)) (by rfl) (pa_cons (pv 0) (pa_cons (pv 1) (pa_cons (pv 5) pa_nil)))) pa_nil))))))))))))))))))))), ?_⟩
  obtain ⟨vs, e, vl, lv⟩ := hA.get
  refine ⟨_, rfl, _, rfl, l, vs, rfl, .inl (SqL.of e), d, c, _, rfl, hd, by omega, by omega, fun r H1 r0 r1 hd1 k1 => ?_⟩
  obtain ⟨x1, rfl⟩ := Int.eq_ofNat_of_zero_le r0
  have e1 := k1 _ _ (by simp [nld]) e
  refine ⟨_, rfl, _, rfl, l, vs, rfl, .inl (SqL.of e1), d, c, _, rfl, hd1, by omega, by omega, fun r H2 r0 r2 hd2 k2 => ?_⟩
  obtain ⟨x2, rfl⟩ := Int.eq_ofNat_of_zero_le r0
  have e2 := k2 _ _ (by simp [nld]) e1
  refine ⟨x1, x2, rfl, ?_⟩
  have hat : max x1 x2 < ns.length := by omega
  generalize max x1 x2 = at_ at hat ⊢
  have t2 := (k1.tup1 hd).trans (k2.tup1 hd1)
  obtain ⟨n, qn, hn, hv, hq⟩ := nodeAt (lv.keep' t2) hat
  have nok := G.ok at_ n hn
  refine ⟨_, rfl, _, rfl, l, vs, _, .ref qn, rfl, rfl, SqL.of e2, atI_nat hv, qn, _, _, _, rfl, rfl, SqT.of hq, atI_nat (j := 1) rfl, ?_⟩
  refine ⟨_, rfl, d, c, 13, rfl, hd2, by decide, by decide, fun r H3 r0 r3 hd3 k3 => ?_⟩
  obtain ⟨turn, rfl⟩ := Int.eq_ofNat_of_zero_le r0
  have e3 := k3 _ _ (by simp [nld]) e2
  have k03 := (k1.trans k2).trans k3
  have t3 := t2.trans (k3.tup1 hd2)
  have hA3 := hA.keep k03 t3 (by simp [nld])
  have hS3 := hS.keep k03 t3 (by simp [nsd])
  have hwn : HasW ns n.w := ⟨at_, n, hn, rfl⟩
  have w1 := nok.w1
  have w8 := nok.w8
  clear hd hd1 hd2 k1 k2 k3 e e1 e2 t2
  have fin : ∀ (op : Str) (w : Nat) (args : List Nat) (Hx : Hp) (xs : List V), (Nd.mk op w args).Ok ns.length → PyData.strOk op = true → DS Hx d c → Keep [d] H Hx → xs = .str op :: vI w :: args.map vI → xs.length ≤ sizeLine ∧ ∀ t, Hx t = none → Q (.ref t) (upd Hx t (.tup xs)) := by
    intro op w args Hx xs ok so hdx kx ex
    subst ex
    refine ⟨?_, fun t ht => ?_⟩
    · have := ok.len
      rw [List.length_cons, List.length_cons, List.length_map]
      exact le1000 (by have : args.length ≤ 3 := ok.len; omega)
    · exact q _ ⟨op, w, args⟩ _ (Lay.mkNode upd_same) ok so (hdx.same (same_new ht _)) (kx.trans (.new ht))
  have hlv : ∀ Hx, Keep [d] H3 Hx → DS Hx d c → ∃ vs : List V, Hx l = some (.lst vs) ∧ vs.length = ns.length ∧ LayAll Hx vs (ns.map nodeD) := fun Hx k _ => (hA3.keep k (k.tup1 hd3) (by simp [nld])).get
  have kA : ∀ Hx, Keep [d] H3 Hx → Acc l nodeD ns Hx := fun Hx k => hA3.keep k (k.tup1 hd3) (by simp [nld])
  refine ⟨_, rfl, _, _, rfl, rfl, _, rfl, ite2 (fun z => ?_) (fun _ => ?_)⟩
  · -- an operation of two operands
    refine ⟨_, rfl, (by show 6 ≤ sizeLine; decide), fun L hL => ?_⟩
    have sL := same_new hL (.lst ((["add", "sub", "and", "mul", "or", "xor"] : List Str).map V.str))
    refine ⟨d, c, L, _, rfl, hd3.same sL, (hd3.new hL).1, SqL.of upd_same, by show 1 ≤ 6; omega, by show 6 ≤ 1000; omega, fun k y H5 hy hd5 k5 => ?_⟩
    obtain ⟨o, ho, rfl⟩ := wordAt (ops := ["add", "sub", "and", "mul", "or", "xor"]) hy
    obtain ⟨o1, o2, o3⟩ := (by decide +kernel : ∀ o ∈ (["add", "sub", "and", "mul", "or", "xor"] : List Str), o ≠ "pick" ∧ o ≠ "const" ∧ PyData.strOk o = true) o ho
    have k35 : Keep [d] H3 H5 := (Keep.of_same sL).trans k5
    refine ⟨_, rfl, _, rfl, _, rfl, _, rfl, _, rfl, _, rfl, d, c, l, ns, n.w, rfl, hd5, nld, kA _ k35, h900, hwn, fun j m H6 hm ew hd6 k6 => ?_⟩
    exact fin o n.w [at_, j] H6 _ (ok_of o1 o2 w1 w8 (by simp)) o3 hd6 ((k03.trans k35).trans k6) rfl
  refine ⟨_, rfl, rfl, _, rfl, ite2 (fun z => ?_) (fun _ => ?_)⟩
  · refine ⟨_, rfl, (by show 4 ≤ sizeLine; decide), fun L hL => ?_⟩
    have sL := same_new hL (.lst ((["lt", "le", "eq", "ne"] : List Str).map V.str))
    refine ⟨d, c, L, _, rfl, hd3.same sL, (hd3.new hL).1, SqL.of upd_same, by show 1 ≤ 4; omega, by show 4 ≤ 1000; omega, fun k y H5 hy hd5 k5 => ?_⟩
    obtain ⟨o, ho, rfl⟩ := wordAt (ops := ["lt", "le", "eq", "ne"]) hy
    obtain ⟨o1, o2, o3⟩ := (by decide +kernel : ∀ o ∈ (["lt", "le", "eq", "ne"] : List Str), o ≠ "pick" ∧ o ≠ "const" ∧ PyData.strOk o = true) o ho
    have k35 : Keep [d] H3 H5 := (Keep.of_same sL).trans k5
    refine ⟨_, rfl, _, rfl, _, rfl, _, rfl, d, c, l, ns, n.w, rfl, hd5, nld, kA _ k35, h900, hwn, fun j m H6 hm ew hd6 k6 => ?_⟩
    exact fin o 1 [at_, j] H6 _ (ok_of o1 o2 (by omega) (by omega) (by simp)) o3 hd6 ((k03.trans k35).trans k6) rfl
  refine ⟨_, rfl, rfl, _, rfl, ite2 (fun z => ?_) (fun _ => ?_)⟩
  · refine ⟨_, rfl, (by show 2 ≤ sizeLine; decide), fun L hL => ?_⟩
    have sL := same_new hL (.lst ((["shl", "shr"] : List Str).map V.str))
    refine ⟨d, c, L, _, rfl, hd3.same sL, (hd3.new hL).1, SqL.of upd_same, by show 1 ≤ 2; omega, by show 2 ≤ 1000; omega, fun k y H5 hy hd5 k5 => ?_⟩
    obtain ⟨o, ho, rfl⟩ := wordAt (ops := ["shl", "shr"]) hy
    obtain ⟨o1, o2, o3⟩ := (by decide +kernel : ∀ o ∈ (["shl", "shr"] : List Str), o ≠ "pick" ∧ o ≠ "const" ∧ PyData.strOk o = true) o ho
    have k35 : Keep [d] H3 H5 := (Keep.of_same sL).trans k5
    obtain ⟨vs5, e5, vl5, _⟩ := hlv H5 k35 hd5
    refine ⟨_, rfl, _, rfl, _, rfl, _, rfl, l, vs5, rfl, .inl (SqL.of e5), d, c, _, rfl, hd5, by omega, by omega, fun r H6 r0 r1 hd6 k6 => ?_⟩
    obtain ⟨j, rfl⟩ := Int.eq_ofNat_of_zero_le r0
    exact fin o n.w [at_, j] H6 _ (ok_of o1 o2 w1 w8 (by simp)) o3 hd6 ((k03.trans k35).trans k6) rfl
  refine ⟨_, rfl, rfl, _, rfl, ite2 (fun z => ?_) (fun _ => ?_)⟩
  · refine ⟨_, rfl, (by show 2 ≤ sizeLine; decide), fun L hL => ?_⟩
    have sL := same_new hL (.lst ((["not", "neg"] : List Str).map V.str))
    refine ⟨d, c, L, _, rfl, hd3.same sL, (hd3.new hL).1, SqL.of upd_same, by show 1 ≤ 2; omega, by show 2 ≤ 1000; omega, fun k y H5 hy hd5 k5 => ?_⟩
    obtain ⟨o, ho, rfl⟩ := wordAt (ops := ["not", "neg"]) hy
    obtain ⟨o1, o2, o3⟩ := (by decide +kernel : ∀ o ∈ (["not", "neg"] : List Str), o ≠ "pick" ∧ o ≠ "const" ∧ PyData.strOk o = true) o ho
    refine ⟨_, rfl, _, rfl, ?_⟩
    exact fin o n.w [at_] H5 _ (ok_of o1 o2 w1 w8 (by simp)) o3 hd5 ((k03.trans (Keep.of_same sL)).trans k5) rfl
  refine ⟨_, rfl, rfl, _, rfl, ite2 (fun z => ?_) (fun _ => ?_)⟩
  · refine ⟨_, rfl, (by show 3 ≤ sizeLine; decide), fun L hL => ?_⟩
    have sL := same_new hL (.lst ((["any", "all", "odd"] : List Str).map V.str))
    refine ⟨d, c, L, _, rfl, hd3.same sL, (hd3.new hL).1, SqL.of upd_same, by show 1 ≤ 3; omega, by show 3 ≤ 1000; omega, fun k y H5 hy hd5 k5 => ?_⟩
    obtain ⟨o, ho, rfl⟩ := wordAt (ops := ["any", "all", "odd"]) hy
    obtain ⟨o1, o2, o3⟩ := (by decide +kernel : ∀ o ∈ (["any", "all", "odd"] : List Str), o ≠ "pick" ∧ o ≠ "const" ∧ PyData.strOk o = true) o ho
    refine ⟨_, rfl, ?_⟩
    exact fin o 1 [at_] H5 _ (ok_of o1 o2 (by omega) (by omega) (by simp)) o3 hd5 ((k03.trans (Keep.of_same sL)).trans k5) rfl
  refine ⟨_, rfl, rfl, _, rfl, ite2 (fun z => ?_) (fun _ => ?_)⟩
  · obtain ⟨vs3, e3, vl3, lv3⟩ := hlv H3 (.refl _ _) hd3
    refine ⟨_, rfl, _, rfl, l, vs3, rfl, .inl (SqL.of e3), d, c, _, rfl, hd3, by omega, by omega, fun r H4 r0 r1 hd4 k4 => ?_⟩
    obtain ⟨j, rfl⟩ := Int.eq_ofNat_of_zero_le r0
    have hj : j < ns.length := by omega
    obtain ⟨vs4, e4, vl4, lv4⟩ := hlv H4 k4 hd4
    obtain ⟨m, qm, hm, hvm, hqm⟩ := nodeAt lv4 hj
    refine ⟨_, rfl, _, rfl, _, rfl, l, vs4, _, .ref qm, rfl, rfl, SqL.of e4, atI_nat hvm, qm, _, _, _, rfl, rfl, SqT.of hqm, atI_nat (j := 1) rfl, _, _, rfl, rfl, ?_⟩
    refine ⟨_, rfl, _, _, rfl, rfl, _, rfl, ite2 (fun z => ?_) (fun _ => ?_)⟩
    · have z2 : ((n.w : Int) + (m.w : Int)) ≤ (most : Int) := of_decide_eq_true z
      refine ⟨_, rfl, _, rfl, _, rfl, l, vs4, _, .ref qm, rfl, rfl, SqL.of e4, atI_nat hvm, qm, _, _, _, rfl, rfl, SqT.of hqm, atI_nat (j := 1) rfl, _, _, rfl, rfl, _, rfl, _, rfl, ?_⟩
      exact fin "join" (n.w + m.w) [at_, j] H4 _ (ok_of (by decide +kernel) (by decide +kernel) (by omega) (by omega) (by simp)) (by decide +kernel) hd4 (k03.trans k4) rfl
    · refine ⟨_, rfl, _, rfl, d, c, _, rfl, hd4, by omega, by omega, fun r H5 r0 r5 hd5 k5 => ?_⟩
      obtain ⟨u, rfl⟩ := Int.eq_ofNat_of_zero_le r0
      refine ⟨_, _, rfl, rfl, _, rfl, ?_⟩
      exact fin "wide" (1 + u) [at_] H5 _ (ok_of (by decide +kernel) (by decide +kernel) (by omega) (by omega) (by simp)) (by decide +kernel) hd5 ((k03.trans k4).trans k5) (congrArg (fun z => [V.str "wide", V.int z, vI at_]) (by omega))
  refine ⟨_, rfl, rfl, _, rfl, ite2 (fun z => ?_) (fun _ => ?_)⟩
  · refine ⟨_, rfl, _, rfl, d, c, _, rfl, hd3, by omega, by omega, fun r H4 r0 r1 hd4 k4 => ?_⟩
    obtain ⟨low, rfl⟩ := Int.eq_ofNat_of_zero_le r0
    refine ⟨_, rfl, _, rfl, _, rfl, _, _, rfl, rfl, d, c, _, rfl, hd4, by omega, by omega, fun r H5 r0 r5 hd5 k5 => ?_⟩
    obtain ⟨u, rfl⟩ := Int.eq_ofNat_of_zero_le r0
    refine ⟨_, _, rfl, rfl, _, rfl, _, rfl, ?_⟩
    exact fin "bits" (1 + u) [at_, low] H5 _ (ok_of (by decide +kernel) (by decide +kernel) (by omega) (by omega) (by simp)) (by decide +kernel) hd5 ((k03.trans k4).trans k5) (congrArg (fun z => [V.str "bits", V.int z, vI at_, vI low]) (by omega))
  refine ⟨_, rfl, rfl, _, rfl, ite2 (fun z => ?_) (fun _ => ?_)⟩
  · refine ⟨_, rfl, _, rfl, _, rfl, d, c, _, rfl, hd3, by omega, by omega, fun r H4 r0 r1 hd4 k4 => ?_⟩
    obtain ⟨u, rfl⟩ := Int.eq_ofNat_of_zero_le r0
    refine ⟨_, _, rfl, rfl, n.w, 1 + u, congrArg (fun z => [vI n.w, V.int z]) (by omega), _, rfl, ?_⟩
    exact fin "sign" (max n.w (1 + u)) [at_] H4 _ (ok_of (by decide +kernel) (by decide +kernel) (by omega) (by omega) (by simp)) (by decide +kernel) hd4 (k03.trans k4) rfl
  -- the load
  refine ⟨fun σ' H' => σ' = [some (.ref d), some (.ref l), some (.ref sl), some (vI most), some (vI at_), some (vI n.w), some (vI turn), none, none, none, none, none] ∧ H' = H3, ?_, ?_⟩
  · refine ⟨_, rfl, rfl, _, rfl, ite2 (fun z => ?_) (fun _ => ?_)⟩
    · obtain ⟨zs, ez, zl, lz⟩ := hS3.get
      refine ⟨_, rfl, sl, zs, rfl, .inl (SqL.of ez), _, _, rfl, rfl, _, rfl, ite2 (fun z2 => ?_) (fun _ => ⟨rfl, rfl⟩)⟩
      have z3 : (0 : Int) < (zs.length : Nat) := of_decide_eq_true z2
      refine ⟨_, rfl, _, rfl, sl, zs, rfl, .inl (SqL.of ez), d, c, _, rfl, hd3, by omega, by omega, fun r H4 r0 r1 hd4 k4 => ?_⟩
      obtain ⟨j, rfl⟩ := Int.eq_ofNat_of_zero_le r0
      have hj : j < ss.length := by omega
      have hS4 := hS3.keep k4 (k4.tup1 hd3) (by simp [nsd])
      obtain ⟨zs4, ez4, zl4, lz4⟩ := hS4.get
      obtain ⟨v, hv4, lv4⟩ := lz4.at_ j (by rw [List.getElem?_map, List.getElem?_eq_getElem hj]; rfl)
      obtain ⟨qs, us, rfl, eq4, lu⟩ := lv4.tup_inv
      obtain ⟨u0, us, rfl, l0, lu1⟩ := lu.cons_inv
      obtain ⟨u1, us, rfl, l1, lu2⟩ := lu1.cons_inv
      obtain rfl := l1.int_inv
      obtain ⟨b1, b2⟩ := hst _ (List.getElem_mem hj)
      refine ⟨_, rfl, _, rfl, sl, zs4, _, .ref qs, rfl, rfl, SqL.of ez4, atI_nat hv4, qs, _, _, _, rfl, rfl, SqT.of eq4, atI_nat (j := 1) rfl, _, rfl, _, rfl, ?_⟩
      exact fin "load" (ss[j]).2.1 [j, at_] H4 _ (ok_of (by decide +kernel) (by decide +kernel) b1 b2 (by simp)) (by decide +kernel) hd4 (k03.trans k4) rfl
    · exact ⟨rfl, rfl⟩
  rintro σ' H' ⟨rfl, rfl⟩
  refine ⟨_, rfl, rfl, _, rfl, ite2 (fun z => ?_) (fun _ => ?_)⟩
  · refine ⟨_, rfl, _, rfl, d, c, _, rfl, hd3, by omega, by omega, fun r H4 r0 r1 hd4 k4 => ?_⟩
    obtain ⟨u, rfl⟩ := Int.eq_ofNat_of_zero_le r0
    have p1 : (0 : Int) < 2 ^ (1 + u) := Int.pow_pos (by decide)
    have p2 : (2 : Int) ^ (1 + u) < 1073741824 := by
      have : (2 : Int) ^ (1 + u) ≤ 2 ^ 8 := by
        have e : ((2 ^ (1 + u) : Nat) : Int) ≤ ((2 ^ 8 : Nat) : Int) := Int.ofNat_le.mpr (Nat.pow_le_pow_right (by decide) (by omega))
        simpa using e
      omega
    refine ⟨_, _, rfl, rfl, _, rfl, _, rfl, _, rfl, 1 + u, rfl, congrArg V.int (by omega), by omega, d, c, _, rfl, hd4, by omega, by omega, fun r H5 r0 r5 hd5 k5 => ?_⟩
    obtain ⟨v, rfl⟩ := Int.eq_ofNat_of_zero_le r0
    exact fin "const" (1 + u) [v] H5 _ ⟨fun e => absurd (show ("const" : Str) = "pick" from e) (by decide +kernel), fun _ => ⟨v, rfl⟩, by show 1 ≤ 1 + u; omega, by show 1 + u ≤ 8; omega, by show 1 ≤ 3; omega⟩ (by decide +kernel) hd5 ((k03.trans k4).trans k5) (congrArg (fun z => [V.str "const", V.int z, vI v]) (by omega))
  · refine ⟨_, rfl, _, rfl, _, rfl, d, c, l, ns, 1, rfl, hd3, nld, hA3, h900, hw1, fun i m H4 hm ew hd4 k4 => ?_⟩
    refine ⟨_, rfl, _, rfl, _, rfl, _, rfl, d, c, l, ns, n.w, rfl, hd4, nld, kA _ k4, h900, hwn, fun j m2 H5 hm2 ew2 hd5 k5 => ?_⟩
    have hj := (List.getElem?_eq_some_iff.mp hm2).1
    exact fin "pick" n.w [i, at_, j] H5 _ ⟨fun _ => ⟨i, at_, j, rfl, hat, hj⟩, fun e => absurd (show ("pick" : Str) = "const" from e) (by decide +kernel), w1, w8, by show 3 ≤ 3; omega⟩ (by decide +kernel) hd5 ((k03.trans k4).trans k5) rfl
end
end Bf

set_option Elab.async false
set_option linter.all false
set_option maxRecDepth 100000
set_option maxHeartbeats 4000000
namespace Bf
open PySem PySem.Spec PyProof.Rows L2
/-! ### a drawn graph -/
def inD (p : Str × Nat) : PyData := .tuple [.str p.1, .int (p.2 : Int)]
def regD4 (r : Str × Nat × Nat × Nat) : PyData := .tuple [.str r.1, .int (r.2.1 : Int), .int (r.2.2.1 : Int), .int (r.2.2.2 : Int)]
theorem Lay.inp {H : Hp} {v : V} {r : Str × Nat} (h : Lay H v (inD r)) : ∃ q, v = .ref q ∧ H q = some (.tup [.str r.1, vI r.2]) := by
  obtain ⟨q, vs, rfl, e, la⟩ := h.tup_inv
  obtain ⟨v0, u0, rfl, l0, lb⟩ := la.cons_inv
  obtain ⟨v1, u1, rfl, l1, lc⟩ := lb.cons_inv
  obtain rfl := lc.nil_inv
  obtain rfl := l0.str_inv
  obtain rfl := l1.int_inv
  exact ⟨q, rfl, e⟩
theorem Lay.sto {H : Hp} {v : V} {r : Str × Nat × Nat} (h : Lay H v (storD r)) : ∃ q, v = .ref q ∧ H q = some (.tup [.str r.1, vI r.2.1, vI r.2.2]) := by
  obtain ⟨q, vs, rfl, e, la⟩ := h.tup_inv
  obtain ⟨v0, u0, rfl, l0, lb⟩ := la.cons_inv
  obtain ⟨v1, u1, rfl, l1, lc⟩ := lb.cons_inv
  obtain ⟨v2, u2, rfl, l2, ld⟩ := lc.cons_inv
  obtain rfl := ld.nil_inv
  obtain rfl := l0.str_inv
  obtain rfl := l1.int_inv
  obtain rfl := l2.int_inv
  exact ⟨q, rfl, e⟩
theorem Lay.rg4 {H : Hp} {v : V} {r : Str × Nat × Nat × Nat} (h : Lay H v (regD4 r)) : ∃ q, v = .ref q ∧ H q = some (.tup [.str r.1, vI r.2.1, vI r.2.2.1, vI r.2.2.2]) := by
  obtain ⟨q, vs, rfl, e, la⟩ := h.tup_inv
  obtain ⟨v0, u0, rfl, l0, lb⟩ := la.cons_inv
  obtain ⟨v1, u1, rfl, l1, lc⟩ := lb.cons_inv
  obtain ⟨v2, u2, rfl, l2, ld⟩ := lc.cons_inv
  obtain ⟨v3, u3, rfl, l3, le⟩ := ld.cons_inv
  obtain rfl := le.nil_inv
  obtain rfl := l0.str_inv
  obtain rfl := l1.int_inv
  obtain rfl := l2.int_inv
  obtain rfl := l3.int_inv
  exact ⟨q, rfl, e⟩
/-- the state of a world that is being made -/
structure GS (H0 H' : Hp) (d c pn : Addr) (n : Nat) : Prop where
  ds : DS H' d c
  nm : Nms H' pn n
  kp : Keep [d] H0 H'
  nd : pn ≠ d
  nc : pn ≠ c
  f0 : H0 pn = none
section
variable {H0 H' : Hp} {d c pn : Addr} {n : Nat}
theorem GS.new {p : Addr} {o : HO} (g : GS H0 H' d c pn n) (h : H' p = none) : GS H0 (upd H' p o) d c pn n := ⟨g.ds.same (same_new h _), g.nm.same (same_new h _), g.kp.trans (.new h), g.nd, g.nc, g.f0⟩
theorem GS.free {p : Addr} (g : GS H0 H' d c pn n) (h : H' p = none) : p ≠ d ∧ p ≠ c ∧ p ≠ pn ∧ H0 p = none := by
  obtain ⟨a, b⟩ := g.ds.new h
  obtain ⟨x, e, _⟩ := g.nm
  exact ⟨a, b, (ne_of_none e h).symm, g.kp.free h (by simp [a])⟩
theorem GS.put {p : Addr} {o : HO} (g : GS H0 H' d c pn n) (f : p ≠ d ∧ p ≠ c ∧ p ≠ pn ∧ H0 p = none) : GS H0 (upd H' p o) d c pn n :=
  ⟨g.ds.keep (S := [p]) Keep.at1 (by simp [f.1.symm]) (by simp [f.2.1.symm]), g.nm.keep (S := [p]) Keep.at1 (by simp [f.2.2.1.symm]), (g.kp.cat (Keep.at1 (a := p))).thin (by simp [f.2.2.2]), g.nd, g.nc, g.f0⟩
theorem GS.draw {H'' : Hp} (g : GS H0 H' d c pn n) (ds : DS H'' d c) (k : Keep [d] H' H'') : GS H0 H'' d c pn n := ⟨ds, g.nm.keep k (by simp [g.nd]), g.kp.trans k, g.nd, g.nc, g.f0⟩
theorem GS.cast {m : Nat} (g : GS H0 H' d c pn n) (e : n = m) : GS H0 H' d c pn m := e ▸ g
theorem GS.tup {H'' : Hp} (g : GS H0 H' d c pn n) (k : Keep [d] H' H'') : KeepT H' H'' := k.tup1 g.ds
/-- what a pop leaves -/
theorem GS.pop {H'' : Hp} {names : List V} {j : Nat} {y : V} (g : GS H0 H' d c pn n) (hn : H' pn = some (.lst names)) (hz : ∀ v ∈ names, ∃ z : Str, v = .str z) (hl : names.length = n) (hy : names[j]? = some y) (ds : DS H'' d c) (hn' : H'' pn = some (.lst (names.eraseIdx j))) (k : Keep [d, pn] H' H'') :
    GS H0 H'' d c pn (n - 1) ∧ ∃ z : Str, y = .str z := by
  refine ⟨⟨ds, ⟨names.eraseIdx j, hn', fun v hv => hz v (List.mem_of_mem_eraseIdx hv), ?_⟩, (g.kp.cat k).thin (by simp [g.f0]), g.nd, g.nc, g.f0⟩, hz y (List.mem_of_getElem? hy)⟩
  rw [List.length_eraseIdx, if_pos (List.getElem?_eq_some_iff.mp hy).1, hl]
end
/-- lists of data that stand at a free place of the beginning -/
structure LS {α : Type} (H0 H' : Hp) (d c pn D : Addr) (f : α → PyData) (acc : List α) : Prop where
  ac : Acc D f acc H'
  fr : D ≠ d ∧ D ≠ c ∧ D ≠ pn ∧ H0 D = none
section
variable {α : Type} {H0 H' H'' : Hp} {d c pn D : Addr} {f : α → PyData} {acc : List α} {n : Nat}
theorem LS.keep {S : List Addr} (h : LS H0 H' d c pn D f acc) (k : Keep S H' H'') (t : KeepT H' H'') (nD : D ∉ S) : LS H0 H'' d c pn D f acc := ⟨h.ac.keep k t nD, h.fr⟩
theorem LS.new {p : Addr} {o : HO} (h : LS H0 H' d c pn D f acc) (e : H' p = none) : LS H0 (upd H' p o) d c pn D f acc := ⟨h.ac.same (same_new e _), h.fr⟩
theorem LS.draw (h : LS H0 H' d c pn D f acc) (g : GS H0 H' d c pn n) (k : Keep [d] H' H'') : LS H0 H'' d c pn D f acc := h.keep k (g.tup k) (by simp [h.fr.1])
theorem LS.pop {names : List V} (h : LS H0 H' d c pn D f acc) (g : GS H0 H' d c pn n) (hn : H' pn = some (.lst names)) (k : Keep [d, pn] H' H'') : LS H0 H'' d c pn D f acc := h.keep k (k.tup2 g.ds hn) (by simp [h.fr.1, h.fr.2.2.1])
theorem LS.ne {p : Addr} (h : LS H0 H' d c pn D f acc) (e : H' p = none) : p ≠ D := let ⟨x, q⟩ := h.ac.at_; (ne_of_none q e).symm
theorem LS.put {p : Addr} {l l' : List V} (h : LS H0 H' d c pn D f acc) (e : H' p = some (.lst l)) (n : D ≠ p) : LS H0 (upd H' p (.lst l')) d c pn D f acc := h.keep (S := [p]) Keep.at1 (.lst e) (by simp [n])
end
/-- lists of which only the length counts -/
structure OL (H0 H' : Hp) (d c pn D : Addr) (n : Nat) : Prop where
  ex : ∃ vs : List V, H' D = some (.lst vs) ∧ vs.length = n
  fr : D ≠ d ∧ D ≠ c ∧ D ≠ pn ∧ H0 D = none
section
variable {H0 H' H'' : Hp} {d c pn D : Addr} {k n : Nat}
theorem OL.keep {S : List Addr} (h : OL H0 H' d c pn D k) (kp : Keep S H' H'') (nD : D ∉ S) : OL H0 H'' d c pn D k := let ⟨vs, e, l⟩ := h.ex; ⟨⟨vs, kp _ _ nD e, l⟩, h.fr⟩
theorem OL.new {p : Addr} {o : HO} (h : OL H0 H' d c pn D k) (e : H' p = none) : OL H0 (upd H' p o) d c pn D k := h.keep (S := []) (.of_same (same_new e _)) (by simp)
theorem OL.draw (h : OL H0 H' d c pn D k) (kp : Keep [d] H' H'') : OL H0 H'' d c pn D k := h.keep kp (by simp [h.fr.1])
theorem OL.pop (h : OL H0 H' d c pn D k) (kp : Keep [d, pn] H' H'') : OL H0 H'' d c pn D k := h.keep kp (by simp [h.fr.1, h.fr.2.2.1])
theorem OL.ne {p : Addr} (h : OL H0 H' d c pn D k) (e : H' p = none) : p ≠ D := let ⟨x, q, _⟩ := h.ex; (ne_of_none q e).symm
theorem OL.put {p : Addr} {o : HO} (h : OL H0 H' d c pn D k) (n : D ≠ p) : OL H0 (upd H' p o) d c pn D k := h.keep (S := [p]) Keep.at1 (by simp [n])
theorem OL.push {y : V} (h : OL H0 H' d c pn D k) (hk : k ≤ 1000) : ∃ vs, H' D = some (.lst vs) ∧ vs.length < sizeLine ∧ OL H0 (upd H' D (.lst (vs ++ [y]))) d c pn D (k + 1) ∧ KeepT H' (upd H' D (.lst (vs ++ [y]))) := by
  obtain ⟨vs, e, l⟩ := h.ex
  exact ⟨vs, e, by rw [l]; exact small1000 hk, ⟨⟨_, upd_same, by rw [List.length_append, l]; rfl⟩, h.fr⟩, .lst e⟩
end
section
variable {α : Type} {H0 H' H'' : Hp} {d c pn D : Addr} {f : α → PyData} {acc : List α} {n : Nat}
theorem LS.push {y : V} {x : α} (h : LS H0 H' d c pn D f acc) (l : Lay H' y (f x)) (hk : acc.length ≤ 1000) :
    ∃ vs, H' D = some (.lst vs) ∧ vs.length < sizeLine ∧ LS H0 (upd H' D (.lst (vs ++ [y]))) d c pn D f (acc ++ [x]) ∧ KeepT H' (upd H' D (.lst (vs ++ [y]))) := by
  obtain ⟨vs, e, hl, a, t⟩ := h.ac.push l hk
  exact ⟨vs, e, hl, ⟨a, h.fr⟩, t⟩
theorem LS.at_ (h : LS H0 H' d c pn D f acc) : ∃ vs : List V, H' D = some (.lst vs) ∧ vs.length = acc.length ∧ LayAll H' vs (acc.map f) := h.ac.get
end
structure Plain (n : Nd) : Prop where
  np : n.op ≠ "pick"
  nc : n.op ≠ "const"
  w1 : 1 ≤ n.w
  w8 : n.w ≤ 8
  len : n.args.length ≤ 3
  st : PyData.strOk n.op = true
theorem Plain.ok {n : Nd} (h : Plain n) (i : Nat) : n.Ok i := ⟨fun e => absurd e h.np, fun e => absurd e h.nc, h.w1, h.w8, h.len⟩
theorem Good.app {ns : List Nd} (h : Good ns) : ∀ ms : List Nd, (∀ n ∈ ms, Plain n) → Good (ns ++ ms)
  | [], _ => by rwa [List.append_nil]
  | m :: ms, q => by
    have := Good.app (h.snoc ((q m (by simp)).ok _) (q m (by simp)).st) ms (fun n hn => q n (by simp [hn]))
    rwa [List.append_assoc] at this
theorem HasW.right {ns ms : List Nd} {w : Nat} (h : HasW ms w) : HasW (ns ++ ms) w := by
  obtain ⟨i, n, e, q⟩ := h
  exact ⟨ns.length + i, n, by rw [List.getElem?_append_right (by omega), Nat.add_sub_cancel_left]; exact e, q⟩
theorem inpAt {H : Hp} {vs : List V} {gs : List (Str × Nat)} {i : Nat} (h : LayAll H vs (gs.map inD)) (hi : i < gs.length) : ∃ (r : Str × Nat) (q : Addr), gs[i]? = some r ∧ vs[i]? = some (.ref q) ∧ H q = some (.tup [.str r.1, vI r.2]) := by
  have e : (gs.map inD)[i]? = some (inD gs[i]) := by rw [List.getElem?_map, List.getElem?_eq_getElem hi]; rfl
  obtain ⟨v, hv, l⟩ := h.at_ i e
  obtain ⟨q, rfl, hq⟩ := l.inp
  exact ⟨gs[i], q, List.getElem?_eq_getElem hi, hv, hq⟩
theorem GS.lst {H0 H' : Hp} {d c pn p : Addr} {n : Nat} {ns ms : List Nd} {vs us : List V} (g : GS H0 H' d c pn n) (l1 : LayAll H' vs (ns.map nodeD)) (l2 : LayAll H' us (ms.map nodeD)) (hp : H' p = none) : LS H0 (upd H' p (.lst (vs ++ us))) d c pn p nodeD (ns ++ ms) :=
  ⟨⟨_, upd_same, by rw [List.map_append]; exact (l1.app l2).keep' (.same (same_new hp _))⟩, g.free hp⟩
theorem sN : ("const" : Str) ≠ "pick" ∧ ("input" : Str) ≠ "pick" ∧ ("input" : Str) ≠ "const" ∧ ("reg" : Str) ≠ "pick" ∧ ("reg" : Str) ≠ "const" ∧ ("wide" : Str) ≠ "pick" ∧ ("wide" : Str) ≠ "const" := by decide +kernel
theorem sS : PyData.strOk "const" = true ∧ PyData.strOk "input" = true ∧ PyData.strOk "reg" = true ∧ PyData.strOk "wide" = true ∧ PyData.strOk "pick" = true := by decide +kernel
theorem plI {w i : Nat} (w1 : 1 ≤ w) (w8 : w ≤ 8) : Plain ⟨"input", w, [i]⟩ := ⟨sN.2.1, sN.2.2.1, w1, w8, by simp, sS.2.1⟩
theorem plR {w i : Nat} (w1 : 1 ≤ w) (w8 : w ≤ 8) : Plain ⟨"reg", w, [i]⟩ := ⟨sN.2.2.2.1, sN.2.2.2.2.1, w1, w8, by simp, sS.2.2.1⟩
theorem plW {w i : Nat} (w1 : 1 ≤ w) (w8 : w ≤ 8) : Plain ⟨"wide", w, [i]⟩ := ⟨sN.2.2.2.2.2.1, sN.2.2.2.2.2.2, w1, w8, by simp, sS.2.2.2.1⟩
theorem okC {w v i : Nat} (w1 : 1 ≤ w) (w8 : w ≤ 8) : (Nd.mk "const" w [v]).Ok i := ⟨fun e => absurd e sN.1, fun _ => ⟨v, rfl⟩, w1, w8, by simp⟩
theorem pw8 {w : Nat} (h : w ≤ 8) : (1 : Int) ≤ 2 ^ w ∧ (2 : Int) ^ w < 1073741824 := by
  have p1 : (0 : Int) < 2 ^ w := Int.pow_pos (by decide)
  have e : ((2 ^ w : Nat) : Int) ≤ ((2 ^ 8 : Nat) : Int) := Int.ofNat_le.mpr (Nat.pow_le_pow_right (by decide) h)
  have e2 : (2 : Int) ^ w ≤ 2 ^ 8 := by simpa using e
  exact ⟨by omega, by omega⟩
theorem storAt {H : Hp} {vs : List V} {gs : List (Str × Nat × Nat)} {i : Nat} (h : LayAll H vs (gs.map storD)) (hi : i < gs.length) : ∃ (r : Str × Nat × Nat) (q : Addr), gs[i]? = some r ∧ vs[i]? = some (.ref q) ∧ H q = some (.tup [.str r.1, vI r.2.1, vI r.2.2]) := by
  have e : (gs.map storD)[i]? = some (storD gs[i]) := by rw [List.getElem?_map, List.getElem?_eq_getElem hi]; rfl
  obtain ⟨v, hv, l⟩ := h.at_ i e
  obtain ⟨q, rfl, hq⟩ := l.sto
  exact ⟨gs[i], q, List.getElem?_eq_getElem hi, hv, hq⟩
def RsOk (rs : List (Str × Nat × Nat × Nat)) (ns : List Nd) : Prop := ∀ r ∈ rs, 1 ≤ r.2.1 ∧ r.2.1 ≤ 8 ∧ r.2.2.2 < ns.length ∧ HasW ns r.2.1
theorem RsOk.app {rs : List (Str × Nat × Nat × Nat)} {ns ms : List Nd} (h : RsOk rs ns) : RsOk rs (ns ++ ms) := fun r hr => by
  obtain ⟨a, b, e, k⟩ := h r hr
  exact ⟨a, b, by rw [List.length_append]; omega, k.app⟩
structure Gr where
  ni : Nat
  ns : List Nd
  rs : List (Str × Nat × Nat × Nat)
structure Gr.Ok (G : Gr) : Prop where
  good : Good G.ns
  w1 : HasW G.ns 1
  regs : ∀ r ∈ G.rs, 1 ≤ r.2.1 ∧ r.2.1 ≤ 8 ∧ r.2.2.2 < G.ns.length ∧ HasW G.ns r.2.1
  one : 1 ≤ G.ns.length
structure GrAt (H : Hp) (p pi pn pr po : Addr) (v4 v6 : V) (xi vn vr xo : List V) (G : Gr) : Prop where
  top : H p = some (.tup [.str "graph", .ref pi, .ref pn, .ref pr, v4, .ref po, v6])
  hi : H pi = some (.tup xi)
  li : xi.length = G.ni
  hn : H pn = some (.tup vn)
  ln : LayAll H vn (G.ns.map nodeD)
  hr : H pr = some (.tup vr)
  lr : LayAll H vr (G.rs.map regD4)
  ho : H po = some (.tup xo)
theorem GrAt.keep {H H' : Hp} {p pi pn pr po : Addr} {v4 v6 : V} {xi vn vr xo : List V} {G : Gr} (h : GrAt H p pi pn pr po v4 v6 xi vn vr xo G) (k : KeepT H H') : GrAt H' p pi pn pr po v4 v6 xi vn vr xo G :=
  ⟨k _ _ h.top, k _ _ h.hi, h.li, k _ _ h.hn, h.ln.keep' k, k _ _ h.hr, h.lr.keep' k, k _ _ h.ho⟩
def GrV (H : Hp) (v : V) (G : Gr) : Prop := ∃ (p pi pn pr po : Addr) (v4 v6 : V) (xi vn vr xo : List V), v = .ref p ∧ xo.length ≤ 20 ∧ GrAt H p pi pn pr po v4 v6 xi vn vr xo G
def spGraph : Sp := fun vs H Q _ => ∃ (d c : Addr) (a b m k most : Nat), vs = [.ref d, vI a, vI b, vI m, vI k, vI most] ∧ DS H d c ∧ a ≤ 3 ∧ b ≤ 4 ∧ m ≤ 3 ∧ k ≤ 30 ∧ 1 ≤ most ∧ most ≤ 8 ∧
  ∀ (v : V) (G : Gr) (H' : Hp), GrV H' v G → G.Ok → G.ni = a → G.rs.length = b → G.ns.length ≤ 100 → DS H' d c → Keep [d] H H' → Q v H'
section
variable {P : Program} {w : World} {K : PySem.W.Frag} {mg : Str → Option Value} {base : Heap} {f : Addr} {fd : FuncData}
theorem ok_graph (F : Fun K "_law_graph" "_law_graph" s_law_graph f fd) (T : Txt mg) (D_law_draw : Dn P w K mg base "_law_draw" ["_law_d", "_law_many"] 1 spDraw) (D_law_pop : Dn P w K mg base "_law_pop" ["_law_d", "_law_row"] 2 spPop)
    (D_law_pool : Dn P w K mg base "_law_pool" [] 1 spPool) (D_law_of_width : Dn P w K mg base "_law_of_width" ["_law_d", "_law_nodes", "_law_width"] 3 spOfW)
    (D_law_new_node : Dn P w K mg base "_law_new_node" ["_law_d", "_law_nodes", "_law_stores", "_law_most"] 4 spNewNode) :
    FnOk P w K mg base CX0 5 f fd ["_law_d", "_law_inputs", "_law_regs", "_law_mems", "_law_nodes", "_law_most"] spGraph := by
  refine F.ok sc_law_graph (fun vs H Q E h => ?_) (fun cdv A outer s H vs Q E hr h => ?_)
  · obtain ⟨d, c, a, b, m, k, most, rfl, _⟩ := h
    rfl
  obtain ⟨d, c, a, b, m, k, most, rfl, hd, ha, hb, hm, hk, m1, m8, q⟩ := h
  refine ⟨_, (pss_cons (ps_set (i := 6) sc_law_graph.nd rfl (Or.inr rfl) (pe_dn0 D_law_pool (hr.mono (by decide)) (by rfl)))
      (pss_cons (ps_set (i := 8) sc_law_graph.nd rfl (Or.inr rfl) (pe_callTy call_tuple_of (by rfl) T.n_tuple (by decide +kernel) (pa_cons (pe_lc (own := [("_law_k", 7)]) (g := gName 7) (tt := tYes) rfl sc_law_graph.nd (pi_range1 rfl T.n_range (pa_cons (pv 1) pa_nil)) (blkOk_by (N := ["_law_d", "_law_inputs", "_law_regs", "_law_mems", "_law_nodes", "_law_most", "_law_names", "_law_k", "_law_given", "_law_kept", "_law_stores", "_law_found", "_law_name", "_law_wide", "_law_rows", "_law_mems_told", "_law_size", "_law_writes", "_law_shown", "_law_asked"]) (sc := defScope s_law_graph) (by decide +kernel)) (fun _ _ _ _ _ => (pg_name (i := 7) sc_law_graph.nd rfl (Or.inl rfl))) (fun _ _ _ _ _ => pts_nil) (fun _ _ _ _ _ => (pe_tup (pa_cons (pe_dn D_law_pop (hr.mono (by decide)) (by rfl) (pa_cons (pv 0) (pa_cons (pv 6) pa_nil))) (pa_cons (pe_op op_add pe_int (pe_dn D_law_draw (hr.mono (by decide)) (by rfl) (pa_cons (pv 0) (pa_cons (pv 5) pa_nil)))) pa_nil))))) pa_nil)))
      (pss_cons (ps_set (i := 9) sc_law_graph.nd rfl (Or.inr rfl) (pe_lc (own := [("_law_k", 7)]) (g := gName 7) (tt := tYes) rfl sc_law_graph.nd (pi_range1 rfl T.n_range (pa_cons (pv 2) pa_nil)) (blkOk_by (N := ["_law_d", "_law_inputs", "_law_regs", "_law_mems", "_law_nodes", "_law_most", "_law_names", "_law_k", "_law_given", "_law_kept", "_law_stores", "_law_found", "_law_name", "_law_wide", "_law_rows", "_law_mems_told", "_law_size", "_law_writes", "_law_shown", "_law_asked"]) (sc := defScope s_law_graph) (by decide +kernel)) (fun _ _ _ _ _ => (pg_name (i := 7) sc_law_graph.nd rfl (Or.inl rfl))) (fun _ _ _ _ _ => pts_nil) (fun _ _ _ _ _ => (pe_tup (pa_cons (pe_dn D_law_pop (hr.mono (by decide)) (by rfl) (pa_cons (pv 0) (pa_cons (pv 6) pa_nil))) (pa_cons (pe_op op_add pe_int (pe_dn D_law_draw (hr.mono (by decide)) (by rfl) (pa_cons (pv 0) (pa_cons (pv 5) pa_nil)))) pa_nil))))))
      (pss_cons (ps_setLc (i := 10) (own := [("_law_k", 7)]) (g := gName 7) (tt := tYes) rfl sc_law_graph.nd rfl rfl (sw_true rfl rfl rfl (by decide +kernel)) (pi_range1 rfl T.n_range (pa_cons (pv 3) pa_nil)) (blkOk_by (N := ["_law_d", "_law_inputs", "_law_regs", "_law_mems", "_law_nodes", "_law_most", "_law_names", "_law_k", "_law_given", "_law_kept", "_law_stores", "_law_found", "_law_name", "_law_wide", "_law_rows", "_law_mems_told", "_law_size", "_law_writes", "_law_shown", "_law_asked"]) (sc := defScope s_law_graph) (by decide +kernel)) (fun _ _ _ _ _ => (pg_name (i := 7) sc_law_graph.nd rfl (Or.inl rfl))) (fun _ _ _ _ _ => pts_nil) (fun _ _ _ _ _ => (pe_tup (pa_cons (pe_dn D_law_pop (hr.mono (by decide)) (by rfl) (pa_cons (pv 0) (pa_cons (pv 6) pa_nil))) (pa_cons (pe_op op_add pe_int (pe_dn D_law_draw (hr.mono (by decide)) (by rfl) (pa_cons (pv 0) (pa_cons (pv 5) pa_nil)))) (pa_cons (pe_op op_add pe_int (pe_dn D_law_draw (hr.mono (by decide)) (by rfl) (pa_cons (pv 0) (pa_cons pe_int pa_nil)))) pa_nil))))))
      (pss_cons (ps_set (i := 11) sc_law_graph.nd rfl (Or.inr rfl) (pe_lst (pa_cons (pe_tup (pa_cons pe_str (pa_cons pe_int (pa_cons (pe_dn D_law_draw (hr.mono (by decide)) (by rfl) (pa_cons (pv 0) (pa_cons pe_int pa_nil))) pa_nil)))) pa_nil)))
      (pss_cons (ps_set (i := 11) sc_law_graph.nd rfl (Or.inr rfl) (pe_op op_cat (pv 11) (pe_lc (own := [("_law_k", 7)]) (g := gName 7) (tt := tYes) rfl sc_law_graph.nd (pi_range1 rfl T.n_range (pa_cons (pv 1) pa_nil)) (blkOk_by (N := ["_law_d", "_law_inputs", "_law_regs", "_law_mems", "_law_nodes", "_law_most", "_law_names", "_law_k", "_law_given", "_law_kept", "_law_stores", "_law_found", "_law_name", "_law_wide", "_law_rows", "_law_mems_told", "_law_size", "_law_writes", "_law_shown", "_law_asked"]) (sc := defScope s_law_graph) (by decide +kernel)) (fun _ _ _ _ _ => (pg_name (i := 7) sc_law_graph.nd rfl (Or.inl rfl))) (fun _ _ _ _ _ => pts_nil) (fun _ _ _ _ _ => (pe_tup (pa_cons pe_str (pa_cons (pe_ix (ix_tup : IxR _ (rIxT K)) (pe_ix (ix_tup : IxR _ (rIxT K)) (pv 8) (pv 7) (fun _ _ => rfl)) pe_int (fun _ _ => rfl)) (pa_cons (pv 7) pa_nil))))))))
      (pss_cons (ps_set (i := 11) sc_law_graph.nd rfl (Or.inr rfl) (pe_op op_cat (pv 11) (pe_lc (own := [("_law_k", 7)]) (g := gName 7) (tt := tYes) rfl sc_law_graph.nd (pi_range1 rfl T.n_range (pa_cons (pv 2) pa_nil)) (blkOk_by (N := ["_law_d", "_law_inputs", "_law_regs", "_law_mems", "_law_nodes", "_law_most", "_law_names", "_law_k", "_law_given", "_law_kept", "_law_stores", "_law_found", "_law_name", "_law_wide", "_law_rows", "_law_mems_told", "_law_size", "_law_writes", "_law_shown", "_law_asked"]) (sc := defScope s_law_graph) (by decide +kernel)) (fun _ _ _ _ _ => (pg_name (i := 7) sc_law_graph.nd rfl (Or.inl rfl))) (fun _ _ _ _ _ => pts_nil) (fun _ _ _ _ _ => (pe_tup (pa_cons pe_str (pa_cons (pe_ix (ix_tup : IxR _ (rIxT K)) (pe_ix (ix_list : IxR _ (rIxL K)) (pv 9) (pv 7) (fun _ _ => rfl)) pe_int (fun _ _ => rfl)) (pa_cons (pv 7) pa_nil))))))))
      (pss_cons (ps_for PassesOwn.never rfl (pi_range1 rfl T.n_range (pa_cons (pv 4) pa_nil)) (pg_name (i := 7) sc_law_graph.nd rfl (Or.inl rfl)) (pss_one (ps_expr (pe_bm PySem.F.plainAttrs_list PySem.F.slot_list_append PySem.F.type_list_append mt_append (pv 11) (pa_cons (pe_dn D_law_new_node (hr.mono (by decide)) (by rfl) (pa_cons (pv 0) (pa_cons (pv 11) (pa_cons (pv 10) (pa_cons (pv 5) pa_nil))))) pa_nil)))))
      (pss_cons (ps_setLc (i := 14) (own := [("_law_name", 12), ("_law_wide", 13)]) (g := (gTup K 2 (gCons (gName 12) (gCons (gName 13) gNil)))) (tt := tYes) rfl sc_law_graph.nd rfl rfl (sw_true rfl rfl rfl (by decide +kernel)) (pi_list (pv 9)) (blkOk_by (N := ["_law_d", "_law_inputs", "_law_regs", "_law_mems", "_law_nodes", "_law_most", "_law_names", "_law_k", "_law_given", "_law_kept", "_law_stores", "_law_found", "_law_name", "_law_wide", "_law_rows", "_law_mems_told", "_law_size", "_law_writes", "_law_shown", "_law_asked"]) (sc := defScope s_law_graph) (by decide +kernel)) (fun _ _ _ _ _ => (pg_tup rfl (pgs_cons (pg_name (i := 12) sc_law_graph.nd rfl (Or.inl rfl)) (pgs_cons (pg_name (i := 13) sc_law_graph.nd rfl (Or.inl rfl)) pgs_nil)))) (fun _ _ _ _ _ => pts_nil) (fun _ _ _ _ _ => (pe_tup (pa_cons (pv 12) (pa_cons (pv 13) (pa_cons (pe_dn D_law_draw (hr.mono (by decide)) (by rfl) (pa_cons (pv 0) (pa_cons (pe_op op_oneShl pe_int (pv 13)) pa_nil))) (pa_cons (pe_dn D_law_of_width (hr.mono (by decide)) (by rfl) (pa_cons (pv 0) (pa_cons (pv 11) (pa_cons (pv 13) pa_nil)))) pa_nil)))))))
      (pss_cons (ps_set (i := 15) sc_law_graph.nd rfl (Or.inl rfl) (pe_lst pa_nil))
      (pss_cons (ps_for PassesOwn.never rfl (pi_list (pv 10)) (pg_tup rfl (pgs_cons (pg_name (i := 12) sc_law_graph.nd rfl (Or.inl rfl)) (pgs_cons (pg_name (i := 13) sc_law_graph.nd rfl (Or.inl rfl)) (pgs_cons (pg_name (i := 16) sc_law_graph.nd rfl (Or.inl rfl)) pgs_nil)))) (pss_cons (ps_set (i := 17) sc_law_graph.nd rfl (Or.inl rfl) (pe_lst pa_nil))
      (pss_cons (ps_for PassesOwn.never rfl (pi_range1 rfl T.n_range (pa_cons (pe_dn D_law_draw (hr.mono (by decide)) (by rfl) (pa_cons (pv 0) (pa_cons pe_int pa_nil))) pa_nil)) (pg_name (i := 7) sc_law_graph.nd rfl (Or.inl rfl)) (pss_cons (ps_expr (pe_bm PySem.F.plainAttrs_list PySem.F.slot_list_append PySem.F.type_list_append mt_append (pv 11) (pa_cons (pe_tup (pa_cons pe_str (pa_cons (pv 13) (pa_cons (pe_dn D_law_draw (hr.mono (by decide)) (by rfl) (pa_cons (pv 0) (pa_cons (pe_callB call_len_seq (by rfl) T.n_len (by decide +kernel) (pa_cons (pv 11) pa_nil)) pa_nil))) pa_nil)))) pa_nil)))
      (pss_one (ps_expr (pe_bm PySem.F.plainAttrs_list PySem.F.slot_list_append PySem.F.type_list_append mt_append (pv 17) (pa_cons (pe_tup (pa_cons (pe_dn D_law_of_width (hr.mono (by decide)) (by rfl) (pa_cons (pv 0) (pa_cons (pv 11) (pa_cons pe_int pa_nil)))) (pa_cons (pe_dn D_law_draw (hr.mono (by decide)) (by rfl) (pa_cons (pv 0) (pa_cons (pe_callB call_len_seq (by rfl) T.n_len (by decide +kernel) (pa_cons (pv 11) pa_nil)) pa_nil))) (pa_cons (pe_op op_sub (pe_callB call_len_seq (by rfl) T.n_len (by decide +kernel) (pa_cons (pv 11) pa_nil)) pe_int) pa_nil)))) pa_nil))))))
      (pss_one (ps_expr (pe_bm PySem.F.plainAttrs_list PySem.F.slot_list_append PySem.F.type_list_append mt_append (pv 15) (pa_cons (pe_tup (pa_cons (pv 12) (pa_cons (pv 13) (pa_cons (pv 16) (pa_cons (pe_callTy call_tuple_of (by rfl) T.n_tuple (by decide +kernel) (pa_cons (pv 17) pa_nil)) pa_nil))))) pa_nil)))))))
      (pss_cons (ps_setLc (i := 18) (own := [("_law_k", 7)]) (g := gName 7) (tt := tYes) rfl sc_law_graph.nd rfl rfl (sw_true rfl rfl rfl (by decide +kernel)) (pi_range1 rfl T.n_range (pa_cons pe_int pa_nil)) (blkOk_by (N := ["_law_d", "_law_inputs", "_law_regs", "_law_mems", "_law_nodes", "_law_most", "_law_names", "_law_k", "_law_given", "_law_kept", "_law_stores", "_law_found", "_law_name", "_law_wide", "_law_rows", "_law_mems_told", "_law_size", "_law_writes", "_law_shown", "_law_asked"]) (sc := defScope s_law_graph) (by decide +kernel)) (fun _ _ _ _ _ => (pg_name (i := 7) sc_law_graph.nd rfl (Or.inl rfl))) (fun _ _ _ _ _ => pts_nil) (fun _ _ _ _ _ => (pe_tup (pa_cons (pe_dn D_law_pop (hr.mono (by decide)) (by rfl) (pa_cons (pv 0) (pa_cons (pv 6) pa_nil))) (pa_cons (pe_callB (cr_maxN rfl) (by rfl) T.n_max (by decide +kernel) (pa_cons (pe_dn D_law_draw (hr.mono (by decide)) (by rfl) (pa_cons (pv 0) (pa_cons (pe_callB (call_lenK : CallR _ (.builtin "len") (rLenK K)) (by rfl) T.n_len (by decide +kernel) (pa_cons (pv 11) pa_nil)) pa_nil))) (pa_cons (pe_dn D_law_draw (hr.mono (by decide)) (by rfl) (pa_cons (pv 0) (pa_cons (pe_callB (call_lenK : CallR _ (.builtin "len") (rLenK K)) (by rfl) T.n_len (by decide +kernel) (pa_cons (pv 11) pa_nil)) pa_nil))) pa_nil))) pa_nil)))))
      (pss_cons (ps_setLc (i := 19) (own := [("_law_k", 7)]) (g := gName 7) (tt := tYes) rfl sc_law_graph.nd rfl rfl (sw_true rfl rfl rfl (by decide +kernel)) (pi_range1 rfl T.n_range (pa_cons (pe_dn D_law_draw (hr.mono (by decide)) (by rfl) (pa_cons (pv 0) (pa_cons pe_int pa_nil))) pa_nil)) (blkOk_by (N := ["_law_d", "_law_inputs", "_law_regs", "_law_mems", "_law_nodes", "_law_most", "_law_names", "_law_k", "_law_given", "_law_kept", "_law_stores", "_law_found", "_law_name", "_law_wide", "_law_rows", "_law_mems_told", "_law_size", "_law_writes", "_law_shown", "_law_asked"]) (sc := defScope s_law_graph) (by decide +kernel)) (fun _ _ _ _ _ => (pg_name (i := 7) sc_law_graph.nd rfl (Or.inl rfl))) (fun _ _ _ _ _ => pts_nil) (fun _ _ _ _ _ => (pe_tup (pa_cons (pe_dn D_law_pop (hr.mono (by decide)) (by rfl) (pa_cons (pv 0) (pa_cons (pv 6) pa_nil))) (pa_cons (pe_dn D_law_of_width (hr.mono (by decide)) (by rfl) (pa_cons (pv 0) (pa_cons (pv 11) (pa_cons pe_int pa_nil)))) pa_nil)))))
      (pss_one (ps_ret (pe_tup (pa_cons pe_str (pa_cons (pv 8) (pa_cons (pe_callTy call_tuple_of (by rfl) T.n_tuple (by decide +kernel) (pa_cons (pv 11) pa_nil)) (pa_cons (pe_callTy call_tuple_of (by rfl) T.n_tuple (by decide +kernel) (pa_cons (pv 14) pa_nil)) (pa_cons (pe_callTy call_tuple_of (by rfl) T.n_tuple (by decide +kernel) (pa_cons (pv 15) pa_nil)) (pa_cons (pe_callTy call_tuple_of (by rfl) T.n_tuple (by decide +kernel) (pa_cons (pv 18) pa_nil)) (pa_cons (pe_callTy call_tuple_of (by rfl) T.n_tuple (by decide +kernel) (pa_cons (pv 19) pa_nil)) pa_nil))))))))))))))))))))))), ?_⟩
  refine ⟨rfl, fun pn xs hpn hx => ?_⟩
  obtain ⟨nnd, nnc⟩ := hd.new hpn
  have g : GS H (upd H pn (.lst (xs.map V.str))) d c pn 61 := ⟨hd.same (same_new hpn _), ⟨_, upd_same, fun v hv => (let ⟨z, _, e⟩ := List.mem_map.mp hv; ⟨z, e.symm⟩), by rw [List.length_map, hx]⟩, Keep.new hpn, nnd, nnc, hpn⟩
  generalize upd H pn (.lst (xs.map V.str)) = H1 at g ⊢
  -- the inputs
  refine ⟨_, rfl, (a : Int), rfl, (i62 (by omega)).1, (i62 (by omega)).2, fun D hD => ?_⟩
  have fD := g.free hD
  refine lc_range (lo := 0) (n := a) (fun i H' => ∃ acc : List (Str × Nat), Acc D inD acc H' ∧ acc.length = i ∧ (∀ r ∈ acc, 1 ≤ r.2 ∧ r.2 ≤ 8) ∧ GS H H' d c pn (61 - i))
    ⟨[], .nil, rfl, fun r hr => by simp at hr, g.new hD⟩ (fun i H2 hi p => ?_) (fun H2 p => ?_)
  · obtain ⟨acc, hA, hl, hg, g2⟩ := p
    have hi : i < a := hi
    obtain ⟨names, hn, hz, hl61⟩ := g2.nm
    refine ⟨rfl, _, rfl, _, rfl, d, c, pn, names, rfl, g2.ds, hn, nnd, nnc, by omega, by omega, fun j y H4 hy hd4 hn4 k4 => ?_⟩
    obtain ⟨g4, z, rfl⟩ := g2.pop hn hz hl61 hy hd4 hn4 k4
    have hA4 := hA.keep k4 (k4.tup2 g2.ds hn) (by simp [fD.1, fD.2.2.1])
    refine ⟨_, rfl, _, rfl, d, c, _, rfl, hd4, by omega, by omega, fun r H5 r0 r1 hd5 k5 => ?_⟩
    obtain ⟨u, rfl⟩ := Int.eq_ofNat_of_zero_le r0
    have g5 := g4.draw hd5 k5
    have hA5 := hA4.keep k5 (k5.tup1 hd4) (by simp [fD.1])
    refine ⟨_, _, rfl, rfl, (by show 2 ≤ sizeLine; decide), fun t ht => ?_⟩
    dsimp only
    rw [show V.int (1 + (u : Int)) = vI (1 + u) from congrArg V.int (by omega)]
    obtain ⟨vs, e, hlen, hA6, t6⟩ := (hA5.same (same_new ht (.tup [.str z, vI (1 + u)]))).push (x := (z, 1 + u)) (.tup upd_same (.cons (.str _) (.cons (.int _) .nil))) (by omega)
    refine ⟨vs, e, hlen, acc ++ [(z, 1 + u)], hA6, by rw [List.length_append, hl]; rfl, fun r hr => ?_, ((g5.new ht).put fD).cast (by omega)⟩
    rcases List.mem_append.mp hr with y | y
    · exact hg r y
    · rw [List.mem_singleton.mp y]
      exact ⟨by show 1 ≤ 1 + u; omega, by show 1 + u ≤ 8; omega⟩
  obtain ⟨gs, ⟨vg, eg, lg⟩, hgl, hgg, g2⟩ := p
  have lvg : vg.length = a := by simpa [hgl] using lg.len
  refine ⟨D, vg, rfl, .inl ⟨SqL.of eg, fun pi hpi => ?_⟩⟩
  have g3 := g2.new (o := .tup vg) hpi
  have hP : upd H2 pi (.tup vg) pi = some (.tup vg) := upd_same
  have lg3 := lg.keep' (.same (same_new hpi (.tup vg)))
  have kt0 : KeepT (upd H2 pi (.tup vg)) (upd H2 pi (.tup vg)) := .refl _
  generalize upd H2 pi (.tup vg) = Ht at g3 hP lg3 kt0 ⊢
  clear eg lg g2 hpi
  -- the registers
  refine ⟨_, rfl, (b : Int), rfl, (i62 (by omega)).1, (i62 (by omega)).2, fun Dk hDk => ?_⟩
  have fDk := g3.free hDk
  refine lc_range (lo := 0) (n := b) (fun i H' => ∃ acc : List (Str × Nat), Acc Dk inD acc H' ∧ acc.length = i ∧ (∀ r ∈ acc, 1 ≤ r.2 ∧ r.2 ≤ 8) ∧ GS H H' d c pn (61 - a - i) ∧ KeepT Ht H')
    ⟨[], .nil, rfl, fun r hr => by simp at hr, g3.new hDk, .same (same_new hDk _)⟩ (fun i H2 hi p => ?_) (fun H2 p => ?_)
  · obtain ⟨acc, hA, hl, hg, g2, kt⟩ := p
    have hi : i < b := hi
    obtain ⟨names, hn, hz, hl61⟩ := g2.nm
    refine ⟨rfl, _, rfl, _, rfl, d, c, pn, names, rfl, g2.ds, hn, nnd, nnc, by omega, by omega, fun j y H4 hy hd4 hn4 k4 => ?_⟩
    obtain ⟨g4, z, rfl⟩ := g2.pop hn hz hl61 hy hd4 hn4 k4
    have t4 := k4.tup2 g2.ds hn
    have hA4 := hA.keep k4 t4 (by simp [fDk.1, fDk.2.2.1])
    refine ⟨_, rfl, _, rfl, d, c, _, rfl, hd4, by omega, by omega, fun r H5 r0 r1 hd5 k5 => ?_⟩
    obtain ⟨u, rfl⟩ := Int.eq_ofNat_of_zero_le r0
    have g5 := g4.draw hd5 k5
    have t5 := k5.tup1 hd4
    have hA5 := hA4.keep k5 t5 (by simp [fDk.1])
    refine ⟨_, _, rfl, rfl, (by show 2 ≤ sizeLine; decide), fun t ht => ?_⟩
    dsimp only
    rw [show V.int (1 + (u : Int)) = vI (1 + u) from congrArg V.int (by omega)]
    obtain ⟨vs, e, hlen, hA6, t6⟩ := (hA5.same (same_new ht (.tup [.str z, vI (1 + u)]))).push (x := (z, 1 + u)) (.tup upd_same (.cons (.str _) (.cons (.int _) .nil))) (by omega)
    refine ⟨vs, e, hlen, acc ++ [(z, 1 + u)], hA6, by rw [List.length_append, hl]; rfl, fun r hr => ?_, ((g5.new ht).put fDk).cast (by omega), ((kt.trans t4).trans t5).trans ((KeepT.same (same_new ht _)).trans t6)⟩
    rcases List.mem_append.mp hr with y | y
    · exact hg r y
    · rw [List.mem_singleton.mp y]
      exact ⟨by show 1 ≤ 1 + u; omega, by show 1 + u ≤ 8; omega⟩
  obtain ⟨ks, hKs, hkl, hkg, g4, kt1⟩ := p
  have lk : LS H H2 d c pn Dk inD ks := ⟨hKs, fDk⟩
  clear hKs
  -- the stores
  refine ⟨_, rfl, (m : Int), rfl, (i62 (by omega)).1, (i62 (by omega)).2, fun Ds hDs => ?_⟩
  have fDs := g4.free hDs
  have nks := lk.ne hDs
  refine lc_range (lo := 0) (n := m) (fun i H' => ∃ acc : List (Str × Nat × Nat), Acc Ds storD acc H' ∧ acc.length = i ∧ (∀ r ∈ acc, 1 ≤ r.2.1 ∧ r.2.1 ≤ 8) ∧ GS H H' d c pn (61 - a - b - i) ∧ LS H H' d c pn Dk inD ks ∧ KeepT Ht H')
    ⟨[], .nil, rfl, fun r hr => by simp at hr, g4.new hDs, lk.new hDs, kt1.trans (.same (same_new hDs _))⟩ (fun i H3 hi p => ?_) (fun H3 p => ?_)
  · obtain ⟨acc, hA, hl, hg, g5, lk, kt⟩ := p
    have hi : i < m := hi
    obtain ⟨names, hn, hz, hl61⟩ := g5.nm
    refine ⟨rfl, _, rfl, _, rfl, d, c, pn, names, rfl, g5.ds, hn, nnd, nnc, by omega, by omega, fun j y H4 hy hd4 hn4 k4 => ?_⟩
    obtain ⟨g6, z, rfl⟩ := g5.pop hn hz hl61 hy hd4 hn4 k4
    have t4 := k4.tup2 g5.ds hn
    have hA4 := hA.keep k4 t4 (by simp [fDs.1, fDs.2.2.1])
    have lk4 := lk.pop g5 hn k4
    refine ⟨_, rfl, _, rfl, d, c, _, rfl, hd4, by omega, by omega, fun r H5 r0 r1 hd5 k5 => ?_⟩
    obtain ⟨u, rfl⟩ := Int.eq_ofNat_of_zero_le r0
    have g7 := g6.draw hd5 k5
    have t5 := k5.tup1 hd4
    have hA5 := hA4.keep k5 t5 (by simp [fDs.1])
    have lk5 := lk4.draw g6 k5
    refine ⟨_, _, rfl, rfl, _, rfl, d, c, _, rfl, hd5, by decide, by decide, fun r H6 r0 r2 hd6 k6 => ?_⟩
    obtain ⟨u2, rfl⟩ := Int.eq_ofNat_of_zero_le r0
    have g8 := g7.draw hd6 k6
    have t6 := k6.tup1 hd5
    have hA6 := hA5.keep k6 t6 (by simp [fDs.1])
    have lk6 := lk5.draw g7 k6
    refine ⟨_, _, rfl, rfl, (by show 3 ≤ sizeLine; decide), fun t ht => ?_⟩
    dsimp only
    rw [show V.int (1 + (u : Int)) = vI (1 + u) from congrArg V.int (by omega), show V.int (1 + (u2 : Int)) = vI (1 + u2) from congrArg V.int (by omega)]
    obtain ⟨vs, e, hlen, hA7, t7⟩ := (hA6.same (same_new ht (.tup [.str z, vI (1 + u), vI (1 + u2)]))).push (x := (z, 1 + u, 1 + u2)) (.tup upd_same (.cons (.str _) (.cons (.int _) (.cons (.int _) .nil)))) (by omega)
    refine ⟨vs, e, hlen, acc ++ [(z, 1 + u, 1 + u2)], hA7, by rw [List.length_append, hl]; rfl, fun r hr => ?_, ((g8.new ht).put fDs).cast (by omega), (lk6.new ht).put e nks.symm, (((kt.trans t4).trans t5).trans t6).trans ((KeepT.same (same_new ht _)).trans t7)⟩
    rcases List.mem_append.mp hr with y | y
    · exact hg r y
    · rw [List.mem_singleton.mp y]
      exact ⟨by show 1 ≤ 1 + u; omega, by show 1 + u ≤ 8; omega⟩
  obtain ⟨ss, hSs, hsl, hsg, g5, lk, kt2⟩ := p
  have ls : LS H H3 d c pn Ds storD ss := ⟨hSs, fDs⟩
  clear hSs g3 g4 fDs fDk fD hDk hDs nks g
  -- the nodes
  refine ⟨_, rfl, d, c, _, rfl, g5.ds, by decide, by decide, fun r H4 r0 r2 hd4 k4 => ?_⟩
  obtain ⟨u, rfl⟩ := Int.eq_ofNat_of_zero_le r0
  have g6 := g5.draw hd4 k4
  have kt3 := kt2.trans (g5.tup k4)
  have lk1 := lk.draw g5 k4
  have ls1 := ls.draw g5 k4
  refine ⟨(by show 3 ≤ sizeLine; decide), fun t ht => ⟨(by show 1 ≤ sizeLine; decide), fun L hL => ?_⟩⟩
  have g7 := (g6.new (o := .tup [.str "const", .int 1, .int (u : Int)]) ht).new (o := .lst [.ref t]) hL
  have kt4 := (kt3.trans (.same (same_new ht (.tup [.str "const", .int 1, .int (u : Int)])))).trans (.same (same_new hL (.lst [.ref t])))
  have lk2 := (lk1.new (o := .tup [.str "const", .int 1, .int (u : Int)]) ht).new (o := .lst [.ref t]) hL
  have ls2 := (ls1.new (o := .tup [.str "const", .int 1, .int (u : Int)]) ht).new (o := .lst [.ref t]) hL
  have lf : LS H _ d c pn L nodeD [⟨"const", 1, [u]⟩] := ⟨⟨[.ref t], upd_same, .cons ((Lay.mkNode (op := "const") (w := 1) (args := [u]) upd_same).keep (.same (same_new hL (.lst [.ref t])))) .nil⟩, (g6.new (o := .tup [.str "const", .int 1, .int (u : Int)]) ht).free hL⟩
  have gd : Good [⟨"const", 1, [u]⟩] := ⟨fun i n e => ?_, fun n hn => ?_⟩
  rotate_left
  · cases i with
    | zero =>
      cases e
      exact okC (by decide) (by decide)
    | succ i => simp at e
  · rw [List.mem_singleton.mp hn]
    exact sS.1
  have hw1 : HasW [⟨"const", 1, [u]⟩] 1 := ⟨0, _, rfl, rfl⟩
  have l1 : ([⟨"const", 1, [u]⟩] : List Nd).length = 1 := rfl
  generalize ([⟨"const", 1, [u]⟩] : List Nd) = ns at lf gd hw1 l1
  generalize upd (upd H4 t (.tup [.str "const", .int 1, .int (u : Int)])) L (.lst [.ref t]) = H5 at g7 kt4 lk2 ls2 lf ⊢
  clear g5 g6 kt1 kt2 kt3 lk1 ls1 lk ls ht hL hd4 k4 r0 r2
  refine ⟨_, rfl, _, rfl, (a : Int), rfl, (i62 (by omega)).1, (i62 (by omega)).2, fun D hD => ?_⟩
  have fD := g7.free hD
  have n1 := lk2.ne hD
  have n2 := ls2.ne hD
  have n3 := lf.ne hD
  refine lc_range (lo := 0) (n := a) (fun i H' => ∃ acc : List Nd, Acc D nodeD acc H' ∧ acc.length = i ∧ (∀ n ∈ acc, Plain n) ∧ GS H H' d c pn (61 - a - b - m) ∧ LS H H' d c pn Dk inD ks ∧ LS H H' d c pn Ds storD ss ∧ LS H H' d c pn L nodeD ns ∧ KeepT Ht H')
    ⟨[], .nil, rfl, fun r hr => by simp at hr, g7.new hD, lk2.new hD, ls2.new hD, lf.new hD, kt4.trans (.same (same_new hD _))⟩ (fun i H6 hi p => ?_) (fun H6 p => ?_)
  · obtain ⟨acc, hA, hl, hg, g5, lk, ls, lf, kt⟩ := p
    have hi : i < a := hi
    obtain ⟨r, q1, hr, hv, hq⟩ := inpAt (lg3.keep' kt) (show i < gs.length by omega)
    refine ⟨rfl, _, rfl, _, rfl, pi, vg, _, .ref q1, rfl, rfl, SqT.of (kt _ _ hP), ?_, q1, _, _, _, rfl, rfl, SqT.of hq, atI_nat (j := 1) rfl, _, rfl, (by show 3 ≤ sizeLine; decide), fun t ht => ?_⟩
    · rw [show (0 + (i : Int)) = ((i : Nat) : Int) by omega]
      exact atI_nat hv
    dsimp only
    rw [show V.int (0 + (i : Int)) = vI i from congrArg V.int (by omega)]
    obtain ⟨vs, e, hlen, hA6, t6⟩ := (hA.same (same_new ht (.tup [.str "input", vI r.2, vI i]))).push (x := ⟨"input", r.2, [i]⟩) (Lay.mkNode upd_same) (by omega)
    refine ⟨vs, e, hlen, acc ++ [⟨"input", r.2, [i]⟩], hA6, by rw [List.length_append, hl]; rfl, fun n hn => ?_, (g5.new ht).put fD, (lk.new ht).put e n1.symm, (ls.new ht).put e n2.symm, (lf.new ht).put e n3.symm, kt.trans ((KeepT.same (same_new ht _)).trans t6)⟩
    rcases List.mem_append.mp hn with y | y
    · exact hg n y
    · rw [List.mem_singleton.mp y]
      obtain ⟨w1, w8⟩ := hgg r (List.mem_of_getElem? hr)
      exact plI w1 w8
  obtain ⟨is, hA, hil, hig, g8, lk, ls, lf, kt⟩ := p
  obtain ⟨vs1, e1, el1, y1⟩ := lf.at_
  obtain ⟨vs2, e2, el2, y2⟩ := hA.get
  refine ⟨L, D, vs1, vs2, rfl, rfl, e1, e2, le1000 (by omega), fun L1 hL1 => ?_⟩
  have lf1 := g8.lst y1 y2 hL1
  have gd1 := gd.app is hig
  have hw11 : HasW (ns ++ is) 1 := hw1.app
  have l11 : (ns ++ is).length = 1 + a := by rw [List.length_append, l1, hil]
  have g9 := g8.new (o := .lst (vs1 ++ vs2)) hL1
  have lk3 := lk.new (o := .lst (vs1 ++ vs2)) hL1
  have ls3 := ls.new (o := .lst (vs1 ++ vs2)) hL1
  have kt5 := kt.trans (.same (same_new hL1 (.lst (vs1 ++ vs2))))
  generalize ns ++ is = ns1 at lf1 gd1 hw11 l11
  generalize upd H6 L1 (.lst (vs1 ++ vs2)) = H7 at lf1 g9 lk3 ls3 kt5 ⊢
  clear lf gd hw1 l1 g7 g8 lk2 ls2 lk ls kt4 kt y1 y2 hA e1 e2 n1 n2 n3 fD hD hL1 el1 el2 hig hil
  -- the registers' nodes
  refine ⟨_, rfl, _, rfl, (b : Int), rfl, (i62 (by omega)).1, (i62 (by omega)).2, fun D hD => ?_⟩
  have fD := g9.free hD
  have n1 := lk3.ne hD
  have n2 := ls3.ne hD
  have n3 := lf1.ne hD
  refine lc_range (lo := 0) (n := b) (fun i H' => ∃ acc : List Nd, Acc D nodeD acc H' ∧ acc.length = i ∧ (∀ n ∈ acc, Plain n) ∧ (∀ j r, j < i → ks[j]? = some r → HasW acc r.2) ∧ GS H H' d c pn (61 - a - b - m) ∧ LS H H' d c pn Dk inD ks ∧ LS H H' d c pn Ds storD ss ∧ LS H H' d c pn L1 nodeD ns1 ∧ KeepT Ht H')
    ⟨[], .nil, rfl, fun r hr => by simp at hr, fun j r hj => absurd hj (Nat.not_lt_zero _), g9.new hD, lk3.new hD, ls3.new hD, lf1.new hD, kt5.trans (.same (same_new hD _))⟩ (fun i H6 hi p => ?_) (fun H6 p => ?_)
  · obtain ⟨acc, hA, hl, hg, hh, g5, lk, ls, lf, kt⟩ := p
    have hi : i < b := hi
    obtain ⟨vk, ek, lvk, lyk⟩ := lk.at_
    obtain ⟨r, q1, hr, hv, hq⟩ := inpAt lyk (show i < ks.length by omega)
    refine ⟨rfl, _, rfl, _, rfl, Dk, vk, _, .ref q1, rfl, rfl, SqL.of ek, ?_, q1, _, _, _, rfl, rfl, SqT.of hq, atI_nat (j := 1) rfl, _, rfl, (by show 3 ≤ sizeLine; decide), fun t ht => ?_⟩
    · rw [show (0 + (i : Int)) = ((i : Nat) : Int) by omega]
      exact atI_nat hv
    dsimp only
    rw [show V.int (0 + (i : Int)) = vI i from congrArg V.int (by omega)]
    obtain ⟨vs, e, hlen, hA6, t6⟩ := (hA.same (same_new ht (.tup [.str "reg", vI r.2, vI i]))).push (x := ⟨"reg", r.2, [i]⟩) (Lay.mkNode upd_same) (by omega)
    refine ⟨vs, e, hlen, acc ++ [⟨"reg", r.2, [i]⟩], hA6, by rw [List.length_append, hl]; rfl, fun n hn => ?_, fun j r' hj hr' => ?_, (g5.new ht).put fD, (lk.new ht).put e n1.symm, (ls.new ht).put e n2.symm, (lf.new ht).put e n3.symm, kt.trans ((KeepT.same (same_new ht _)).trans t6)⟩
    · rcases List.mem_append.mp hn with y | y
      · exact hg n y
      · rw [List.mem_singleton.mp y]
        obtain ⟨w1, w8⟩ := hkg r (List.mem_of_getElem? hr)
        exact plR w1 w8
    · by_cases z : j < i
      · exact (hh j r' z hr').app
      · obtain rfl : j = i := by omega
        rw [hr] at hr'
        cases hr'
        exact HasW.last (n := ⟨"reg", r.2, [j]⟩)
  obtain ⟨is1, hA, hil, hig, hih, g8, lk, ls, lf, kt⟩ := p
  obtain ⟨vs1, e1, el1, y1⟩ := lf.at_
  obtain ⟨vs2, e2, el2, y2⟩ := hA.get
  refine ⟨L1, D, vs1, vs2, rfl, rfl, e1, e2, le1000 (by omega), fun L2_ hL2 => ?_⟩
  have lf2 := g8.lst y1 y2 hL2
  have gd2 := gd1.app is1 hig
  have hw12 : HasW (ns1 ++ is1) 1 := hw11.app
  have l12 : (ns1 ++ is1).length = 1 + a + b := by rw [List.length_append, l11, hil]
  have hwk : ∀ r ∈ ks, HasW (ns1 ++ is1) r.2 := fun r hr => by
    obtain ⟨j, hj, e⟩ := List.mem_iff_getElem.mp hr
    exact (hih j r (by omega) (by rw [List.getElem?_eq_getElem hj, e])).right
  have g9' := g8.new (o := .lst (vs1 ++ vs2)) hL2
  have lk3' := lk.new (o := .lst (vs1 ++ vs2)) hL2
  have ls3' := ls.new (o := .lst (vs1 ++ vs2)) hL2
  have kt5' := kt.trans (.same (same_new hL2 (.lst (vs1 ++ vs2))))
  have nkf0 : Dk ≠ L2_ := (lk.ne hL2).symm
  have nsf0 : Ds ≠ L2_ := (ls.ne hL2).symm
  generalize ns1 ++ is1 = ns2 at lf2 gd2 hw12 l12 hwk
  generalize upd H6 L2_ (.lst (vs1 ++ vs2)) = H8 at lf2 g9' lk3' ls3' kt5' ⊢
  clear lf gd1 hw11 l11 g8 g9 lk3 ls3 lk ls kt5 kt y1 y2 hA e1 e2 n1 n2 n3 fD hD hL2 el1 el2 hig hil hih lf1
  -- further nodes
  have nkf : Dk ≠ L2_ := nkf0
  have nsf : Ds ≠ L2_ := nsf0
  refine ⟨_, rfl, (k : Int), rfl, (i62 (by omega)).1, (i62 (by omega)).2, for_it walk_range (fun i σ' H' => ∃ (v7 : Option V) (ns : List Nd), σ' = [some (.ref d), some (vI a), some (vI b), some (vI m), some (vI k), some (vI most), some (.ref pn), v7, some (.ref pi), some (.ref Dk), some (.ref Ds), some (.ref L2_), none, none, none, none, none, none, none, none] ∧
      ns.length = 1 + a + b + i ∧ Good ns ∧ HasW ns 1 ∧ (∀ r ∈ ks, HasW ns r.2) ∧ GS H H' d c pn (61 - a - b - m) ∧ LS H H' d c pn Dk inD ks ∧ LS H H' d c pn Ds storD ss ∧ LS H H' d c pn L2_ nodeD ns ∧ KeepT Ht H')
    ⟨_, ns2, rfl, l12, gd2, hw12, hwk, g9', lk3', ls3', lf2, kt5'⟩ (fun _ _ _ _ _ => trivial) (fun i x σ' H' H3 hi p y => ?_) (fun σ' H' p => ?_)⟩
  · obtain ⟨v7, ns, rfl, ln, gd, hw, hk2, g, lk, ls, lf, kt⟩ := p
    obtain ⟨rfl, rfl⟩ := y
    have hi : i < k := by simpa using hi
    obtain ⟨vs, ef, lv, ly⟩ := lf.at_
    refine ⟨_, rfl, .inl ⟨rfl, _, SqL.of ef⟩, _, rfl, _, rfl, _, rfl, _, rfl, d, c, L2_, Ds, ns, ss, most, rfl, g.ds, lf.fr.1, ls.fr.1, lf.ac, ls.ac, gd, by omega, by omega, hw, hsg, by omega, m1, m8, fun v n H4 lv nok st hd4 k4 => ?_⟩
    obtain ⟨vs4, e4, h4, lf4, t4⟩ := (lf.draw g k4).push lv (by omega)
    refine ⟨L2_, vs4, _, rfl, rfl, e4, h4, _, ns ++ [n], rfl, by rw [List.length_append, ln]; rfl, gd.snoc nok st, hw.app, fun r hr => (hk2 r hr).app, (g.draw hd4 k4).put lf.fr, (lk.draw g k4).put e4 nkf, (ls.draw g k4).put e4 nsf, lf4, (kt.trans (g.tup k4)).trans t4⟩
  obtain ⟨v7, ns, rfl, ln, gd, hw, hk2, g, lk, ls, lf, kt⟩ := p
  clear gd2 hw12 l12 hwk g9' lk3' ls3' lf2 kt5'
  have ln : ns.length = 1 + a + b + k := by simpa using ln
  -- the rows of the registers
  obtain ⟨vk, ek, lvk, lyk⟩ := lk.at_
  refine ⟨_, rfl, Dk, rfl, ⟨_, SqL.of ek⟩, fun D hD => ?_⟩
  have fD := g.free hD
  have n1 := lk.ne hD
  have n2 := ls.ne hD
  have n3 := lf.ne hD
  refine lc_list (xs := vk) (fun i H' => ∃ acc : List (Str × Nat × Nat × Nat), Acc D regD4 acc H' ∧ acc.length = i ∧ (∀ r ∈ acc, 1 ≤ r.2.1 ∧ r.2.1 ≤ 8 ∧ r.2.2.2 < ns.length ∧ HasW ns r.2.1) ∧ GS H H' d c pn (61 - a - b - m) ∧ H' Dk = some (.lst vk) ∧ LS H H' d c pn Ds storD ss ∧ LS H H' d c pn L2_ nodeD ns ∧ KeepT Ht H' ∧ LayAll H' vk (ks.map inD))
    ⟨[], .nil, rfl, fun r hr => by simp at hr, g.new hD, same_new hD _ _ _ ek, ls.new hD, lf.new hD, kt.trans (.same (same_new hD _)), lyk.keep' (.same (same_new hD _))⟩ (fun i H' _ p => ?_) (fun i x H3 hx p => ?_) (fun H3 p => ?_)
  · obtain ⟨_, _, _, _, _, e, _⟩ := p
    exact SqL.of e
  · obtain ⟨acc, hA, hl, hg, g2, ek2, ls2, lf2, kt2, lyk2⟩ := p
    have hi : i < vk.length := (List.getElem?_eq_some_iff.mp hx).1
    obtain ⟨r, q1, hr, hv, hq⟩ := inpAt lyk2 (show i < ks.length by omega)
    obtain rfl : x = .ref q1 := by rw [hx] at hv; exact Option.some.inj hv
    obtain ⟨w1, w8⟩ := hkg r (List.mem_of_getElem? hr)
    have hwr := hk2 r (List.mem_of_getElem? hr)
    obtain ⟨p1, p2⟩ := pw8 w8
    refine ⟨q1, _, rfl, SqT.of hq, rfl, _, _, rfl, _, _, rfl, rfl, rfl, _, rfl, _, rfl, _, rfl, _, rfl, r.2, rfl, rfl, by omega, d, c, _, rfl, g2.ds, p1, p2, fun u H5 r0 r1 hd5 k5 => ?_⟩
    obtain ⟨u, rfl⟩ := Int.eq_ofNat_of_zero_le r0
    have g3 := g2.draw hd5 k5
    have t5 := g2.tup k5
    have lf3 := lf2.draw g2 k5
    have ls3 := ls2.draw g2 k5
    have hA3 := hA.keep k5 t5 (by simp [fD.1])
    have nkd : Dk ≠ d := lk.fr.1
    have ek3 := k5 _ _ (by simp [nkd]) ek2
    refine ⟨_, rfl, _, rfl, _, rfl, d, c, L2_, ns, r.2, rfl, hd5, lf3.fr.1, lf3.ac, by omega, hwr, fun j n H6 hj hn hd6 k6 => ?_⟩
    have g4 := g3.draw hd6 k6
    have t6 := g3.tup k6
    have lf4 := lf3.draw g3 k6
    have ls4 := ls3.draw g3 k6
    have hA4 := hA3.keep k6 t6 (by simp [fD.1])
    have ek4 := k6 _ _ (by simp [nkd]) ek3
    refine ⟨(by show 4 ≤ sizeLine; decide), fun t ht => ?_⟩
    obtain ⟨vs, e, hlen, hA5, t7⟩ := (hA4.same (same_new ht (.tup [.str r.1, vI r.2, vI u, vI j]))).push (x := (r.1, r.2, u, j)) (.tup upd_same (.cons (.str _) (.cons (.int _) (.cons (.int _) (.cons (.int _) .nil))))) (by omega)
    have tt := (t5.trans t6).trans ((KeepT.same (same_new ht _)).trans t7)
    refine ⟨vs, e, hlen, acc ++ [(r.1, r.2, u, j)], hA5, by rw [List.length_append, hl]; rfl, fun r' hr' => ?_, (g4.new ht).put fD, ?_, (ls4.new ht).put e n2.symm, (lf4.new ht).put e n3.symm, kt2.trans tt, lyk2.keep' tt⟩
    · rcases List.mem_append.mp hr' with y | y
      · exact hg r' y
      · rw [List.mem_singleton.mp y]
        exact ⟨w1, w8, (List.getElem?_eq_some_iff.mp hj).1, hwr⟩
    · rw [upd_ne n1.symm]
      exact same_new ht _ _ _ ek4
  obtain ⟨rs, hA, hrl, hrg, g2, -, ls2, lf2, kt2, -⟩ := p
  have lr : LS H H3 d c pn D regD4 rs := ⟨hA, fD⟩
  have rlen : rs.length = b := by omega
  clear hA lk ek lvk lyk n1 hD kt lf ls g hk2 nkf
  -- the memories
  refine ⟨Nat.zero_le _, fun M hM => ?_⟩
  have fM := g2.free hM
  have mr := lr.ne hM
  have ms := ls2.ne hM
  have mf := lf2.ne hM
  have g3 := g2.new (o := .lst []) hM
  have lr3 := lr.new (o := .lst []) hM
  have ls3 := ls2.new (o := .lst []) hM
  have lf3 := lf2.new (o := .lst []) hM
  have kt3 := kt2.trans (.same (same_new hM (.lst [])))
  have om : OL H (upd H3 M (.lst [])) d c pn M 0 := ⟨⟨[], upd_same, rfl⟩, fM⟩
  generalize upd H3 M (.lst []) = H4 at g3 lr3 ls3 lf3 kt3 om ⊢
  clear g2 lr ls2 lf2 kt2
  obtain ⟨vw, ew, lvw, lyw⟩ := ls3.at_
  have fDs := ls3.fr
  have hrg2 : RsOk rs ns := hrg
  refine ⟨_, rfl, Ds, rfl, ⟨_, SqL.of ew⟩, for_it (walk_list (xs := vw)) (fun i σ' H' => ∃ (v7 v12 v13 v16 v17 : Option V) (ns : List Nd), σ' = [some (.ref d), some (vI a), some (vI b), some (vI m), some (vI k), some (vI most), some (.ref pn), v7, some (.ref pi), some (.ref Dk), some (.ref Ds), some (.ref L2_), v12, v13, some (.ref D), some (.ref M), v16, v17, none, none] ∧
      ns.length ≤ 38 + 2 * i ∧ 1 ≤ ns.length ∧ Good ns ∧ HasW ns 1 ∧ RsOk rs ns ∧ GS H H' d c pn (61 - a - b - m) ∧ LS H H' d c pn D regD4 rs ∧ H' Ds = some (.lst vw) ∧ LayAll H' vw (ss.map storD) ∧ LS H H' d c pn L2_ nodeD ns ∧ OL H H' d c pn M i ∧ KeepT Ht H')
    ⟨_, _, _, _, _, ns, rfl, by omega, by omega, gd, hw, hrg2, g3, lr3, ew, lyw, lf3, om, kt3⟩ (fun i σ' H' _ p => ?_) (fun i x σ' H' H5 hi p y => ?_) (fun σ' H' p => ?_)⟩
  · obtain ⟨_, _, _, _, _, _, _, _, _, _, _, _, _, _, e, _⟩ := p
    exact SqL.of e
  · obtain ⟨v7, v12, v13, v16, v17, ns, rfl, ln, ln1, gd, hw, ro, g, lr, ew, lyw, lf, om, kt⟩ := p
    obtain ⟨rfl, ex⟩ := y
    obtain ⟨r, q1, hr, hv, hq⟩ := storAt lyw (show i < ss.length by omega)
    obtain rfl : x = .ref q1 := by rw [ex] at hv; exact Option.some.inj hv
    obtain ⟨w1, w8⟩ := hsg r (List.mem_of_getElem? hr)
    refine ⟨q1, _, rfl, SqT.of hq, rfl, _, _, rfl, _, _, rfl, _, _, rfl, rfl, Nat.zero_le _, fun W hW => ?_⟩
    have fW := g.free hW
    have nWr := lr.ne hW
    have nWf := lf.ne hW
    have nWM := om.ne hW
    have nWs : W ≠ Ds := (ne_of_none ew hW).symm
    have g1 := g.new (o := .lst []) hW
    refine ⟨_, rfl, d, c, 3, rfl, g1.ds, by decide, by decide, fun u H6 r0 r1 hd6 k6 => ?_⟩
    obtain ⟨u, rfl⟩ := Int.eq_ofNat_of_zero_le r0
    have ow : OL H (upd H5 W (.lst [])) d c pn W 0 := ⟨⟨[], upd_same, rfl⟩, fW⟩
    refine ⟨(u : Int), rfl, (i62 (by omega)).1, (i62 (by omega)).2, for_it walk_range (fun j σ' H' => ∃ (v7 : Option V) (ns : List Nd), σ' = [some (.ref d), some (vI a), some (vI b), some (vI m), some (vI k), some (vI most), some (.ref pn), v7, some (.ref pi), some (.ref Dk), some (.ref Ds), some (.ref L2_), some (.str r.1), some (vI r.2.1), some (.ref D), some (.ref M), some (vI r.2.2), some (.ref W), none, none] ∧
        ns.length ≤ 38 + 2 * i + j ∧ 1 ≤ ns.length ∧ Good ns ∧ HasW ns 1 ∧ RsOk rs ns ∧ GS H H' d c pn (61 - a - b - m) ∧ LS H H' d c pn D regD4 rs ∧ H' Ds = some (.lst vw) ∧ LayAll H' vw (ss.map storD) ∧ LS H H' d c pn L2_ nodeD ns ∧ OL H H' d c pn M i ∧ OL H H' d c pn W j ∧ KeepT Ht H')
      ⟨_, ns, rfl, by omega, ln1, gd, hw, ro, g1.draw hd6 k6, (lr.new hW).draw g1 k6, k6 _ _ (by simp [fDs.1]) (same_new hW _ _ _ ew), (lyw.keep' (.same (same_new hW _))).keep' (g1.tup k6), (lf.new hW).draw g1 k6, (om.new hW).draw k6, ow.draw k6, (kt.trans (.same (same_new hW _))).trans (g1.tup k6)⟩
      (fun _ _ _ _ _ => trivial) (fun j x σ' H' H7 hj p y => ?_) (fun σ' H' p => ?_)⟩
    · clear gd hw ro g lr lf om kt g1 ow k6 hd6 lyw ew ex hv ln ln1
      obtain ⟨v7, ns, rfl, ln, ln1, gd, hw, ro, g, lr, ew, lyw, lf, om, ow, kt⟩ := p
      obtain ⟨rfl, rfl⟩ := y
      have hj : j < u := by simpa using hj
      obtain ⟨vs, ef, lv, ly⟩ := lf.at_
      refine ⟨_, rfl, .inl ⟨rfl, _, SqL.of ef⟩, _, rfl, _, rfl, _, rfl, L2_, vs, rfl, .inl (SqL.of ef), d, c, _, rfl, g.ds, by omega, by omega, fun z H8 r0 r2 hd8 k8 => ⟨(by show 3 ≤ sizeLine; decide), fun t ht => ?_⟩⟩
      obtain ⟨z, rfl⟩ := Int.eq_ofNat_of_zero_le r0
      have g2 := (g.draw hd8 k8).new (o := .tup [.str "wide", vI r.2.1, .int (z : Int)]) ht
      have lf2 := (lf.draw g k8).new (o := .tup [.str "wide", vI r.2.1, .int (z : Int)]) ht
      have lr2 := (lr.draw g k8).new (o := .tup [.str "wide", vI r.2.1, .int (z : Int)]) ht
      have om2 := (om.draw k8).new (o := .tup [.str "wide", vI r.2.1, .int (z : Int)]) ht
      have ow2 := (ow.draw k8).new (o := .tup [.str "wide", vI r.2.1, .int (z : Int)]) ht
      have ew2 := same_new ht (.tup [.str "wide", vI r.2.1, .int (z : Int)]) _ _ (k8 _ _ (by simp [fDs.1]) ew)
      have t2 := (g.tup k8).trans (.same (same_new ht (.tup [.str "wide", vI r.2.1, .int (z : Int)])))
      obtain ⟨vs4, e4, h4, lf3, t4⟩ := lf2.push (y := .ref t) (x := ⟨"wide", r.2.1, [z]⟩) (Lay.mkNode upd_same) (by omega)
      refine ⟨L2_, vs4, _, rfl, rfl, e4, h4, ?_⟩
      have g3 := g2.put (o := .lst (vs4 ++ [.ref t])) lf2.fr
      have lr3 := lr2.put (l' := vs4 ++ [.ref t]) e4 n3
      have om3 := om2.put (o := .lst (vs4 ++ [.ref t])) mf
      have ow3 := ow2.put (o := .lst (vs4 ++ [.ref t])) nWf
      have ew3 : upd (upd H8 t (.tup [.str "wide", vI r.2.1, .int (z : Int)])) L2_ (.lst (vs4 ++ [.ref t])) Ds = some (.lst vw) := by rw [upd_ne nsf]; exact ew2
      have kt3 := (kt.trans t2).trans t4
      have ly3 := (lyw.keep' t2).keep' t4
      have gd3 := gd.snoc ((plW (i := z) w1 w8).ok _) (plW (i := z) w1 w8).st
      have hw3 : HasW (ns ++ [⟨"wide", r.2.1, [z]⟩]) 1 := hw.app
      have ro3 : RsOk rs (ns ++ [⟨"wide", r.2.1, [z]⟩]) := ro.app
      have ln3 : (ns ++ [(⟨"wide", r.2.1, [z]⟩ : Nd)]).length = ns.length + 1 := by rw [List.length_append]; rfl
      generalize ns ++ [⟨"wide", r.2.1, [z]⟩] = ns' at lf3 gd3 hw3 ro3 ln3
      generalize upd (upd H8 t (.tup [.str "wide", vI r.2.1, .int (z : Int)])) L2_ (.lst (vs4 ++ [.ref t])) = H9 at g3 lr3 om3 ow3 ew3 kt3 ly3 lf3 ⊢
      clear g2 lf2 lr2 om2 ow2 ew2 t2 t4 e4 k8 hd8 ht ef ly g lr ew lyw lf om ow kt
      obtain ⟨wl, eW, lW⟩ := ow3.ex
      refine ⟨_, rfl, .inl ⟨rfl, _, SqL.of eW⟩, _, rfl, _, rfl, d, c, L2_, ns', 1, rfl, g3.ds, lf3.fr.1, lf3.ac, by omega, hw3, fun y n HA hy hn hdA kA => ?_⟩
      have g4 := g3.draw hdA kA
      have lf4 := lf3.draw g3 kA
      obtain ⟨vs, ef, lv, ly⟩ := lf4.at_
      refine ⟨_, rfl, _, rfl, L2_, vs, rfl, .inl (SqL.of ef), d, c, _, rfl, hdA, by omega, by omega, fun z2 HB r0 r3 hdB kB => ?_⟩
      have g5 := g4.draw hdB kB
      have lf5 := lf4.draw g4 kB
      obtain ⟨vs, ef, lv, ly⟩ := lf5.at_
      refine ⟨_, rfl, L2_, vs, rfl, .inl (SqL.of ef), _, _, rfl, rfl, (by show 3 ≤ sizeLine; decide), fun t ht => ?_⟩
      have ow5 := ((ow3.draw kA).draw kB).new (o := .tup [vI y, .int z2, .int ((vs.length : Int) - 1)]) ht
      obtain ⟨wl2, eW2, lW2, ow6, t6⟩ := ow5.push (y := .ref t) (by omega)
      have lf6 := (lf5.new (o := .tup [vI y, .int z2, .int ((vs.length : Int) - 1)]) ht).put (l' := wl2 ++ [.ref t]) eW2 nWf.symm
      have lr6 := (((lr3.draw g3 kA).draw g4 kB).new (o := .tup [vI y, .int z2, .int ((vs.length : Int) - 1)]) ht).put (l' := wl2 ++ [.ref t]) eW2 nWr.symm
      have om6 := (((om3.draw kA).draw kB).new (o := .tup [vI y, .int z2, .int ((vs.length : Int) - 1)]) ht).put (o := .lst (wl2 ++ [.ref t])) nWM.symm
      have g6 := (g5.new (o := .tup [vI y, .int z2, .int ((vs.length : Int) - 1)]) ht).put (o := .lst (wl2 ++ [.ref t])) fW
      have t5 := (((g3.tup kA).trans (g4.tup kB)).trans (.same (same_new ht (.tup [vI y, .int z2, .int ((vs.length : Int) - 1)])))).trans t6
      refine ⟨W, wl2, _, rfl, rfl, eW2, lW2, _, ns', rfl, by omega, by omega, gd3, hw3, ro3, g6, lr6, ?_, ly3.keep' t5, lf6, om6, ow6, kt3.trans t5⟩
      rw [upd_ne nWs.symm]
      exact same_new ht _ _ _ (kB _ _ (by simp [fDs.1]) (kA _ _ (by simp [fDs.1]) ew3))
    · clear gd hw ro g lr lf om kt g1 ow k6 hd6 lyw ew ex hv ln ln1
      obtain ⟨v7, ns, rfl, ln, ln1, gd, hw, ro, g, lr, ew, lyw, lf, om, ow, kt⟩ := p
      have ln : ns.length ≤ 38 + 2 * i + u := by simpa using ln
      obtain ⟨ml, eM, lM⟩ := om.ex
      obtain ⟨wl, eW, lW⟩ := ow.ex
      refine ⟨_, rfl, .inl ⟨rfl, _, SqL.of eM⟩, _, rfl, _, rfl, _, rfl, _, rfl, W, wl, rfl, .inl ⟨SqL.of eW, fun p hp => ⟨(by show 4 ≤ sizeLine; decide), fun t ht => ?_⟩⟩⟩
      have om2 := (om.new (o := .tup wl) hp).new (o := .tup [.str r.1, vI r.2.1, vI r.2.2, .ref p]) ht
      obtain ⟨ml2, eM2, lM2, om3, t3⟩ := om2.push (y := .ref t) (by omega)
      have lf2 := ((lf.new (o := .tup wl) hp).new (o := .tup [.str r.1, vI r.2.1, vI r.2.2, .ref p]) ht).put (l' := ml2 ++ [.ref t]) eM2 mf.symm
      have lr2 := ((lr.new (o := .tup wl) hp).new (o := .tup [.str r.1, vI r.2.1, vI r.2.2, .ref p]) ht).put (l' := ml2 ++ [.ref t]) eM2 mr.symm
      have g2 := ((g.new (o := .tup wl) hp).new (o := .tup [.str r.1, vI r.2.1, vI r.2.2, .ref p]) ht).put (o := .lst (ml2 ++ [.ref t])) fM
      have t2 := ((KeepT.same (same_new hp (.tup wl))).trans (.same (same_new ht (.tup [.str r.1, vI r.2.1, vI r.2.2, .ref p])))).trans t3
      refine ⟨M, ml2, _, rfl, rfl, eM2, lM2, _, _, _, _, _, ns, rfl, by omega, ln1, gd, hw, ro, g2, lr2, ?_, lyw.keep' t2, lf2, om3, kt.trans t2⟩
      rw [upd_ne ms.symm]
      exact same_new ht _ _ _ (same_new hp _ _ _ ew)
  clear gd hw hrg hrg2 g3 lr3 ew lyw lf3 om kt3 ln
  obtain ⟨v7, v12, v13, v16, v17, ns, rfl, ln, ln1, gd, hw, ro, g, lr, -, -, lf, om, kt⟩ := p
  -- what is shown
  refine ⟨2, rfl, by decide, by decide, fun S hS => ?_⟩
  have fS := g.free hS
  have s1 := lr.ne hS
  have s2 := lf.ne hS
  have s3 := om.ne hS
  refine lc_range (lo := 0) (n := 2) (fun i H' => OL H H' d c pn S i ∧ GS H H' d c pn (61 - a - b - m - i) ∧ LS H H' d c pn D regD4 rs ∧ LS H H' d c pn L2_ nodeD ns ∧ OL H H' d c pn M vw.length ∧ KeepT Ht H')
    ⟨⟨⟨[], upd_same, rfl⟩, fS⟩, g.new hS, lr.new hS, lf.new hS, om.new hS, kt.trans (.same (same_new hS _))⟩ (fun i H5 hi p => ?_) (fun H5 p => ?_)
  · clear g lr lf om kt
    obtain ⟨os, g, lr, lf, om, kt⟩ := p
    have hi : i < 2 := hi
    obtain ⟨names, hn, hz, hl61⟩ := g.nm
    refine ⟨rfl, _, rfl, _, rfl, d, c, pn, names, rfl, g.ds, hn, nnd, nnc, by omega, by omega, fun j y H6 hy hd6 hn6 k6 => ?_⟩
    obtain ⟨g6, z, rfl⟩ := g.pop hn hz hl61 hy hd6 hn6 k6
    have t6 := k6.tup2 g.ds hn
    have lf6 := lf.pop g hn k6
    have lr6 := lr.pop g hn k6
    have om6 := om.pop k6
    have os6 := os.pop k6
    obtain ⟨vs, ef, lv, ly⟩ := lf6.at_
    refine ⟨_, rfl, _, rfl, L2_, vs, rfl, .inl (SqL.of ef), d, c, _, rfl, hd6, by omega, by omega, fun x1 H7 r0 r1 hd7 k7 => ?_⟩
    obtain ⟨x1, rfl⟩ := Int.eq_ofNat_of_zero_le r0
    have g7 := g6.draw hd7 k7
    have lf7 := lf6.draw g6 k7
    obtain ⟨vs, ef, lv, ly⟩ := lf7.at_
    refine ⟨_, rfl, _, rfl, L2_, vs, rfl, .inl (SqL.of ef), d, c, _, rfl, hd7, by omega, by omega, fun x2 H8 r0 r2 hd8 k8 => ?_⟩
    obtain ⟨x2, rfl⟩ := Int.eq_ofNat_of_zero_le r0
    have g8 := g7.draw hd8 k8
    refine ⟨x1, x2, rfl, (by show 2 ≤ sizeLine; decide), fun t ht => ?_⟩
    dsimp only
    generalize HO.tup [.str z, .int ((max x1 x2 : Nat) : Int)] = ob
    obtain ⟨vs, e, hlen, os9, t9⟩ := (((os6.draw k7).draw k8).new (o := ob) ht).push (y := .ref t) (by omega)
    refine ⟨vs, e, hlen, os9, ((g8.new ht).put fS).cast (by omega), (((lr6.draw g6 k7).draw g7 k8).new ht).put e s1.symm, ((lf7.draw g7 k8).new ht).put e s2.symm, (((om6.draw k7).draw k8).new ht).put s3.symm, ((((kt.trans t6).trans (g6.tup k7)).trans (g7.tup k8)).trans (.same (same_new ht ob))).trans t9⟩
  clear g lr lf om kt
  obtain ⟨os, g, lr, lf, om, kt⟩ := p
  -- what is asked
  refine ⟨_, rfl, d, c, 2, rfl, g.ds, by decide, by decide, fun u H6 r0 r1 hd6 k6 => ?_⟩
  obtain ⟨u, rfl⟩ := Int.eq_ofNat_of_zero_le r0
  have g6 := g.draw hd6 k6
  have lr6 := lr.draw g k6
  have lf6 := lf.draw g k6
  have om6 := om.draw k6
  have os6 := os.draw k6
  have kt6 := kt.trans (g.tup k6)
  clear g lr lf om os kt k6 hd6
  refine ⟨(u : Int), rfl, (i62 (by omega)).1, (i62 (by omega)).2, fun A' hA' => ?_⟩
  have fA := g6.free hA'
  have a1 := lr6.ne hA'
  have a2 := lf6.ne hA'
  have a3 := om6.ne hA'
  have a4 := os6.ne hA'
  refine lc_range (lo := 0) (n := u) (fun i H' => OL H H' d c pn A' i ∧ OL H H' d c pn S 2 ∧ GS H H' d c pn (61 - a - b - m - 2 - i) ∧ LS H H' d c pn D regD4 rs ∧ LS H H' d c pn L2_ nodeD ns ∧ OL H H' d c pn M vw.length ∧ KeepT Ht H')
    ⟨⟨⟨[], upd_same, rfl⟩, fA⟩, os6.new hA', g6.new hA', lr6.new hA', lf6.new hA', om6.new hA', kt6.trans (.same (same_new hA' _))⟩ (fun i H7 hi p => ?_) (fun H7 p => ?_)
  · clear g6 lr6 lf6 om6 os6 kt6
    obtain ⟨oa, os, g, lr, lf, om, kt⟩ := p
    have hi : i < u := hi
    obtain ⟨names, hn, hz, hl61⟩ := g.nm
    refine ⟨rfl, _, rfl, _, rfl, d, c, pn, names, rfl, g.ds, hn, nnd, nnc, by omega, by omega, fun j y H8 hy hd8 hn8 k8 => ?_⟩
    obtain ⟨g8, z, rfl⟩ := g.pop hn hz hl61 hy hd8 hn8 k8
    have t8 := k8.tup2 g.ds hn
    have lf8 := lf.pop g hn k8
    have lr8 := lr.pop g hn k8
    have om8 := om.pop k8
    have os8 := os.pop k8
    have oa8 := oa.pop k8
    refine ⟨_, rfl, _, rfl, d, c, L2_, ns, 1, rfl, hd8, lf8.fr.1, lf8.ac, by omega, hw, fun y n H9 hy hn hd9 k9 => ⟨(by show 2 ≤ sizeLine; decide), fun t ht => ?_⟩⟩
    have g9 := g8.draw hd9 k9
    generalize HO.tup [.str z, vI y] = ob
    obtain ⟨vs, e, hlen, oa9, t9⟩ := ((oa8.draw k9).new (o := ob) ht).push (y := .ref t) (by omega)
    exact ⟨vs, e, hlen, oa9, ((os8.draw k9).new ht).put a4.symm, ((g9.new ht).put fA).cast (by omega), ((lr8.draw g8 k9).new ht).put e a1.symm, ((lf8.draw g8 k9).new ht).put e a2.symm, ((om8.draw k9).new ht).put a3.symm, (((kt.trans t8).trans (g8.tup k9)).trans (.same (same_new ht ob))).trans t9⟩
  clear g6 lr6 lf6 om6 os6 kt6
  obtain ⟨oa, os, g, lr, lf, om, kt⟩ := p
  obtain ⟨va, ea, -⟩ := oa.ex
  obtain ⟨vo, eo, lo⟩ := os.ex
  obtain ⟨vm, em, -⟩ := om.ex
  obtain ⟨vr, er, lvr, lyr⟩ := lr.at_
  obtain ⟨vn, en, lvn, lyn⟩ := lf.at_
  -- the graph
  refine ⟨_, rfl, _, rfl, L2_, vn, rfl, .inl ⟨SqL.of en, fun p1 h1 => ?_⟩⟩
  have s1 := same_new h1 (.tup vn)
  refine ⟨_, rfl, D, vr, rfl, .inl ⟨SqL.of (s1 _ _ er), fun p2 h2 => ?_⟩⟩
  have s2 := s1.trans (same_new h2 (.tup vr))
  refine ⟨_, rfl, M, vm, rfl, .inl ⟨SqL.of (s2 _ _ em), fun p3 h3 => ?_⟩⟩
  have s3 := s2.trans (same_new h3 (.tup vm))
  refine ⟨_, rfl, S, vo, rfl, .inl ⟨SqL.of (s3 _ _ eo), fun p4 h4 => ?_⟩⟩
  have s4 := s3.trans (same_new h4 (.tup vo))
  refine ⟨_, rfl, A', va, rfl, .inl ⟨SqL.of (s4 _ _ ea), fun p5 h5 => ?_⟩⟩
  have s5 := s4.trans (same_new h5 (.tup va))
  refine ⟨(by show 7 ≤ sizeLine; decide), fun t ht => ?_⟩
  have s6 := s5.trans (same_new ht (.tup [.str "graph", .ref pi, .ref p1, .ref p2, .ref p3, .ref p4, .ref p5]))
  have q1 := same_new ht (.tup [.str "graph", .ref pi, .ref p1, .ref p2, .ref p3, .ref p4, .ref p5])
  have q2 := (same_new h5 (.tup va)).trans q1
  have q3 := (same_new h4 (.tup vo)).trans q2
  have q4 := (same_new h3 (.tup vm)).trans q3
  have q5 := (same_new h2 (.tup vr)).trans q4
  refine q _ ⟨a, ns, rs⟩ _ ⟨t, pi, p1, p2, p4, .ref p3, .ref p5, vg, vn, vr, vo, rfl, by omega, ⟨upd_same, (kt.trans (.same s6)) _ _ hP, lvg, q5 _ _ upd_same, lyn.keep' (.same s6), q4 _ _ upd_same, lyr.keep' (.same s6), q2 _ _ upd_same⟩⟩ ⟨gd, hw, ro, ln1⟩ rfl rlen (by show ns.length ≤ 100; omega) (g.ds.same s6) (g.kp.trans (.of_same s6))
end
end Bf

set_option Elab.async false
set_option linter.all false
set_option maxRecDepth 100000
set_option maxHeartbeats 4000000
namespace Bf
open PySem PySem.Spec PyProof.Rows L2
/-! ### trees of picks -/
theorem args7 {a b c d e f : V} {i j : Int} (h : i = j) : [a, b, c, d, e, f, V.int i] = [a, b, c, d, e, f, V.int j] := by rw [h]
/-- what a tree that grows stands on: the nodes, the words, what has been made -/
structure TW (H : Hp) (d c l wa md : Addr) (w : Nat) (ws : List Nat) (ns : List Nd) (ms : List Nat) : Prop where
  ds : DS H d c
  ac : Acc l nodeD ns H
  hw : H wa = some (.lst (ws.map vI))
  hm : H md = some (.lst (ms.map vI))
  gd : Good ns
  h1 : HasW ns 1
  hww : HasW ns w
  mw : ∀ m ∈ ms, ∃ n : Nd, ns[m]? = some n ∧ n.w = w
  nld : l ≠ d
  nlc : l ≠ c
  nwd : wa ≠ d
  nmd : md ≠ d
  nmc : md ≠ c
  nwl : wa ≠ l
  nwm : wa ≠ md
  nlm : l ≠ md
section
variable {H H' : Hp} {d c l wa md : Addr} {w : Nat} {ws ms : List Nat} {ns : List Nd}
theorem TW.draw (t : TW H d c l wa md w ws ns ms) (ds : DS H' d c) (k : Keep [d] H H') : TW H' d c l wa md w ws ns ms :=
  ⟨ds, t.ac.keep k (k.tup1 t.ds) (by simp [t.nld]), k _ _ (by simp [t.nwd]) t.hw, k _ _ (by simp [t.nmd]) t.hm, t.gd, t.h1, t.hww, t.mw, t.nld, t.nlc, t.nwd, t.nmd, t.nmc, t.nwl, t.nwm, t.nlm⟩
/-- a node more -/
theorem TW.node {p : Addr} {n : Nd} (t : TW H d c l wa md w ws ns ms) (hp : H p = none) (ok : n.Ok ns.length) (st : PyData.strOk n.op = true) (hl : ns.length ≤ 1000) :
    ∃ vs : List V, upd H p (.tup (.str n.op :: vI n.w :: n.args.map vI)) l = some (.lst vs) ∧ vs.length < sizeLine ∧ TW (upd (upd H p (.tup (.str n.op :: vI n.w :: n.args.map vI))) l (.lst (vs ++ [.ref p]))) d c l wa md w ws (ns ++ [n]) ms ∧ Keep [d, l, md] H (upd (upd H p (.tup (.str n.op :: vI n.w :: n.args.map vI))) l (.lst (vs ++ [.ref p]))) := by
  have s := same_new hp (.tup (.str n.op :: vI n.w :: n.args.map vI))
  obtain ⟨vs, e, hv, a, kt⟩ := (t.ac.same s).push (y := .ref p) (x := n) (Lay.mkNode upd_same) hl
  refine ⟨vs, e, hv, ⟨(t.ds.same s).keep (S := [l]) Keep.at1 (by simp [t.nld.symm]) (by simp [t.nlc.symm]), a, ?_, ?_, t.gd.snoc ok st, t.h1.app, t.hww.app, fun m hm => ?_, t.nld, t.nlc, t.nwd, t.nmd, t.nmc, t.nwl, t.nwm, t.nlm⟩, (Keep.of_same s).trans (Keep.upd (by simp))⟩
  · rw [upd_ne t.nwl]; exact s _ _ t.hw
  · rw [upd_ne t.nlm.symm]; exact s _ _ t.hm
  · obtain ⟨n', e', q⟩ := t.mw m hm
    exact ⟨n', by rw [List.getElem?_append_left (List.getElem?_eq_some_iff.mp e').1]; exact e', q⟩
/-- a place more -/
theorem TW.made {k : Nat} {n : Nd} (t : TW H d c l wa md w ws ns ms) (hk : ns[k]? = some n) (hn : n.w = w) : TW (upd H md (.lst (ms.map vI ++ [vI k]))) d c l wa md w ws ns (ms ++ [k]) := by
  refine ⟨t.ds.keep (S := [md]) Keep.at1 (by simp [t.nmd.symm]) (by simp [t.nmc.symm]), t.ac.keep (S := [md]) Keep.at1 (.lst t.hm) (by simp [t.nlm]), ?_, ?_, t.gd, t.h1, t.hww, fun m hm => ?_, t.nld, t.nlc, t.nwd, t.nmd, t.nmc, t.nwl, t.nwm, t.nlm⟩
  · rw [upd_ne t.nwm]; exact t.hw
  · rw [upd_same, List.map_append]; rfl
  · rcases List.mem_append.mp hm with q | q
    · exact t.mw m q
    · rw [List.mem_singleton.mp q]; exact ⟨n, hk, hn⟩
end
def spTree (N : Nat) : Sp := fun vs H Q _ => ∃ (d c l wa md : Addr) (w r e : Nat) (ws ms : List Nat) (ns : List Nd), vs = [.ref d, .ref l, vI r, vI w, .ref wa, .ref md, vI e] ∧ e < N ∧ TW H d c l wa md w ws ns ms ∧ 1 ≤ w ∧ w ≤ 8 ∧ 1 ≤ ws.length ∧ ws.length ≤ 1000 ∧ ns.length + 2 ^ (e + 1) ≤ 900 ∧ ms.length + 2 ^ (e + 1) ≤ 900 ∧
  ∀ (k : Nat) (n : Nd) (ns' : List Nd) (ms' : List Nat) (H' : Hp), TW H' d c l wa md w ws ns' ms' → ns'[k]? = some n → n.w = w → ns'.length + 1 ≤ ns.length + 2 ^ (e + 1) → ms'.length + 1 ≤ ms.length + 2 ^ (e + 1) → (∃ zs, ns' = ns ++ zs) → Keep [d, l, md] H H' → Q (vI k) H'
section
variable {P : Program} {w : World} {K : PySem.W.Frag} {mg : Str → Option Value} {base : Heap} {f : Addr} {fd : FuncData}
theorem step_tree (N : Nat) (F : Fun K "_law_tree" "_law_tree" s_law_tree f fd) (T : Txt mg) (D_law_draw : Dn P w K mg base "_law_draw" ["_law_d", "_law_many"] 1 spDraw) (D_law_pick : Dn P w K mg base "_law_pick" ["_law_d", "_law_row"] 2 (spPick K))
    (D_law_of_width : Dn P w K mg base "_law_of_width" ["_law_d", "_law_nodes", "_law_width"] 3 spOfW)
    (D_law_tree : Dn P w K mg base "_law_tree" ["_law_d", "_law_nodes", "_law_reg", "_law_wide", "_law_words", "_law_made", "_law_depth"] (N + 4) (spTree N)) :
    FnOk P w K mg base CX0 (N + 5) f fd ["_law_d", "_law_nodes", "_law_reg", "_law_wide", "_law_words", "_law_made", "_law_depth"] (spTree (N + 1)) := by
  refine F.ok sc_law_tree (fun vs H Q E h => ?_) (fun cdv A outer s H vs Q E hr h => ?_)
  · obtain ⟨_, _, _, _, _, _, _, _, _, _, _, rfl, _⟩ := h
    rfl
  obtain ⟨d, c, l, wa, md, wd, r, e, ws, ms, ns, rfl, he, tw, w1, w8, hw1, hw2, hb1, hb2, q⟩ := h
  refine ⟨_, (pss_cons (ps_set (i := 7) sc_law_tree.nd rfl (Or.inl rfl) (pe_dn D_law_draw (hr.mono (by omega)) (by rfl) (pa_cons (pv 0) (pa_cons pe_int pa_nil))))
      (C8.pss_cut (ps_if (PW.pt (pw_or (pt_cmpR op_eq (pv 6) pe_int (nomark _)) (pw_or1 (pt_cmpR op_lt (pv 7) pe_int (nomark _))))) (pss_cons (ps_set (i := 8) sc_law_tree.nd rfl (Or.inl rfl) (pe_dn D_law_draw (hr.mono (by omega)) (by rfl) (pa_cons (pv 0) (pa_cons pe_int pa_nil))))
      (pss_cons (ps_if (pt_cmpR op_eq (pv 8) pe_int (nomark _)) (pss_one (ps_ret (pe_dn D_law_of_width (hr.mono (by omega)) (by rfl) (pa_cons (pv 0) (pa_cons (pv 1) (pa_cons (pv 3) pa_nil)))))) pss_nil)
      (pss_one (ps_expr (pe_bm PySem.F.plainAttrs_list PySem.F.slot_list_append PySem.F.type_list_append mt_append (pv 1) (pa_cons (pe_ifExp (pt_cmpR op_lt (pv 8) pe_int (nomark _)) (pe_tup (pa_cons pe_str (pa_cons (pv 3) (pa_cons (pv 2) pa_nil)))) (pe_tup (pa_cons pe_str (pa_cons (pv 3) (pa_cons (pe_dn D_law_pick (hr.mono (by omega)) (by rfl) (pa_cons (pv 0) (pa_cons (pv 4) pa_nil))) pa_nil))))) pa_nil)))))) (pss_one (ps_if (PW.pt (pw_and (pt_cmpR op_eq (pv 7) pe_int (nomark _)) (pw_and1 (pt_cmpR op_gt (pe_callB call_len_seq (by rfl) T.n_len (by decide +kernel) (pa_cons (pv 5) pa_nil)) pe_int (nomark _))))) (pss_one (ps_ret (pe_dn D_law_pick (hr.mono (by omega)) (by rfl) (pa_cons (pv 0) (pa_cons (pv 5) pa_nil))))) (pss_cons (ps_set (i := 9) sc_law_tree.nd rfl (Or.inl rfl) (pe_dn D_law_tree (hr.mono (by omega)) (by rfl) (pa_cons (pv 0) (pa_cons (pv 1) (pa_cons (pv 2) (pa_cons (pv 3) (pa_cons (pv 4) (pa_cons (pv 5) (pa_cons (pe_op op_sub (pv 6) pe_int) pa_nil)))))))))
      (pss_cons (ps_set (i := 10) sc_law_tree.nd rfl (Or.inl rfl) (pe_dn D_law_tree (hr.mono (by omega)) (by rfl) (pa_cons (pv 0) (pa_cons (pv 1) (pa_cons (pv 2) (pa_cons (pv 3) (pa_cons (pv 4) (pa_cons (pv 5) (pa_cons (pe_op op_sub (pv 6) pe_int) pa_nil)))))))))
      (pss_one (ps_expr (pe_bm PySem.F.plainAttrs_list PySem.F.slot_list_append PySem.F.type_list_append mt_append (pv 1) (pa_cons (pe_tup (pa_cons pe_str (pa_cons (pv 3) (pa_cons (pe_dn D_law_of_width (hr.mono (by omega)) (by rfl) (pa_cons (pv 0) (pa_cons (pv 1) (pa_cons pe_int pa_nil)))) (pa_cons (pv 9) (pa_cons (pv 10) pa_nil)))))) pa_nil)))))))))
      (pss_cons (ps_expr (pe_bm PySem.F.plainAttrs_list PySem.F.slot_list_append PySem.F.type_list_append mt_append (pv 5) (pa_cons (pe_op op_sub (pe_callB call_len_seq (by rfl) T.n_len (by decide +kernel) (pa_cons (pv 1) pa_nil)) pe_int) pa_nil)))
      (pss_one (ps_ret (pe_op op_sub (pe_callB call_len_seq (by rfl) T.n_len (by decide +kernel) (pa_cons (pv 1) pa_nil)) pe_int)))))), ?_⟩
  have pe : 2 ≤ 2 ^ (e + 1) := by
    have := Nat.pow_le_pow_right (n := 2) (by decide) (show 1 ≤ e + 1 by omega)
    simpa using this
  refine ⟨_, rfl, d, c, 7, rfl, tw.ds, by decide, by decide, fun t H1 r0 r1 hd1 k1 => ?_⟩
  obtain ⟨t, rfl⟩ := Int.eq_ofNat_of_zero_le r0
  have tw1 := tw.draw hd1 k1
  have kk1 : Keep [d, l, md] H H1 := k1.wide (by simp)
  refine ⟨fun σ' H' => ∃ (v8 v9 v10 : Option V) (ns' : List Nd) (n : Nd) (ms' : List Nat), σ' = [some (.ref d), some (.ref l), some (vI r), some (vI wd), some (.ref wa), some (.ref md), some (vI e), some (vI t), v8, v9, v10] ∧
    TW H' d c l wa md wd ws (ns' ++ [n]) ms' ∧ n.w = wd ∧ ns'.length + 2 ≤ ns.length + 2 ^ (e + 1) ∧ ms'.length + 2 ≤ ms.length + 2 ^ (e + 1) ∧ (∃ zs, ns' ++ [n] = ns ++ zs) ∧ Keep [d, l, md] H H', ?_, ?_⟩
  · refine (have LA : _ := ?la; (⟨_, rfl, rfl, _, rfl, ite2 (fun _ => LA) (fun z1 => ⟨_, rfl, _, _, rfl, rfl, _, rfl, ite2 (fun _ => LA) (fun z2 => ?_)⟩)⟩ : _))
    case la =>
      refine ⟨_, rfl, d, c, 11, rfl, hd1, by decide, by decide, fun lf H2 r0 r2 hd2 k2 => ?_⟩
      obtain ⟨lf, rfl⟩ := Int.eq_ofNat_of_zero_le r0
      have tw2 := tw1.draw hd2 k2
      have kk2 : Keep [d, l, md] H H2 := kk1.trans (k2.wide (by simp))
      refine ⟨_, rfl, rfl, _, rfl, ite2 (fun _ => ?_) (fun _ => ?_)⟩
      · refine ⟨_, rfl, _, rfl, _, rfl, d, c, l, ns, wd, rfl, hd2, tw.nld, tw2.ac, by omega, tw.hww, fun j n H3 hj hn hd3 k3 => ?_⟩
        exact q j n ns ms H3 (tw2.draw hd3 k3) hj hn (by omega) (by omega) ⟨[], by simp⟩ (kk2.trans (k3.wide (by simp)))
      obtain ⟨vs, ev, _⟩ := tw2.ac
      refine ⟨_, rfl, .inl ⟨rfl, _, SqL.of ev⟩, _, rfl, _, _, rfl, rfl, _, rfl, ite2 (fun _ => ?_) (fun _ => ?_)⟩
      · refine ⟨_, rfl, _, rfl, (by show 3 ≤ sizeLine; decide), fun p hp => ?_⟩
        obtain ⟨vs, e1, hl, tw3, k3⟩ := tw2.node (n := ⟨"reg", wd, [r]⟩) hp ((plR w1 w8).ok _) (plR (i := r) w1 w8).st (by omega)
        exact ⟨l, vs, _, rfl, rfl, e1, hl, _, _, _, ns, _, ms, rfl, tw3, rfl, by omega, by omega, ⟨_, rfl⟩, kk2.trans k3⟩
      · refine ⟨_, rfl, _, rfl, _, rfl, d, c, wa, _, rfl, hd2, tw.nwd, SqL.of tw2.hw, by rw [List.length_map]; exact hw1, by rw [List.length_map]; exact hw2, fun j y H3 hy hd3 k3 => ⟨(by show 3 ≤ sizeLine; decide), fun p hp => ?_⟩⟩
        obtain ⟨v, hv, rfl⟩ := natAt hy
        have tw3 := tw2.draw hd3 k3
        obtain ⟨vs, e1, hl, tw4, k4⟩ := tw3.node (n := ⟨"const", wd, [v]⟩) hp (okC w1 w8) sS.1 (by omega)
        exact ⟨l, vs, _, rfl, rfl, e1, hl, _, _, _, ns, _, ms, rfl, tw4, rfl, by omega, by omega, ⟨_, rfl⟩, (kk2.trans (k3.wide (by simp))).trans k4⟩
    have e1 : 1 ≤ e := by
      rcases Nat.eq_zero_or_pos e with h | h
      · exact absurd (by rw [h]; rfl) z1
      · exact h
    have p2 : 2 ^ (e - 1 + 1) + 2 ^ (e - 1 + 1) = 2 ^ (e + 1) := by
      rw [show e - 1 + 1 = e by omega, Nat.pow_succ]
      omega
    refine (have LB : _ := ?lb; (⟨_, rfl, rfl, _, rfl, ite2 (fun z => ⟨_, rfl, md, _, rfl, .inl (SqL.of tw1.hm), _, _, rfl, rfl, _, rfl, ite2 (fun z2 => ?_) (fun _ => LB)⟩) (fun _ => LB)⟩ : _))
    case lb =>
      refine ⟨_, rfl, _, rfl, _, rfl, _, rfl, _, rfl, _, rfl, _, rfl, _, _, rfl, rfl, d, c, l, wa, md, wd, r, e - 1, ws, ms, ns, args7 (by omega), by omega, tw1, w1, w8, hw1, hw2, by omega, by omega, fun k1 n1 ns1 ms1 H2 tw2 hk1 hn1 b1 b2 pz1 kk2 => ?_⟩
      obtain ⟨zs1, ez1⟩ := pz1
      refine ⟨_, rfl, _, rfl, _, rfl, _, rfl, _, rfl, _, rfl, _, rfl, _, _, rfl, rfl, d, c, l, wa, md, wd, r, e - 1, ws, ms1, ns1, args7 (by omega), by omega, tw2, w1, w8, hw1, hw2, by omega, by omega, fun k2 n2 ns2 ms2 H3 tw3 hk2 hn2 b3 b4 pz2 kk3 => ?_⟩
      obtain ⟨zs2, ez2⟩ := pz2
      have l1 : k1 < ns2.length := by
        rw [ez2, List.length_append]
        have := (List.getElem?_eq_some_iff.mp hk1).1
        omega
      have l2 : k2 < ns2.length := (List.getElem?_eq_some_iff.mp hk2).1
      obtain ⟨vs, ev, _⟩ := tw3.ac
      refine ⟨_, rfl, .inl ⟨rfl, _, SqL.of ev⟩, _, rfl, _, rfl, _, rfl, d, c, l, ns2, 1, rfl, tw3.ds, tw.nld, tw3.ac, by omega, tw3.h1, fun j n H4 hj hn hd4 k4 => ⟨_, rfl, _, rfl, (by show 5 ≤ sizeLine; decide), fun p hp => ?_⟩⟩
      have tw4 := tw3.draw hd4 k4
      obtain ⟨vs, e1, hl, tw5, k5⟩ := tw4.node (n := ⟨"pick", wd, [j, k1, k2]⟩) hp ⟨fun _ => ⟨j, k1, k2, rfl, l1, l2⟩, fun z => absurd z.symm sN.1, w1, w8, by simp⟩ sS.2.2.2.2 (by omega)
      exact ⟨l, vs, _, rfl, rfl, e1, hl, _, _, _, ns2, _, ms2, rfl, tw5, rfl, by omega, by omega, ⟨_, by rw [ez2, ez1, List.append_assoc, List.append_assoc]⟩, (((kk1.trans kk2).trans kk3).trans (k4.wide (by simp))).trans k5⟩
    have z3 : (0 : Int) < ((ms.map vI).length : Nat) := of_decide_eq_true z2
    refine ⟨_, rfl, _, rfl, d, c, md, _, rfl, hd1, tw.nmd, SqL.of tw1.hm, by omega, by rw [List.length_map]; omega, fun j y H2 hy hd2 k2 => ?_⟩
    obtain ⟨k, hk, rfl⟩ := natAt hy
    obtain ⟨n, hn, ew⟩ := tw.mw k (List.mem_of_getElem? hk)
    exact q k n ns ms H2 (tw1.draw hd2 k2) hn ew (by omega) (by omega) ⟨[], by simp⟩ (kk1.trans (k2.wide (by simp)))
  rintro σ' H' ⟨v8, v9, v10, ns', n, ms', rfl, tw2, hn, b1, b2, pz, kk⟩
  obtain ⟨vs, ev, vl, _⟩ := tw2.ac.get
  have vl2 : vs.length = ns'.length + 1 := by rw [vl, List.length_append]; rfl
  refine ⟨_, rfl, .inl ⟨rfl, _, SqL.of tw2.hm⟩, _, rfl, l, vs, rfl, .inl (SqL.of ev), _, _, rfl, rfl, md, _, _, rfl, rfl, tw2.hm, by rw [List.length_map]; exact small1000 (by omega), ?_⟩
  have lastN : (ns' ++ [n])[ns'.length]? = some n := by simp
  have tw3 := tw2.made lastN hn
  dsimp only
  rw [show V.int ((vs.length : Int) - 1) = vI ns'.length from congrArg V.int (by omega)]
  obtain ⟨vs2, ev2, vl3, _⟩ := tw3.ac.get
  refine ⟨_, rfl, l, vs2, rfl, .inl (SqL.of ev2), _, _, rfl, rfl, ?_⟩
  dsimp only
  have vl4 : vs2.length = ns'.length + 1 := by rw [vl3, List.length_append]; rfl
  rw [show V.int ((vs2.length : Int) - 1) = vI ns'.length from congrArg V.int (by omega)]
  exact q _ n _ _ _ tw3 lastN hn (by rw [List.length_append]; show ns'.length + 1 + 1 ≤ _; omega) (by rw [List.length_append]; show ms'.length + 1 + 1 ≤ _; omega) pz (kk.trans (Keep.upd (by simp)))
theorem ok_tree (F : Fun K "_law_tree" "_law_tree" s_law_tree f fd) (T : Txt mg) (D_law_draw : Dn P w K mg base "_law_draw" ["_law_d", "_law_many"] 1 spDraw) (D_law_pick : Dn P w K mg base "_law_pick" ["_law_d", "_law_row"] 2 (spPick K))
    (D_law_of_width : Dn P w K mg base "_law_of_width" ["_law_d", "_law_nodes", "_law_width"] 3 spOfW)
    (hm : mg "_law_tree" = some (.ref f)) (kp : PySem.W.keepIn K (.ref f) = true) (hb : Binds K fd ["_law_d", "_law_nodes", "_law_reg", "_law_wide", "_law_words", "_law_made", "_law_depth"] []) :
    ∀ N : Nat, FnOk P w K mg base CX0 (N + 4) f fd ["_law_d", "_law_nodes", "_law_reg", "_law_wide", "_law_words", "_law_made", "_law_depth"] (spTree N)
  | 0 => by
    refine F.ok sc_law_tree (fun vs H Q E h => ?_) (fun cdv A outer s H vs Q E hr h => ?_)
    · obtain ⟨_, _, _, _, _, _, _, _, _, _, _, rfl, _⟩ := h
      rfl
    · obtain ⟨_, _, _, _, _, _, _, _, _, _, _, _, hn, _⟩ := h
      exact absurd hn (Nat.not_lt_zero _)
  | N + 1 => step_tree N F T D_law_draw D_law_pick D_law_of_width ⟨f, fd, ok_tree F T D_law_draw D_law_pick D_law_of_width hm kp hb N, hm, kp, hb⟩
/-! ### chains of picks -/
def spChain : Sp := fun vs H Q _ => ∃ (d c l wa : Addr) (w r : Nat) (ws : List Nat) (ns : List Nd), vs = [.ref d, .ref l, vI r, vI w, .ref wa] ∧ DS H d c ∧ Acc l nodeD ns H ∧ H wa = some (.lst (ws.map vI)) ∧ Good ns ∧ HasW ns 1 ∧ HasW ns w ∧ l ≠ d ∧ l ≠ c ∧ wa ≠ d ∧ wa ≠ l ∧ 1 ≤ w ∧ w ≤ 8 ∧ 1 ≤ ws.length ∧ ws.length ≤ 20 ∧ ns.length ≤ 800 ∧
  ∀ (k : Nat) (n : Nd) (ns' : List Nd) (H' : Hp), DS H' d c → Acc l nodeD ns' H' → Good ns' → ns'[k]? = some n → n.w = w → ns'.length ≤ ns.length + 41 → (∃ zs, ns' = ns ++ zs) → Keep [d, l] H H' → Q (vI k) H'
/-- what a chain that grows stands on -/
structure CW (H0 H : Hp) (d c l : Addr) (w : Nat) (ns0 ns : List Nd) : Prop where
  ds : DS H d c
  ac : Acc l nodeD ns H
  gd : Good ns
  h1 : HasW ns 1
  nld : l ≠ d
  nlc : l ≠ c
  pre : ∃ zs, ns = ns0 ++ zs
  kp : Keep [d, l] H0 H
section
variable {H0 H H' : Hp} {d c l : Addr} {w : Nat} {ns0 ns : List Nd}
theorem CW.draw (t : CW H0 H d c l w ns0 ns) (ds : DS H' d c) (k : Keep [d] H H') : CW H0 H' d c l w ns0 ns :=
  ⟨ds, t.ac.keep k (k.tup1 t.ds) (by simp [t.nld]), t.gd, t.h1, t.nld, t.nlc, t.pre, t.kp.trans (k.wide (by simp))⟩
theorem CW.node {p : Addr} {n : Nd} (t : CW H0 H d c l w ns0 ns) (hp : H p = none) (ok : n.Ok ns.length) (st : PyData.strOk n.op = true) (hl : ns.length ≤ 1000) :
    ∃ vs : List V, upd H p (.tup (.str n.op :: vI n.w :: n.args.map vI)) l = some (.lst vs) ∧ vs.length < sizeLine ∧ CW H0 (upd (upd H p (.tup (.str n.op :: vI n.w :: n.args.map vI))) l (.lst (vs ++ [.ref p]))) d c l w ns0 (ns ++ [n]) := by
  have s := same_new hp (.tup (.str n.op :: vI n.w :: n.args.map vI))
  obtain ⟨vs, e, hv, a, kt⟩ := (t.ac.same s).push (y := .ref p) (x := n) (Lay.mkNode upd_same) hl
  obtain ⟨zs, ez⟩ := t.pre
  exact ⟨vs, e, hv, (t.ds.same s).keep (S := [l]) Keep.at1 (by simp [t.nld.symm]) (by simp [t.nlc.symm]), a, t.gd.snoc ok st, t.h1.app, t.nld, t.nlc, ⟨zs ++ [n], by rw [ez, List.append_assoc]⟩, (t.kp.trans (.of_same s)).trans (Keep.upd (by simp))⟩
end
theorem ok_chain (F : Fun K "_law_chain" "_law_chain" s_law_chain f fd) (T : Txt mg) (D_law_draw : Dn P w K mg base "_law_draw" ["_law_d", "_law_many"] 1 spDraw)
    (D_law_of_width : Dn P w K mg base "_law_of_width" ["_law_d", "_law_nodes", "_law_width"] 3 spOfW) :
    FnOk P w K mg base CX0 4 f fd ["_law_d", "_law_nodes", "_law_reg", "_law_wide", "_law_words"] spChain := by
  refine F.ok sc_law_chain (fun vs H Q E h => ?_) (fun cdv A outer s H vs Q E hr h => ?_)
  · obtain ⟨_, _, _, _, _, _, _, _, rfl, _⟩ := h
    rfl
  obtain ⟨d, c, l, wa, wd, r, ws, ns, rfl, hd, hA, hw, gd, h1, hww, nld, nlc, nwd, nwl, w1, w8, hw1, hw2, hb, q⟩ := h
  refine ⟨_, (C8.pss_cut (ps_expr (pe_bm PySem.F.plainAttrs_list PySem.F.slot_list_append PySem.F.type_list_append mt_append (pv 1) (pa_cons (pe_ifExp (pt_cmpR op_eq (pe_dn D_law_draw (hr.mono (by omega)) (by rfl) (pa_cons (pv 0) (pa_cons pe_int pa_nil))) pe_int (nomark _)) (pe_tup (pa_cons pe_str (pa_cons (pv 3) (pa_cons (pv 2) pa_nil)))) (pe_tup (pa_cons pe_str (pa_cons (pv 3) (pa_cons (pe_ix ix_list (pv 4) pe_int (fun _ _ => rfl)) pa_nil))))) pa_nil)))
      (pss_cons (ps_set (i := 5) sc_law_chain.nd rfl (Or.inl rfl) (pe_op op_sub (pe_callB call_len_seq (by rfl) T.n_len (by decide +kernel) (pa_cons (pv 1) pa_nil)) pe_int))
      (pss_cons (ps_for PassesOwn.never rfl (pi_list (pv 4)) (pg_name (i := 6) sc_law_chain.nd rfl (Or.inl rfl)) (pss_cons (ps_expr (pe_bm PySem.F.plainAttrs_list PySem.F.slot_list_append PySem.F.type_list_append mt_append (pv 1) (pa_cons (pe_tup (pa_cons pe_str (pa_cons (pv 3) (pa_cons (pv 6) pa_nil)))) pa_nil)))
      (pss_cons (ps_set (i := 7) sc_law_chain.nd rfl (Or.inl rfl) (pe_op op_sub (pe_callB call_len_seq (by rfl) T.n_len (by decide +kernel) (pa_cons (pv 1) pa_nil)) pe_int))
      (pss_cons (ps_set (i := 8) sc_law_chain.nd rfl (Or.inl rfl) (pe_dn D_law_of_width (hr.mono (by omega)) (by rfl) (pa_cons (pv 0) (pa_cons (pv 1) (pa_cons pe_int pa_nil)))))
      (pss_cons (ps_expr (pe_bm PySem.F.plainAttrs_list PySem.F.slot_list_append PySem.F.type_list_append mt_append (pv 1) (pa_cons (pe_ifExp (pt_cmpR op_eq (pe_dn D_law_draw (hr.mono (by omega)) (by rfl) (pa_cons (pv 0) (pa_cons pe_int pa_nil))) pe_int (nomark _)) (pe_tup (pa_cons pe_str (pa_cons (pv 3) (pa_cons (pv 8) (pa_cons (pv 7) (pa_cons (pv 5) pa_nil)))))) (pe_tup (pa_cons pe_str (pa_cons (pv 3) (pa_cons (pv 8) (pa_cons (pv 5) (pa_cons (pv 7) pa_nil))))))) pa_nil)))
      (pss_one (ps_set (i := 5) sc_law_chain.nd rfl (Or.inl rfl) (pe_op op_sub (pe_callB call_len_seq (by rfl) T.n_len (by decide +kernel) (pa_cons (pv 1) pa_nil)) pe_int))))))))
      (pss_one (ps_ret (pv 5)))))), ?_⟩
  have cw : CW H H d c l wd ns ns := ⟨hd, hA, gd, h1, nld, nlc, ⟨[], by simp⟩, .refl _ _⟩
  obtain ⟨vs, ev, _⟩ := cw.ac
  have eA := fun (H' : Hp) (t : Keep [d, l] H H') => t _ _ (by simp [nwd, nwl]) hw
  refine ⟨fun σ' H' => ∃ (ns' : List Nd) (n : Nd), σ' = [some (.ref d), some (.ref l), some (vI r), some (vI wd), some (.ref wa), none, none, none, none] ∧ CW H H' d c l wd ns (ns' ++ [n]) ∧ n.w = wd ∧ ns'.length ≤ ns.length, ?_, ?_⟩
  · refine ⟨_, rfl, .inl ⟨rfl, _, SqL.of ev⟩, ?_⟩
    refine ⟨_, rfl, d, c, 2, rfl, hd, by decide, by decide, fun t H1 r0 r1 hd1 k1 => ?_⟩
    obtain ⟨t, rfl⟩ := Int.eq_ofNat_of_zero_le r0
    have cw1 := cw.draw hd1 k1
    refine ⟨rfl, _, rfl, ite2 (fun _ => ?_) (fun _ => ?_)⟩
    · refine ⟨_, rfl, _, rfl, (by show 3 ≤ sizeLine; decide), fun p hp => ?_⟩
      obtain ⟨vs, e1, hl, cw2⟩ := cw1.node (n := ⟨"reg", wd, [r]⟩) hp ((plR w1 w8).ok _) (plR (i := r) w1 w8).st (by omega)
      exact ⟨l, vs, _, rfl, rfl, e1, hl, ns, _, rfl, cw2, rfl, Nat.le_refl _⟩
    · refine ⟨_, rfl, _, rfl, wa, _, 0, (ws.map vI)[0]'(by rw [List.length_map]; omega), rfl, rfl, SqL.of (eA _ cw1.kp), atI_nat (j := 0) (List.getElem?_eq_getElem _), (by show 3 ≤ sizeLine; decide), fun p hp => ?_⟩
      rw [List.getElem_map]
      obtain ⟨vs, e1, hl, cw2⟩ := cw1.node (n := ⟨"const", wd, [ws[0]]⟩) hp (okC w1 w8) sS.1 (by omega)
      exact ⟨l, vs, _, rfl, rfl, e1, hl, ns, _, rfl, cw2, rfl, Nat.le_refl _⟩
  rintro σ' H1 ⟨ns1, n1, rfl, cw1, hn1, b1⟩
  obtain ⟨vs, ev, vl, _⟩ := cw1.ac.get
  have vl2 : vs.length = ns1.length + 1 := by rw [vl, List.length_append]; rfl
  refine ⟨_, rfl, l, vs, rfl, .inl (SqL.of ev), _, _, rfl, rfl, ?_⟩
  dsimp only
  rw [show V.int ((vs.length : Int) - 1) = vI ns1.length from congrArg V.int (by omega)]
  refine ⟨_, rfl, wa, rfl, ⟨_, SqL.of (eA _ cw1.kp)⟩, for_it (walk_list (xs := ws.map vI)) (fun i σ' H' => ∃ (v6 v7 v8 : Option V) (k : Nat) (n : Nd) (ns' : List Nd), σ' = [some (.ref d), some (.ref l), some (vI r), some (vI wd), some (.ref wa), some (vI k), v6, v7, v8] ∧ CW H H' d c l wd ns ns' ∧ ns'[k]? = some n ∧ n.w = wd ∧ ns'.length ≤ ns.length + 1 + 2 * i)
    ⟨_, _, _, ns1.length, n1, _, rfl, cw1, by simp, hn1, by rw [List.length_append]; show ns1.length + 1 ≤ _; omega⟩ (fun i σ' H' _ p => ?_) (fun i x σ' H' H3 hi p y => ?_) (fun σ' H' p => ?_)⟩
  · obtain ⟨_, _, _, _, _, _, _, cw, _⟩ := p
    exact SqL.of (eA _ cw.kp)
  · obtain ⟨v6, v7, v8, k, n, ns', rfl, cw2, hk, hn, b2⟩ := p
    obtain ⟨rfl, ex⟩ := y
    obtain ⟨x, _, rfl⟩ := natAt ex
    rw [List.length_map] at hi
    obtain ⟨vs, ev, _⟩ := cw2.ac
    refine ⟨_, rfl, .inl ⟨rfl, _, SqL.of ev⟩, _, rfl, _, rfl, (by show 3 ≤ sizeLine; decide), fun p hp => ?_⟩
    obtain ⟨vs, e1, hl, cw3⟩ := cw2.node (n := ⟨"const", wd, [x]⟩) hp (okC w1 w8) sS.1 (by omega)
    refine ⟨l, vs, _, rfl, rfl, e1, hl, ?_⟩
    obtain ⟨vs, ev, vl, _⟩ := cw3.ac.get
    have vl2 : vs.length = ns'.length + 1 := by rw [vl, List.length_append]; rfl
    refine ⟨_, rfl, l, vs, rfl, .inl (SqL.of ev), _, _, rfl, rfl, ?_⟩
    dsimp only
    rw [show V.int ((vs.length : Int) - 1) = vI ns'.length from congrArg V.int (by omega)]
    have l1 : k < (ns' ++ [(⟨"const", wd, [x]⟩ : Nd)]).length := by
      rw [List.length_append]
      have := (List.getElem?_eq_some_iff.mp hk).1
      omega
    have l2 : ns'.length < (ns' ++ [(⟨"const", wd, [x]⟩ : Nd)]).length := by rw [List.length_append]; show ns'.length < ns'.length + 1; omega
    have l3 : (ns' ++ [(⟨"const", wd, [x]⟩ : Nd)]).length = ns'.length + 1 := by rw [List.length_append]; rfl
    generalize ns' ++ [(⟨"const", wd, [x]⟩ : Nd)] = ns2 at cw3 l1 l2 l3
    refine ⟨_, rfl, _, rfl, d, c, l, ns2, 1, rfl, cw3.ds, nld, cw3.ac, by omega, cw3.h1, fun j m H5 hj hm hd5 k5 => ?_⟩
    have cw5 := cw3.draw hd5 k5
    obtain ⟨vs, ev, _⟩ := cw5.ac
    refine ⟨_, rfl, .inl ⟨rfl, _, SqL.of ev⟩, ?_⟩
    refine ⟨_, rfl, d, c, 2, rfl, hd5, by decide, by decide, fun t H6 r0 r1 hd6 k6 => ?_⟩
    obtain ⟨t, rfl⟩ := Int.eq_ofNat_of_zero_le r0
    have cw6 := cw5.draw hd6 k6
    refine ⟨rfl, _, rfl, ite2 (fun _ => ?_) (fun _ => ?_)⟩
    · refine ⟨_, rfl, _, rfl, _, rfl, _, rfl, (by show 5 ≤ sizeLine; decide), fun p hp => ?_⟩
      obtain ⟨vs, e1, hl, cw7⟩ := cw6.node (n := ⟨"pick", wd, [j, ns'.length, k]⟩) hp ⟨fun _ => ⟨_, _, _, rfl, l2, l1⟩, fun z => absurd z.symm sN.1, w1, w8, by simp⟩ sS.2.2.2.2 (by omega)
      refine ⟨l, vs, _, rfl, rfl, e1, hl, ?_⟩
      obtain ⟨vs, ev, vl, _⟩ := cw7.ac.get
      have vl2 : vs.length = ns2.length + 1 := by rw [vl, List.length_append]; rfl
      refine ⟨_, rfl, l, vs, rfl, .inl (SqL.of ev), _, _, rfl, rfl, ?_⟩
      dsimp only
      rw [show V.int ((vs.length : Int) - 1) = vI ns2.length from congrArg V.int (by omega)]
      exact ⟨_, _, _, ns2.length, ⟨"pick", wd, [j, ns'.length, k]⟩, _, rfl, cw7, by simp, rfl, by rw [List.length_append]; show ns2.length + 1 ≤ _; omega⟩
    · refine ⟨_, rfl, _, rfl, _, rfl, _, rfl, (by show 5 ≤ sizeLine; decide), fun p hp => ?_⟩
      obtain ⟨vs, e1, hl, cw7⟩ := cw6.node (n := ⟨"pick", wd, [j, k, ns'.length]⟩) hp ⟨fun _ => ⟨_, _, _, rfl, l1, l2⟩, fun z => absurd z.symm sN.1, w1, w8, by simp⟩ sS.2.2.2.2 (by omega)
      refine ⟨l, vs, _, rfl, rfl, e1, hl, ?_⟩
      obtain ⟨vs, ev, vl, _⟩ := cw7.ac.get
      have vl2 : vs.length = ns2.length + 1 := by rw [vl, List.length_append]; rfl
      refine ⟨_, rfl, l, vs, rfl, .inl (SqL.of ev), _, _, rfl, rfl, ?_⟩
      dsimp only
      rw [show V.int ((vs.length : Int) - 1) = vI ns2.length from congrArg V.int (by omega)]
      exact ⟨_, _, _, ns2.length, ⟨"pick", wd, [j, k, ns'.length]⟩, _, rfl, cw7, by simp, rfl, by rw [List.length_append]; show ns2.length + 1 ≤ _; omega⟩
  · obtain ⟨v6, v7, v8, k, n, ns', rfl, cw2, hk, hn, b2⟩ := p
    rw [List.length_map] at b2
    exact ⟨_, rfl, q k n ns' H' cw2.ds cw2.ac cw2.gd hk hn (by omega) cw2.pre cw2.kp⟩
end
end Bf

set_option Elab.async false
set_option linter.all false
set_option maxRecDepth 100000
set_option maxHeartbeats 4000000
namespace Bf
open PySem PySem.Spec PyProof.Rows L2
/-! ### registers that are machines -/
theorem cut_nat (ws : List Nat) (n : Nat) : cutV (ws.map vI) none (some (n : Int)) = (ws.take n).map vI := by
  unfold cutV
  rw [HT.sIx_nat, HT.sIx_none, List.drop_zero, Nat.sub_zero, List.length_map, List.map_take]
  rcases Nat.le_total n ws.length with h | h
  · rw [Nat.min_eq_left h]
  · rw [Nat.min_eq_right h, List.take_of_length_le (by rw [List.length_map]; exact Nat.le_refl _), List.take_of_length_le (by rw [List.length_map]; exact h)]
theorem natsOf : ∀ ys : List V, (∀ y ∈ ys, ∃ n : Nat, y = vI n) → ∃ ns : List Nat, ys = ns.map vI
  | [], _ => ⟨[], rfl⟩
  | y :: ys, h => by
    obtain ⟨n, rfl⟩ := h y (by simp)
    obtain ⟨ns, e⟩ := natsOf ys fun z hz => h z (by simp [hz])
    exact ⟨n :: ns, by rw [e]; rfl⟩
theorem LayAll.set {H : Hp} {v : V} {d : PyData} (l : Lay H v d) : ∀ (ds : List PyData) (vs : List V) (i : Nat), LayAll H vs ds → LayAll H (vs.set i v) (ds.set i d)
  | [], vs, i, h => by
    obtain rfl := h.nil_inv
    exact h
  | e :: ds, vs, i, h => by
    obtain ⟨u, us, rfl, l0, l1⟩ := h.cons_inv
    cases i with
    | zero => exact .cons l l1
    | succ i => exact .cons l0 (LayAll.set l ds us i l1)
/-- the state of the machines that are being made -/
structure MW (H0 H : Hp) (d c ln lr lo : Addr) (ns : List Nd) (rs : List (Str × Nat × Nat × Nat)) (no : Nat) : Prop where
  ds : DS H d c
  an : Acc ln nodeD ns H
  ar : Acc lr regD4 rs H
  ao : ∃ vo : List V, H lo = some (.lst vo) ∧ vo.length = no
  fn : ln ≠ d ∧ ln ≠ c ∧ H0 ln = none
  fr : lr ≠ d ∧ lr ≠ c ∧ H0 lr = none
  fo : lo ≠ d ∧ lo ≠ c ∧ H0 lo = none
  nr : ln ≠ lr
  no_ : ln ≠ lo
  ro_ : lr ≠ lo
  kp : Keep [d] H0 H
  kt : KeepT H0 H
  gd : Good ns
  h1 : HasW ns 1
  ro : RsOk rs ns
section
variable {H0 H H' : Hp} {d c ln lr lo : Addr} {ns : List Nd} {rs : List (Str × Nat × Nat × Nat)} {no : Nat}
theorem MW.draw (t : MW H0 H d c ln lr lo ns rs no) (ds : DS H' d c) (k : Keep [d] H H') : MW H0 H' d c ln lr lo ns rs no :=
  have kt := k.tup1 t.ds
  ⟨ds, t.an.keep k kt (by simp [t.fn.1]), t.ar.keep k kt (by simp [t.fr.1]), let ⟨vo, e, l⟩ := t.ao; ⟨vo, k _ _ (by simp [t.fo.1]) e, l⟩, t.fn, t.fr, t.fo, t.nr, t.no_, t.ro_, t.kp.trans k, t.kt.trans kt, t.gd, t.h1, t.ro⟩
theorem MW.same (t : MW H0 H d c ln lr lo ns rs no) (s : Same H H') : MW H0 H' d c ln lr lo ns rs no := t.draw (t.ds.same s) (.of_same s)
theorem MW.new {p : Addr} {o : HO} (t : MW H0 H d c ln lr lo ns rs no) (hp : H p = none) : MW H0 (upd H p o) d c ln lr lo ns rs no := t.same (same_new hp _)
/-- what a new place is apart from -/
def Apart (H0 : Hp) (d c ln lr lo p : Addr) : Prop := p ≠ d ∧ p ≠ c ∧ p ≠ ln ∧ p ≠ lr ∧ p ≠ lo ∧ H0 p = none
theorem MW.free {p : Addr} (t : MW H0 H d c ln lr lo ns rs no) (hp : H p = none) : Apart H0 d c ln lr lo p := by
  obtain ⟨a, b⟩ := t.ds.new hp
  obtain ⟨x1, e1, _⟩ := t.an
  obtain ⟨x2, e2, _⟩ := t.ar
  obtain ⟨x3, e3, _⟩ := t.ao
  exact ⟨a, b, (ne_of_none e1 hp).symm, (ne_of_none e2 hp).symm, (ne_of_none e3 hp).symm, t.kp.free hp (by simp [a])⟩
/-- a list apart is written -/
theorem MW.put {p : Addr} {l l' : List V} (t : MW H0 H d c ln lr lo ns rs no) (f : Apart H0 d c ln lr lo p) (e : H p = some (.lst l)) : MW H0 (upd H p (.lst l')) d c ln lr lo ns rs no := by
  obtain ⟨a, b, x, y, z, w⟩ := f
  have kt : KeepT H (upd H p (.lst l')) := .lst e
  have k : Keep [p] H (upd H p (.lst l')) := Keep.at1
  exact ⟨t.ds.keep k (by simp [a.symm]) (by simp [b.symm]), t.an.keep k kt (by simp [x.symm]), t.ar.keep k kt (by simp [y.symm]), let ⟨vo, e, l⟩ := t.ao; ⟨vo, k _ _ (by simp [z.symm]) e, l⟩, t.fn, t.fr, t.fo, t.nr, t.no_, t.ro_, (t.kp.cat k).thin (by simp [w]), t.kt.trans kt, t.gd, t.h1, t.ro⟩
/-- the nodes have grown -/
theorem MW.grow {S : List Addr} {ns' : List Nd} (t : MW H0 H d c ln lr lo ns rs no) (k : Keep S H H') (hS : ∀ b ∈ S, b = d ∨ b = ln ∨ (b ≠ lr ∧ b ≠ lo ∧ H0 b = none)) (kt : KeepT H H') (ds : DS H' d c) (a : Acc ln nodeD ns' H') (gd : Good ns') (pre : ∃ zs, ns' = ns ++ zs) : MW H0 H' d c ln lr lo ns' rs no := by
  have n1 : lr ∉ S := fun h => by
    rcases hS _ h with q | q | q
    · exact t.fr.1 q
    · exact t.nr q.symm
    · exact q.1 rfl
  have n2 : lo ∉ S := fun h => by
    rcases hS _ h with q | q | q
    · exact t.fo.1 q
    · exact t.no_ q.symm
    · exact q.2.1 rfl
  obtain ⟨zs, ez⟩ := pre
  refine ⟨ds, a, t.ar.keep k kt n1, let ⟨vo, e, l⟩ := t.ao; ⟨vo, k _ _ n2 e, l⟩, t.fn, t.fr, t.fo, t.nr, t.no_, t.ro_, (t.kp.cat k).thin fun b hb => ?_, t.kt.trans kt, gd, ez ▸ t.h1.app, ez ▸ t.ro.app⟩
  rcases List.mem_append.mp hb with q | q
  · exact .inl q
  · rcases hS _ q with q | q | q
    · exact .inl (by simp [q])
    · exact .inr (q ▸ t.fn.2.2)
    · exact .inr q.2.2
/-- a node more -/
theorem MW.node {p : Addr} {n : Nd} (t : MW H0 H d c ln lr lo ns rs no) (hp : H p = none) (ok : n.Ok ns.length) (st : PyData.strOk n.op = true) (hl : ns.length ≤ 1000) :
    ∃ vs : List V, upd H p (.tup (.str n.op :: vI n.w :: n.args.map vI)) ln = some (.lst vs) ∧ vs.length < sizeLine ∧ MW H0 (upd (upd H p (.tup (.str n.op :: vI n.w :: n.args.map vI))) ln (.lst (vs ++ [.ref p]))) d c ln lr lo (ns ++ [n]) rs no ∧ (upd (upd H p (.tup (.str n.op :: vI n.w :: n.args.map vI))) ln (.lst (vs ++ [.ref p]))) ln = some (.lst (vs ++ [.ref p])) ∧ (vs ++ [V.ref p]).length = ns.length + 1 ∧ Keep [ln] H (upd (upd H p (.tup (.str n.op :: vI n.w :: n.args.map vI))) ln (.lst (vs ++ [.ref p]))) := by
  have s := same_new hp (.tup (.str n.op :: vI n.w :: n.args.map vI))
  have t1 := t.same s
  obtain ⟨vs, e, hv, a, kt⟩ := t1.an.push (y := .ref p) (x := n) (Lay.mkNode upd_same) hl
  obtain ⟨vs', e', l', _⟩ := t1.an.get
  rw [e] at e'
  cases e'
  exact ⟨vs, e, hv, t1.grow (S := [ln]) Keep.at1 (by simp) kt (t1.ds.keep (S := [ln]) Keep.at1 (by simp [t.fn.1.symm]) (by simp [t.fn.2.1.symm])) a (t.gd.snoc ok st) ⟨_, rfl⟩, upd_same, by rw [List.length_append, l']; rfl, (Keep.of_same s).trans Keep.at1⟩
/-- a register is written -/
theorem MW.reg {p : Addr} {r : Str × Nat × Nat × Nat} {i : Nat} (t : MW H0 H d c ln lr lo ns rs no) (hp : H p = none) (h1 : 1 ≤ r.2.1) (h8 : r.2.1 ≤ 8) (ha : r.2.2.2 < ns.length) (hw : HasW ns r.2.1) :
    ∃ vs : List V, upd H p (.tup [.str r.1, vI r.2.1, vI r.2.2.1, vI r.2.2.2]) lr = some (.lst vs) ∧ vs.length = rs.length ∧ MW H0 (upd (upd H p (.tup [.str r.1, vI r.2.1, vI r.2.2.1, vI r.2.2.2])) lr (.lst (vs.set i (.ref p)))) d c ln lr lo ns (rs.set i r) no := by
  have s := same_new hp (.tup [.str r.1, vI r.2.1, vI r.2.2.1, vI r.2.2.2])
  have t1 := t.same s
  obtain ⟨vs, e, l, y⟩ := t1.ar.get
  have kt : KeepT (upd H p (.tup [.str r.1, vI r.2.1, vI r.2.2.1, vI r.2.2.2])) (upd (upd H p (.tup [.str r.1, vI r.2.1, vI r.2.2.1, vI r.2.2.2])) lr (.lst (vs.set i (.ref p)))) := .lst e
  have k : Keep [lr] (upd H p (.tup [.str r.1, vI r.2.1, vI r.2.2.1, vI r.2.2.2])) (upd (upd H p (.tup [.str r.1, vI r.2.1, vI r.2.2.1, vI r.2.2.2])) lr (.lst (vs.set i (.ref p)))) := Keep.at1
  refine ⟨vs, e, l, t1.ds.keep k (by simp [t.fr.1.symm]) (by simp [t.fr.2.1.symm]), t1.an.keep k kt (by simp [t.nr]), ⟨_, upd_same, ?_⟩, let ⟨vo, e, l⟩ := t1.ao; ⟨vo, k _ _ (by simp [t.ro_.symm]) e, l⟩, t.fn, t.fr, t.fo, t.nr, t.no_, t.ro_, (t1.kp.cat k).thin (by simp [t.fr.2.2]), t1.kt.trans kt, t.gd, t.h1, fun r' hr' => ?_⟩
  · rw [List.map_set]
    exact (LayAll.set (d := regD4 r) (.tup upd_same (.cons (.str _) (.cons (.int _) (.cons (.int _) (.cons (.int _) .nil))))) _ _ i y).keep' kt
  · rcases List.mem_or_eq_of_mem_set hr' with q | q
    · exact t.ro r' q
    · rw [q]; exact ⟨h1, h8, ha, hw⟩
/-- an output more -/
theorem MW.out {y : V} (t : MW H0 H d c ln lr lo ns rs no) (hn : no ≤ 1000) : ∃ vs : List V, H lo = some (.lst vs) ∧ vs.length < sizeLine ∧ MW H0 (upd H lo (.lst (vs ++ [y]))) d c ln lr lo ns rs (no + 1) := by
  obtain ⟨vs, e, l⟩ := t.ao
  have kt : KeepT H (upd H lo (.lst (vs ++ [y]))) := .lst e
  have k : Keep [lo] H (upd H lo (.lst (vs ++ [y]))) := Keep.at1
  exact ⟨vs, e, by rw [l]; exact small1000 hn, t.ds.keep k (by simp [t.fo.1.symm]) (by simp [t.fo.2.1.symm]), t.an.keep k kt (by simp [t.no_]), t.ar.keep k kt (by simp [t.ro_]), ⟨_, upd_same, by rw [List.length_append, l]; rfl⟩, t.fn, t.fr, t.fo, t.nr, t.no_, t.ro_, (t.kp.cat k).thin (by simp [t.fo.2.2]), t.kt.trans kt, t.gd, t.h1, t.ro⟩
end
theorem regAt {H : Hp} {vs : List V} {gs : List (Str × Nat × Nat × Nat)} {i : Nat} (h : LayAll H vs (gs.map regD4)) (hi : i < gs.length) : ∃ (r : Str × Nat × Nat × Nat) (q : Addr), gs[i]? = some r ∧ vs[i]? = some (.ref q) ∧ H q = some (.tup [.str r.1, vI r.2.1, vI r.2.2.1, vI r.2.2.2]) := by
  have e : (gs.map regD4)[i]? = some (regD4 gs[i]) := by rw [List.getElem?_map, List.getElem?_eq_getElem hi]; rfl
  obtain ⟨v, hv, l⟩ := h.at_ i e
  obtain ⟨q, rfl, hq⟩ := l.rg4
  exact ⟨gs[i], q, List.getElem?_eq_getElem hi, hv, hq⟩
theorem strK {i : Nat} (h : i ≤ 3) : (Str.ofString (toString (i : Int))).length ≤ 5 := by
  have : i = 0 ∨ i = 1 ∨ i = 2 ∨ i = 3 := by omega
  rcases this with rfl | rfl | rfl | rfl <;> decide +kernel
end Bf

set_option Elab.async false
set_option linter.all false
set_option maxRecDepth 100000
set_option maxHeartbeats 4000000
namespace Bf
open PySem PySem.Spec PyProof.Rows L2
theorem ixNat {n j : Nat} (hj : j < n) : ixN n (j : Int) = some j := by
  unfold ixN
  rw [if_pos (by omega), if_pos (by omega)]
  rfl
/-- a graph that stands, whatever its outputs are -/
def GrW (H : Hp) (v : V) (G : Gr) : Prop := ∃ (p pi pn pr po : Addr) (v4 v6 : V) (xi vn vr xo : List V), v = .ref p ∧ GrAt H p pi pn pr po v4 v6 xi vn vr xo G
def spMach : Sp := fun vs H Q _ => ∃ (d c : Addr) (v : V) (G : Gr) (many : Nat), vs = [.ref d, v, vI many, .int 16] ∧ DS H d c ∧ GrV H v G ∧ G.Ok ∧ many ≤ 3 ∧ G.ns.length ≤ 100 ∧ G.rs.length ≤ 4 ∧ G.ni ≤ 3 ∧
  ∀ (v' : V) (G' : Gr) (H' : Hp), GrW H' v' G' → G'.Ok → G'.rs.length = G.rs.length → G'.ns.length ≤ 900 → DS H' d c → Keep [d] H H' → Q v' H'
section
variable {P : Program} {w : World} {K : PySem.W.Frag} {mg : Str → Option Value} {base : Heap} {f : Addr} {fd : FuncData}
theorem ok_mach (F : Fun K "_law_machines" "_law_machines" s_law_machines f fd) (T : Txt mg) (D_law_draw : Dn P w K mg base "_law_draw" ["_law_d", "_law_many"] 1 spDraw) (D_law_pick : Dn P w K mg base "_law_pick" ["_law_d", "_law_row"] 2 (spPick K))
    (D_law_shuffled : Dn P w K mg base "_law_shuffled" ["_law_d", "_law_row"] 2 (spShuf K))
    (D_law_chain : Dn P w K mg base "_law_chain" ["_law_d", "_law_nodes", "_law_reg", "_law_wide", "_law_words"] 4 spChain)
    (D_law_tree : Dn P w K mg base "_law_tree" ["_law_d", "_law_nodes", "_law_reg", "_law_wide", "_law_words", "_law_made", "_law_depth"] 8 (spTree 4)) :
    FnOk P w K mg base CX0 9 f fd ["_law_d", "_law_graph_here", "_law_many", "_law_longest"] spMach := by
  refine F.ok sc_law_machines (fun vs H Q E h => ?_) (fun cdv A outer s H vs Q E hr h => ?_)
  · obtain ⟨d, c, v, G, many, rfl, _⟩ := h
    rfl
  obtain ⟨d, c, v, G, many, rfl, hd, hG, ok, hm, hn1, hr1, hi1, q⟩ := h
  refine ⟨_, (pss_cons (ps_set (i := 4) sc_law_machines.nd rfl (Or.inl rfl) (pe_callTy call_list_of (by rfl) T.n_list (by decide +kernel) (pa_cons (pe_ix ix_tup (pv 1) pe_int (fun _ _ => rfl)) pa_nil)))
      (pss_cons (ps_set (i := 5) sc_law_machines.nd rfl (Or.inl rfl) (pe_callTy call_list_of (by rfl) T.n_list (by decide +kernel) (pa_cons (pe_ix ix_tup (pv 1) pe_int (fun _ _ => rfl)) pa_nil)))
      (pss_cons (ps_set (i := 6) sc_law_machines.nd rfl (Or.inl rfl) (pe_callTy call_list_of (by rfl) T.n_list (by decide +kernel) (pa_cons (pe_ix ix_tup (pv 1) pe_int (fun _ _ => rfl)) pa_nil)))
      (pss_cons (ps_set (i := 7) sc_law_machines.nd rfl (Or.inl rfl) (pe_op op_add pe_int (pe_callB call_len_seq (by rfl) T.n_len (by decide +kernel) (pa_cons (pe_ix ix_tup (pv 1) pe_int (fun _ _ => rfl)) pa_nil))))
      (pss_cons (ps_for PassesOwn.never rfl (pi_range1 rfl T.n_range (pa_cons (pe_callB (cr_minN rfl) (by rfl) T.n_min (by decide +kernel) (pa_cons (pv 2) (pa_cons (pe_callB call_len_seq (by rfl) T.n_len (by decide +kernel) (pa_cons (pv 5) pa_nil)) pa_nil))) pa_nil)) (pg_name (i := 8) sc_law_machines.nd rfl (Or.inl rfl)) (pss_cons (ps_asg (pe_ix ix_list (pv 5) (pv 8) (fun _ _ => rfl)) (pg_tup rfl (pgs_cons (pg_name (i := 9) sc_law_machines.nd rfl (Or.inl rfl)) (pgs_cons (pg_name (i := 10) sc_law_machines.nd rfl (Or.inr rfl)) (pgs_cons (pg_name (i := 11) sc_law_machines.nd rfl (Or.inl rfl)) (pgs_cons (pg_name (i := 12) sc_law_machines.nd rfl (Or.inl rfl)) pgs_nil))))))
      (pss_cons (ps_setLc (i := 13) (own := [("_law_n", 16)]) (g := gName 16) (tt := tYes) rfl sc_law_machines.nd rfl rfl (sw_true rfl rfl rfl (by decide +kernel)) (pi_range1 rfl T.n_range (pa_cons (pe_op op_add pe_int (pe_dn D_law_draw (hr.mono (by omega)) (by rfl) (pa_cons (pv 0) (pa_cons pe_int pa_nil)))) pa_nil)) (blkOk_by (N := ["_law_d", "_law_graph_here", "_law_many", "_law_longest", "_law_nodes", "_law_regs", "_law_shown", "_law_first", "_law_k", "_law_name", "_law_wide", "_law_start", "_law_after", "_law_words", "_law_word", "_law_more", "_law_n"]) (sc := defScope s_law_machines) (by decide +kernel)) (fun _ _ _ _ _ => (pg_name (i := 16) sc_law_machines.nd rfl (Or.inl rfl))) (fun _ _ _ _ _ => pts_nil) (fun _ _ _ _ _ => (pe_dn D_law_draw (hr.mono (by omega)) (by rfl) (pa_cons (pv 0) (pa_cons (pe_op op_oneShl pe_int (pv 10)) pa_nil)))))
      (pss_cons (ps_for PassesOwn.never rfl (pi_list (pe_slice sl_list (pv 13) po_none (po_some pe_int))) (pg_name (i := 14) sc_law_machines.nd rfl (Or.inl rfl)) (pss_cons (ps_expr (pe_bm PySem.F.plainAttrs_list PySem.F.slot_list_append PySem.F.type_list_append mt_append (pv 4) (pa_cons (pe_tup (pa_cons pe_str (pa_cons (pv 10) (pa_cons (pv 14) pa_nil)))) pa_nil)))
      (pss_one (ps_expr (pe_bm PySem.F.plainAttrs_list PySem.F.slot_list_append PySem.F.type_list_append mt_append (pv 4) (pa_cons (pe_tup (pa_cons (pe_dn D_law_pick (hr.mono (by omega)) (by rfl) (pa_cons (pv 0) (pa_cons (pe_lst (pa_cons pe_str (pa_cons pe_str (pa_cons pe_str pa_nil)))) pa_nil))) (pa_cons pe_int (pa_cons (pe_op op_add (pv 7) (pv 8)) (pa_cons (pe_op op_sub (pe_callB call_len_seq (by rfl) T.n_len (by decide +kernel) (pa_cons (pv 4) pa_nil)) pe_int) pa_nil))))) pa_nil))))))
      (C8.pss_cut (ps_if (pt_cmpR op_eq (pe_dn D_law_draw (hr.mono (by omega)) (by rfl) (pa_cons (pv 0) (pa_cons pe_int pa_nil))) pe_int (nomark _)) (pss_cons (ps_set (i := 15) sc_law_machines.nd rfl (Or.inl rfl) (pe_callB (cr_minN rfl) (by rfl) T.n_min (by decide +kernel) (pa_cons (pv 3) (pa_cons (pe_dn D_law_pick (hr.mono (by omega)) (by rfl) (pa_cons (pv 0) (pa_cons (pe_lst (pa_cons pe_int (pa_cons pe_int (pa_cons pe_int (pa_cons pe_int (pa_cons pe_int (pa_cons pe_int (pa_cons pe_int (pa_cons pe_int pa_nil))))))))) pa_nil))) pa_nil))))
      (pss_cons (ps_set (i := 13) sc_law_machines.nd rfl (Or.inl rfl) (pe_op op_cat (pe_slice sl_list (pv 13) po_none (po_some pe_int)) (pe_slice sl_list (pe_dn D_law_shuffled (hr.mono (by omega)) (by rfl) (pa_cons (pv 0) (pa_cons (pe_listRg rfl (by rfl) T.n_list (prg_1 (by rfl) T.n_range (pe_callB (cr_minN rfl) (by rfl) T.n_min (by decide +kernel) (pa_cons pe_int (pa_cons (pe_op op_oneShl pe_int (pv 10)) pa_nil))))) pa_nil))) po_none (po_some (pv 15)))))
      (pss_one (ps_set (i := 12) sc_law_machines.nd rfl (Or.inl rfl) (pe_dn D_law_chain (hr.mono (by omega)) (by rfl) (pa_cons (pv 0) (pa_cons (pv 4) (pa_cons (pv 8) (pa_cons (pv 10) (pa_cons (pv 13) pa_nil)))))))))) (pss_one (ps_set (i := 12) sc_law_machines.nd rfl (Or.inl rfl) (pe_dn D_law_tree (hr.mono (by omega)) (by rfl) (pa_cons (pv 0) (pa_cons (pv 4) (pa_cons (pv 8) (pa_cons (pv 10) (pa_cons (pv 13) (pa_cons (pe_lst pa_nil) (pa_cons pe_int pa_nil)))))))))))
      (C8.pss_cut (ps_asg (pe_tup (pa_cons (pv 9) (pa_cons (pv 10) (pa_cons (pe_ifExp (pt_cmpR op_eq (pe_dn D_law_draw (hr.mono (by omega)) (by rfl) (pa_cons (pv 0) (pa_cons pe_int pa_nil))) pe_int (nomark _)) (pv 11) (pe_ix ix_list (pv 13) pe_int (fun _ _ => rfl))) (pa_cons (pv 12) pa_nil))))) (pg_sub (pv 5) (pv 8) set_list))
      (pss_cons (ps_expr (pe_bm PySem.F.plainAttrs_list PySem.F.slot_list_append PySem.F.type_list_append mt_append (pv 6) (pa_cons (pe_tup (pa_cons (pe_op op_add_str pe_str (pe_callTy call_str_int (by rfl) T.n_str (by decide +kernel) (pa_cons (pv 8) pa_nil))) (pa_cons (pe_op op_add (pv 7) (pv 8)) pa_nil))) pa_nil)))
      (pss_one (ps_if (pt_cmpR op_eq (pe_dn D_law_draw (hr.mono (by omega)) (by rfl) (pa_cons (pv 0) (pa_cons pe_int pa_nil))) pe_int (nomark _)) (pss_one (ps_expr (pe_bm PySem.F.plainAttrs_list PySem.F.slot_list_append PySem.F.type_list_append mt_append (pv 6) (pa_cons (pe_tup (pa_cons (pe_op op_add_str pe_str (pe_callTy call_str_int (by rfl) T.n_str (by decide +kernel) (pa_cons (pv 8) pa_nil))) (pa_cons (pv 12) pa_nil))) pa_nil)))) pss_nil)))))))))
      (pss_cons (ps_set (i := 6) sc_law_machines.nd rfl (Or.inl rfl) (pe_callTy call_tuple_of (by rfl) T.n_tuple (by decide +kernel) (pa_cons (pe_dn D_law_shuffled (hr.mono (by omega)) (by rfl) (pa_cons (pv 0) (pa_cons (pv 6) pa_nil))) pa_nil)))
      (pss_one (ps_ret (pe_tup (pa_cons pe_str (pa_cons (pe_ix ix_tup (pv 1) pe_int (fun _ _ => rfl)) (pa_cons (pe_callTy call_tuple_of (by rfl) T.n_tuple (by decide +kernel) (pa_cons (pv 4) pa_nil)) (pa_cons (pe_callTy call_tuple_of (by rfl) T.n_tuple (by decide +kernel) (pa_cons (pv 5) pa_nil)) (pa_cons (pe_ix ix_tup (pv 1) pe_int (fun _ _ => rfl)) (pa_cons (pv 6) (pa_cons (pe_ix ix_tup (pv 1) pe_int (fun _ _ => rfl)) pa_nil)))))))))))))))), ?_⟩
  obtain ⟨p, pi, pn, pr, po, v4, v6, xi, vn, vr, xo, rfl, hxo, at_⟩ := hG
  have nlen : vn.length = G.ns.length := by simpa using at_.ln.len
  have rlen : vr.length = G.rs.length := by simpa using at_.lr.len
  refine ⟨_, rfl, p, _, _, _, rfl, rfl, SqT.of at_.top, atI_nat (j := 2) rfl, pn, vn, rfl, .inr (SqT.of at_.hn), fun ln hln => ?_⟩
  have s1 := same_new hln (.lst vn)
  have hd1 := hd.same s1
  obtain ⟨a1, a2⟩ := hd.new hln
  refine ⟨_, rfl, p, _, _, _, rfl, rfl, SqT.of (s1 _ _ at_.top), atI_nat (j := 3) rfl, pr, vr, rfl, .inr (SqT.of (s1 _ _ at_.hr)), fun lr hlr => ?_⟩
  have s2 := s1.trans (same_new hlr (.lst vr))
  obtain ⟨b1, b2⟩ := hd1.new hlr
  have nlr : lr ≠ ln := (ne_of_none upd_same hlr).symm
  have hd2 := hd1.same (same_new hlr (.lst vr))
  refine ⟨_, rfl, p, _, _, _, rfl, rfl, SqT.of (s2 _ _ at_.top), atI_nat (j := 5) rfl, po, xo, rfl, .inr (SqT.of (s2 _ _ at_.ho)), fun lo hlo => ?_⟩
  have s3 := s2.trans (same_new hlo (.lst xo))
  obtain ⟨c1, c2⟩ := hd2.new hlo
  have nl1 : lo ≠ lr := (ne_of_none upd_same hlo).symm
  have nl2 : lo ≠ ln := (ne_of_none (same_new hlr (.lst vr) _ _ upd_same) hlo).symm
  have mw : MW H (upd (upd (upd H ln (.lst vn)) lr (.lst vr)) lo (.lst xo)) d c ln lr lo G.ns G.rs xo.length := ⟨hd2.same (same_new hlo _), ⟨vn, same_new hlo _ _ _ (same_new hlr _ _ _ upd_same), at_.ln.keep' (.same s3)⟩, ⟨vr, same_new hlo _ _ _ upd_same, at_.lr.keep' (.same s3)⟩, ⟨xo, upd_same, rfl⟩,
    ⟨a1, a2, hln⟩, ⟨b1, b2, s1.free hlr⟩, ⟨c1, c2, s2.free hlo⟩, nlr.symm, nl2.symm, nl1.symm, .of_same s3, .same s3, ok.good, ok.w1, ok.regs⟩
  refine ⟨_, rfl, p, _, _, _, rfl, rfl, SqT.of (s3 _ _ at_.top), atI_nat (j := 1) rfl, pi, xi, rfl, .inr (SqT.of (s3 _ _ at_.hi)), _, _, rfl, rfl, ?_⟩
  dsimp only
  rw [show V.int (1 + (xi.length : Int)) = vI (1 + G.ni) from congrArg V.int (by rw [at_.li]; omega)]
  generalize upd (upd (upd H ln (.lst vn)) lr (.lst vr)) lo (.lst xo) = H3 at mw s3 ⊢
  obtain ⟨vr3, er3, lr3, _⟩ := mw.ar.get
  refine ⟨_, rfl, _, rfl, lr, vr3, rfl, .inl (SqL.of er3), many, vr3.length, rfl, ((min many vr3.length : Nat) : Int), rfl, (i62 (by omega)).1, (i62 (by omega)).2, for_it walk_range (fun i σ' H' => ∃ (v8 v9 v10 v11 v12 v13 v14 v15 : Option V) (ns : List Nd) (rs : List (Str × Nat × Nat × Nat)) (no : Nat), σ' = [some (.ref d), some (.ref p), some (vI many), some (.int 16), some (.ref ln), some (.ref lr), some (.ref lo), some (vI (1 + G.ni)), v8, v9, v10, v11, v12, v13, v14, v15, none] ∧
      MW H H' d c ln lr lo ns rs no ∧ ns.length ≤ 100 + 50 * i ∧ rs.length = G.rs.length ∧ no ≤ 20 + 2 * i)
    ⟨_, _, _, _, _, _, _, _, _, _, _, rfl, mw, hn1, rfl, hxo⟩ (fun _ _ _ _ _ => trivial) (fun i x σ' H4 H5 hi pp y => ?_) (fun σ' H' pp => ?_)⟩
  · obtain ⟨v8, v9, v10, v11, v12, v13, v14, v15, ns, rs, no, rfl, mw, bn, br, bo⟩ := pp
    obtain ⟨rfl, ey⟩ := y
    have hi : i < min many vr3.length := by simpa using hi
    have i3 : i ≤ 3 := by omega
    obtain rfl : x = vI i := by rw [ey]; exact congrArg V.int (by omega)
    clear ey
    obtain ⟨vr, er, lvr, lyr⟩ := mw.ar.get
    obtain ⟨r, q1, hr, hv, hq⟩ := regAt lyr (show i < rs.length by omega)
    obtain ⟨w1, w8, ha, hwr⟩ := mw.ro r (List.mem_of_getElem? hr)
    obtain ⟨p1, p2⟩ := pw8 w8
    refine ⟨_, rfl, _, rfl, lr, vr, _, .ref q1, rfl, rfl, SqL.of er, atI_nat hv, q1, _, rfl, SqT.of hq, rfl, _, _, rfl, _, _, rfl, _, _, rfl, _, _, rfl, rfl, ?_⟩
    refine ⟨_, rfl, d, c, 4, rfl, mw.ds, by decide, by decide, fun u H6 r0 r1 hd6 k6 => ?_⟩
    obtain ⟨u, rfl⟩ := Int.eq_ofNat_of_zero_le r0
    have mw6 := mw.draw hd6 k6
    have i6 := i62 (n := 1 + u) (by omega)
    have u1 : (1 + (u : Int)) = ((1 + u : Nat) : Int) := by omega
    refine ⟨_, _, rfl, rfl, 1 + (u : Int), rfl, by rw [u1]; exact i6.1, by rw [u1]; exact i6.2, fun D hD => ?_⟩
    have fD := mw6.free hD
    have u2 : (1 + (u : Int)).toNat = 1 + u := by omega
    refine lc_range (lo := 0) (n := (1 + (u : Int)).toNat) (fun i H' => ∃ acc : List Nat, H' D = some (.lst (acc.map vI)) ∧ acc.length = i ∧ MW H H' d c ln lr lo ns rs no)
      ⟨[], upd_same, rfl, mw6.new hD⟩ (fun j H7 hj pp => ?_) (fun H7 pp => ?_)
    · obtain ⟨acc, eD, la, mw7⟩ := pp
      refine ⟨rfl, _, rfl, _, rfl, r.2.1, rfl, rfl, by omega, d, c, _, rfl, mw7.ds, p1, p2, fun z H8 r0 r1 hd8 k8 => ?_⟩
      obtain ⟨z, rfl⟩ := Int.eq_ofNat_of_zero_le r0
      have e8 := k8 _ _ (by simp [fD.1]) eD
      refine ⟨_, e8, by rw [List.length_map]; exact small1000 (by omega), acc ++ [z], by rw [upd_same, List.map_append]; rfl, by rw [List.length_append, la]; rfl, (mw7.draw hd8 k8).put fD e8⟩
    obtain ⟨ws, eD, lw, mw7⟩ := pp
    rw [u2] at lw
    have fir : V.int (((1 + G.ni : Nat) : Int) + (i : Int)) = vI (1 + G.ni + i) := congrArg V.int (by omega)
    -- two consts and what asks for them
    refine ⟨_, rfl, 2, rfl, D, _, rfl, SqL.of eD, fun S hS => ?_⟩
    rw [show cutV (ws.map vI) none (some 2) = (ws.take 2).map vI from cut_nat ws 2]
    have fS := mw7.free hS
    have nSD : S ≠ D := (ne_of_none eD hS).symm
    refine ⟨S, rfl, ⟨_, SqL.of upd_same⟩, for_it (walk_list (xs := (ws.take 2).map vI)) (fun j σ' H' => ∃ (v14 v15 : Option V) (ns2 : List Nd), σ' = [some (.ref d), some (.ref p), some (vI many), some (.int 16), some (.ref ln), some (.ref lr), some (.ref lo), some (vI (1 + G.ni)), some (vI i), some (.str r.1), some (vI r.2.1), some (vI r.2.2.1), some (vI r.2.2.2), some (.ref D), v14, v15, none] ∧
        MW H H' d c ln lr lo ns2 rs no ∧ ns2.length ≤ ns.length + 2 * j ∧ H' S = some (.lst ((ws.take 2).map vI)) ∧ H' D = some (.lst (ws.map vI)))
      ⟨_, _, ns, rfl, mw7.new hS, Nat.le_refl _, upd_same, same_new hS _ _ _ eD⟩ (fun j σ' H' _ pp => ?_) (fun j x σ' H8 H9 hj pp y => ?_) (fun σ' H8 pp => ?_)⟩
    · obtain ⟨_, _, _, _, _, _, e, _⟩ := pp
      exact SqL.of e
    · obtain ⟨v14, v15, ns2, rfl, mw8, b2, eS, eD8⟩ := pp
      obtain ⟨rfl, ex⟩ := y
      obtain ⟨x, _, rfl⟩ := natAt ex
      have hj2 : j < 2 := by
        rw [List.length_map, List.length_take] at hj
        omega
      obtain ⟨vn8, en8, _⟩ := mw8.an
      refine ⟨_, rfl, .inl ⟨rfl, _, SqL.of en8⟩, _, rfl, _, rfl, (by show 3 ≤ sizeLine; decide), fun t ht => ?_⟩
      obtain ⟨vs, e1, hl, mw9, e2, l2, kk⟩ := mw8.node (n := ⟨"const", r.2.1, [x]⟩) ht (okC w1 w8) sS.1 (by omega)
      have nt : t ≠ S ∧ t ≠ D := ⟨(ne_of_none eS ht).symm, (ne_of_none eD8 ht).symm⟩
      have eS9 := kk _ _ (by simp [fS.2.2.1]) eS
      have eD9 := kk _ _ (by simp [fD.2.2.1]) eD8
      refine ⟨ln, vs, _, rfl, rfl, e1, hl, ?_⟩
      refine ⟨_, rfl, .inl ⟨rfl, _, SqL.of e2⟩, _, rfl, (by show 3 ≤ sizeLine; decide), fun L hL => ?_⟩
      have mwL := mw9.new (o := .lst [.str "eq", .str "lt", .str "eq"]) hL
      have fL := mw9.free hL
      refine ⟨d, c, L, _, rfl, mwL.ds, fL.1, SqL.of upd_same, (by show 1 ≤ 3; decide), (by show 3 ≤ 1000; decide), fun z y HA hy hdA kA => ?_⟩
      obtain ⟨o, ho, rfl⟩ := wordAt (ops := ["eq", "lt", "eq"]) hy
      obtain ⟨o1, o2, o3⟩ := (by decide +kernel : ∀ o ∈ (["eq", "lt", "eq"] : List Str), o ≠ "pick" ∧ o ≠ "const" ∧ PyData.strOk o = true) o ho
      have mwA := mwL.draw hdA kA
      obtain ⟨vA, eA, lA, _⟩ := mwA.an.get
      refine ⟨_, rfl, _, rfl, _, _, rfl, rfl, _, rfl, ln, vA, rfl, .inl (SqL.of eA), _, _, rfl, rfl, (by show 4 ≤ sizeLine; decide), fun t2 ht2 => ?_⟩
      dsimp only
      have l3 : vA.length = ns2.length + 1 := by rw [lA, List.length_append]; rfl
      rw [fir, show V.int ((vA.length : Int) - 1) = vI ns2.length from congrArg V.int (by omega)]
      obtain ⟨vs3, e3, hl3, mwB, e4, l4, kk3⟩ := mwA.node (n := ⟨o, 1, [1 + G.ni + i, ns2.length]⟩) ht2 (ok_of o1 o2 (by decide) (by decide) (by simp)) o3 (by rw [List.length_append]; show ns2.length + 1 ≤ 1000; omega)
      have kS := fun (q : Addr) (o : HO) (h1 : q ≠ d) (h2 : q ≠ ln) (h : _) => kk3 q o (by simp [h2]) (kA q o (by simp [h1]) (same_new hL (.lst [.str "eq", .str "lt", .str "eq"]) q o h))
      exact ⟨ln, vs3, _, rfl, rfl, e3, hl3, _, _, _, rfl, mwB, by rw [List.length_append, List.length_append]; show ns2.length + 1 + 1 ≤ _; omega, kS _ _ fS.1 fS.2.2.1 eS9, kS _ _ fD.1 fD.2.2.1 eD9⟩
    clear mw6 mw7 mw k6 hd6
    obtain ⟨v14, v15, ns2, rfl, mw8, b2, -, eD8⟩ := pp
    rw [List.length_map, List.length_take] at b2
    have hwr8 := (mw8.ro r (List.mem_of_getElem? hr)).2.2.2
    have e4 : xi.length = G.ni := at_.li
    refine ⟨fun σ' H' => ∃ (v14 v15 : Option V) (ns3 : List Nd) (ws3 : List Nat) (D3 : Addr) (k : Nat) (n : Nd), σ' = [some (.ref d), some (.ref p), some (vI many), some (.int 16), some (.ref ln), some (.ref lr), some (.ref lo), some (vI (1 + G.ni)), some (vI i), some (.str r.1), some (vI r.2.1), some (vI r.2.2.1), some (vI k), some (.ref D3), v14, v15, none] ∧
      MW H H' d c ln lr lo ns3 rs no ∧ ns3.length ≤ 100 + 50 * i + 45 ∧ H' D3 = some (.lst (ws3.map vI)) ∧ D3 ≠ d ∧ 1 ≤ ws3.length ∧ ns3[k]? = some n ∧ n.w = r.2.1, ?_, ?_⟩
    · refine ⟨_, rfl, d, c, 3, rfl, mw8.ds, by decide, by decide, fun u H9 r0 r1 hd9 k9 => ?_⟩
      obtain ⟨u, rfl⟩ := Int.eq_ofNat_of_zero_le r0
      have mw9 := mw8.draw hd9 k9
      have eD9 := k9 _ _ (by simp [fD.1]) eD8
      refine ⟨rfl, _, rfl, ite2 (fun _ => ?_) (fun _ => ?_)⟩
      · -- a chain
        refine ⟨_, rfl, _, rfl, (by show 8 ≤ sizeLine; decide), fun L hL => ?_⟩
        have mwL := mw9.new (o := .lst (([1, 2, 4, 7, 8, 8, 9, 13] : List Nat).map vI)) hL
        have fL := mw9.free hL
        have eDL := same_new hL (.lst (([1, 2, 4, 7, 8, 8, 9, 13] : List Nat).map vI)) _ _ eD9
        refine ⟨d, c, L, ([1, 2, 4, 7, 8, 8, 9, 13] : List Nat).map vI, rfl, mwL.ds, fL.1, SqL.of upd_same, (by show 1 ≤ 8; decide), (by show 8 ≤ 1000; decide), fun z y HA hy hdA kA => ?_⟩
        obtain ⟨x, hx, rfl⟩ := natAt hy
        have mwA := mwL.draw hdA kA
        have eDA := kA _ _ (by simp [fD.1]) eDL
        refine ⟨16, x, rfl, ?_⟩
        refine ⟨_, rfl, 1, rfl, D, _, rfl, SqL.of eDA, fun S1 hS1 => ?_⟩
        rw [show cutV (ws.map vI) none (some 1) = (ws.take 1).map vI from cut_nat ws 1]
        have mwB := mwA.new (o := .lst ((ws.take 1).map vI)) hS1
        refine ⟨_, rfl, _, rfl, r.2.1, rfl, rfl, by omega, 16, 2 ^ r.2.1, by simp [vI], ?_⟩
        have m16 : min 16 (2 ^ r.2.1) ≤ 16 := Nat.min_le_left _ _
        generalize min 16 (2 ^ r.2.1) = mm at m16 ⊢
        refine ⟨_, rfl, .of_le (by decide) (by omega) (by decide) (by omega), fun R hR => ?_⟩
        have fR := mwB.free hR
        have mwC := mwB.new (o := .lst (rgV 0 (mm : Int))) hR
        have lR : (rgV 0 (mm : Int)).length = mm := by rw [rgV_length]; omega
        refine ⟨d, c, R, _, rfl, mwC.ds, fR.1, .inl (SqL.of upd_same), by rw [lR]; omega, fun p2 ys HD hperm hp0 hp2 hdD kD => ?_⟩
        have mwD := mwC.draw hdD kD
        obtain ⟨zs, rfl⟩ := natsOf ys fun y hy => by
          obtain ⟨j, _, ej⟩ := List.mem_map.mp (hperm.mem_iff.mp hy)
          exact ⟨j, by rw [← ej]; exact congrArg V.int (by omega)⟩
        have lz : zs.length = mm := by
          have := hperm.length_eq
          rw [List.length_map, lR] at this
          exact this
        refine ⟨_, rfl, _, rfl, p2, _, rfl, SqL.of hp2, fun S2 hS2 => ?_⟩
        rw [cut_nat zs (min 16 x)]
        have fS1 := mwA.free hS1
        have eS1 := kD _ _ (by simp [fS1.1]) (same_new hR (.lst (rgV 0 (mm : Int))) _ _ upd_same)
        have mwE := mwD.new (o := .lst ((zs.take (min 16 x)).map vI)) hS2
        refine ⟨S1, S2, _, _, rfl, rfl, same_new hS2 _ _ _ eS1, upd_same, le1000 (by rw [List.length_map, List.length_map, List.length_take, List.length_take]; omega), fun W hW => ?_⟩
        rw [← List.map_append]
        have fW := mwE.free hW
        have mwF := mwE.new (o := .lst ((ws.take 1 ++ zs.take (min 16 x)).map vI)) hW
        have lW : (ws.take 1 ++ zs.take (min 16 x)).length ≤ 17 ∧ 1 ≤ (ws.take 1 ++ zs.take (min 16 x)).length := by
          rw [List.length_append, List.length_take, List.length_take]
          omega
        generalize ws.take 1 ++ zs.take (min 16 x) = ws3 at mwF lW ⊢
        obtain ⟨vn9, en9, _⟩ := mwF.an
        refine ⟨_, rfl, _, rfl, _, rfl, _, rfl, _, rfl, d, c, ln, W, r.2.1, i, ws3, ns2, rfl, mwF.ds, mwF.an, upd_same, mwF.gd, mwF.h1, hwr8, mwF.fn.1, mwF.fn.2.1, fW.1, fW.2.2.1, w1, w8, lW.2, by omega, by omega, fun k n ns' HG dsG aG gG hk hn hlen pre kG => ?_⟩
        exact ⟨_, _, ns', ws3, W, k, n, rfl, mwF.grow (S := [d, ln]) kG (by simp) (kG.tup2 mwF.ds en9) dsG aG gG pre, by omega, kG _ _ (by simp [fW.1, fW.2.2.1]) upd_same, fW.1, lW.2, hk, hn⟩
      · -- a tree
        refine ⟨_, rfl, _, rfl, _, rfl, _, rfl, _, rfl, Nat.zero_le _, fun M hM => ?_⟩
        have fM := mw9.free hM
        have mwM := mw9.new (o := .lst []) hM
        have nMD : M ≠ D := (ne_of_none eD9 hM).symm
        obtain ⟨vn9, en9, _⟩ := mwM.an
        refine ⟨d, c, ln, D, M, r.2.1, i, 3, ws, [], ns2, rfl, by decide, ⟨mwM.ds, mwM.an, same_new hM _ _ _ eD9, upd_same, mwM.gd, mwM.h1, hwr8, fun m hm => (by cases hm), mwM.fn.1, mwM.fn.2.1, fD.1, fM.1, fM.2.1, fD.2.2.1, nMD.symm, fM.2.2.1.symm⟩, w1, w8, by omega, by omega, by omega, by show 0 + 16 ≤ 900; decide, fun k n ns' ms' HG twG hk hn b1 b2 pz kG => ?_⟩
        have ktG : KeepT (upd H9 M (.lst [])) HG := kG.tups fun b hb => by
          rcases List.mem_cons.mp hb with e | hb
          · rw [e]; exact mwM.ds.at_
          · rcases List.mem_cons.mp hb with e | hb
            · rw [e]; exact ⟨_, en9⟩
            · rw [List.mem_singleton.mp hb]; exact ⟨_, upd_same⟩
        exact ⟨_, _, ns', ws, D, k, n, rfl, mwM.grow (S := [d, ln, M]) kG (fun b hb => by
          rcases List.mem_cons.mp hb with e | hb
          · exact .inl e
          · rcases List.mem_cons.mp hb with e | hb
            · exact .inr (.inl e)
            · rw [List.mem_singleton.mp hb]; exact .inr (.inr ⟨fM.2.2.2.1, fM.2.2.2.2.1, fM.2.2.2.2.2⟩)) ktG twG.ds twG.ac twG.gd pz, by have : ns'.length + 1 ≤ ns2.length + 16 := b1; omega, twG.hw, fD.1, by omega, hk, hn⟩
    clear mw8 eD8 b2 hwr8
    rintro σ' H9 ⟨v14, v15, ns3, ws3, D3, k, n, rfl, mw9, b3, eD9, nDd, lw3, hk, hn⟩
    have hwr9 := (mw9.ro r (List.mem_of_getElem? hr)).2.2.2
    have hk9 := (List.getElem?_eq_some_iff.mp hk).1
    have il : i < rs.length := by omega
    refine ⟨fun σ' H' => ∃ (v9 v10 v11 v13 v14 v15 : Option V) (v12 : V) (rs3 : List (Str × Nat × Nat × Nat)), σ' = [some (.ref d), some (.ref p), some (vI many), some (.int 16), some (.ref ln), some (.ref lr), some (.ref lo), some (vI (1 + G.ni)), some (vI i), v9, v10, v11, some v12, v13, v14, v15, none] ∧
      MW H H' d c ln lr lo ns3 rs3 no ∧ rs3.length = G.rs.length, ?_, ?_⟩
    · refine ⟨_, rfl, _, rfl, _, rfl, d, c, 2, rfl, mw9.ds, by decide, by decide, fun u HA r0 r1 hdA kA => ?_⟩
      have mwA := mw9.draw hdA kA
      refine ⟨rfl, _, rfl, ite2 (fun _ => ?_) (fun _ => ?_)⟩
      · refine ⟨_, rfl, _, rfl, (by show 4 ≤ sizeLine; decide), fun t ht => ?_⟩
        obtain ⟨vs, e1, l1, mwB⟩ := mwA.reg (r := (r.1, r.2.1, r.2.2.1, k)) (i := i) ht w1 w8 hk9 hwr9
        exact ⟨_, rfl, _, rfl, lr, vs, _, i, rfl, rfl, e1, ixNat (by omega), _, _, _, _, _, _, _, rs.set i (r.1, r.2.1, r.2.2.1, k), rfl, mwB, by rw [List.length_set]; exact br⟩
      · refine ⟨_, rfl, D3, _, 0, (ws3.map vI)[0]'(by rw [List.length_map]; omega), rfl, rfl, SqL.of (kA _ _ (by simp [nDd]) eD9), atI_nat (j := 0) (List.getElem?_eq_getElem _), ?_⟩
        rw [List.getElem_map]
        refine ⟨_, rfl, (by show 4 ≤ sizeLine; decide), fun t ht => ?_⟩
        obtain ⟨vs, e1, l1, mwB⟩ := mwA.reg (r := (r.1, r.2.1, ws3[0], k)) (i := i) ht w1 w8 hk9 hwr9
        exact ⟨_, rfl, _, rfl, lr, vs, _, i, rfl, rfl, e1, ixNat (by omega), _, _, _, _, _, _, _, rs.set i (r.1, r.2.1, ws3[0], k), rfl, mwB, by rw [List.length_set]; exact br⟩
    rintro σ' HA ⟨v9, v10, v11, v13, v14, v15, v12, rs3, rfl, mwA, br3⟩
    have lg : ((i : Int)).natAbs.log2 < 1920 := by
      have : i = 0 ∨ i = 1 ∨ i = 2 ∨ i = 3 := by omega
      rcases this with rfl | rfl | rfl | rfl <;> decide +kernel
    have ls : ∀ z : Str, z.length = 2 → z.length + (Str.ofString (toString (i : Int))).length ≤ sizeLine := fun z hz => le1000 (by have := strK i3; omega)
    obtain ⟨vo, eo, lo_⟩ := mwA.ao
    refine ⟨_, rfl, .inl ⟨rfl, _, SqL.of eo⟩, _, rfl, (i : Int), rfl, lg, _, _, rfl, rfl, ls _ (by decide +kernel), _, rfl, _, rfl, _, _, rfl, rfl, (by show 2 ≤ sizeLine; decide), fun t ht => ?_⟩
    dsimp only
    generalize HO.tup [.str ("q@" ++ Str.ofString (toString (i : Int))), .int (((1 + G.ni : Nat) : Int) + (i : Int))] = ob
    have mwB := mwA.new (o := ob) ht
    obtain ⟨vo2, eo2, lo2, mwC⟩ := mwB.out (y := .ref t) (by omega)
    refine ⟨lo, vo2, _, rfl, rfl, eo2, lo2, ?_⟩
    refine ⟨_, rfl, d, c, 2, rfl, mwC.ds, by decide, by decide, fun u HD r0 r1 hdD kD => ?_⟩
    have mwD := mwC.draw hdD kD
    refine ⟨rfl, _, rfl, ite2 (fun _ => ?_) (fun _ => ?_)⟩
    · obtain ⟨vo, eo, lo_⟩ := mwD.ao
      refine ⟨_, rfl, .inl ⟨rfl, _, SqL.of eo⟩, _, rfl, (i : Int), rfl, lg, _, _, rfl, rfl, ls _ (by decide +kernel), _, rfl, (by show 2 ≤ sizeLine; decide), fun t ht => ?_⟩
      dsimp only
      generalize HO.tup [.str ("n@" ++ Str.ofString (toString (i : Int))), v12] = ob
      have mwE := mwD.new (o := ob) ht
      obtain ⟨vo2, eo2, lo2, mwF⟩ := mwE.out (y := .ref t) (by omega)
      exact ⟨lo, vo2, _, rfl, rfl, eo2, lo2, _, _, _, _, _, _, _, _, ns3, rs3, _, rfl, mwF, by omega, br3, by omega⟩
    · exact ⟨_, _, _, _, _, _, _, _, ns3, rs3, _, rfl, mwD, by omega, br3, by omega⟩
  obtain ⟨v8, v9, v10, v11, v12, v13, v14, v15, ns, rs, no, rfl, mw, bn, br, bo⟩ := pp
  have tn : ((min many vr3.length : Nat) : Int).toNat ≤ 3 := by omega
  generalize ((min many vr3.length : Nat) : Int).toNat = tn_ at bn bo tn
  obtain ⟨vo, eo, lo_⟩ := mw.ao
  refine ⟨_, rfl, _, rfl, d, c, lo, vo, rfl, mw.ds, mw.fo.1, .inl (SqL.of eo), by omega, fun S ys H5 hperm hn0 hS hd5 k5 => ⟨S, ys, rfl, .inl ⟨SqL.of hS, fun pS hpS => ?_⟩⟩⟩
  have mw5 := mw.draw hd5 k5
  have mw6 := mw5.new (o := .tup ys) hpS
  obtain ⟨vn, en, lvn, lyn⟩ := mw6.an.get
  obtain ⟨vr, er, lvr, lyr⟩ := mw6.ar.get
  have tp := mw6.kt _ _ at_.top
  refine ⟨_, rfl, p, _, _, _, rfl, rfl, SqT.of tp, atI_nat (j := 1) rfl, _, rfl, ln, vn, rfl, .inl ⟨SqL.of en, fun p1 h1 => ?_⟩⟩
  have s1 := same_new h1 (.tup vn)
  refine ⟨_, rfl, lr, vr, rfl, .inl ⟨SqL.of (s1 _ _ er), fun p2 h2 => ?_⟩⟩
  have s2 := s1.trans (same_new h2 (.tup vr))
  refine ⟨_, rfl, p, _, _, _, rfl, rfl, SqT.of (s2 _ _ tp), atI_nat (j := 4) rfl, _, rfl, _, rfl, p, _, _, _, rfl, rfl, SqT.of (s2 _ _ tp), atI_nat (j := 6) rfl, (by show 7 ≤ sizeLine; decide), fun t ht => ?_⟩
  have s3 := s2.trans (same_new ht (.tup [.str "graph", .ref pi, .ref p1, .ref p2, v4, .ref pS, v6]))
  have q1 := same_new ht (.tup [.str "graph", .ref pi, .ref p1, .ref p2, v4, .ref pS, v6])
  have q2 := (same_new h2 (.tup vr)).trans q1
  refine q _ ⟨G.ni, ns, rs⟩ _ ⟨t, pi, p1, p2, pS, v4, v6, xi, vn, vr, ys, rfl, ⟨upd_same, s3 _ _ (mw6.kt _ _ at_.hi), at_.li, q2 _ _ upd_same, lyn.keep' (.same s3), q1 _ _ upd_same, lyr.keep' (.same s3), s3 _ _ upd_same⟩⟩ ⟨mw6.gd, mw6.h1, mw6.ro, ?_⟩ br (by show ns.length ≤ 900; omega) (mw6.ds.same s3) (mw6.kp.trans (.of_same s3))
  obtain ⟨j, nn, e, _⟩ := mw6.h1
  have := (List.getElem?_eq_some_iff.mp e).1
  show 1 ≤ ns.length
  omega
end
end Bf

set_option Elab.async false
set_option linter.all false
set_option maxRecDepth 100000
set_option maxHeartbeats 4000000
namespace Bf
open PySem PySem.Spec PyProof.Rows L2
theorem addN_len {M : List Nat} {x : Nat} : (addN M x).length ≤ M.length + 1 := by
  unfold addN
  split
  · omega
  · rw [List.length_append]; exact Nat.le_refl _
/-! ### dicts as sets of places -/
def setE (x : Nat) : Key × V := (Sum.inl (x : Int), .bl true)
def IS (H : Hp) (a : Addr) (M : List Nat) : Prop := H a = some (.dK (M.map setE))
theorem setE_key {x y : Nat} : (setE y).1 = Sum.inl (x : Int) ↔ y = x := by
  constructor
  · intro h
    have : ((y : Nat) : Int) = (x : Int) := Sum.inl.inj h
    omega
  · rintro rfl; rfl
theorem put_set (M : List Nat) (x : Nat) : putK (M.map setE) (Sum.inl (x : Int)) (.bl true) = (addN M x).map setE := by
  unfold putK addN
  by_cases h : x ∈ M
  · rw [if_pos h, if_pos]
    · conv => rhs; rw [← List.map_id (M.map setE)]
      refine List.map_congr_left fun kv hkv => ?_
      obtain ⟨y, _, rfl⟩ := List.mem_map.mp hkv
      by_cases e : (setE y).1 = Sum.inl (x : Int)
      · rw [if_pos e]; rfl
      · rw [if_neg e]; rfl
    · rw [List.any_eq_true]
      exact ⟨setE x, List.mem_map_of_mem h, decide_eq_true rfl⟩
  · rw [if_neg h, if_neg, List.map_append]
    · rfl
    · rw [List.any_eq_true]
      rintro ⟨kv, hkv, q⟩
      obtain ⟨y, hy, rfl⟩ := List.mem_map.mp hkv
      exact h (setE_key.mp (of_decide_eq_true q) ▸ hy)
theorem val_set : ∀ (M : List Nat) (x : Nat), (valV (M.map setE) (Sum.inl (x : Int))).isSome = decide (x ∈ M)
  | [], x => by rw [List.map_nil, valV_nil]; simp
  | y :: M, x => by
    rw [List.map_cons]
    by_cases e : (setE y).1 = (Sum.inl (x : Int) : Key)
    · rw [valV_pos e]
      have : y = x := setE_key.mp e
      simp [this]
    · rw [valV_neg e, val_set M x]
      have : ¬ x = y := fun q => e (setE_key.mpr q.symm)
      simp [this]
theorem IS.keys (M : List Nat) : (M.map setE).map (·.1) = (M.map fun x : Nat => (x : Int)).map Sum.inl := by rw [List.map_map, List.map_map]; rfl
theorem IS.get {H : Hp} {a : Addr} {M : List Nat} (h : IS H a M) (x : Nat) : DGet H a (vI x) (valV (M.map setE) (Sum.inl (x : Int))) := DGet.k (k := Sum.inl (x : Int)) h
theorem IS.put {H : Hp} {a : Addr} {M : List Nat} (h : IS H a M) (x : Nat) (hl : M.length ≤ 2000) : DPut H a (vI x) (.bl true) (upd H a (.dK ((addN M x).map setE))) := by
  have := DPut.k (k := Sum.inl (x : Int)) (v := .bl true) h (by rw [List.length_map]; exact Nat.lt_of_le_of_lt hl (by show 2000 < sizeLine; decide))
  rwa [put_set] at this
theorem sortedNat {M : List Nat} {ys : List Int} (h : ys.Perm (M.map fun x : Nat => (x : Int))) (hp : ys.Pairwise (· ≤ ·)) (nd : M.Nodup) : ∃ zs : List Nat, ys.map V.int = zs.map vI ∧ zs.Pairwise (· < ·) ∧ (∀ v, v ∈ zs ↔ v ∈ M) ∧ zs.length = M.length := by
  have e : ∀ y ∈ ys, y = ((y.toNat : Nat) : Int) := fun y hy => by
    obtain ⟨x, _, rfl⟩ := List.mem_map.mp (h.mem_iff.mp hy)
    simp
  have pz : (ys.map Int.toNat).Perm M := by
    have := h.map Int.toNat
    rw [List.map_map] at this
    have q : M.map (Int.toNat ∘ fun x : Nat => (x : Int)) = M := by
      conv => rhs; rw [← List.map_id M]
      exact List.map_congr_left fun x _ => by simp
    rwa [q] at this
  refine ⟨ys.map Int.toNat, ?_, ?_, fun v => pz.mem_iff, pz.length_eq⟩
  · rw [List.map_map]
    exact List.map_congr_left fun y hy => congrArg V.int (e y hy)
  · have n : (ys.map Int.toNat).Pairwise (· ≠ ·) := pz.nodup_iff.mpr nd
    have l : (ys.map Int.toNat).Pairwise (· ≤ ·) := List.pairwise_map.mpr (hp.imp fun h => Int.toNat_le_toNat h)
    exact (l.and n).imp fun h => Nat.lt_of_le_of_ne h.1 h.2
/-! ### the least width -/
def IsW (n w : Nat) : Prop := 1 ≤ w ∧ n ≤ 2 ^ w ∧ (w = 1 ∨ 2 ^ (w - 1) < n)
theorem IsW.le {n w : Nat} (h : w = 1 ∨ 2 ^ (w - 1) < n) : w ≤ n + 1 := by
  rcases h with h | h
  · omega
  · have := Nat.lt_two_pow_self (n := w - 1)
    omega
theorem IsW.uniq {n w v : Nat} (h : IsW n w) (k : IsW n v) : w = v := by
  have one : ∀ {a b : Nat}, IsW n a → IsW n b → ¬ a < b := fun {a b} ha hb hab => by
    rcases hb.2.2 with q | q
    · have := ha.1; omega
    · have := Nat.pow_le_pow_right (n := 2) (by decide) (show a ≤ b - 1 by omega)
      have := ha.2.1
      omega
  have := one h k
  have := one k h
  omega
noncomputable def wOf (n : Nat) : Nat := Classical.epsilon (IsW n)
theorem IsW.is {n w : Nat} (h : IsW n w) : wOf n = w := (Classical.epsilon_spec ⟨w, h⟩ : IsW n (wOf n)).uniq h
def spRoom : Sp := fun vs H Q _ => ∃ n : Nat, vs = [vI n] ∧ n ≤ 1000 ∧ ∀ w, IsW n w → Q (vI w) H
/-! ### what has not been reached -/
def un (M : List Nat) : Nat → Nat
  | 0 => 0
  | n + 1 => un M n + if n ∈ M then 0 else 1
theorem un_le (M : List Nat) (x : Nat) : ∀ n, un (M ++ [x]) n ≤ un M n
  | 0 => Nat.le_refl _
  | n + 1 => by
    have := un_le M x n
    unfold un
    by_cases h : n ∈ M
    · rw [if_pos h, if_pos (by simp [h])]; omega
    · rw [if_neg h]
      split <;> omega
theorem un_lt {M : List Nat} {x : Nat} (h : x ∉ M) : ∀ n, x < n → un (M ++ [x]) n + 1 ≤ un M n
  | 0, k => absurd k (Nat.not_lt_zero _)
  | n + 1, k => by
    unfold un
    by_cases e : x = n
    · subst e
      rw [if_neg h, if_pos (by simp)]
      have := un_le M x x
      omega
    · have := un_lt h n (by omega)
      by_cases q : n ∈ M
      · rw [if_pos q, if_pos (by simp [q])]; omega
      · rw [if_neg q]
        split <;> omega
theorem un_nil : ∀ n, un [] n = n
  | 0 => rfl
  | n + 1 => by
    unfold un
    rw [un_nil n, if_neg (by simp)]
section
variable {P : Program} {w : World} {K : PySem.W.Frag} {mg : Str → Option Value} {base : Heap} {f : Addr} {fd : FuncData}
theorem ok_room (F : Fun K "room_width" "room_width" s_room_width f fd) (T : Txt mg) :
    FnOk P w K mg base CX0 1 f fd ["many"] spRoom := by
  refine F.ok sc_room_width (fun vs H Q E h => ?_) (fun cdv A outer s H vs Q E hr h => ?_)
  · obtain ⟨n, rfl, _⟩ := h
    rfl
  obtain ⟨n, rfl, hn, q⟩ := h
  refine ⟨_, (pss_cons (ps_set (i := 1) sc_room_width.nd rfl (Or.inl rfl) pe_int)
      (pss_cons (ps_while PassesOwn.never (pt_cmpR op_lt (pe_op op_oneShl pe_int (pv 1)) (pv 0) (nomark _)) (pss_one (ps_aug (i := 1) sc_room_width.nd rfl (Or.inl rfl) pe_int ip_add)))
      (pss_one (ps_ret (pv 1))))), ?_⟩
  refine ⟨fun m σ' H' => ∃ w : Nat, σ' = [some (vI n), some (vI w)] ∧ H' = H ∧ 1 ≤ w ∧ (w = 1 ∨ 2 ^ (w - 1) < n) ∧ m = n + 1 - w, ⟨_, 1, rfl, rfl, by decide, .inl rfl, rfl⟩, fun m σ' H' p => ?_⟩
  obtain ⟨w, rfl, rfl, w1, hw, rfl⟩ := p
  have wn := IsW.le hw
  refine ⟨_, rfl, w, rfl, rfl, by omega, _, rfl, _, _, rfl, rfl, _, rfl, ite2 (fun z => ?_) (fun z => ?_)⟩
  · have z1 : ((2 : Int) ^ w) < (n : Int) := of_decide_eq_true z
    have z2 : 2 ^ w < n := by
      have e : ((2 ^ w : Nat) : Int) = (2 : Int) ^ w := by simp
      omega
    have z3 := Nat.lt_two_pow_self (n := w)
    refine ⟨fun σ' H'' => σ' = [some (vI n), some (vI (w + 1))] ∧ H'' = H', fun σ' H'' h => ⟨n + 1 - (w + 1), by omega, w + 1, h.1, h.2, by omega, .inr z2, rfl⟩, ?_⟩
    exact ⟨_, rfl, _, _, rfl, rfl, congrArg (fun z => [some (vI n), some (V.int z)]) (show (w : Int) + 1 = ((w + 1 : Nat) : Int) by omega), rfl⟩
  · have z1 : ¬ ((2 : Int) ^ w) < (n : Int) := fun h => z (decide_eq_true h)
    have z2 : n ≤ 2 ^ w := by
      have e : ((2 ^ w : Nat) : Int) = (2 : Int) ^ w := by simp
      omega
    exact ⟨_, rfl, q w ⟨w1, z2, hw⟩⟩
/-! ### the nodes of a tree of picks -/
def spPicked : Sp := fun vs H Q _ => ∃ (pn : Addr) (vn : List V) (ns : List Nd) (s : Nat), vs = [.ref pn, vI s] ∧ H pn = some (.tup vn) ∧ LayAll H vn (ns.map nodeD) ∧ NdsOk ns ∧ s < ns.length ∧ ns.length ≤ 900 ∧
  ∀ (l : Addr) (zs : List Nat) (H' : Hp), Same H H' → H' l = some (.lst (zs.map vI)) → zs.Pairwise (· < ·) → zs.length ≤ 900 → (∀ x, x ∈ zs ↔ Rch ns s x) → Q (.ref l) H'
theorem same_put {H H' : Hp} {a : Addr} {o : HO} (s : Same H H') (h : H a = none) : Same H (upd H' a o) := fun b u q => by
  rw [upd_ne (ne_of_none q h)]
  exact s b u q
theorem ok_picked (F : Fun K "picked_nodes" "picked_nodes" s_picked_nodes f fd) (T : Txt mg) :
    FnOk P w K mg base CX0 1 f fd ["nodes", "start"] spPicked := by
  refine F.ok sc_picked_nodes (fun vs H Q E h => ?_) (fun cdv A outer s H vs Q E hr h => ?_)
  · obtain ⟨pn, vn, ns, s, rfl, _⟩ := h
    rfl
  obtain ⟨pn, vn, ns, st, rfl, hpn, lay, ok, hs, h900, q⟩ := h
  refine ⟨_, (pss_cons (ps_set (i := 2) sc_picked_nodes.nd rfl (Or.inl rfl) pe_dnewK)
      (pss_cons (ps_set (i := 3) sc_picked_nodes.nd rfl (Or.inl rfl) (pe_lst (pa_cons (pv 1) pa_nil)))
      (pss_cons (ps_while PassesOwn.never (pt_truth (pv 3) (by intro _; rfl)) (pss_cons (ps_set (i := 4) sc_picked_nodes.nd rfl (Or.inl rfl) (pe_bm0 PySem.F.plainAttrs_list PySem.F.slot_list_pop PySem.F.type_list_pop mt_pop (pv 3)))
      (pss_one (ps_if (pt_cmp (pc_dnotin (hu_of hr) (pv 4) (pv 2))) (pss_cons (ps_dput (hu_of hr) (pv 2) (pv 4) pe_bl rfl)
      (pss_one (ps_if (pt_cmpR op_eq (pe_ix ix_tup (pe_ix ix_tup (pv 0) (pv 4) (fun _ _ => rfl)) pe_int (fun _ _ => rfl)) pe_str (nomark _)) (pss_one (ps_expr (pe_bm PySem.F.plainAttrs_list PySem.F.slot_list_extend PySem.F.type_list_extend mt_extT (pv 3) (pa_cons (pe_slice sl_tupA (pe_ix ix_tup (pv 0) (pv 4) (fun _ _ => rfl)) (po_some pe_int) po_none) pa_nil)))) pss_nil))) pss_nil))))
      (pss_one (ps_ret (pe_callB (cr_sortedKeysI rfl) (by rfl) T.n_sorted (by decide +kernel) (pa_cons (pv 2) pa_nil))))))), ?_⟩
  refine fun R hR => ?_
  refine ⟨_, rfl, (by show 1 ≤ sizeLine; decide), fun D hD => ?_⟩
  have hD0 : H D = none := (same_new hR (.dK [])).free hD
  have nDR : D ≠ R := (ne_of_none upd_same hD).symm
  refine ⟨fun m σ' H' => ∃ (v4 : Option V) (M T : List Nat), σ' = [some (.ref pn), some (vI st), some (.ref R), some (.ref D), v4] ∧ Same H H' ∧ IS H' R M ∧ H' D = some (.lst (T.map vI)) ∧ DInv ns st M T ∧ M.Nodup ∧ M.length + un M ns.length ≤ ns.length ∧ T.length + 2 * un M ns.length ≤ 2 * ns.length + 1 ∧ m = 3 * un M ns.length + T.length,
    ⟨_, _, [], [st], rfl, (same_new hR _).trans (same_new hD _), same_new hD _ _ _ upd_same, upd_same, .start _ _, by simp, by rw [un_nil]; simp, by rw [un_nil]; show 1 + _ ≤ _; omega, rfl⟩, fun m σ' H' p => ?_⟩
  obtain ⟨v4, M, T, rfl, sm, iR, eD, di, nd, b1, b2, rfl⟩ := p
  refine ⟨_, rfl, !(T.map vI).isEmpty, .inl ⟨_, SqL.of eD, rfl⟩, ?_⟩
  rcases List.eq_nil_or_concat T with rfl | ⟨T', x, e⟩
  · -- done
    refine ⟨_, rfl, R, _, _, rfl, .inl iR, IS.keys M, fun ys p hp hw hn => ?_⟩
    obtain ⟨zs, ez, hz, hm, hl⟩ := sortedNat hp hw nd
    rw [ez]
    exact q p zs _ (sm.trans (same_new hn _)) upd_same hz (by omega) fun x => (hm x).trans (di.done ok x)
  · rw [List.concat_eq_append] at e
    subst e
    have eT : (T' ++ [x]).map vI = T'.map vI ++ [vI x] := by rw [List.map_append]; rfl
    have hx := di.t x (by simp)
    have hx2 := (hx.lt ok hs).1
    have lT : (T' ++ [x]).length = T'.length + 1 := by rw [List.length_append]; rfl
    refine ifY (by rw [eT]; simp) ⟨_, fun _ _ h => h, ?_⟩
    rw [eT] at eD
    refine ⟨_, rfl, .inl ⟨rfl, _, SqL.of eD⟩, D, _, vI x, rfl, rfl, eD, by simp, ?_⟩
    rw [List.dropLast_concat]
    have sm1 := same_put (a := D) (o := .lst (T'.map vI)) sm hD0
    have iR1 : IS (upd H' D (.lst (T'.map vI))) R M := by unfold IS; rw [upd_ne nDR.symm]; exact iR
    generalize hH1 : upd H' D (.lst (T'.map vI)) = H1 at sm1 iR1 ⊢
    have eD1 : H1 D = some (.lst (T'.map vI)) := by rw [← hH1]; exact upd_same
    clear hH1
    refine ⟨_, rfl, _, rfl, R, _, rfl, iR1.get x, _, rfl, ?_⟩
    rw [val_set]
    by_cases hm : x ∈ M
    · rw [decide_eq_true hm]
      exact ⟨_, by omega, _, M, T', rfl, sm1, iR1, eD1, di.skip hm, nd, b1, by omega, rfl⟩
    · rw [decide_eq_false hm]
      have ul := un_lt hm ns.length hx2
      have am : addN M x = M ++ [x] := if_neg hm
      have nd2 : (M ++ [x]).Nodup := am ▸ addN_nodup nd
      have lM : (M ++ [x]).length = M.length + 1 := by rw [List.length_append]; rfl
      refine ⟨_, rfl, _, rfl, R, _, rfl, iR1.put x (by omega), ?_⟩
      rw [am]
      have sm2 := same_put (a := R) (o := .dK ((M ++ [x]).map setE)) sm1 hR
      have eD2 : upd H1 R (.dK ((M ++ [x]).map setE)) D = some (.lst (T'.map vI)) := by rw [upd_ne nDR]; exact eD1
      have iR2 : IS (upd H1 R (.dK ((M ++ [x]).map setE))) R (M ++ [x]) := upd_same
      generalize upd H1 R (.dK ((M ++ [x]).map setE)) = H2 at sm2 eD2 iR2 ⊢
      obtain ⟨n, qn, hn, hv, hq⟩ := nodeAt lay hx2
      refine ⟨_, rfl, _, rfl, pn, vn, _, .ref qn, rfl, rfl, SqT.of (sm2 _ _ hpn), atI_nat hv, qn, _, _, _, rfl, rfl, SqT.of (sm2 _ _ hq), atI_nat (j := 0) rfl, rfl, _, rfl, ite2 (fun z => ?_) (fun z => ?_)⟩
      · have hop : n.op = "pick" := V.str.inj (of_decide_eq_true z)
        obtain ⟨c, a, b, ha, hal, hbl⟩ := (ok x n hn).pick hop
        have cv : cutV (V.str n.op :: vI n.w :: n.args.map vI) (some 3) none = [vI a, vI b] := by
          rw [ha]
          show cutV _ (some ((3 : Nat) : Int)) none = _
          unfold cutV
          rw [HT.sIx_nat, HT.sIx_none]
          rfl
        refine ⟨_, rfl, .inl ⟨rfl, _, SqL.of eD2⟩, _, rfl, _, rfl, pn, vn, _, .ref qn, rfl, rfl, SqT.of (sm2 _ _ hpn), atI_nat hv, 3, rfl, qn, _, rfl, SqT.of (sm2 _ _ hq), fun hw => ?_, fun _ t ht => ?_⟩
        · have h3 := hw.1
          rw [show (some 3 : Option Int) = some ((3 : Nat) : Int) from rfl, HT.sIx_nat, ha] at h3
          exact absurd h3 (by simp)
        rw [cv]
        have sm3 := sm2.trans (same_new ht (.tup [vI a, vI b]))
        have eD3 := same_new ht (.tup [vI a, vI b]) _ _ eD2
        refine ⟨D, t, _, _, rfl, rfl, eD3, SqT.of upd_same, Nat.le_trans (m := 2000) (by rw [List.length_map]; show T'.length + 2 ≤ 2000; omega) (by show 2000 ≤ sizeLine; decide), ?_⟩
        exact ⟨3 * un (M ++ [x]) ns.length + (T' ++ [a, b]).length, by rw [lT, List.length_append]; show _ + (T'.length + 2) < _; omega, _, M ++ [x], T' ++ [a, b], rfl, same_put sm3 hD0, (by unfold IS; rw [upd_ne nDR.symm]; exact same_new ht _ _ _ iR2), by rw [upd_same, List.map_append]; rfl, di.pick hn hop ha, nd2, by omega, by rw [List.length_append]; show T'.length + 2 + _ ≤ _; omega, rfl⟩
      · have hop : ¬ n.op = "pick" := fun e => z (decide_eq_true (congrArg V.str e))
        exact ⟨_, by omega, _, M ++ [x], T', rfl, sm2, iR2, eD2, di.leaf hn hop, nd2, by omega, by omega, rfl⟩
/-! ### the words of a register -/
def isBad (ns : List Nd) (r : Str × Nat × Nat × Nat) (j : Nat) : Prop := Bad ns (own r.2.1 j) r.2.2.2
theorem ownTup {H : Hp} {q : Addr} {wd j : Nat} (h : H q = some (.tup [.str "reg", vI wd, vI j])) : Lay H (.ref q) (nodeD ⟨"reg", wd, [j]⟩) := Lay.mkNode (op := "reg") (w := wd) (args := [j]) h
theorem shN (n : Nd) (h : PyData.strOk n.op = true) : SeqAt.shaped (nodeD n) = true := (sh_node n h).shaped (by decide)
def spWords : Sp := fun vs H Q _ => ∃ (v : V) (G : Gr) (j : Nat) (r : Str × Nat × Nat × Nat), vs = [v, vI j] ∧ GrW H v G ∧ G.Ok ∧ G.rs[j]? = some r ∧ G.ns.length ≤ 900 ∧
  (isBad G.ns r j → ∀ H', Same H H' → Q .non H') ∧
  (¬ isBad G.ns r j → ∀ (l : Addr) (zs : List Nat) (H' : Hp), Same H H' → H' l = some (.lst (zs.map vI)) → zs.Pairwise (· < ·) → zs.length ≤ 900 → (∀ v, v ∈ zs ↔ Cv G.ns r.2.2.2 v) → Q (.ref l) H')
theorem ok_words (F : Fun K "picked_words" "picked_words" s_picked_words f fd) (T : Txt mg) (D_picked_nodes : Dn P w K mg base "picked_nodes" ["nodes", "start"] 1 spPicked) :
    FnOk P w K mg base CX0 2 f fd ["graph", "reg"] spWords := by
  refine F.ok sc_picked_words (fun vs H Q E h => ?_) (fun cdv A outer s H vs Q E hr h => ?_)
  · obtain ⟨v, G, j, r, rfl, _⟩ := h
    rfl
  obtain ⟨v, G, j, r, rfl, hG, ok, hr_, h900, qb, qg⟩ := h
  refine ⟨_, (pss_cons (ps_asg (pv 0) (pg_tup rfl (pgs_cons (pg_name (i := 2) sc_picked_words.nd rfl (Or.inl rfl)) (pgs_cons (pg_name (i := 2) sc_picked_words.nd rfl (Or.inl rfl)) (pgs_cons (pg_name (i := 3) sc_picked_words.nd rfl (Or.inl rfl)) (pgs_cons (pg_name (i := 4) sc_picked_words.nd rfl (Or.inl rfl)) (pgs_cons (pg_name (i := 2) sc_picked_words.nd rfl (Or.inl rfl)) (pgs_cons (pg_name (i := 2) sc_picked_words.nd rfl (Or.inl rfl)) (pgs_cons (pg_name (i := 2) sc_picked_words.nd rfl (Or.inl rfl)) pgs_nil)))))))))
      (pss_cons (ps_set (i := 5) sc_picked_words.nd rfl (Or.inl rfl) pe_dnewK)
      (pss_cons (ps_for PassesOwn.never rfl (pi_list (pe_dn D_picked_nodes (hr.mono (by omega)) (by rfl) (pa_cons (pv 3) (pa_cons (pe_ix ix_tup (pe_ix ix_tup (pv 4) (pv 1) (fun _ _ => rfl)) pe_int (fun _ _ => rfl)) pa_nil)))) (pg_name (i := 6) sc_picked_words.nd rfl (Or.inl rfl)) (pss_cons (ps_set (i := 7) sc_picked_words.nd rfl (Or.inl rfl) (pe_ix ix_tup (pv 3) (pv 6) (fun _ _ => rfl)))
      (pss_one (ps_if (pt_cmpR op_eq (pe_ix ix_tup (pv 7) pe_int (fun _ _ => rfl)) pe_str (nomark _)) (pss_one (ps_dput (hu_of hr) (pv 5) (pe_ix ix_tup (pv 7) pe_int (fun _ _ => rfl)) pe_bl rfl)) (pss_one (ps_if (PW.pt (pw_and (pt_cmpR op_ne (pe_ix ix_tup (pv 7) pe_int (fun _ _ => rfl)) pe_str (nomark _)) (pw_and1 (pt_cmpR (op_neD hr.units) (pv 7) (pe_tup (pa_cons pe_str (pa_cons (pe_ix ix_tup (pe_ix ix_tup (pv 4) (pv 1) (fun _ _ => rfl)) pe_int (fun _ _ => rfl)) (pa_cons (pv 1) pa_nil)))) (nomark _))))) (pss_one (ps_ret pe_non)) pss_nil))))))
      (pss_one (ps_ret (pe_callB (cr_sortedKeysI rfl) (by rfl) T.n_sorted (by decide +kernel) (pa_cons (pv 5) pa_nil))))))), ?_⟩
  obtain ⟨p, pi, pn, pr, po, v4, v6, xi, vn, vr, xo, rfl, at_⟩ := hG
  have hj := (List.getElem?_eq_some_iff.mp hr_).1
  obtain ⟨w1, w8, ha, hw⟩ := ok.regs r (List.mem_of_getElem? hr_)
  obtain ⟨r', q1, er, hv, hq⟩ := regAt at_.lr hj
  rw [hr_] at er
  cases er
  refine ⟨_, rfl, p, _, rfl, SqT.of at_.top, rfl, _, _, rfl, _, _, rfl, _, _, rfl, _, _, rfl, _, _, rfl, _, _, rfl, _, _, rfl, rfl, ?_⟩
  refine fun R hR => ?_
  have s1 := same_new hR (.dK [])
  refine ⟨_, rfl, _, rfl, _, rfl, pr, vr, _, .ref q1, rfl, rfl, SqT.of (s1 _ _ at_.hr), atI_nat hv, q1, _, _, _, rfl, rfl, SqT.of (s1 _ _ hq), atI_nat (j := 3) rfl, pn, vn, G.ns, r.2.2.2, rfl, s1 _ _ at_.hn, at_.ln.keep' (.same s1), ok.good.ok, ha, h900, fun l zs H2 s2 el hzs hzl hz => ?_⟩
  have iR0 : IS H2 R [] := s2 _ _ upd_same
  have s12 := s1.trans s2
  refine ⟨l, rfl, ⟨_, SqL.of el⟩, for_it (walk_list (xs := zs.map vI)) (fun i σ' H' => ∃ (v6' v7 : Option V) (M : List Nat), σ' = [some (.ref p), some (vI j), some v6, some (.ref pn), some (.ref pr), some (.ref R), v6', v7] ∧ Same H H' ∧ H' l = some (.lst (zs.map vI)) ∧ IS H' R M ∧ M.Nodup ∧ M.length ≤ i ∧
      (∀ v, v ∈ M ↔ ∃ k x n, k < i ∧ zs[k]? = some x ∧ G.ns[x]? = some n ∧ n.op = "const" ∧ n.args = [v]) ∧ (∀ k x n, k < i → zs[k]? = some x → G.ns[x]? = some n → n.op = "const" ∨ n.op = "pick" ∨ own r.2.1 j n = true))
    ⟨_, _, [], rfl, s12, el, iR0, by simp, Nat.le_refl _, fun v => ⟨fun h => (by cases h), fun ⟨k, x, n, hk, _⟩ => absurd hk (Nat.not_lt_zero _)⟩, fun k x n hk => absurd hk (Nat.not_lt_zero _)⟩ (fun i σ' H' _ p => ?_) (fun i x σ' H3 H4 hi p y => ?_) (fun σ' H' p => ?_)⟩
  · obtain ⟨_, _, _, _, _, e, _⟩ := p
    exact SqL.of e
  · obtain ⟨v6', v7, M, rfl, sm, el, iR, nd, bl, hM, hC⟩ := p
    obtain ⟨rfl, ex⟩ := y
    obtain ⟨x, hx, rfl⟩ := natAt ex
    rw [List.length_map] at hi
    have rx := (hz x).mp (List.mem_of_getElem? hx)
    have hx2 := (rx.lt ok.good.ok ha).1
    obtain ⟨n, qn, hn, hvn, hqn⟩ := nodeAt at_.ln hx2
    have others : ∀ k x' n', k < i + 1 → zs[k]? = some x' → G.ns[x']? = some n' → (k < i) ∨ (x' = x ∧ n' = n) := fun k x' n' hk hx' hn' => by
      by_cases z : k < i
      · exact .inl z
      · obtain rfl : k = i := by omega
        rw [hx] at hx'
        cases hx'
        rw [hn] at hn'
        cases hn'
        exact .inr ⟨rfl, rfl⟩
    refine ⟨_, rfl, _, rfl, pn, vn, _, .ref qn, rfl, rfl, SqT.of (sm _ _ at_.hn), atI_nat hvn, ?_⟩
    refine ⟨_, rfl, qn, _, _, _, rfl, rfl, SqT.of (sm _ _ hqn), atI_nat (j := 0) rfl, rfl, _, rfl, ite2 (fun z => ?_) (fun z => ?_)⟩
    · have hop : n.op = "const" := V.str.inj (of_decide_eq_true z)
      obtain ⟨v, hav⟩ := (ok.good.ok x n hn).const hop
      rw [hav] at hqn
      refine ⟨_, rfl, _, rfl, qn, _, _, vI v, rfl, rfl, SqT.of (sm _ _ hqn), atI_nat (j := 2) rfl, R, _, rfl, iR.put v (by omega), ?_⟩
      have nlR : l ≠ R := fun e => by rw [e, iR] at el; cases el
      refine ⟨_, _, addN M v, rfl, same_put sm hR, by rw [upd_ne nlR]; exact el, upd_same, addN_nodup nd, ?_, fun v' => ?_, fun k x' n' hk hx' hn' => ?_⟩
      · unfold addN
        split
        · omega
        · rw [List.length_append]; show M.length + 1 ≤ _; omega
      · rw [mem_addN, hM]
        constructor
        · rintro (⟨k, x', n', hk, h1, h2, h3, h4⟩ | rfl)
          · exact ⟨k, x', n', by omega, h1, h2, h3, h4⟩
          · exact ⟨i, x, n, by omega, hx, hn, hop, hav⟩
        · rintro ⟨k, x', n', hk, h1, h2, h3, h4⟩
          rcases others k x' n' hk h1 h2 with q | ⟨rfl, rfl⟩
          · exact .inl ⟨k, x', n', q, h1, h2, h3, h4⟩
          · rw [hav] at h4
            cases h4
            exact .inr rfl
      · rcases others k x' n' hk hx' hn' with q | ⟨rfl, rfl⟩
        · exact hC k x' n' q hx' hn'
        · exact .inl hop
    · have hop : ¬ n.op = "const" := fun e => z (decide_eq_true (congrArg V.str e))
      have hM2 : ∀ v, v ∈ M ↔ ∃ k x n, k < i + 1 ∧ zs[k]? = some x ∧ G.ns[x]? = some n ∧ n.op = "const" ∧ n.args = [v] := fun v => by
        rw [hM]
        constructor
        · rintro ⟨k, x', n', hk, h1, h2, h3, h4⟩
          exact ⟨k, x', n', by omega, h1, h2, h3, h4⟩
        · rintro ⟨k, x', n', hk, h1, h2, h3, h4⟩
          rcases others k x' n' hk h1 h2 with q | ⟨rfl, rfl⟩
          · exact ⟨k, x', n', q, h1, h2, h3, h4⟩
          · exact absurd h3 hop
      refine ⟨_, rfl, qn, _, _, _, rfl, rfl, SqT.of (sm _ _ hqn), atI_nat (j := 0) rfl, rfl, _, rfl, ite2 (fun z2 => ?_) (fun z2 => ?_)⟩
      · refine ⟨_, rfl, _, rfl, _, rfl, pr, vr, _, .ref q1, rfl, rfl, SqT.of (sm _ _ at_.hr), atI_nat hv, q1, _, _, _, rfl, rfl, SqT.of (sm _ _ hq), atI_nat (j := 1) rfl, _, rfl, (by show 3 ≤ sizeLine; decide), fun t ht => ?_⟩
        have s5 := same_new ht (.tup [.str "reg", vI r.2.1, vI j])
        refine ⟨nodeD n, nodeD ⟨"reg", r.2.1, [j]⟩, Lay.dp _ _ (Lay.mkNode (s5 _ _ (sm _ _ hqn))), Lay.dp _ _ (ownTup upd_same), shN n (ok.good.st n (List.mem_of_getElem? hn)), shN _ sS.2.2.1, _, rfl, ite2 (fun z3 => ?_) (fun z3 => ?_)⟩
        · have ow : own r.2.1 j n = false := by
            show PyData.eqv _ _ = false
            simpa using z3
          exact qb ⟨x, n, rx, hn, hop, fun e => (by rw [e, decide_eq_true rfl] at z2; cases z2), ow⟩ _ (sm.trans s5)
        · have ow : own r.2.1 j n = true := by
            show PyData.eqv _ _ = true
            simpa using z3
          exact ⟨_, _, M, rfl, sm.trans s5, s5 _ _ el, s5 _ _ iR, nd, by omega, hM2, fun k x' n' hk hx' hn' => by
            rcases others k x' n' hk hx' hn' with q | ⟨rfl, rfl⟩
            · exact hC k x' n' q hx' hn'
            · exact .inr (.inr ow)⟩
      · have np : n.op = "pick" := by
          by_cases e : n.op = "pick"
          · exact e
          · exact absurd (by rw [decide_eq_false fun q => e (V.str.inj q)]; rfl) z2
        exact ⟨_, _, M, rfl, sm, el, iR, nd, by omega, hM2, fun k x' n' hk hx' hn' => by
          rcases others k x' n' hk hx' hn' with q | ⟨rfl, rfl⟩
          · exact hC k x' n' q hx' hn'
          · exact .inr (.inl np)⟩
  · obtain ⟨v6', v7, M, rfl, sm, el, iR, nd, bl, hM, hC⟩ := p
    rw [List.length_map] at bl hM hC
    have at' : ∀ x, Rch G.ns r.2.2.2 x → ∃ k, k < zs.length ∧ zs[k]? = some x := fun x hx => by
      obtain ⟨k, hk, e⟩ := List.mem_iff_getElem.mp ((hz x).mpr hx)
      exact ⟨k, hk, by rw [List.getElem?_eq_getElem hk, e]⟩
    refine ⟨_, rfl, R, _, _, rfl, .inl iR, IS.keys M, fun ys p hp hw hn => ?_⟩
    obtain ⟨us, eu, hu, hm, hl⟩ := sortedNat hp hw nd
    rw [eu]
    refine qg (fun ⟨x, n, rx, hn, nc, np, ow⟩ => ?_) p us _ (sm.trans (same_new hn _)) upd_same hu (by omega) fun v => ?_
    · obtain ⟨k, hk, e⟩ := at' x rx
      rcases hC k x n hk e hn with q | q | q
      · exact nc q
      · exact np q
      · rw [ow] at q; cases q
    · rw [hm, hM]
      constructor
      · rintro ⟨k, x, n, hk, h1, h2, h3, h4⟩
        exact ⟨x, n, (hz x).mp (List.mem_of_getElem? h1), h2, h3, h4⟩
      · rintro ⟨x, n, rx, h2, h3, h4⟩
        obtain ⟨k, hk, e⟩ := at' x rx
        exact ⟨k, x, n, hk, e, h2, h3, h4⟩
/-! ### the law's words of a register -/
def OldsIs (ns : List Nd) (r : Str × Nat × Nat × Nat) (j : Nat) (zs : List Nat) : Prop := zs.Pairwise (· < ·) ∧ (isBad ns r j → zs = []) ∧ (¬ isBad ns r j → ∀ v, v ∈ zs ↔ v = r.2.2.1 ∨ Cv ns r.2.2.2 v)
theorem OldsIs.uniq {ns : List Nd} {r : Str × Nat × Nat × Nat} {j : Nat} {xs ys : List Nat} (h : OldsIs ns r j xs) (k : OldsIs ns r j ys) : xs = ys := by
  by_cases b : isBad ns r j
  · rw [h.2.1 b, k.2.1 b]
  · exact asc_same h.1 k.1 fun v => (h.2.2 b v).trans (k.2.2 b v).symm
def spOlds : Sp := fun vs H Q _ => ∃ (v : V) (G : Gr) (j : Nat) (r : Str × Nat × Nat × Nat), vs = [v, vI j] ∧ GrW H v G ∧ G.Ok ∧ G.rs[j]? = some r ∧ G.ns.length ≤ 900 ∧
  ∀ (l : Addr) (zs : List Nat) (H' : Hp), Same H H' → H' l = some (.lst (zs.map vI)) → zs.length ≤ 901 → OldsIs G.ns r j zs → Q (.ref l) H'
theorem rgAt {b : Int} {m : Nat} {x : V} (h : (rgV 0 b)[m]? = some x) : x = vI m := by
  unfold rgV at h
  rw [List.getElem?_map] at h
  cases e : (List.range (b - 0).toNat)[m]? with
  | none => rw [e] at h; cases h
  | some k =>
    rw [e] at h
    have hk : k = m := by
      have hm := (List.getElem?_eq_some_iff.mp e).1
      rw [List.getElem?_eq_getElem hm, List.getElem_range] at e
      exact (Option.some.inj e).symm
    subst hk
    exact ((Option.some.inj h).symm).trans (congrArg V.int (by omega))
theorem ok_olds (F : Fun K "_law_olds" "_law_olds" s_law_olds f fd) (T : Txt mg) :
    FnOk P w K mg base CX0 1 f fd ["_law_graph_here", "_law_reg"] spOlds := by
  refine F.ok sc_law_olds (fun vs H Q E h => ?_) (fun cdv A outer s H vs Q E hr h => ?_)
  · obtain ⟨v, G, j, r, rfl, _⟩ := h
    rfl
  obtain ⟨v, G, j, r, rfl, hG, ok, hr_, h900, q⟩ := h
  refine ⟨_, (pss_cons (ps_asg (pe_ix ix_tup (pe_ix ix_tup (pv 0) pe_int (fun _ _ => rfl)) (pv 1) (fun _ _ => rfl)) (pg_tup rfl (pgs_cons (pg_name (i := 2) sc_law_olds.nd rfl (Or.inl rfl)) (pgs_cons (pg_name (i := 3) sc_law_olds.nd rfl (Or.inl rfl)) (pgs_cons (pg_name (i := 4) sc_law_olds.nd rfl (Or.inl rfl)) (pgs_cons (pg_name (i := 5) sc_law_olds.nd rfl (Or.inl rfl)) pgs_nil))))))
      (pss_cons (ps_set (i := 6) sc_law_olds.nd rfl (Or.inl rfl) (pe_disp (pps_cons (pv 5) pe_bl pps_nil) rfl rfl (by simp) (by simp)))
      (pss_cons (ps_set (i := 7) sc_law_olds.nd rfl (Or.inl rfl) (pe_disp (pps_cons (pv 4) pe_bl pps_nil) rfl rfl (by simp) (by simp)))
      (pss_cons (ps_for PassesOwn.never rfl (pi_reversed (by rfl) T.n_reversed (pa_cons (pe_listRg rfl (by rfl) T.n_list (prg_1 (by rfl) T.n_range (pe_op op_add (pv 5) pe_int))) pa_nil)) (pg_name (i := 8) sc_law_olds.nd rfl (Or.inl rfl)) (pss_one (ps_if (pt_cmp (pc_din (hu_of hr) (pv 8) (pv 6))) (pss_cons (ps_set (i := 9) sc_law_olds.nd rfl (Or.inl rfl) (pe_ix ix_tup (pe_ix ix_tup (pv 0) pe_int (fun _ _ => rfl)) (pv 8) (fun _ _ => rfl)))
      (pss_one (ps_if (pt_cmpR op_eq (pe_ix ix_tup (pv 9) pe_int (fun _ _ => rfl)) pe_str (nomark _)) (pss_cons (ps_dput (hu_of hr) (pv 6) (pe_ix ix_tup (pv 9) pe_int (fun _ _ => rfl)) pe_bl rfl)
      (pss_one (ps_dput (hu_of hr) (pv 6) (pe_ix ix_tup (pv 9) pe_int (fun _ _ => rfl)) pe_bl rfl))) (pss_one (ps_if (pt_cmpR op_eq (pe_ix ix_tup (pv 9) pe_int (fun _ _ => rfl)) pe_str (nomark _)) (pss_one (ps_dput (hu_of hr) (pv 7) (pe_ix ix_tup (pv 9) pe_int (fun _ _ => rfl)) pe_bl rfl)) (pss_one (ps_if (pt_cmpR (op_neD hr.units) (pv 9) (pe_tup (pa_cons pe_str (pa_cons (pv 3) (pa_cons (pv 1) pa_nil)))) (nomark _)) (pss_one (ps_ret (pe_lst pa_nil))) pss_nil))))))) pss_nil)))
      (pss_one (ps_ret (pe_callB (cr_sortedKeysI rfl) (by rfl) T.n_sorted (by decide +kernel) (pa_cons (pv 7) pa_nil)))))))), ?_⟩
  obtain ⟨p, pi, pn, pr, po, v4, v6, xi, vn, vr, xo, rfl, at_⟩ := hG
  have hj := (List.getElem?_eq_some_iff.mp hr_).1
  obtain ⟨w1, w8, ha, hw⟩ := ok.regs r (List.mem_of_getElem? hr_)
  obtain ⟨r', q1, er, hv, hq⟩ := regAt at_.lr hj
  rw [hr_] at er
  cases er
  refine ⟨_, rfl, p, _, _, .ref pr, rfl, rfl, SqT.of at_.top, atI_nat (j := 3) rfl, _, rfl, pr, vr, _, .ref q1, rfl, rfl, SqT.of at_.hr, atI_nat hv, q1, _, rfl, SqT.of hq, rfl, _, _, rfl, _, _, rfl, _, _, rfl, _, _, rfl, rfl, ?_⟩
  refine fun R hR => ⟨_, rfl, upd_same, [(Sum.inl (r.2.2.2 : Int), .bl true)], rfl, by show 1 ≤ 15; decide, ?_⟩
  have iR0 : IS (upd (upd H R (.dK [])) R (.dK (mergeK [] [(Sum.inl (r.2.2.2 : Int), V.bl true)]))) R [r.2.2.2] := upd_same
  have s1 : Same H (upd (upd H R (.dK [])) R (.dK (mergeK [] [(Sum.inl (r.2.2.2 : Int), V.bl true)]))) := same_put (same_new hR _) hR
  generalize upd (upd H R (.dK [])) R (.dK (mergeK [] [(Sum.inl (r.2.2.2 : Int), V.bl true)])) = H1 at iR0 s1 ⊢
  refine fun F' hF => ⟨_, rfl, upd_same, [(Sum.inl (r.2.2.1 : Int), .bl true)], rfl, by show 1 ≤ 15; decide, ?_⟩
  have hF0 : H F' = none := s1.free hF
  have nRF : R ≠ F' := ne_of_none iR0 hF
  have iF0 : IS (upd (upd H1 F' (.dK [])) F' (.dK (mergeK [] [(Sum.inl (r.2.2.1 : Int), V.bl true)]))) F' [r.2.2.1] := upd_same
  have s2' : Same H1 (upd (upd H1 F' (.dK [])) F' (.dK (mergeK [] [(Sum.inl (r.2.2.1 : Int), V.bl true)]))) := same_put (same_new hF _) hF
  have iR1 := s2' _ _ iR0
  have s2 := s1.trans s2'
  generalize upd (upd H1 F' (.dK [])) F' (.dK (mergeK [] [(Sum.inl (r.2.2.1 : Int), V.bl true)])) = H2 at iF0 iR1 s2 ⊢
  refine ⟨_, rfl, _, _, rfl, rfl, _, rfl, .of_le (by decide) (by omega) (by decide) (by omega), fun L hL => ?_⟩
  have lx : (rgV 0 ((r.2.2.2 : Int) + 1)).length = r.2.2.2 + 1 := by rw [rgV_length]; omega
  have nLR : L ≠ R := (ne_of_none iR1 hL).symm
  have nLF : L ≠ F' := (ne_of_none iF0 hL).symm
  have s3 := same_new hL (.lst (rgV 0 ((r.2.2.2 : Int) + 1)))
  have hin := ok.good.ok
  generalize hs : r.2.2.2 = st at ha lx s3 iR0 iR1 q ⊢
  refine ⟨L, _, rfl, SqL.of upd_same, for_it walk_rev (fun i σ' H' => ∃ (v8 v9 : Option V) (M Fs : List Nat), σ' = [some (.ref p), some (vI j), some (.str r.1), some (vI r.2.1), some (vI r.2.2.1), some (vI st), some (.ref R), some (.ref F'), v8, v9] ∧ Same H H' ∧ H' L = some (.lst (rgV 0 ((st : Int) + 1))) ∧ IS H' R M ∧ IS H' F' Fs ∧ M.Nodup ∧ Fs.Nodup ∧ M.length ≤ 1 + 2 * i ∧ Fs.length ≤ 1 + i ∧ SInv G.ns st M (st + 1 - i) ∧
      (∀ x ∈ M, st + 1 - i ≤ x → ∀ n, G.ns[x]? = some n → n.op = "const" ∨ n.op = "pick" ∨ own r.2.1 j n = true) ∧ (∀ v, v ∈ Fs ↔ v = r.2.2.1 ∨ ∃ x ∈ M, st + 1 - i ≤ x ∧ ∃ n, G.ns[x]? = some n ∧ n.op = "const" ∧ n.args = [v]))
    ⟨_, _, [st], [r.2.2.1], rfl, s2.trans s3, upd_same, s3 _ _ iR1, s3 _ _ iF0, by simp, by simp, by simp, by simp, .start _ _, fun x hx h => ?_, fun v => ?_⟩ (fun i σ' H' _ p => ?_) (fun i x σ' H3 H4 hi p y => ?_) (fun σ' H' p => ?_)⟩
  · rw [List.mem_singleton.mp hx] at h
    omega
  · rw [List.mem_singleton]
    constructor
    · exact .inl
    · rintro (e | ⟨x, hx, h, _⟩)
      · exact e
      · rw [List.mem_singleton.mp hx] at h
        omega
  · obtain ⟨_, _, _, _, _, _, e, _⟩ := p
    exact SqL.of e
  · obtain ⟨v8, v9, M, Fs, rfl, sm, eL, iR, iF, ndM, ndF, lM, lF, si, hC, hF2⟩ := p
    obtain ⟨rfl, ex⟩ := y
    obtain rfl := rgAt ex
    rw [lx] at hi ⊢
    obtain ⟨k, hk⟩ : ∃ k, k = st + 1 - 1 - i := ⟨_, rfl⟩
    rw [← hk]
    have k1 : st + 1 - i = k + 1 := by omega
    have k2 : st + 1 - (i + 1) = k := by omega
    rw [k1] at si hC hF2
    refine ⟨_, rfl, _, rfl, R, _, rfl, iR.get k, _, rfl, ?_⟩
    rw [val_set]
    by_cases hm : k ∈ M
    · rw [decide_eq_true hm]
      have rk := si.m k hm
      have hk3 := (rk.lt hin ha).1
      obtain ⟨n, qn, hn, hvn, hqn⟩ := nodeAt at_.ln hk3
      refine ⟨_, rfl, p, _, _, .ref pn, rfl, rfl, SqT.of (sm _ _ at_.top), atI_nat (j := 2) rfl, _, rfl, pn, vn, _, .ref qn, rfl, rfl, SqT.of (sm _ _ at_.hn), atI_nat hvn, ?_⟩
      refine ⟨_, rfl, qn, _, _, _, rfl, rfl, SqT.of (sm _ _ hqn), atI_nat (j := 0) rfl, rfl, _, rfl, ite2 (fun z => ?_) (fun z => ?_)⟩
      · have hop : n.op = "pick" := V.str.inj (of_decide_eq_true z)
        obtain ⟨c, a, b, ha3, hak, hbk⟩ := (hin k n hn).pick hop
        rw [ha3] at hqn
        refine ⟨_, rfl, _, rfl, qn, _, _, vI a, rfl, rfl, SqT.of (sm _ _ hqn), atI_nat (j := 3) rfl, R, _, rfl, iR.put a (by omega), ?_⟩
        have sm4 := same_put (a := R) (o := .dK ((addN M a).map setE)) sm hR
        have iR4 : IS (upd H4 R (.dK ((addN M a).map setE))) R (addN M a) := upd_same
        have lM4 : (addN M a).length ≤ M.length + 1 := by
          exact addN_len
        have lM5 : (addN (addN M a) b).length ≤ (addN M a).length + 1 := by
          exact addN_len
        refine ⟨_, rfl, _, rfl, qn, _, _, vI b, rfl, rfl, SqT.of (sm4 _ _ hqn), atI_nat (j := 4) rfl, R, _, rfl, iR4.put b (by omega), ?_⟩
        have old : ∀ x ∈ addN (addN M a) b, k + 1 ≤ x → x ∈ M := fun x hx hkx => by
          rcases mem_addN.mp hx with hx | rfl
          · rcases mem_addN.mp hx with hx | rfl
            · exact hx
            · omega
          · omega
        have up : ∀ x ∈ M, x ∈ addN (addN M a) b := fun x hx => mem_addN.mpr (.inl (mem_addN.mpr (.inl hx)))
        refine ⟨_, _, addN (addN M a) b, Fs, rfl, same_put sm4 hR, by rw [upd_ne nLR, upd_ne nLR]; exact eL, upd_same, (by unfold IS; rw [upd_ne nRF.symm, upd_ne nRF.symm]; exact iF), addN_nodup (addN_nodup ndM), ndF, by omega, by omega, by rw [k2]; exact si.pick hm hn hop ha3 hak hbk, fun x hx hkx n' hn' => ?_, fun v => ?_⟩
        · rw [k2] at hkx
          by_cases e : x = k
          · subst e
            rw [hn] at hn'
            cases hn'
            exact .inr (.inl hop)
          · exact hC x (old x hx (by omega)) (by omega) n' hn'
        · rw [hF2, k2]
          constructor
          · rintro (e | ⟨x, hx, h, n', h1, h2, h3⟩)
            · exact .inl e
            · exact .inr ⟨x, up x hx, by omega, n', h1, h2, h3⟩
          · rintro (e | ⟨x, hx, h, n', h1, h2, h3⟩)
            · exact .inl e
            · by_cases e : x = k
              · subst e
                rw [hn] at h1
                cases h1
                rw [hop] at h2
                exact absurd h2.symm sN.1
              · exact .inr ⟨x, old x hx (by omega), by omega, n', h1, h2, h3⟩
      have hnp : ¬ n.op = "pick" := fun e => z (decide_eq_true (congrArg V.str e))
      refine ⟨_, rfl, qn, _, _, _, rfl, rfl, SqT.of (sm _ _ hqn), atI_nat (j := 0) rfl, rfl, _, rfl, ite2 (fun z => ?_) (fun z => ?_)⟩
      · have hop : n.op = "const" := V.str.inj (of_decide_eq_true z)
        obtain ⟨v, hav⟩ := (hin k n hn).const hop
        rw [hav] at hqn
        have lF4 : (addN Fs v).length ≤ Fs.length + 1 := by
          exact addN_len
        refine ⟨_, rfl, _, rfl, qn, _, _, vI v, rfl, rfl, SqT.of (sm _ _ hqn), atI_nat (j := 2) rfl, F', _, rfl, iF.put v (by omega), ?_⟩
        refine ⟨_, _, M, addN Fs v, rfl, same_put sm hF0, by rw [upd_ne nLF]; exact eL, (by unfold IS; rw [upd_ne nRF]; exact iR), upd_same, ndM, addN_nodup ndF, by omega, by omega, by rw [k2]; exact si.leaf hn hnp, fun x hx hkx n' hn' => ?_, fun v' => ?_⟩
        · rw [k2] at hkx
          by_cases e : x = k
          · subst e
            rw [hn] at hn'
            cases hn'
            exact .inl hop
          · exact hC x hx (by omega) n' hn'
        · rw [mem_addN, hF2, k2]
          constructor
          · rintro ((e | ⟨x, hx, h, n', h1, h2, h3⟩) | rfl)
            · exact .inl e
            · exact .inr ⟨x, hx, by omega, n', h1, h2, h3⟩
            · exact .inr ⟨k, hm, Nat.le_refl _, n, hn, hop, hav⟩
          · rintro (e | ⟨x, hx, h, n', h1, h2, h3⟩)
            · exact .inl (.inl e)
            · by_cases e : x = k
              · subst e
                rw [hn] at h1
                cases h1
                rw [hav] at h3
                cases h3
                exact .inr rfl
              · exact .inl (.inr ⟨x, hx, by omega, n', h1, h2, h3⟩)
      have hnc : ¬ n.op = "const" := fun e => z (decide_eq_true (congrArg V.str e))
      refine ⟨_, rfl, _, rfl, _, rfl, (by show 3 ≤ sizeLine; decide), fun t ht => ?_⟩
      have s5 := same_new ht (.tup [.str "reg", vI r.2.1, vI j])
      refine ⟨nodeD n, nodeD ⟨"reg", r.2.1, [j]⟩, Lay.dp _ _ (Lay.mkNode (s5 _ _ (sm _ _ hqn))), Lay.dp _ _ (ownTup upd_same), shN n (ok.good.st n (List.mem_of_getElem? hn)), shN _ sS.2.2.1, _, rfl, ite2 (fun z3 => ?_) (fun z3 => ?_)⟩
      · have ow : own r.2.1 j n = false := by
          show PyData.eqv _ _ = false
          simpa using z3
        refine ⟨Nat.zero_le _, fun l hl => q l [] _ ((sm.trans s5).trans (same_new hl _)) upd_same (Nat.zero_le _) ⟨.nil, fun _ => rfl, fun h => absurd ⟨k, n, hs ▸ rk, hn, hnc, hnp, ow⟩ h⟩⟩
      · have ow : own r.2.1 j n = true := by
          show PyData.eqv _ _ = true
          simpa using z3
        refine ⟨_, _, M, Fs, rfl, sm.trans s5, s5 _ _ eL, s5 _ _ iR, s5 _ _ iF, ndM, ndF, by omega, by omega, by rw [k2]; exact si.leaf hn hnp, fun x hx hkx n' hn' => ?_, fun v => ?_⟩
        · rw [k2] at hkx
          by_cases e : x = k
          · subst e
            rw [hn] at hn'
            cases hn'
            exact .inr (.inr ow)
          · exact hC x hx (by omega) n' hn'
        · rw [hF2, k2]
          constructor
          · rintro (e | ⟨x, hx, h, n', h1, h2, h3⟩)
            · exact .inl e
            · exact .inr ⟨x, hx, by omega, n', h1, h2, h3⟩
          · rintro (e | ⟨x, hx, h, n', h1, h2, h3⟩)
            · exact .inl e
            · by_cases e : x = k
              · subst e
                rw [hn] at h1
                cases h1
                exact absurd h2 hnc
              · exact .inr ⟨x, hx, by omega, n', h1, h2, h3⟩
    · rw [decide_eq_false hm]
      have ne : ∀ x ∈ M, x ≠ k := fun x hx e => hm (e ▸ hx)
      refine ⟨_, _, M, Fs, rfl, sm, eL, iR, iF, ndM, ndF, by omega, by omega, by rw [k2]; exact si.skip hm, fun x hx hkx n' hn' => ?_, fun v => ?_⟩
      · rw [k2] at hkx
        have := ne x hx
        exact hC x hx (by omega) n' hn'
      · rw [hF2, k2]
        constructor
        · rintro (e | ⟨x, hx, h, n', h1, h2, h3⟩)
          · exact .inl e
          · exact .inr ⟨x, hx, by omega, n', h1, h2, h3⟩
        · rintro (e | ⟨x, hx, h, n', h1, h2, h3⟩)
          · exact .inl e
          · have := ne x hx
            exact .inr ⟨x, hx, by omega, n', h1, h2, h3⟩
  · obtain ⟨v8, v9, M, Fs, rfl, sm, eL, iR, iF, ndM, ndF, lM, lF, si, hC, hF2⟩ := p
    rw [lx] at si hC hF2 lF
    rw [show st + 1 - (st + 1) = 0 by omega] at si hC hF2
    have nb : ¬ isBad G.ns r j := fun ⟨x, n, rx, hn, nc, np, ow⟩ => by
      rcases hC x ((si.done x).mpr (hs ▸ rx)) (Nat.zero_le _) n hn with q | q | q
      · exact nc q
      · exact np q
      · rw [ow] at q; cases q
    refine ⟨_, rfl, F', _, _, rfl, .inl iF, IS.keys Fs, fun ys p hp hw hn => ?_⟩
    obtain ⟨us, eu, hu, hm, hl⟩ := sortedNat hp hw ndF
    rw [eu]
    refine q p us _ (sm.trans (same_new hn _)) upd_same (by omega) ⟨hu, fun b => absurd b nb, fun _ v => ?_⟩
    rw [hm, hF2, hs]
    constructor
    · rintro (e | ⟨x, hx, _, n, h1, h2, h3⟩)
      · exact .inl e
      · exact .inr ⟨x, n, si.m x hx, h1, h2, h3⟩
    · rintro (e | ⟨x, n, rx, h1, h2, h3⟩)
      · exact .inl e
      · exact .inr ⟨x, (si.done x).mpr rx, Nat.zero_le _, n, h1, h2, h3⟩
end
end Bf

set_option Elab.async false
set_option linter.all false
set_option maxRecDepth 100000
set_option maxHeartbeats 4000000
namespace Bf
open PySem PySem.Spec PyProof.Rows L2
/-! ### papers -/
def code (z : Str) (k : Nat) : Nat := if z = "gray" then k ^^^ (k / 2) else if z = "hot" then 2 ^ k else k
noncomputable def widthOf (z : Str) (n : Nat) : Nat := if z = "hot" then n else wOf n
def cD (z : Str) (zs : List Nat) (k : Nat) : PyData := .tuple [.int ((zs.getD k 0 : Nat) : Int), .int ((code z k : Nat) : Int)]
def codesD (z : Str) (zs : List Nat) : PyData := .tuple ((List.range zs.length).map (cD z zs))
noncomputable def rowD (z : Str) (j : Nat) (zs : List Nat) : PyData := .tuple [.int (j : Int), .int ((widthOf z zs.length : Nat) : Int), codesD z zs]
def fit (z : Str) (zs : List Nat) : Bool := decide (1 < zs.length) && (decide (z ≠ "hot") || decide (zs.length ≤ 8))
noncomputable def oldsOf (G : Gr) (j : Nat) : List Nat := Classical.epsilon fun zs => ∃ r, G.rs[j]? = some r ∧ OldsIs G.ns r j zs
theorem oldsOf_eq {G : Gr} {j : Nat} {r : Str × Nat × Nat × Nat} {zs : List Nat} (hr : G.rs[j]? = some r) (h : OldsIs G.ns r j zs) : oldsOf G j = zs := by
  obtain ⟨r', hr', h'⟩ := (Classical.epsilon_spec (p := fun zs => ∃ r, G.rs[j]? = some r ∧ OldsIs G.ns r j zs) ⟨zs, r, hr, h⟩)
  rw [hr] at hr'
  cases hr'
  exact h'.uniq h
noncomputable def rowsD (z : Str) (G : Gr) (n : Nat) : List PyData := ((List.range n).filter fun j => fit z (oldsOf G j)).map fun j => rowD z j (oldsOf G j)
noncomputable def paperD (z : Str) (G : Gr) : PyData := .tuple (if z = "plain" then [] else rowsD z G G.rs.length)
theorem rowsD_succ {z : Str} {G : Gr} {n : Nat} : rowsD z G (n + 1) = if fit z (oldsOf G n) = true then rowsD z G n ++ [rowD z n (oldsOf G n)] else rowsD z G n := by
  unfold rowsD
  rw [List.range_succ, List.filter_append]
  by_cases h : fit z (oldsOf G n) = true
  · rw [if_pos h, List.filter_cons, if_pos h, List.map_append]; rfl
  · rw [if_neg h, List.filter_cons, if_neg h]; simp
theorem rowsD_len (z : Str) (G : Gr) (n : Nat) : (rowsD z G n).length ≤ n := by
  unfold rowsD
  rw [List.length_map]
  have := List.length_filter_le (fun j => fit z (oldsOf G j)) (List.range n)
  rwa [List.length_range] at this
def spRanked : Sp := fun vs H Q _ => ∃ (l : Addr) (zs : List Nat) (z : Str), vs = [.ref l, .str z] ∧ H l = some (.lst (zs.map vI)) ∧ zs.length ≤ 905 ∧
  (z = "hot" → 8 < zs.length → ∀ H', Same H H' → Q .non H') ∧ (¬ (z = "hot" ∧ 8 < zs.length) → ∀ (v : V) (H' : Hp), Same H H' → Lay H' v (.tuple [.int ((widthOf z zs.length : Nat) : Int), codesD z zs]) → Q v H')
def spPaper : Sp := fun vs H Q _ => ∃ (v : V) (G : Gr) (z : Str), vs = [v, .str z] ∧ GrW H v G ∧ G.Ok ∧ G.rs.length ≤ 4 ∧ G.ns.length ≤ 900 ∧
  ∀ (v' : V) (H' : Hp), Same H H' → Lay H' v' (paperD z G) → Q v' H'
theorem inV_nat (x : Nat) : ∀ xs : List Nat, inV (vI x) (xs.map vI) = decide (x ∈ xs)
  | [] => rfl
  | y :: xs => by
    have ih := inV_nat x xs
    show (eqV (vI y) (vI x) || inV (vI x) (xs.map vI)) = _
    rw [ih]
    have e : eqV (vI y) (vI x) = decide (y = x) := by
      show (((y : Nat) : Int) == ((x : Nat) : Int)) = decide (y = x)
      by_cases h : y = x
      · subst h; simp
      · rw [decide_eq_false h]
        exact beq_eq_false_iff_ne.mpr fun e => h (by omega)
    rw [e]
    by_cases q : y = x
    · subst q; simp
    · have : ¬ x = y := fun h => q h.symm
      simp [q, this]
/-- a code more -/
theorem pushCode {H H2 : Hp} {D t : Addr} {zs : List Nat} {z : Str} {i o cv : Nat} {xs : List V} (sm : Same H H2) (hD : H D = none) (e : H2 D = some (.lst xs)) (ly : LayAll H2 xs ((List.range i).map (cD z zs))) (ho : zs[i]? = some o) (hi : i ≤ 1000) (ht : H2 t = none) (hc : cv = code z i) :
    ∃ acc : List V, upd H2 t (.tup [vI o, vI cv]) D = some (.lst acc) ∧ acc.length < sizeLine ∧ Same H (upd (upd H2 t (.tup [vI o, vI cv])) D (.lst (acc ++ [.ref t]))) ∧ ∃ xs' : List V, upd (upd H2 t (.tup [vI o, vI cv])) D (.lst (acc ++ [.ref t])) D = some (.lst xs') ∧ LayAll (upd (upd H2 t (.tup [vI o, vI cv])) D (.lst (acc ++ [.ref t]))) xs' ((List.range (i + 1)).map (cD z zs)) := by
  have s1 := same_new ht (.tup [vI o, vI cv])
  have len := ly.len
  rw [List.length_map, List.length_range] at len
  have kt : KeepT (upd H2 t (.tup [vI o, vI cv])) (upd (upd H2 t (.tup [vI o, vI cv])) D (.lst (xs ++ [.ref t]))) := .lst (s1 _ _ e)
  refine ⟨xs, s1 _ _ e, by rw [len]; exact small1000 hi, same_put (sm.trans s1) hD, _, upd_same, ?_⟩
  rw [List.range_succ, List.map_append]
  have l1 : Lay (upd H2 t (.tup [vI o, vI cv])) (.ref t) (cD z zs i) := by
    unfold cD
    rw [List.getD_eq_getElem?_getD, ho, ← hc]
    exact .tup upd_same (.cons (.int _) (.cons (.int _) .nil))
  exact ((ly.keep' (.same s1)).snoc l1).keep' kt
theorem layRow {H : Hp} {xs : List V} {z : Str} {zs : List Nat} {T t : Addr} {w : Nat} (ly : LayAll H xs ((List.range zs.length).map (cD z zs))) (hT : H T = some (.tup xs)) (ht : H t = some (.tup [vI w, .ref T])) (hw : w = widthOf z zs.length) : Lay H (.ref t) (.tuple [.int ((widthOf z zs.length : Nat) : Int), codesD z zs]) := by
  subst hw
  exact .tup ht (.cons (.int _) (.cons (.tup hT ly) .nil))
section
variable {P : Program} {w : World} {K : PySem.W.Frag} {mg : Str → Option Value} {base : Heap} {f : Addr} {fd : FuncData}
theorem ok_ranked {tk : Tok} (F : Fun K "ranked_codes" "ranked_codes" s_ranked_codes f fd) (T : TxtP mg tk) (D_room_width : Dn P w K mg base "room_width" ["many"] 1 spRoom) :
    FnOk P w K mg base CX0 2 f fd ["olds", "style"] spRanked := by
  refine F.ok sc_ranked_codes (fun vs H Q E h => ?_) (fun cdv A outer s H vs Q E hr h => ?_)
  · obtain ⟨l, zs, z, rfl, _⟩ := h
    rfl
  obtain ⟨l, zs, z, rfl, hl, hzl, qn, qs⟩ := h
  refine ⟨_, (pss_cons (ps_if (pt_cmpR op_eq (pv 1) pe_str (nomark _)) (pss_cons (ps_if (pt_cmpR op_gt (pe_callB call_len_seq (by rfl) T.n_len (by decide +kernel) (pa_cons (pv 0) pa_nil)) (pe_glob (v := .int 8) rfl T.g_MOST_WIDTH ⟨_, rfl⟩) (nomark _)) (pss_one (ps_ret pe_non)) pss_nil)
      (pss_one (ps_ret (pe_tup (pa_cons (pe_callB call_len_seq (by rfl) T.n_len (by decide +kernel) (pa_cons (pv 0) pa_nil)) (pa_cons (pe_callTy call_tuple_of (by rfl) T.n_tuple (by decide +kernel) (pa_cons (pe_lc (own := [("rank", 3), ("old", 4)]) (g := (gTup K 2 (gCons (gName 3) (gCons (gName 4) gNil)))) (tt := tYes) rfl sc_ranked_codes.nd (pi_enumX (by rfl) T.n_enumerate (pa_cons (pv 0) pa_nil)) (blkOk_by (N := ["olds", "style", "width", "rank", "old"]) (sc := defScope s_ranked_codes) (by decide +kernel)) (fun _ _ _ _ _ => (pg_tup rfl (pgs_cons (pg_name (i := 3) sc_ranked_codes.nd rfl (Or.inl rfl)) (pgs_cons (pg_name (i := 4) sc_ranked_codes.nd rfl (Or.inl rfl)) pgs_nil)))) (fun _ _ _ _ _ => pts_nil) (fun _ _ _ _ _ => (pe_tup (pa_cons (pv 4) (pa_cons (pe_op op_oneShl pe_int (pv 3)) pa_nil))))) pa_nil)) pa_nil)))))) pss_nil)
      (pss_cons (ps_set (i := 2) sc_ranked_codes.nd rfl (Or.inl rfl) (pe_dn D_room_width (hr.mono (by omega)) (by rfl) (pa_cons (pe_callB call_len_seq (by rfl) T.n_len (by decide +kernel) (pa_cons (pv 0) pa_nil)) pa_nil)))
      (pss_cons (ps_if (pt_cmpR op_eq (pv 1) pe_str (nomark _)) (pss_one (ps_ret (pe_tup (pa_cons (pv 2) (pa_cons (pe_callTy call_tuple_of (by rfl) T.n_tuple (by decide +kernel) (pa_cons (pe_lc (own := [("rank", 3), ("old", 4)]) (g := (gTup K 2 (gCons (gName 3) (gCons (gName 4) gNil)))) (tt := tYes) rfl sc_ranked_codes.nd (pi_enumX (by rfl) T.n_enumerate (pa_cons (pv 0) pa_nil)) (blkOk_by (N := ["olds", "style", "width", "rank", "old"]) (sc := defScope s_ranked_codes) (by decide +kernel)) (fun _ _ _ _ _ => (pg_tup rfl (pgs_cons (pg_name (i := 3) sc_ranked_codes.nd rfl (Or.inl rfl)) (pgs_cons (pg_name (i := 4) sc_ranked_codes.nd rfl (Or.inl rfl)) pgs_nil)))) (fun _ _ _ _ _ => pts_nil) (fun _ _ _ _ _ => (pe_tup (pa_cons (pv 4) (pa_cons (pe_op op_xorB (pv 3) (pe_op op_halfN (pv 3) pe_int)) pa_nil))))) pa_nil)) pa_nil))))) pss_nil)
      (pss_one (ps_ret (pe_tup (pa_cons (pv 2) (pa_cons (pe_callTy call_tuple_of (by rfl) T.n_tuple (by decide +kernel) (pa_cons (pe_lc (own := [("rank", 3), ("old", 4)]) (g := (gTup K 2 (gCons (gName 3) (gCons (gName 4) gNil)))) (tt := tYes) rfl sc_ranked_codes.nd (pi_enumX (by rfl) T.n_enumerate (pa_cons (pv 0) pa_nil)) (blkOk_by (N := ["olds", "style", "width", "rank", "old"]) (sc := defScope s_ranked_codes) (by decide +kernel)) (fun _ _ _ _ _ => (pg_tup rfl (pgs_cons (pg_name (i := 3) sc_ranked_codes.nd rfl (Or.inl rfl)) (pgs_cons (pg_name (i := 4) sc_ranked_codes.nd rfl (Or.inl rfl)) pgs_nil)))) (fun _ _ _ _ _ => pts_nil) (fun _ _ _ _ _ => (pe_tup (pa_cons (pv 4) (pa_cons (pv 3) pa_nil))))) pa_nil)) pa_nil)))))))), ?_⟩
  have lm : (zs.map vI).length = zs.length := List.length_map ..
  refine ⟨_, rfl, rfl, _, rfl, ite2 (fun z1 => ?_) (fun z1 => ?_)⟩
  · have hz : z = "hot" := V.str.inj (of_decide_eq_true z1)
    refine ⟨_, rfl, l, _, rfl, .inl (SqL.of hl), _, _, rfl, rfl, _, rfl, ite2 (fun z2 => ?_) (fun z2 => ?_)⟩
    · have z3 : (8 : Int) < ((zs.map vI).length : Nat) := of_decide_eq_true z2
      exact qn hz (by omega) H (Same.refl H)
    have z3 : ¬ (8 : Int) < ((zs.map vI).length : Nat) := fun h => z2 (decide_eq_true h)
    refine ⟨_, rfl, l, _, rfl, .inl (SqL.of hl), _, rfl, srcL, l, _, rfl, SqL.of hl, fun D hD => lc_it (walk_enumG srcL (xs := zs.map vI)) (fun i H' => Same H H' ∧ ∃ xs : List V, H' D = some (.lst xs) ∧ LayAll H' xs ((List.range i).map (cD z zs))) ⟨same_new hD _, [], upd_same, .nil⟩ (fun i H' _ p => (p.1.seq (SqL.of hl))) (fun i x H2 H' hi p y => ?_) (fun H' p => ?_)⟩
    · obtain ⟨sm, xs, e, ly⟩ := p
      obtain ⟨T1, x0, y0, rfl, hT, rfl, h1, h2⟩ := y
      cases h1
      obtain ⟨o, ho, rfl⟩ := natAt h2
      have s1 := same_new hT (.tup [vI i, vI o])
      refine ⟨T1, _, rfl, SqT.of upd_same, rfl, _, _, rfl, _, _, rfl, rfl, rfl, _, rfl, _, rfl, i, rfl, rfl, by omega, (by show 2 ≤ sizeLine; decide), fun t ht => ?_⟩
      rw [show V.int ((2 : Int) ^ i) = vI (2 ^ i) from congrArg V.int (by simp)]
      exact pushCode (sm.trans s1) hD (s1 _ _ e) (ly.keep' (.same s1)) ho (by omega) ht (by unfold code; rw [if_neg (by rw [hz]; decide +kernel), if_pos hz])
    · obtain ⟨sm, xs, e, ly⟩ := p
      rw [lm] at ly
      refine ⟨D, xs, rfl, .inl ⟨SqL.of e, fun T1 hT1 => ⟨(by show 2 ≤ sizeLine; decide), fun t ht => ?_⟩⟩⟩
      rw [lm]
      have s1 := same_new hT1 (.tup xs)
      have s2 := same_new ht (.tup [vI zs.length, .ref T1])
      exact qs (fun h => by have := h.2; omega) _ _ ((sm.trans s1).trans s2) (layRow ((ly.keep' (.same s1)).keep' (.same s2)) (s2 _ _ upd_same) upd_same (by unfold widthOf; rw [if_pos hz]))
  have hz : ¬ z = "hot" := fun e => z1 (decide_eq_true (congrArg V.str e))
  refine ⟨_, rfl, l, _, rfl, .inl (SqL.of hl), _, rfl, by rw [lm]; omega, fun w hw => ?_⟩
  rw [lm] at hw
  have ww : w = widthOf z zs.length := by unfold widthOf; rw [if_neg hz, hw.is]
  refine ⟨_, rfl, rfl, _, rfl, ite2 (fun z2 => ?_) (fun z2 => ?_)⟩
  · have hg : z = "gray" := V.str.inj (of_decide_eq_true z2)
    refine ⟨_, rfl, _, rfl, srcL, l, _, rfl, SqL.of hl, fun D hD => lc_it (walk_enumG srcL (xs := zs.map vI)) (fun i H' => Same H H' ∧ ∃ xs : List V, H' D = some (.lst xs) ∧ LayAll H' xs ((List.range i).map (cD z zs))) ⟨same_new hD _, [], upd_same, .nil⟩ (fun i H' _ p => (p.1.seq (SqL.of hl))) (fun i x H2 H' hi p y => ?_) (fun H' p => ?_)⟩
    · obtain ⟨sm, xs, e, ly⟩ := p
      obtain ⟨T1, x0, y0, rfl, hT, rfl, h1, h2⟩ := y
      cases h1
      obtain ⟨o, ho, rfl⟩ := natAt h2
      have s1 := same_new hT (.tup [vI i, vI o])
      refine ⟨T1, _, rfl, SqT.of upd_same, rfl, _, _, rfl, _, _, rfl, rfl, rfl, _, rfl, _, rfl, _, rfl, i, rfl, rfl, i, i / 2, rfl, rfl, (by show 2 ≤ sizeLine; decide), fun t ht => ?_⟩
      exact pushCode (sm.trans s1) hD (s1 _ _ e) (ly.keep' (.same s1)) ho (by omega) ht (by unfold code; rw [if_pos hg])
    · obtain ⟨sm, xs, e, ly⟩ := p
      rw [lm] at ly
      refine ⟨D, xs, rfl, .inl ⟨SqL.of e, fun T1 hT1 => ⟨(by show 2 ≤ sizeLine; decide), fun t ht => ?_⟩⟩⟩
      have s1 := same_new hT1 (.tup xs)
      have s2 := same_new ht (.tup [vI w, .ref T1])
      exact qs (fun h => hz h.1) _ _ ((sm.trans s1).trans s2) (layRow ((ly.keep' (.same s1)).keep' (.same s2)) (s2 _ _ upd_same) upd_same ww)
  have hg : ¬ z = "gray" := fun e => z2 (decide_eq_true (congrArg V.str e))
  refine ⟨_, rfl, _, rfl, srcL, l, _, rfl, SqL.of hl, fun D hD => lc_it (walk_enumG srcL (xs := zs.map vI)) (fun i H' => Same H H' ∧ ∃ xs : List V, H' D = some (.lst xs) ∧ LayAll H' xs ((List.range i).map (cD z zs))) ⟨same_new hD _, [], upd_same, .nil⟩ (fun i H' _ p => (p.1.seq (SqL.of hl))) (fun i x H2 H' hi p y => ?_) (fun H' p => ?_)⟩
  · obtain ⟨sm, xs, e, ly⟩ := p
    obtain ⟨T1, x0, y0, rfl, hT, rfl, h1, h2⟩ := y
    cases h1
    obtain ⟨o, ho, rfl⟩ := natAt h2
    have s1 := same_new hT (.tup [vI i, vI o])
    refine ⟨T1, _, rfl, SqT.of upd_same, rfl, _, _, rfl, _, _, rfl, rfl, rfl, _, rfl, _, rfl, (by show 2 ≤ sizeLine; decide), fun t ht => ?_⟩
    exact pushCode (sm.trans s1) hD (s1 _ _ e) (ly.keep' (.same s1)) ho (by omega) ht (by unfold code; rw [if_neg hg, if_neg hz])
  · obtain ⟨sm, xs, e, ly⟩ := p
    rw [lm] at ly
    refine ⟨D, xs, rfl, .inl ⟨SqL.of e, fun T1 hT1 => ⟨(by show 2 ≤ sizeLine; decide), fun t ht => ?_⟩⟩⟩
    have s1 := same_new hT1 (.tup xs)
    have s2 := same_new ht (.tup [vI w, .ref T1])
    exact qs (fun h => hz h.1) _ _ ((sm.trans s1).trans s2) (layRow ((ly.keep' (.same s1)).keep' (.same s2)) (s2 _ _ upd_same) upd_same ww)
theorem ok_paper (F : Fun K "code_paper" "code_paper" s_code_paper f fd) (T : Txt mg) (D_picked_words : Dn P w K mg base "picked_words" ["graph", "reg"] 2 spWords) (D_ranked_codes : Dn P w K mg base "ranked_codes" ["olds", "style"] 2 spRanked) :
    FnOk P w K mg base CX0 3 f fd ["graph", "style"] spPaper := by
  refine F.ok sc_code_paper (fun vs H Q E h => ?_) (fun cdv A outer s H vs Q E hr h => ?_)
  · obtain ⟨v, G, z, rfl, _⟩ := h
    rfl
  obtain ⟨v, G, z, rfl, hG, ok, hrl, h900, q⟩ := h
  refine ⟨_, (pss_cons (ps_if (pt_cmpR op_eq (pv 1) pe_str (nomark _)) (pss_one (ps_ret (pe_tup pa_nil))) pss_nil)
      (pss_cons (ps_set (i := 2) sc_code_paper.nd rfl (Or.inl rfl) (pe_lst pa_nil))
      (pss_cons (ps_for PassesOwn.never rfl (pi_enumX (by rfl) T.n_enumerate (pa_cons (pe_ix ix_tup (pv 0) pe_int (fun _ _ => rfl)) pa_nil)) (pg_tup rfl (pgs_cons (pg_name (i := 3) sc_code_paper.nd rfl (Or.inl rfl)) (pgs_cons (pg_name (i := 4) sc_code_paper.nd rfl (Or.inl rfl)) pgs_nil))) (pss_cons (ps_set (i := 5) sc_code_paper.nd rfl (Or.inl rfl) (pe_dn D_picked_words (hr.mono (by omega)) (by rfl) (pa_cons (pv 0) (pa_cons (pv 3) pa_nil))))
      (pss_cons (ps_if (pt_cmpR op_isN (pv 5) pe_non (nomark _)) (pss_one ps_continue) pss_nil)
      (C8.pss_cut (ps_set (i := 6) sc_code_paper.nd rfl (Or.inl rfl) (pe_ifExp (pt_cmpR op_in_seq (pe_ix ix_tup (pv 4) pe_int (fun _ _ => rfl)) (pv 5) (by rfl)) (pv 5) (pe_callB cr_sortedI (by rfl) T.n_sorted (by decide +kernel) (pa_cons (pe_op op_cat (pv 5) (pe_lst (pa_cons (pe_ix ix_tup (pv 4) pe_int (fun _ _ => rfl)) pa_nil))) pa_nil))))
      (C8.pss_cut (ps_set (i := 7) sc_code_paper.nd rfl (Or.inl rfl) (pe_ifExp (pt_cmpR op_gt (pe_callB call_len_seq (by rfl) T.n_len (by decide +kernel) (pa_cons (pv 6) pa_nil)) pe_int (nomark _)) (pe_dn D_ranked_codes (hr.mono (by omega)) (by rfl) (pa_cons (pv 6) (pa_cons (pv 1) pa_nil))) pe_non))
      (pss_one (ps_if (pt_cmpR op_notN (pv 7) pe_non (nomark _)) (pss_one (ps_expr (pe_bm PySem.F.plainAttrs_list PySem.F.slot_list_append PySem.F.type_list_append mt_append (pv 2) (pa_cons (pe_tup (pa_cons (pv 3) (pa_cons (pe_ix ix_tup (pv 7) pe_int (fun _ _ => rfl)) (pa_cons (pe_ix ix_tup (pv 7) pe_int (fun _ _ => rfl)) pa_nil)))) pa_nil)))) pss_nil)))))))
      (pss_one (ps_ret (pe_callTy call_tuple_of (by rfl) T.n_tuple (by decide +kernel) (pa_cons (pv 2) pa_nil))))))), ?_⟩
  obtain ⟨p, pi, pn, pr, po, v4, v6, xi, vn, vr, xo, rfl, at_⟩ := hG
  refine ⟨_, rfl, rfl, _, rfl, ite2 (fun z1 => ?_) (fun z1 => ?_)⟩
  · have hz : z = "plain" := V.str.inj (of_decide_eq_true z1)
    refine ⟨Nat.zero_le _, fun t ht => q _ _ (same_new ht _) ?_⟩
    unfold paperD
    rw [if_pos hz]
    exact .tup upd_same .nil
  have hz : ¬ z = "plain" := fun e => z1 (decide_eq_true (congrArg V.str e))
  refine ⟨Nat.zero_le _, fun Pp hPp => ?_⟩
  have s0 := same_new hPp (.lst [])
  have rlen : vr.length = G.rs.length := by simpa using at_.lr.len
  refine ⟨_, rfl, p, _, _, .ref pr, rfl, rfl, SqT.of (s0 _ _ at_.top), atI_nat (j := 3) rfl, srcT, pr, vr, rfl, SqT.of (s0 _ _ at_.hr), for_it (walk_enumG srcT (xs := vr)) (fun i σ' H' => ∃ (v3 v4 v5 v6 v7 : Option V) (xs : List V), σ' = [some (.ref p), some (.str z), some (.ref Pp), v3, v4, v5, v6, v7] ∧ Same H H' ∧ H' Pp = some (.lst xs) ∧ LayAll H' xs (rowsD z G i))
    ⟨_, _, _, _, _, [], rfl, s0, upd_same, .nil⟩ (fun i σ' H' _ pp => ?_) (fun i x σ' H2 H3 hi pp y => ?_) (fun σ' H' pp => ?_)⟩
  · obtain ⟨_, _, _, _, _, _, _, sm, _⟩ := pp
    exact SqT.of (sm _ _ at_.hr)
  · obtain ⟨v3, v4', v5, v6', v7, xs, rfl, sm, eP, ly⟩ := pp
    obtain ⟨T1, x0, y0, rfl, hT, rfl, h1, h2⟩ := y
    cases h1
    obtain ⟨r, q1, hr, hv, hq⟩ := regAt at_.lr (show i < G.rs.length by omega)
    have h2 : vr[i]? = some y0 := h2
    obtain rfl : y0 = .ref q1 := by rw [hv] at h2; exact (Option.some.inj h2).symm
    have sm1 := sm.trans (same_new hT (.tup [V.int (i : Int), .ref q1]))
    have eP1 := same_new hT (.tup [V.int (i : Int), .ref q1]) _ _ eP
    have ly1 := ly.keep' (.same (same_new hT (.tup [V.int (i : Int), .ref q1])))
    refine ⟨T1, _, rfl, SqT.of upd_same, rfl, _, _, rfl, _, _, rfl, rfl, ?_⟩
    generalize upd H2 T1 (.tup [V.int (i : Int), .ref q1]) = H3 at sm1 eP1 ly1 ⊢
    clear ly eP sm hT
    have rl := rowsD_len z G i
    have llen := ly1.len
    refine ⟨_, rfl, _, rfl, .ref p, G, i, r, rfl, ⟨p, pi, pn, pr, po, v4, v6, xi, vn, vr, xo, rfl, at_.keep (.same sm1)⟩, ok, hr, h900, fun bad H5 s5 => ?_, fun good l zs H5 s5 el hz1 hzl hC => ?_⟩
    · refine ⟨_, rfl, rfl, _, rfl, ite2 (fun _ => ?_) (fun h => absurd (decide_eq_true rfl) h)⟩
      have eo := oldsOf_eq hr (zs := []) ⟨.nil, fun _ => rfl, fun h => absurd bad h⟩
      refine ⟨_, _, _, _, _, xs, rfl, sm1.trans s5, s5 _ _ eP1, ?_⟩
      rw [rowsD_succ, eo, if_neg (by unfold fit; simp)]
      exact ly1.keep' (.same s5)
    refine ⟨_, rfl, rfl, _, rfl, ite2 (fun h => absurd (of_decide_eq_true h) (by simp)) (fun _ => ?_)⟩
    have sm5 := sm1.trans s5
    have eP5 := s5 _ _ eP1
    have ly5 := ly1.keep' (.same s5)
    have hPl : Pp ≠ l ∨ True := .inr trivial
    refine ⟨fun σ' H' => ∃ (v7 : Option V) (l2 : Addr) (zs2 : List Nat), σ' = [some (.ref p), some (.str z), some (.ref Pp), some (vI i), some (.ref q1), some (.ref l), some (.ref l2), v7] ∧ Same H H' ∧ H' Pp = some (.lst xs) ∧ LayAll H' xs (rowsD z G i) ∧ H' l2 = some (.lst (zs2.map vI)) ∧ zs2.length ≤ 901 ∧ OldsIs G.ns r i zs2, ?_, ?_⟩
    · refine ⟨_, rfl, q1, _, _, _, rfl, rfl, SqT.of (sm5 _ _ hq), atI_nat (j := 2) rfl, _, rfl, l, _, rfl, .inl (SqL.of el), rfl, ?_, _, rfl, ite2 (fun z2 => ?_) (fun z2 => ?_)⟩
      · exact List.all_eq_true.mpr fun y hy => by
          obtain ⟨k, _, rfl⟩ := List.mem_map.mp hy
          rfl
      · rw [if_neg (by decide), inV_nat] at z2
        have hin : r.2.2.1 ∈ zs := of_decide_eq_true z2
        exact ⟨_, rfl, _, l, zs, rfl, sm5, eP5, ly5, el, by omega, hz1, fun b => absurd b good, fun _ v => ⟨fun hv => .inr ((hC v).mp hv), fun hv => by
          rcases hv with rfl | hv
          · exact hin
          · exact (hC v).mpr hv⟩⟩
      · rw [if_neg (by decide), inV_nat] at z2
        have hin : r.2.2.1 ∉ zs := fun h => z2 (decide_eq_true h)
        refine ⟨_, rfl, _, rfl, q1, _, _, _, rfl, rfl, SqT.of (sm5 _ _ hq), atI_nat (j := 2) rfl, (by show 1 ≤ sizeLine; decide), fun L hL => ?_⟩
        have s6 := same_new hL (.lst [vI r.2.2.1])
        refine ⟨l, L, _, _, rfl, rfl, s6 _ _ el, upd_same, le1000 (by rw [List.length_map]; show zs.length + 1 ≤ 1000; omega), fun L3 hL3 => ?_⟩
        have s7 := same_new hL3 (.lst (zs.map vI ++ [vI r.2.2.1]))
        have el3 : (((zs ++ [r.2.2.1]).map fun k : Nat => (k : Int)).map V.int) = zs.map vI ++ [vI r.2.2.1] := by rw [List.map_map, List.map_append]; rfl
        refine ⟨L3, (zs ++ [r.2.2.1]).map fun k : Nat => (k : Int), rfl, SqL.of (by rw [el3]; exact upd_same), fun ns' p2 hperm hpw hp2 => ?_⟩
        have nd : (zs ++ [r.2.2.1]).Nodup := List.nodup_append.mpr ⟨hz1.imp fun h => Nat.ne_of_lt h, by simp, fun a ha b hb e => hin (by rw [← List.mem_singleton.mp hb, ← e]; exact ha)⟩
        obtain ⟨us, eu, hu, hm, hl⟩ := sortedNat hperm hpw nd
        rw [eu]
        have s8 := (s6.trans s7).trans (same_new hp2 (.lst (us.map vI)))
        refine ⟨_, p2, us, rfl, sm5.trans s8, s8 _ _ eP5, ly5.keep' (.same s8), upd_same, by rw [hl, List.length_append]; show zs.length + 1 ≤ 901; omega, hu, fun b => absurd b good, fun _ v => ?_⟩
        rw [hm, List.mem_append, hC, List.mem_singleton]
        exact Or.comm
    rintro σ' H6 ⟨v7', l2, zs2, rfl, sm6, eP6, ly6, e2, l901, oi⟩
    have eo := oldsOf_eq hr oi
    have lm : (zs2.map vI).length = zs2.length := List.length_map ..
    refine ⟨fun σ' H' => ∃ (w : V), σ' = [some (.ref p), some (.str z), some (.ref Pp), some (vI i), some (.ref q1), some (.ref l), some (.ref l2), some w] ∧ Same H H' ∧ H' Pp = some (.lst xs) ∧ LayAll H' xs (rowsD z G i) ∧ ((fit z zs2 = false ∧ w = .non) ∨ (fit z zs2 = true ∧ Lay H' w (.tuple [.int ((widthOf z zs2.length : Nat) : Int), codesD z zs2]))), ?_, ?_⟩
    · refine ⟨_, rfl, l2, _, rfl, .inl (SqL.of e2), _, _, rfl, rfl, _, rfl, ite2 (fun z3 => ?_) (fun z3 => ?_)⟩
      · have z4 : (1 : Int) < ((zs2.map vI).length : Nat) := of_decide_eq_true z3
        refine ⟨_, rfl, _, rfl, l2, zs2, z, rfl, e2, by omega, fun hhot h8 H7 s7 => ?_, fun hn w H7 s7 lw => ?_⟩
        · exact ⟨_, rfl, sm6.trans s7, s7 _ _ eP6, ly6.keep' (.same s7), .inl ⟨by unfold fit; rw [hhot]; simp; omega, rfl⟩⟩
        · refine ⟨_, rfl, sm6.trans s7, s7 _ _ eP6, ly6.keep' (.same s7), .inr ⟨?_, lw⟩⟩
          unfold fit
          rw [decide_eq_true (show 1 < zs2.length by omega)]
          by_cases hh : z = "hot"
          · rw [decide_eq_true (show zs2.length ≤ 8 from Nat.le_of_not_lt fun h => hn ⟨hh, h⟩)]; simp
          · rw [decide_eq_true hh]; rfl
      · have z4 : ¬ (1 : Int) < ((zs2.map vI).length : Nat) := fun h => z3 (decide_eq_true h)
        exact ⟨_, rfl, sm6, eP6, ly6, .inl ⟨by unfold fit; rw [decide_eq_false (show ¬ 1 < zs2.length by omega)]; rfl, rfl⟩⟩
    rintro σ' H7 ⟨w, rfl, sm7, eP7, ly7, hw⟩
    rcases hw with ⟨hf, rfl⟩ | ⟨hf, lw⟩
    · refine ⟨_, rfl, rfl, _, rfl, ite2 (fun h => absurd h (by rw [decide_eq_true rfl]; decide)) (fun _ => ?_)⟩
      refine ⟨_, _, _, _, _, xs, rfl, sm7, eP7, ?_⟩
      rw [rowsD_succ, eo, if_neg (by rw [hf]; decide)]
      exact ly7
    · obtain ⟨qr, ws, rfl, eqr, lws⟩ := lw.tup_inv
      obtain ⟨w0, u0, rfl, l0, la⟩ := lws.cons_inv
      obtain ⟨w1, u1, rfl, l1, lb⟩ := la.cons_inv
      obtain rfl := lb.nil_inv
      obtain rfl := l0.int_inv
      refine ⟨_, rfl, rfl, _, rfl, ite2 (fun _ => ?_) (fun h => absurd (by rw [decide_eq_false (by simp)]; rfl) h)⟩
      refine ⟨_, rfl, .inl ⟨rfl, _, SqL.of eP7⟩, _, rfl, _, rfl, qr, _, _, _, rfl, rfl, SqT.of eqr, atI_nat (j := 0) rfl, _, rfl, qr, _, _, _, rfl, rfl, SqT.of eqr, atI_nat (j := 1) rfl, (by show 3 ≤ sizeLine; decide), fun t ht => ?_⟩
      have s8 := same_new ht (.tup [vI i, .int ((widthOf z zs2.length : Nat) : Int), w1])
      refine ⟨Pp, xs, _, rfl, rfl, s8 _ _ eP7, small1000 (by omega), _, _, _, _, _, _, rfl, same_put (sm7.trans s8) hPp, upd_same, ?_⟩
      rw [rowsD_succ, eo, if_pos hf]
      have kt : KeepT (upd H7 t (.tup [vI i, .int ((widthOf z zs2.length : Nat) : Int), w1])) (upd (upd H7 t (.tup [vI i, .int ((widthOf z zs2.length : Nat) : Int), w1])) Pp (.lst (xs ++ [.ref t]))) := .lst (s8 _ _ eP7)
      exact ((ly7.keep' (.same s8)).snoc (.tup upd_same (.cons (.int _) (.cons (.int _) (.cons (l1.keep (.same s8)) .nil))))).keep' kt
  · obtain ⟨v3, v4', v5, v6', v7, xs, rfl, sm, eP, ly⟩ := pp
    refine ⟨_, rfl, Pp, xs, rfl, .inl ⟨SqL.of eP, fun t ht => q _ _ (sm.trans (same_new ht _)) ?_⟩⟩
    unfold paperD
    rw [if_neg hz, ← rlen]
    exact .tup upd_same (ly.keep' (.same (same_new ht _)))
theorem ok_lpaper (F : Fun K "_law_paper" "_law_paper" s_law_paper f fd) (T : Txt mg) (D_law_olds : Dn P w K mg base "_law_olds" ["_law_graph_here", "_law_reg"] 1 spOlds) :
    FnOk P w K mg base CX0 2 f fd ["_law_graph_here", "_law_style"] spPaper := by
  refine F.ok sc_law_paper (fun vs H Q E h => ?_) (fun cdv A outer s H vs Q E hr h => ?_)
  · obtain ⟨v, G, z, rfl, _⟩ := h
    rfl
  obtain ⟨v, G, z, rfl, hG, ok, hrl, h900, q⟩ := h
  refine ⟨_, (pss_cons (ps_set (i := 2) sc_law_paper.nd rfl (Or.inl rfl) (pe_lst pa_nil))
      (pss_cons (ps_for PassesOwn.never rfl (pi_range1 rfl T.n_range (pa_cons (pe_callB call_len_seq (by rfl) T.n_len (by decide +kernel) (pa_cons (pe_ix ix_tup (pv 0) pe_int (fun _ _ => rfl)) pa_nil)) pa_nil)) (pg_name (i := 3) sc_law_paper.nd rfl (Or.inl rfl)) (pss_cons (ps_set (i := 4) sc_law_paper.nd rfl (Or.inr rfl) (pe_dn D_law_olds (hr.mono (by omega)) (by rfl) (pa_cons (pv 0) (pa_cons (pv 3) pa_nil))))
      (pss_cons (ps_set (i := 5) sc_law_paper.nd rfl (Or.inl rfl) pe_int)
      (pss_cons (ps_while PassesOwn.never (pt_cmpR op_lt (pe_op op_oneShl pe_int (pv 5)) (pe_callB call_len_seq (by rfl) T.n_len (by decide +kernel) (pa_cons (pv 4) pa_nil)) (nomark _)) (pss_one (ps_aug (i := 5) sc_law_paper.nd rfl (Or.inl rfl) pe_int ip_add)))
      (pss_cons (ps_setLc (i := 6) (own := [("_law_rank", 7)]) (g := gName 7) (tt := tYes) rfl sc_law_paper.nd rfl rfl (sw_true rfl rfl rfl (by decide +kernel)) (pi_range1 rfl T.n_range (pa_cons (pe_callB call_len_seq (by rfl) T.n_len (by decide +kernel) (pa_cons (pv 4) pa_nil)) pa_nil)) (blkOk_by (N := ["_law_graph_here", "_law_style", "_law_rows", "_law_reg", "_law_olds_here", "_law_width", "_law_codes", "_law_rank"]) (sc := defScope s_law_paper) (by decide +kernel)) (fun _ _ _ _ _ => (pg_name (i := 7) sc_law_paper.nd rfl (Or.inl rfl))) (fun _ _ _ _ _ => pts_nil) (fun _ _ _ _ _ => (pe_tup (pa_cons (pe_ix (ix_list : IxR _ (rIxL K)) (pv 4) (pv 7) (fun _ _ => rfl)) (pa_cons (pv 7) pa_nil)))))
      (C8.pss_cut (ps_if (pt_cmpR op_eq (pv 1) pe_str (nomark _)) (pss_one (ps_setLc (i := 6) (own := [("_law_rank", 7)]) (g := gName 7) (tt := tYes) rfl sc_law_paper.nd rfl rfl (sw_true rfl rfl rfl (by decide +kernel)) (pi_range1 rfl T.n_range (pa_cons (pe_callB call_len_seq (by rfl) T.n_len (by decide +kernel) (pa_cons (pv 4) pa_nil)) pa_nil)) (blkOk_by (N := ["_law_graph_here", "_law_style", "_law_rows", "_law_reg", "_law_olds_here", "_law_width", "_law_codes", "_law_rank"]) (sc := defScope s_law_paper) (by decide +kernel)) (fun _ _ _ _ _ => (pg_name (i := 7) sc_law_paper.nd rfl (Or.inl rfl))) (fun _ _ _ _ _ => pts_nil) (fun _ _ _ _ _ => (pe_tup (pa_cons (pe_ix (ix_list : IxR _ (rIxL K)) (pv 4) (pv 7) (fun _ _ => rfl)) (pa_cons (pe_op op_xorB (pv 7) (pe_op op_fdiv (pv 7) pe_int)) pa_nil)))))) (pss_one (ps_if (pt_cmpR op_eq (pv 1) pe_str (nomark _)) (pss_cons (ps_set (i := 5) sc_law_paper.nd rfl (Or.inl rfl) (pe_callB call_len_seq (by rfl) T.n_len (by decide +kernel) (pa_cons (pv 4) pa_nil)))
      (pss_one (ps_setLc (i := 6) (own := [("_law_rank", 7)]) (g := gName 7) (tt := tYes) rfl sc_law_paper.nd rfl rfl (sw_true rfl rfl rfl (by decide +kernel)) (pi_range1 rfl T.n_range (pa_cons (pe_callB call_len_seq (by rfl) T.n_len (by decide +kernel) (pa_cons (pv 4) pa_nil)) pa_nil)) (blkOk_by (N := ["_law_graph_here", "_law_style", "_law_rows", "_law_reg", "_law_olds_here", "_law_width", "_law_codes", "_law_rank"]) (sc := defScope s_law_paper) (by decide +kernel)) (fun _ _ _ _ _ => (pg_name (i := 7) sc_law_paper.nd rfl (Or.inl rfl))) (fun _ _ _ _ _ => pts_nil) (fun _ _ _ _ _ => (pe_tup (pa_cons (pe_ix (ix_list : IxR _ (rIxL K)) (pv 4) (pv 7) (fun _ _ => rfl)) (pa_cons (pe_op op_oneShl pe_int (pv 7)) pa_nil))))))) pss_nil)))
      (pss_one (ps_if (PW.pt (pw_and (pt_cmpR op_gt (pe_callB call_len_seq (by rfl) T.n_len (by decide +kernel) (pa_cons (pv 4) pa_nil)) pe_int (nomark _)) (pw_and1 (PW.pt (pw_or (pt_cmpR op_ne (pv 1) pe_str (nomark _)) (pw_or1 (pt_cmpR op_le (pv 5) pe_int (nomark _)))))))) (pss_one (ps_expr (pe_bm PySem.F.plainAttrs_list PySem.F.slot_list_append PySem.F.type_list_append mt_append (pv 2) (pa_cons (pe_tup (pa_cons (pv 3) (pa_cons (pv 5) (pa_cons (pe_callTy call_tuple_of (by rfl) T.n_tuple (by decide +kernel) (pa_cons (pv 6) pa_nil)) pa_nil)))) pa_nil)))) pss_nil))))))))
      (pss_one (ps_ret (pe_ifExp (pt_cmpR op_eq (pv 1) pe_str (nomark _)) (pe_tup pa_nil) (pe_callTy call_tuple_of (by rfl) T.n_tuple (by decide +kernel) (pa_cons (pv 2) pa_nil))))))), ?_⟩
  obtain ⟨p, pi, pn, pr, po, v4, v6, xi, vn, vr, xo, rfl, at_⟩ := hG
  have rlen : vr.length = G.rs.length := by simpa using at_.lr.len
  refine ⟨Nat.zero_le _, fun Pp hPp => ?_⟩
  have s0 := same_new hPp (.lst [])
  refine ⟨_, rfl, p, _, _, .ref pr, rfl, rfl, SqT.of (s0 _ _ at_.top), atI_nat (j := 3) rfl, pr, vr, rfl, .inr (SqT.of (s0 _ _ at_.hr)), (vr.length : Int), rfl, (i62 (by omega)).1, (i62 (by omega)).2, for_it walk_range (fun i σ' H' => ∃ (v3 v4 v5 v6 : Option V) (xs : List V), σ' = [some (.ref p), some (.str z), some (.ref Pp), v3, v4, v5, v6, none] ∧ Same H H' ∧ H' Pp = some (.lst xs) ∧ LayAll H' xs (rowsD z G i))
    ⟨_, _, _, _, [], rfl, s0, upd_same, .nil⟩ (fun _ _ _ _ _ => trivial) (fun i x σ' H2 H3 hi pp y => ?_) (fun σ' H' pp => ?_)⟩
  · obtain ⟨v3, v4', v5, v6', xs, rfl, sm, eP, ly⟩ := pp
    obtain ⟨rfl, ey⟩ := y
    have hi : i < vr.length := by simpa using hi
    obtain rfl : x = vI i := by rw [ey]; exact congrArg V.int (by omega)
    clear ey
    obtain ⟨r, q1, hr, hv, hq⟩ := regAt at_.lr (show i < G.rs.length by omega)
    have rl := rowsD_len z G i
    have llen := ly.len
    refine ⟨_, rfl, _, rfl, .ref p, G, i, r, rfl, ⟨p, pi, pn, pr, po, v4, v6, xi, vn, vr, xo, rfl, at_.keep (.same sm)⟩, ok, hr, h900, fun l zs H5 s5 el hzl oi => ?_⟩
    have eo := oldsOf_eq hr oi
    have sm5 := sm.trans s5
    have eP5 := s5 _ _ eP
    have ly5 := ly.keep' (.same s5)
    have lm : (zs.map vI).length = zs.length := List.length_map ..
    clear ly eP sm s5
    -- the width
    refine ⟨fun m σ' H' => ∃ w : Nat, σ' = [some (.ref p), some (.str z), some (.ref Pp), some (vI i), some (.ref l), some (vI w), v6', none] ∧ H' = H5 ∧ 1 ≤ w ∧ (w = 1 ∨ 2 ^ (w - 1) < zs.length) ∧ m = zs.length + 1 - w, ⟨_, 1, rfl, rfl, by decide, .inl rfl, rfl⟩, fun m σ' H' pp => ?_⟩
    obtain ⟨w, rfl, rfl, w1, hw, rfl⟩ := pp
    have wn := IsW.le hw
    refine ⟨_, rfl, w, rfl, rfl, by omega, _, rfl, l, _, rfl, .inl (SqL.of el), _, _, rfl, rfl, _, rfl, ite2 (fun z1 => ?_) (fun z1 => ?_)⟩
    · have z2 : ((2 : Int) ^ w) < ((zs.map vI).length : Nat) := of_decide_eq_true z1
      have e : ((2 ^ w : Nat) : Int) = (2 : Int) ^ w := by simp
      have z3 : 2 ^ w < zs.length := by omega
      have z4 := Nat.lt_two_pow_self (n := w)
      refine ⟨fun σ' H'' => σ' = [some (.ref p), some (.str z), some (.ref Pp), some (vI i), some (.ref l), some (vI (w + 1)), v6', none] ∧ H'' = H', fun σ' H'' h => ⟨zs.length + 1 - (w + 1), by omega, w + 1, h.1, h.2, by omega, .inr z3, rfl⟩, ?_⟩
      exact ⟨_, rfl, _, _, rfl, rfl, congrArg (fun u => [some (V.ref p), some (.str z), some (.ref Pp), some (vI i), some (.ref l), some (V.int u), v6', none]) (show (w : Int) + 1 = ((w + 1 : Nat) : Int) by omega), rfl⟩
    have iw : wOf zs.length = w := by
      have z2 : ¬ ((2 : Int) ^ w) < ((zs.map vI).length : Nat) := fun h => z1 (decide_eq_true h)
      have e : ((2 ^ w : Nat) : Int) = (2 : Int) ^ w := by simp
      exact IsW.is ⟨w1, by omega, hw⟩
    -- the codes
    refine ⟨_, rfl, l, _, rfl, .inl (SqL.of el), ((zs.map vI).length : Int), rfl, (i62 (by omega)).1, (i62 (by omega)).2, fun D hD => ?_⟩
    refine lc_range (lo := 0) (n := (zs.map vI).length) (fun k H'' => Same H' H'' ∧ ∃ xs : List V, H'' D = some (.lst xs) ∧ LayAll H'' xs ((List.range k).map (cD "dense" zs))) ⟨same_new hD _, [], upd_same, .nil⟩ (fun k H2 hk pp => ?_) (fun H6 pp => ?_)
    · obtain ⟨s2, ys, e, ly⟩ := pp
      have hk2 : k < zs.length := by omega
      have ho : zs[k]? = some zs[k] := List.getElem?_eq_getElem hk2
      refine ⟨rfl, _, rfl, _, rfl, l, _, _, vI zs[k], rfl, rfl, SqL.of (s2 _ _ el), ?_, _, rfl, (by show 2 ≤ sizeLine; decide), fun t ht => ?_⟩
      · rw [show (0 + (k : Int)) = ((k : Nat) : Int) by omega]
        exact atI_nat (by rw [List.getElem?_map, ho]; rfl)
      rw [show V.int (0 + (k : Int)) = vI k from congrArg V.int (by omega)]
      exact pushCode s2 hD e ly ho (by omega) ht (by unfold code; rw [if_neg (by decide +kernel), if_neg (by decide +kernel)])
    obtain ⟨s6, ys, eD, lyD⟩ := pp
    rw [lm] at lyD
    have sm6 := sm5.trans s6
    have eP6 := s6 _ _ eP5
    have ly6 := ly5.keep' (.same s6)
    have el6 := s6 _ _ el
    refine ⟨fun σ' H' => ∃ (C : Addr) (ys : List V), σ' = [some (.ref p), some (.str z), some (.ref Pp), some (vI i), some (.ref l), some (vI (widthOf z zs.length)), some (.ref C), none] ∧ Same H H' ∧ H' Pp = some (.lst xs) ∧ LayAll H' xs (rowsD z G i) ∧ H' l = some (.lst (zs.map vI)) ∧ H' C = some (.lst ys) ∧ LayAll H' ys ((List.range zs.length).map (cD z zs)), ?_, ?_⟩
    · refine ⟨_, rfl, rfl, _, rfl, ite2 (fun z2 => ?_) (fun z2 => ?_)⟩
      · have hg : z = "gray" := V.str.inj (of_decide_eq_true z2)
        have hh : ¬ z = "hot" := by rw [hg]; decide +kernel
        refine ⟨_, rfl, l, _, rfl, .inl (SqL.of el6), ((zs.map vI).length : Int), rfl, (i62 (by omega)).1, (i62 (by omega)).2, fun D2 hD2 => ?_⟩
        refine lc_range (lo := 0) (n := (zs.map vI).length) (fun k H'' => Same H6 H'' ∧ ∃ xs : List V, H'' D2 = some (.lst xs) ∧ LayAll H'' xs ((List.range k).map (cD z zs))) ⟨same_new hD2 _, [], upd_same, .nil⟩ (fun k H2 hk pp => ?_) (fun H7 pp => ?_)
        · obtain ⟨s2, ys, e, ly⟩ := pp
          have hk2 : k < zs.length := by omega
          have ho : zs[k]? = some zs[k] := List.getElem?_eq_getElem hk2
          refine ⟨rfl, _, rfl, _, rfl, l, _, _, vI zs[k], rfl, rfl, SqL.of (s2 _ _ el6), ?_, _, rfl, _, rfl, ?_⟩
          · rw [show (0 + (k : Int)) = ((k : Nat) : Int) by omega]
            exact atI_nat (by rw [List.getElem?_map, ho]; rfl)
          refine ⟨_, _, rfl, rfl, ⟨by decide, by decide⟩, k, k / 2, congrArg V.int (by omega), congrArg V.int (by omega), (by show 2 ≤ sizeLine; decide), fun t ht => ?_⟩
          exact pushCode s2 hD2 e ly ho (by omega) ht (by unfold code; rw [if_pos hg])
        obtain ⟨s7, ys2, eD2, lyD2⟩ := pp
        rw [lm] at lyD2
        exact ⟨D2, ys2, by unfold widthOf; rw [if_neg hh, iw]; rfl, sm6.trans s7, s7 _ _ eP6, ly6.keep' (.same s7), s7 _ _ el6, eD2, lyD2⟩
      have hg : ¬ z = "gray" := fun e => z2 (decide_eq_true (congrArg V.str e))
      refine ⟨_, rfl, rfl, _, rfl, ite2 (fun z3 => ?_) (fun z3 => ?_)⟩
      · have hh : z = "hot" := V.str.inj (of_decide_eq_true z3)
        refine ⟨_, rfl, l, _, rfl, .inl (SqL.of el6), ?_⟩
        refine ⟨_, rfl, l, _, rfl, .inl (SqL.of el6), ((zs.map vI).length : Int), rfl, (i62 (by omega)).1, (i62 (by omega)).2, fun D2 hD2 => ?_⟩
        refine lc_range (lo := 0) (n := (zs.map vI).length) (fun k H'' => Same H6 H'' ∧ ∃ xs : List V, H'' D2 = some (.lst xs) ∧ LayAll H'' xs ((List.range k).map (cD z zs))) ⟨same_new hD2 _, [], upd_same, .nil⟩ (fun k H2 hk pp => ?_) (fun H7 pp => ?_)
        · obtain ⟨s2, ys, e, ly⟩ := pp
          have hk2 : k < zs.length := by omega
          have ho : zs[k]? = some zs[k] := List.getElem?_eq_getElem hk2
          refine ⟨rfl, _, rfl, _, rfl, l, _, _, vI zs[k], rfl, rfl, SqL.of (s2 _ _ el6), ?_, _, rfl, k, rfl, congrArg V.int (by omega), by omega, (by show 2 ≤ sizeLine; decide), fun t ht => ?_⟩
          · rw [show (0 + (k : Int)) = ((k : Nat) : Int) by omega]
            exact atI_nat (by rw [List.getElem?_map, ho]; rfl)
          rw [show V.int ((2 : Int) ^ k) = vI (2 ^ k) from congrArg V.int (by simp)]
          exact pushCode s2 hD2 e ly ho (by omega) ht (by unfold code; rw [if_neg hg, if_pos hh])
        obtain ⟨s7, ys2, eD2, lyD2⟩ := pp
        rw [lm] at lyD2
        exact ⟨D2, ys2, by unfold widthOf; rw [if_pos hh, ← lm]; rfl, sm6.trans s7, s7 _ _ eP6, ly6.keep' (.same s7), s7 _ _ el6, eD2, lyD2⟩
      · have hh : ¬ z = "hot" := fun e => z3 (decide_eq_true (congrArg V.str e))
        have ec : cD z zs = cD "dense" zs := by
          funext k
          unfold cD code
          rw [if_neg hg, if_neg hh, if_neg (by decide +kernel), if_neg (by decide +kernel)]
        exact ⟨D, ys, by unfold widthOf; rw [if_neg hh, iw]; rfl, sm6, eP6, ly6, el6, eD, by rw [ec]; exact lyD⟩
    clear eP6 ly6 el6 eD lyD sm6 s6 eP5 ly5
    rintro σ' H7 ⟨C, ys, rfl, sm7, eP7, ly7, el7, eC, lyC⟩
    refine (have LA : fit z zs = true → _ := fun hf => ?la; have LN : fit z zs = false → _ := fun hf => ?ln; (⟨_, rfl, l, _, rfl, .inl (SqL.of el7), _, _, rfl, rfl, _, rfl, ite2 (fun y1 => ⟨_, rfl, rfl, _, rfl, ite2 (fun y2 => LA ?f1) (fun y2 => ⟨_, rfl, _, _, rfl, rfl, _, rfl, ite2 (fun y3 => LA ?f2) (fun y3 => LN ?f3)⟩)⟩) (fun y1 => LN ?f4)⟩ : _))
    case la =>
      refine ⟨_, rfl, .inl ⟨rfl, _, SqL.of eP7⟩, _, rfl, _, rfl, _, rfl, C, ys, rfl, .inl ⟨SqL.of eC, fun T1 hT1 => ⟨(by show 3 ≤ sizeLine; decide), fun t ht => ?_⟩⟩⟩
      have s8 := same_new hT1 (.tup ys)
      have s9 := same_new ht (.tup [vI i, vI (widthOf z zs.length), .ref T1])
      have kt : KeepT (upd (upd H7 T1 (.tup ys)) t (.tup [vI i, vI (widthOf z zs.length), .ref T1])) (upd (upd (upd H7 T1 (.tup ys)) t (.tup [vI i, vI (widthOf z zs.length), .ref T1])) Pp (.lst (xs ++ [.ref t]))) := .lst (s9 _ _ (s8 _ _ eP7))
      refine ⟨Pp, xs, _, rfl, rfl, s9 _ _ (s8 _ _ eP7), small1000 (by omega), _, _, _, _, _, rfl, same_put ((sm7.trans s8).trans s9) hPp, upd_same, ?_⟩
      rw [rowsD_succ, eo, if_pos hf]
      exact (((ly7.keep' (.same s8)).keep' (.same s9)).snoc (.tup upd_same (.cons (.int _) (.cons (.int _) (.cons (.tup (s9 _ _ upd_same) ((lyC.keep' (.same s8)).keep' (.same s9))) .nil))))).keep' kt
    case ln =>
      refine ⟨_, _, _, _, xs, rfl, sm7, eP7, ?_⟩
      rw [rowsD_succ, eo, if_neg (by rw [hf]; decide)]
      exact ly7
    case f1 =>
      have y4 : (1 : Int) < ((zs.map vI).length : Nat) := of_decide_eq_true y1
      have y5 : ¬ z = "hot" := fun e => by rw [e, decide_eq_true rfl] at y2; cases y2
      unfold fit
      rw [decide_eq_true (show 1 < zs.length by omega), decide_eq_true y5]
      rfl
    case f2 =>
      have y4 : (1 : Int) < ((zs.map vI).length : Nat) := of_decide_eq_true y1
      have y5 : z = "hot" := by
        by_cases e : z = "hot"
        · exact e
        · exact absurd (by rw [decide_eq_false fun q => e (V.str.inj q)]; rfl) y2
      have y6 : ((widthOf z zs.length : Nat) : Int) ≤ 8 := of_decide_eq_true y3
      unfold widthOf at y6
      rw [if_pos y5] at y6
      unfold fit
      rw [decide_eq_true (show 1 < zs.length by omega), decide_eq_true (show zs.length ≤ 8 by omega)]
      simp
    case f3 =>
      have y5 : z = "hot" := by
        by_cases e : z = "hot"
        · exact e
        · exact absurd (by rw [decide_eq_false fun q => e (V.str.inj q)]; rfl) y2
      have y6 : ¬ ((widthOf z zs.length : Nat) : Int) ≤ 8 := fun h => y3 (decide_eq_true h)
      unfold widthOf at y6
      rw [if_pos y5] at y6
      unfold fit
      rw [decide_eq_false (fun h : z ≠ "hot" => h y5), decide_eq_false (show ¬ zs.length ≤ 8 by omega)]
      simp
    case f4 =>
      have y4 : ¬ (1 : Int) < ((zs.map vI).length : Nat) := fun h => y1 (decide_eq_true h)
      unfold fit
      rw [decide_eq_false (show ¬ 1 < zs.length by omega)]
      rfl
  · obtain ⟨v3, v4', v5, v6', xs, rfl, sm, eP, ly⟩ := pp
    have ly : LayAll H' xs (rowsD z G vr.length) := ly
    rw [rlen] at ly
    refine ⟨_, rfl, rfl, _, rfl, ite2 (fun h => ?_) (fun h => ?_)⟩
    · have hz : z = "plain" := V.str.inj (of_decide_eq_true h)
      refine ⟨Nat.zero_le _, fun t ht => q _ _ (sm.trans (same_new ht _)) ?_⟩
      unfold paperD
      rw [if_pos hz]
      exact .tup upd_same .nil
    · have hz : ¬ z = "plain" := fun e => h (decide_eq_true (congrArg V.str e))
      refine ⟨_, rfl, Pp, xs, rfl, .inl ⟨SqL.of eP, fun t ht => q _ _ (sm.trans (same_new ht _)) ?_⟩⟩
      unfold paperD
      rw [if_neg hz]
      exact .tup upd_same (ly.keep' (.same (same_new ht _)))
end
end Bf

set_option Elab.async false
set_option linter.all false
set_option maxRecDepth 100000
set_option maxHeartbeats 4000000
namespace Bf
open PySem PySem.Spec PyProof.Rows L2
/-! ### what is asked of a paper -/
theorem kI : ("iit" : Str) = ⟨#[105, 105, 116]⟩ ∧ ("ii" : Str) = ⟨#[105, 105]⟩ ∧ ("s" : Str) = ⟨#[115]⟩ ∧ ("i" : Str) = ⟨#[105]⟩ ∧ ("t" : Str) = ⟨#[116]⟩ := by decide +kernel
/-- parts as the kinds say: ints and tuples -/
def Fits (H : Hp) (cs : Array Nat) (ys : List V) : Prop := ys.length = cs.size ∧ ∀ (i : Nat) (y : V) (c : Nat), ys[i]? = some y → cs[i]? = some c → (c = 105 ∧ ∃ n : Int, y = .int n) ∨ (c = 116 ∧ ∃ (q : Addr) (zs : List V), y = .ref q ∧ H q = some (.tup zs))
theorem Fits.same {H H' : Hp} {cs : Array Nat} {ys : List V} (h : Fits H cs ys) (s : Same H H') : Fits H' cs ys := ⟨h.1, fun i y c h1 h2 => by
  rcases h.2 i y c h1 h2 with q | ⟨a, q, zs, b, e⟩
  · exact .inl q
  · exact .inr ⟨a, q, zs, b, s _ _ e⟩⟩
def spRows : Sp := fun vs H Q _ => ∃ (p : Addr) (xs : List V) (cs : Array Nat), vs = [.ref p, .str ⟨cs⟩] ∧ H p = some (.tup xs) ∧ cs.size ≤ 100 ∧ (∀ x ∈ xs, ∃ (q : Addr) (ys : List V), x = .ref q ∧ H q = some (.tup ys) ∧ Fits H cs ys) ∧ ∀ H', Same H H' → Q (.bl true) H'
def spIsPaper : Sp := fun vs H Q _ => ∃ (v : V) (z : Str) (G : Gr), vs = [v] ∧ Lay H v (paperD z G) ∧ G.rs.length ≤ 4 ∧ ∀ H', Same H H' → Q (.bl true) H'
def spLaw (K : PySem.W.Frag) : Sp := fun vs H Q _ => ∃ (a : Addr) (ns : List Int), vs = [.ref a] ∧ SqL K H a (ns.map V.int) ∧ ns.length ≤ 63 ∧ ∀ H', Q (.bl true) H'
theorem GrW.keep {H H' : Hp} {v : V} {G : Gr} (h : GrW H v G) (k : KeepT H H') : GrW H' v G := by
  obtain ⟨p, pi, pn, pr, po, v4, v6, xi, vn, vr, xo, rfl, at_⟩ := h
  exact ⟨p, pi, pn, pr, po, v4, v6, xi, vn, vr, xo, rfl, at_.keep k⟩
theorem GrV.keep {H H' : Hp} {v : V} {G : Gr} (h : GrV H v G) (k : KeepT H H') : GrV H' v G := by
  obtain ⟨p, pi, pn, pr, po, v4, v6, xi, vn, vr, xo, rfl, hx, at_⟩ := h
  exact ⟨p, pi, pn, pr, po, v4, v6, xi, vn, vr, xo, rfl, hx, at_.keep k⟩
theorem sh_codes (z : Str) (zs : List Nat) : Sh 2 (codesD z zs) := Sh.tup fun d hd => by
  obtain ⟨k, _, rfl⟩ := List.mem_map.mp hd
  refine Sh.tup fun e he => ?_
  rcases List.mem_cons.mp he with rfl | he
  · exact Sh.int _ _
  · rw [List.mem_singleton.mp he]; exact Sh.int _ _
theorem sh_row (z : Str) (j : Nat) (zs : List Nat) : Sh 3 (rowD z j zs) := Sh.tup fun d hd => by
  rcases List.mem_cons.mp hd with rfl | hd
  · exact Sh.int _ _
  rcases List.mem_cons.mp hd with rfl | hd
  · exact Sh.int _ _
  rw [List.mem_singleton.mp hd]
  exact sh_codes z zs
theorem sh_paper (z : Str) (G : Gr) : Sh 4 (paperD z G) := Sh.tup fun d hd => by
  by_cases hz : z = "plain"
  · rw [if_pos hz] at hd; cases hd
  · rw [if_neg hz] at hd
    obtain ⟨j, _, rfl⟩ := List.mem_map.mp hd
    exact sh_row _ _ _
section
variable {P : Program} {w : World} {K : PySem.W.Frag} {mg : Str → Option Value} {base : Heap} {f : Addr} {fd : FuncData}
theorem ok_rows (F : Fun K "_law_is_rows" "_law_is_rows" s_law_is_rows f fd) (T : Txt mg) (D_law_is_int : Dn P w K mg base "_law_is_int" ["_law_thing"] 1 spIsInt) :
    FnOk P w K mg base CX0 2 f fd ["_law_rows", "_law_kinds"] spRows := by
  refine F.ok sc_law_is_rows (fun vs H Q E h => ?_) (fun cdv A outer s H vs Q E hr h => ?_)
  · obtain ⟨p, xs, cs, rfl, _⟩ := h
    rfl
  obtain ⟨p, xs, cs, rfl, hp, hcs, hx, q⟩ := h
  refine ⟨_, (pss_cons (ps_if (pt_not (pt_val (pe_callB (call_isi : CallR _ _ (rIsi K)) (by rfl) T.n_isinstance (by decide +kernel) (pa_cons (pv 0) (pa_cons (pe_bltn rfl T.n_tuple (by decide +kernel) (v := .ty "tuple") rfl) pa_nil))))) (pss_one (ps_ret pe_bl)) pss_nil)
      (pss_cons (ps_for PassesOwn.never rfl (pi_tup (pv 0)) (pg_name (i := 2) sc_law_is_rows.nd rfl (Or.inl rfl)) (pss_cons (ps_if (PW.pt (pw_or (pt_not (pt_val (pe_callB (call_isi : CallR _ _ (rIsi K)) (by rfl) T.n_isinstance (by decide +kernel) (pa_cons (pv 2) (pa_cons (pe_bltn rfl T.n_tuple (by decide +kernel) (v := .ty "tuple") rfl) pa_nil))))) (pw_or1 (pt_cmpR op_ne (pe_callB call_len_seq (by rfl) T.n_len (by decide +kernel) (pa_cons (pv 2) pa_nil)) (pe_callB call_len_str (by rfl) T.n_len (by decide +kernel) (pa_cons (pv 1) pa_nil)) (nomark _))))) (pss_one (ps_ret pe_bl)) pss_nil)
      (pss_one (ps_for PassesOwn.never rfl (pi_zipS (by rfl) T.n_zip (pa_cons (pv 2) (pa_cons (pv 1) pa_nil))) (pg_tup rfl (pgs_cons (pg_name (i := 3) sc_law_is_rows.nd rfl (Or.inl rfl)) (pgs_cons (pg_name (i := 4) sc_law_is_rows.nd rfl (Or.inl rfl)) pgs_nil))) (pss_cons (ps_if (PW.pt (pw_and (pt_cmpR op_eq (pv 4) pe_str (nomark _)) (pw_and1 (pt_not (pt_val (pe_callB (call_isi : CallR _ _ (rIsi K)) (by rfl) T.n_isinstance (by decide +kernel) (pa_cons (pv 3) (pa_cons (pe_bltn rfl T.n_str (by decide +kernel) (v := .ty "str") rfl) pa_nil)))))))) (pss_one (ps_ret pe_bl)) pss_nil)
      (pss_cons (ps_if (PW.pt (pw_and (pt_cmpR op_eq (pv 4) pe_str (nomark _)) (pw_and1 (pt_not (pt_val (pe_dn D_law_is_int (hr.mono (by omega)) (by rfl) (pa_cons (pv 3) pa_nil))))))) (pss_one (ps_ret pe_bl)) pss_nil)
      (pss_one (ps_if (PW.pt (pw_and (pt_cmpR op_eq (pv 4) pe_str (nomark _)) (pw_and1 (pt_not (pt_val (pe_callB (call_isi : CallR _ _ (rIsi K)) (by rfl) T.n_isinstance (by decide +kernel) (pa_cons (pv 3) (pa_cons (pe_bltn rfl T.n_tuple (by decide +kernel) (v := .ty "tuple") rfl) pa_nil)))))))) (pss_one (ps_ret pe_bl)) pss_nil))))))))
      (pss_one (ps_ret pe_bl)))), ?_⟩
  refine ⟨_, rfl, _, _, .type "tuple", .type "tuple", true, rfl, .ty "tuple", .base (.tup hp), kit_ty (by decide +kernel), true, rfl, iteF ?_⟩
  refine ⟨_, rfl, p, rfl, ⟨_, SqT.of hp⟩, for_it (walk_tup (xs := xs)) (fun i σ' H' => ∃ (v2 v3 v4 : Option V), σ' = [some (.ref p), some (.str ⟨cs⟩), v2, v3, v4] ∧ Same H H')
    ⟨_, _, _, rfl, .refl _⟩ (fun i σ' H' _ pp => ?_) (fun i x σ' H2 H3 hi pp y => ?_) (fun σ' H' pp => ?_)⟩
  · obtain ⟨_, _, _, _, sm⟩ := pp
    exact SqT.of (sm _ _ hp)
  · obtain ⟨v2, v3, v4, rfl, sm⟩ := pp
    obtain ⟨rfl, ex⟩ := y
    obtain ⟨qa, ys, rfl, hq, ft⟩ := hx x (List.mem_of_getElem? ex)
    have hq3 := sm _ _ hq
    refine ⟨_, rfl, _, _, .type "tuple", .type "tuple", true, rfl, .ty "tuple", .base (.tup hq3), kit_ty (by decide +kernel), true, rfl, iteF ?_⟩
    refine ⟨_, rfl, qa, ys, rfl, .inr (SqT.of hq3), _, rfl, ⟨cs⟩, rfl, le1000 (show cs.size ≤ 1000 by omega), rfl, _, rfl, ite2 (fun h => ?_) (fun _ => ?_)⟩
    · have e : V.int (ys.length : Int) = V.int ((Str.length ⟨cs⟩ : Nat) : Int) := congrArg V.int (by rw [ft.1]; rfl)
      rw [e, decide_eq_true rfl] at h
      cases h
    refine ⟨_, rfl, _, rfl, srcT, qa, ⟨cs⟩, ys, rfl, SqT.of hq3, for_it (walk_zipS srcT (xs := ys) ft.1) (fun j σ' H' => ∃ (v3 v4 : Option V), σ' = [some (.ref p), some (.str ⟨cs⟩), some (.ref qa), v3, v4] ∧ Same H H')
      ⟨_, _, rfl, sm⟩ (fun j σ' H' _ pp => ?_) (fun j x σ' H4 H5 hj pp y => ?_) (fun σ' H' pp => ?_)⟩
    · obtain ⟨_, _, _, sm⟩ := pp
      exact SqT.of (sm _ _ hq)
    · obtain ⟨v3, v4, rfl, sm4⟩ := pp
      obtain ⟨T1, y0, k0, rfl, hT, rfl, h1, h2⟩ := y
      have h1 : ys[j]? = some y0 := h1
      have h2 : (cs[j]?.map fun c => V.str ⟨#[c]⟩) = some k0 := h2
      obtain ⟨c, hc, rfl⟩ : ∃ c, cs[j]? = some c ∧ k0 = V.str ⟨#[c]⟩ := by
        cases e : cs[j]? with
        | none => rw [e] at h2; cases h2
        | some c => rw [e] at h2; exact ⟨c, rfl, (Option.some.inj h2).symm⟩
      have sm5 := sm4.trans (same_new hT (.tup [y0, .str ⟨#[c]⟩]))
      refine ⟨T1, _, rfl, SqT.of upd_same, rfl, _, _, rfl, _, _, rfl, rfl, ?_⟩
      rcases (ft.same sm5).2 j y0 c h1 hc with ⟨rfl, n, rfl⟩ | ⟨rfl, qz, zs, rfl, hz⟩
      · refine ⟨_, rfl, rfl, _, rfl, ite2 (fun h => ?_) (fun _ => ?_)⟩
        · exact absurd (V.str.inj (of_decide_eq_true h)) (by decide +kernel)
        refine ⟨_, rfl, rfl, _, rfl, ite2 (fun _ => ?_) (fun h => ?_)⟩
        · refine ⟨_, rfl, n, rfl, true, rfl, ?_⟩
          refine ⟨_, rfl, rfl, _, rfl, ite2 (fun h => ?_) (fun _ => ?_)⟩
          · exact absurd (V.str.inj (of_decide_eq_true h)) (by decide +kernel)
          · exact ⟨_, _, rfl, sm5⟩
        · exact absurd (decide_eq_true (congrArg V.str (by decide +kernel))) h
      · refine ⟨_, rfl, rfl, _, rfl, ite2 (fun h => ?_) (fun _ => ?_)⟩
        · exact absurd (V.str.inj (of_decide_eq_true h)) (by decide +kernel)
        refine ⟨_, rfl, rfl, _, rfl, ite2 (fun h => ?_) (fun _ => ?_)⟩
        · exact absurd (V.str.inj (of_decide_eq_true h)) (by decide +kernel)
        refine ⟨_, rfl, rfl, _, rfl, ite2 (fun _ => ?_) (fun h => ?_)⟩
        · refine ⟨_, rfl, _, _, .type "tuple", .type "tuple", true, rfl, .ty "tuple", .base (.tup hz), kit_ty (by decide +kernel), true, rfl, ?_⟩
          exact ⟨_, _, rfl, sm5⟩
        · exact absurd (decide_eq_true (congrArg V.str (by decide +kernel))) h
    · obtain ⟨v3, v4, rfl, sm4⟩ := pp
      exact ⟨_, _, _, rfl, sm4⟩
  · obtain ⟨v2, v3, v4, rfl, sm⟩ := pp
    exact q _ sm
theorem ok_isPaper (F : Fun K "_law_is_paper" "_law_is_paper" s_law_is_paper f fd) (T : Txt mg) (D_law_is_rows : Dn P w K mg base "_law_is_rows" ["_law_rows", "_law_kinds"] 2 spRows) :
    FnOk P w K mg base CX0 3 f fd ["_law_told"] spIsPaper := by
  refine F.ok sc_law_is_paper (fun vs H Q E h => ?_) (fun cdv A outer s H vs Q E hr h => ?_)
  · obtain ⟨v, z, G, rfl, _⟩ := h
    rfl
  obtain ⟨v, z, G, rfl, lay, hr4, q⟩ := h
  refine ⟨_, (pss_one (ps_ret (pe_and (pe_dn D_law_is_rows (hr.mono (by omega)) (by rfl) (pa_cons (pv 0) (pa_cons pe_str pa_nil))) (pe_one (pe_callB (cr_all rfl) (by rfl) T.n_all (by decide +kernel) (pa_cons (pe_lc (own := [("_law_row", 1)]) (g := gName 1) (tt := tYes) rfl sc_law_is_paper.nd (pi_tup (pv 0)) (blkOk_by (N := ["_law_told", "_law_row"]) (sc := defScope s_law_is_paper) (by decide +kernel)) (fun _ _ _ _ _ => (pg_name (i := 1) sc_law_is_paper.nd rfl (Or.inl rfl))) (fun _ _ _ _ _ => pts_nil) (fun _ _ _ _ _ => (pe_dn D_law_is_rows (hr.mono (by omega)) (by rfl) (pa_cons (pe_ix (ix_tup : IxR _ (rIxT K)) (pv 1) pe_int (fun _ _ => rfl)) (pa_cons pe_str pa_nil))))) pa_nil)))))), ?_⟩
  obtain ⟨p, xs, rfl, hp, la⟩ := lay.tup_inv
  have lx : xs.length ≤ 4 := by
    rw [la.len]
    by_cases hz : z = "plain"
    · rw [if_pos hz]; exact Nat.zero_le _
    · rw [if_neg hz]; exact Nat.le_trans (rowsD_len _ _ _) hr4
  have rowAt : ∀ x ∈ xs, ∃ (qa C : Addr) (j n : Int) (us : List V) (zs : List Nat), x = .ref qa ∧ H qa = some (.tup [.int j, .int n, .ref C]) ∧ H C = some (.tup us) ∧ LayAll H us ((List.range zs.length).map (cD z zs)) := fun x hx => by
    obtain ⟨i, hi⟩ := List.mem_iff_getElem?.mp hx
    obtain ⟨d, hd, ld⟩ := la.get i hi
    have hm := List.mem_of_getElem? hd
    by_cases hz : z = "plain"
    · rw [if_pos hz] at hm; cases hm
    · rw [if_neg hz] at hm
      obtain ⟨j, _, rfl⟩ := List.mem_map.mp hm
      obtain ⟨qa, vs, rfl, hqa, l0⟩ := ld.tup_inv
      obtain ⟨a0, u0, rfl, m0, l1⟩ := l0.cons_inv
      obtain ⟨a1, u1, rfl, m1, l2⟩ := l1.cons_inv
      obtain ⟨a2, u2, rfl, m2, l3⟩ := l2.cons_inv
      obtain rfl := l3.nil_inv
      obtain rfl := m0.int_inv
      obtain rfl := m1.int_inv
      obtain ⟨C, us, rfl, hC, lus⟩ := m2.tup_inv
      exact ⟨qa, C, _, _, us, _, rfl, hqa, hC, lus⟩
  refine ⟨_, rfl, p, xs, #[105, 105, 116], by rw [kI.1], hp, by decide, fun x hx => ?_, fun H1 s1 => ⟨true, rfl, iteT ?_⟩⟩
  · obtain ⟨qa, C, j, n, us, zs, rfl, hqa, hC, lus⟩ := rowAt x hx
    refine ⟨qa, _, rfl, hqa, rfl, fun i y c h1 h2 => ?_⟩
    match i with
    | 0 => cases h1; cases h2; exact .inl ⟨rfl, _, rfl⟩
    | 1 => cases h1; cases h2; exact .inl ⟨rfl, _, rfl⟩
    | 2 => cases h1; cases h2; exact .inr ⟨rfl, _, _, rfl, hC⟩
    | i + 3 => cases h1
  refine ⟨_, rfl, p, rfl, ⟨_, SqT.of (s1 _ _ hp)⟩, fun D hD => lc_tup (K := K) (a := p) (xs := xs) (fun i H' => Same H1 H' ∧ H' D = some (.lst ((List.replicate i true).map V.bl)))
    ⟨same_new hD _, upd_same⟩ (fun i H' _ pp => seqT_same pp.1 (SqT.of (s1 _ _ hp))) (fun i x H' hx pp => ?_) (fun H' pp => ?_)⟩
  · have hi := (List.getElem?_eq_some_iff.mp hx).1
    obtain ⟨qa, C, j, n, us, zs, rfl, hqa, hC, lus⟩ := rowAt x (List.mem_of_getElem? hx)
    have s2 := s1.trans pp.1
    refine ⟨rfl, _, rfl, qa, _, _, _, rfl, rfl, SqT.of (s2 _ _ hqa), atI_nat (j := 2) rfl, C, us, #[105, 105], by rw [kI.2.1], s2 _ _ hC, by decide, fun x hx => ?_, fun H3 s3 => ⟨_, s3 _ _ pp.2, ?_, same_two (pp.1.trans s3) hD, ?_⟩⟩
    · obtain ⟨i, hi⟩ := List.mem_iff_getElem?.mp hx
      obtain ⟨d, hd, ld⟩ := (lus.keep' (.same s2)).get i hi
      obtain ⟨k, _, rfl⟩ := List.mem_map.mp (List.mem_of_getElem? hd)
      obtain ⟨qb, vs, rfl, hqb, l0⟩ := ld.tup_inv
      obtain ⟨a0, u0, rfl, m0, l1⟩ := l0.cons_inv
      obtain ⟨a1, u1, rfl, m1, l2⟩ := l1.cons_inv
      obtain rfl := l2.nil_inv
      obtain rfl := m0.int_inv
      obtain rfl := m1.int_inv
      refine ⟨qb, _, rfl, hqb, rfl, fun i y c h1 h2 => ?_⟩
      match i with
      | 0 => cases h1; cases h2; exact .inl ⟨rfl, _, rfl⟩
      | 1 => cases h1; cases h2; exact .inl ⟨rfl, _, rfl⟩
      | i + 2 => cases h1
    · rw [List.length_map, List.length_replicate]
      exact small1000 (by omega)
    · rw [upd_same, List.replicate_succ', List.map_append]
      rfl
  · refine ⟨D, _, rfl, SqL.of pp.2, ?_⟩
    rw [all_true]
    exact q _ (s1.trans pp.1)
end
end Bf

set_option Elab.async false
set_option linter.all false
set_option maxRecDepth 100000
set_option maxHeartbeats 4000000
namespace Bf
open PySem PySem.Spec PyProof.Rows L2
/-! ### the law -/
section
variable {P : Program} {w : World} {K : PySem.W.Frag} {mg : Str → Option Value} {base : Heap} {f : Addr} {fd : FuncData}
theorem ok_law (F : Fun K "law" "law" s_law f fd) (T : Txt mg) (D_law_begin : Dn P w K mg base "_law_begin" ["_law_script"] 1 (spBegin K)) (D_law_draw : Dn P w K mg base "_law_draw" ["_law_d", "_law_many"] 1 spDraw) (D_law_pick : Dn P w K mg base "_law_pick" ["_law_d", "_law_row"] 2 (spPick K))
    (D_law_shuffled : Dn P w K mg base "_law_shuffled" ["_law_d", "_law_row"] 2 (spShuf K)) (D_law_graph : Dn P w K mg base "_law_graph" ["_law_d", "_law_inputs", "_law_regs", "_law_mems", "_law_nodes", "_law_most"] 5 spGraph)
    (D_law_machines : Dn P w K mg base "_law_machines" ["_law_d", "_law_graph_here", "_law_many", "_law_longest"] 9 spMach) (D_code_paper : Dn P w K mg base "code_paper" ["graph", "style"] 3 spPaper) (D_law_paper : Dn P w K mg base "_law_paper" ["_law_graph_here", "_law_style"] 2 spPaper)
    (D_law_is_paper : Dn P w K mg base "_law_is_paper" ["_law_told"] 3 spIsPaper) :
    FnOk P w K mg base CX0 10 f fd ["_law_script"] (spLaw K) := by
  refine F.ok sc_law (fun vs H Q E h => ?_) (fun cdv A outer s H vs Q E hr h => ?_)
  · obtain ⟨a, ns, rfl, _⟩ := h
    rfl
  obtain ⟨a, ns, rfl, hS, hl63, q⟩ := h
  refine ⟨_, (pss_cons (ps_set (i := 1) sc_law.nd rfl (Or.inl rfl) (pe_dn D_law_begin (hr.mono (by omega)) (by rfl) (pa_cons (pv 0) pa_nil)))
      (C8.pss_cut (ps_set (i := 2) sc_law.nd rfl (Or.inl rfl) (pe_ifExp (pt_cmpR op_eq (pe_dn D_law_draw (hr.mono (by omega)) (by rfl) (pa_cons (pv 1) (pa_cons pe_int pa_nil))) pe_int (nomark _)) pe_int (pe_dn D_law_pick (hr.mono (by omega)) (by rfl) (pa_cons (pv 1) (pa_cons (pe_lst (pa_cons pe_int (pa_cons pe_int (pa_cons pe_int (pa_cons pe_int pa_nil))))) pa_nil)))))
      (pss_cons (ps_set (i := 3) sc_law.nd rfl (Or.inl rfl) (pe_dn D_law_graph (hr.mono (by omega)) (by rfl) (pa_cons (pv 1) (pa_cons (pe_op op_add pe_int (pe_dn D_law_draw (hr.mono (by omega)) (by rfl) (pa_cons (pv 1) (pa_cons pe_int pa_nil)))) (pa_cons (pe_op op_add pe_int (pe_dn D_law_draw (hr.mono (by omega)) (by rfl) (pa_cons (pv 1) (pa_cons pe_int pa_nil)))) (pa_cons (pe_dn D_law_draw (hr.mono (by omega)) (by rfl) (pa_cons (pv 1) (pa_cons pe_int pa_nil))) (pa_cons (pe_op op_add pe_int (pe_dn D_law_draw (hr.mono (by omega)) (by rfl) (pa_cons (pv 1) (pa_cons pe_int pa_nil)))) (pa_cons (pv 2) pa_nil))))))))
      (pss_cons (ps_set (i := 3) sc_law.nd rfl (Or.inl rfl) (pe_dn D_law_machines (hr.mono (by omega)) (by rfl) (pa_cons (pv 1) (pa_cons (pv 3) (pa_cons (pe_op op_add pe_int (pe_dn D_law_draw (hr.mono (by omega)) (by rfl) (pa_cons (pv 1) (pa_cons pe_int pa_nil)))) (pa_cons pe_int pa_nil))))))
      (pss_cons (ps_set (i := 4) sc_law.nd rfl (Or.inl rfl) (pe_dn D_law_shuffled (hr.mono (by omega)) (by rfl) (pa_cons (pv 1) (pa_cons (pe_lst (pa_cons pe_str (pa_cons pe_str (pa_cons pe_str (pa_cons pe_str pa_nil))))) pa_nil))))
      (pss_cons (ps_for PassesOwn.never rfl (pi_list (pe_op op_cat (pv 4) (pe_slice sl_list (pv 4) po_none (po_some pe_int)))) (pg_name (i := 5) sc_law.nd rfl (Or.inl rfl)) (pss_cons (ps_set (i := 6) sc_law.nd rfl (Or.inl rfl) (pe_dn D_code_paper (hr.mono (by omega)) (by rfl) (pa_cons (pv 3) (pa_cons (pv 5) pa_nil))))
      (pss_one (ps_if (PW.pt (pw_or (pt_not (pt_val (pe_dn D_law_is_paper (hr.mono (by omega)) (by rfl) (pa_cons (pv 6) pa_nil)))) (pw_or1 (pt_cmpR (op_neD hr.units) (pv 6) (pe_dn D_law_paper (hr.mono (by omega)) (by rfl) (pa_cons (pv 3) (pa_cons (pv 5) pa_nil))) (nomark _))))) (pss_one (ps_ret pe_bl)) pss_nil))))
      (pss_one (ps_ret pe_bl)))))))), ?_⟩
  refine ⟨_, rfl, a, ns, rfl, hS, hl63, fun d c H1 nd nc hd1 s1 => ?_⟩
  refine ⟨fun σ' H' => ∃ m : Nat, σ' = [some (.ref a), some (.ref d), some (vI m), none, none, none, none] ∧ DS H' d c ∧ 1 ≤ m ∧ m ≤ 8, ?_, ?_⟩
  · refine ⟨_, rfl, d, c, 8, rfl, hd1, by decide, by decide, fun r H2 r0 r1 hd2 k2 => ⟨rfl, _, rfl, ite2 (fun _ => ⟨8, rfl, hd2, by decide, by decide⟩) (fun _ => ?_)⟩⟩
    refine ⟨_, rfl, (by show 4 ≤ sizeLine; decide), fun L hL => ?_⟩
    refine ⟨d, c, L, ([2, 4, 3, 4] : List Nat).map vI, rfl, hd2.same (same_new hL _), (hd2.new hL).1, SqL.of upd_same, (by show 1 ≤ 4; decide), (by show 4 ≤ 1000; decide), fun k y H3 hy hd3 k3 => ?_⟩
    obtain ⟨x, hx, rfl⟩ := natAt hy
    have hm := List.mem_of_getElem? hx
    have := (by decide : ∀ x ∈ ([2, 4, 3, 4] : List Nat), 1 ≤ x ∧ x ≤ 8) x hm
    exact ⟨x, rfl, hd3, this.1, this.2⟩
  rintro σ' H2 ⟨m, rfl, hd2, m1, m8⟩
  refine ⟨_, rfl, _, rfl, d, c, 2, rfl, hd2, by decide, by decide, fun u1 H3 r0 r1 hd3 k3 => ?_⟩
  obtain ⟨u1, rfl⟩ := Int.eq_ofNat_of_zero_le r0
  refine ⟨_, _, rfl, rfl, _, rfl, d, c, 3, rfl, hd3, by decide, by decide, fun u2 H4 r0 r2 hd4 k4 => ?_⟩
  obtain ⟨u2, rfl⟩ := Int.eq_ofNat_of_zero_le r0
  refine ⟨_, _, rfl, rfl, _, rfl, d, c, 2, rfl, hd4, by decide, by decide, fun u3 H5 r0 r3 hd5 k5 => ?_⟩
  obtain ⟨u3, rfl⟩ := Int.eq_ofNat_of_zero_le r0
  refine ⟨_, rfl, d, c, 9, rfl, hd5, by decide, by decide, fun u4 H6 r0 r4 hd6 k6 => ?_⟩
  obtain ⟨u4, rfl⟩ := Int.eq_ofNat_of_zero_le r0
  refine ⟨_, _, rfl, rfl, _, rfl, d, c, 1 + u1, 1 + u2, u3, 2 + u4, m, ?_, hd6, by omega, by omega, by omega, by omega, m1, m8, fun v G H7 hG ok g1 g2 g3 hd7 k7 => ?_⟩
  · dsimp only
    rw [show V.int (1 + (u1 : Int)) = vI (1 + u1) from congrArg V.int (by omega), show V.int (1 + (u2 : Int)) = vI (1 + u2) from congrArg V.int (by omega), show V.int (2 + (u4 : Int)) = vI (2 + u4) from congrArg V.int (by omega)]
    rfl
  refine ⟨_, rfl, _, rfl, _, rfl, d, c, 3, rfl, hd7, by decide, by decide, fun u5 H8 r0 r5 hd8 k8 => ?_⟩
  obtain ⟨u5, rfl⟩ := Int.eq_ofNat_of_zero_le r0
  refine ⟨_, _, rfl, rfl, d, c, v, G, 1 + u5, ?_, hd8, hG.keep (k8.tup1 hd7), ok, by omega, g3, by omega, by omega, fun v' G' H9 hG' ok' e1 e2 hd9 k9 => ?_⟩
  · dsimp only
    rw [show V.int (1 + (u5 : Int)) = vI (1 + u5) from congrArg V.int (by omega)]
  clear hG ok hd8 hd7 hd6 hd5 hd4 hd3 k3 k4 k5 k6 k7 k8 k9
  refine ⟨_, rfl, (by show 4 ≤ sizeLine; decide), fun L hL => ?_⟩
  refine ⟨d, c, L, (["plain", "dense", "gray", "hot"] : List Str).map V.str, rfl, hd9.same (same_new hL _), (hd9.new hL).1, .inl (SqL.of upd_same), (by show 4 ≤ 1000; decide), fun l ys H10 hperm hl0 hl hd10 k10 => ?_⟩
  have hG10 := (hG'.keep (.same (same_new hL (.lst ((["plain", "dense", "gray", "hot"] : List Str).map V.str))))).keep (k10.tup1 (hd9.same (same_new hL _)))
  have allS : ∀ y ∈ ys, ∃ z : Str, y = .str z := fun y hy => by
    obtain ⟨z, _, e⟩ := List.mem_map.mp (hperm.mem_iff.mp hy)
    exact ⟨z, e.symm⟩
  have ylen : ys.length = 4 := hperm.length_eq
  refine ⟨_, rfl, _, rfl, 2, rfl, l, ys, rfl, SqL.of hl, fun t1 h1 => ?_⟩
  have s2 := same_new h1 (.lst (cutV ys none (some 2)))
  have cl := cutV_length ys none (some 2)
  have cm : ∀ y ∈ cutV ys none (some 2), y ∈ ys := fun y hy => List.mem_of_mem_drop (List.mem_of_mem_take hy)
  refine ⟨l, t1, ys, _, rfl, rfl, s2 _ _ hl, upd_same, le1000 (by omega), fun Z hZ => ?_⟩
  have s3 := s2.trans (same_new hZ (.lst (ys ++ cutV ys none (some 2))))
  refine ⟨Z, rfl, ⟨_, SqL.of upd_same⟩, ?_⟩
  refine for_it (walk_list (xs := ys ++ cutV ys none (some 2))) (fun i σ' H'' => ∃ (v5 v6 : Option V), σ' = [some (.ref a), some (.ref d), some (vI m), some v', some (.ref l), v5, v6] ∧ Same (upd (upd H10 t1 (.lst (cutV ys none (some 2)))) Z (.lst (ys ++ cutV ys none (some 2)))) H'')
    ⟨_, _, rfl, .refl _⟩ (fun i σ' H' hi p => ?_) (fun i x σ' H'' H3 hi p y => ?_) (fun σ' H' p => ?_)
  · obtain ⟨_, _, _, sm⟩ := p
    exact SqL.of (sm _ _ upd_same)
  · obtain ⟨v5, v6, rfl, sm⟩ := p
    obtain ⟨rfl, ex⟩ := y
    obtain ⟨z, rfl⟩ : ∃ z : Str, x = .str z := by
      rcases List.mem_append.mp (List.mem_of_getElem? ex) with z | z
      · exact allS x z
      · exact allS x (cm x z)
    have hG3 := hG10.keep (.same (s3.trans sm))
    refine ⟨_, rfl, _, rfl, v', G', z, rfl, hG3, ok', by omega, e2, fun told H4 s4 lay => ?_⟩
    refine ⟨_, rfl, told, z, G', rfl, lay, by omega, fun H5 s5 => ⟨true, rfl, iteF ?_⟩⟩
    have s45 := s4.trans s5
    refine ⟨_, rfl, _, rfl, _, rfl, v', G', z, rfl, hG3.keep (.same s45), ok', by omega, e2, fun told2 H6 s6 lay2 => ?_⟩
    refine ⟨paperD z G', paperD z G', Lay.dp _ _ (lay.keep (.same (s5.trans s6))), Lay.dp _ _ lay2, (sh_paper z G').shaped (by decide), (sh_paper z G').shaped (by decide), ?_⟩
    rw [eqv_self _ (sh_paper z G').1]
    exact ⟨_, rfl, iteF ⟨_, _, rfl, sm.trans (s45.trans s6)⟩⟩
  · exact q _
end
end Bf

set_option Elab.async false
set_option linter.all false
set_option maxRecDepth 100000
set_option maxHeartbeats 4000000
namespace Bf
open PySem PySem.Spec PyProof.Rows L2
/-! ### what the top has written -/
theorem all_mk {l : PySem.W.OpenLaw} {w : World} {K : PySem.W.Frag} {h : Heap} {mg : Str → Option Value} {fa f__law_draw f__law_begin f__law_pick f__law_pop f__law_shuffled f__law_pool f__law_is_int f__law_is_rows f__law_of_width f__law_new_node f__law_graph f__law_tree f__law_chain f__law_machines f_room_width f_picked_nodes f_picked_words f_ranked_codes f_code_paper f__law_olds f__law_paper f__law_is_paper f_law : Addr} (X : K.In h) (G : h.Ns mainGlobals mg) (hfa : mg "law" = some (.ref fa))
    {od2 an2 : Option Addr} {sl2 : Array (Option Value)} {oc2 kV2 dc2 pm2 cd2 ct2 : Value}
    {od4 an4 : Option Addr} {sl4 : Array (Option Value)} {oc4 kV4 dc4 pm4 cd4 ct4 : Value}
    {od6 an6 : Option Addr} {sl6 : Array (Option Value)} {oc6 kV6 dc6 pm6 cd6 ct6 : Value}
    {od8 an8 : Option Addr} {sl8 : Array (Option Value)} {oc8 kV8 dc8 pm8 cd8 ct8 : Value}
    {od10 an10 : Option Addr} {sl10 : Array (Option Value)} {oc10 kV10 dc10 pm10 cd10 ct10 : Value}
    {od12 an12 : Option Addr} {sl12 : Array (Option Value)} {oc12 kV12 dc12 pm12 cd12 ct12 : Value}
    {od14 an14 : Option Addr} {sl14 : Array (Option Value)} {oc14 kV14 dc14 pm14 cd14 ct14 : Value}
    {od16 an16 : Option Addr} {sl16 : Array (Option Value)} {oc16 kV16 dc16 pm16 cd16 ct16 : Value}
    {od18 an18 : Option Addr} {sl18 : Array (Option Value)} {oc18 kV18 dc18 pm18 cd18 ct18 : Value}
    {od20 an20 : Option Addr} {sl20 : Array (Option Value)} {oc20 kV20 dc20 pm20 cd20 ct20 : Value}
    {od22 an22 : Option Addr} {sl22 : Array (Option Value)} {oc22 kV22 dc22 pm22 cd22 ct22 : Value}
    {od24 an24 : Option Addr} {sl24 : Array (Option Value)} {oc24 kV24 dc24 pm24 cd24 ct24 : Value}
    {od26 an26 : Option Addr} {sl26 : Array (Option Value)} {oc26 kV26 dc26 pm26 cd26 ct26 : Value}
    {od28 an28 : Option Addr} {sl28 : Array (Option Value)} {oc28 kV28 dc28 pm28 cd28 ct28 : Value}
    {od30 an30 : Option Addr} {sl30 : Array (Option Value)} {oc30 kV30 dc30 pm30 cd30 ct30 : Value}
    {od32 an32 : Option Addr} {sl32 : Array (Option Value)} {oc32 kV32 dc32 pm32 cd32 ct32 : Value}
    {od34 an34 : Option Addr} {sl34 : Array (Option Value)} {oc34 kV34 dc34 pm34 cd34 ct34 : Value}
    {od36 an36 : Option Addr} {sl36 : Array (Option Value)} {oc36 kV36 dc36 pm36 cd36 ct36 : Value}
    {od38 an38 : Option Addr} {sl38 : Array (Option Value)} {oc38 kV38 dc38 pm38 cd38 ct38 : Value}
    {od40 an40 : Option Addr} {sl40 : Array (Option Value)} {oc40 kV40 dc40 pm40 cd40 ct40 : Value}
    {od42 an42 : Option Addr} {sl42 : Array (Option Value)} {oc42 kV42 dc42 pm42 cd42 ct42 : Value}
    {od44 an44 : Option Addr} {sl44 : Array (Option Value)} {oc44 kV44 dc44 pm44 cd44 ct44 : Value}
    {od46 an46 : Option Addr} {sl46 : Array (Option Value)} {oc46 kV46 dc46 pm46 cd46 ct46 : Value}
    {tM : Tok}
    (a1 : PySem.W.nsIn K mainGlobals "_law_draw" = some (some (.ref f__law_draw)))
    (l2 : K.lookup f__law_draw = some ⟨oc2, od2, .func (PySem.W.fnOf "_law_draw" "_law_draw" (defArgs s_law_draw) (defBody s_law_draw) (defScope s_law_draw) .none kV2 dc2 pm2 an2 cd2 ct2), sl2⟩) (c2 : PySem.W.codeIn K cd2 "_law_draw" = true) (k2 : PySem.W.keepIn K (.ref f__law_draw) = true)
    (a3 : PySem.W.nsIn K mainGlobals "_law_begin" = some (some (.ref f__law_begin)))
    (l4 : K.lookup f__law_begin = some ⟨oc4, od4, .func (PySem.W.fnOf "_law_begin" "_law_begin" (defArgs s_law_begin) (defBody s_law_begin) (defScope s_law_begin) .none kV4 dc4 pm4 an4 cd4 ct4), sl4⟩) (c4 : PySem.W.codeIn K cd4 "_law_begin" = true) (k4 : PySem.W.keepIn K (.ref f__law_begin) = true)
    (a5 : PySem.W.nsIn K mainGlobals "_law_pick" = some (some (.ref f__law_pick)))
    (l6 : K.lookup f__law_pick = some ⟨oc6, od6, .func (PySem.W.fnOf "_law_pick" "_law_pick" (defArgs s_law_pick) (defBody s_law_pick) (defScope s_law_pick) .none kV6 dc6 pm6 an6 cd6 ct6), sl6⟩) (c6 : PySem.W.codeIn K cd6 "_law_pick" = true) (k6 : PySem.W.keepIn K (.ref f__law_pick) = true)
    (a7 : PySem.W.nsIn K mainGlobals "_law_pop" = some (some (.ref f__law_pop)))
    (l8 : K.lookup f__law_pop = some ⟨oc8, od8, .func (PySem.W.fnOf "_law_pop" "_law_pop" (defArgs s_law_pop) (defBody s_law_pop) (defScope s_law_pop) .none kV8 dc8 pm8 an8 cd8 ct8), sl8⟩) (c8 : PySem.W.codeIn K cd8 "_law_pop" = true) (k8 : PySem.W.keepIn K (.ref f__law_pop) = true)
    (a9 : PySem.W.nsIn K mainGlobals "_law_shuffled" = some (some (.ref f__law_shuffled)))
    (l10 : K.lookup f__law_shuffled = some ⟨oc10, od10, .func (PySem.W.fnOf "_law_shuffled" "_law_shuffled" (defArgs s_law_shuffled) (defBody s_law_shuffled) (defScope s_law_shuffled) .none kV10 dc10 pm10 an10 cd10 ct10), sl10⟩) (c10 : PySem.W.codeIn K cd10 "_law_shuffled" = true) (k10 : PySem.W.keepIn K (.ref f__law_shuffled) = true)
    (a11 : PySem.W.nsIn K mainGlobals "_law_pool" = some (some (.ref f__law_pool)))
    (l12 : K.lookup f__law_pool = some ⟨oc12, od12, .func (PySem.W.fnOf "_law_pool" "_law_pool" (defArgs s_law_pool) (defBody s_law_pool) (defScope s_law_pool) .none kV12 dc12 pm12 an12 cd12 ct12), sl12⟩) (c12 : PySem.W.codeIn K cd12 "_law_pool" = true) (k12 : PySem.W.keepIn K (.ref f__law_pool) = true)
    (a13 : PySem.W.nsIn K mainGlobals "_law_is_int" = some (some (.ref f__law_is_int)))
    (l14 : K.lookup f__law_is_int = some ⟨oc14, od14, .func (PySem.W.fnOf "_law_is_int" "_law_is_int" (defArgs s_law_is_int) (defBody s_law_is_int) (defScope s_law_is_int) .none kV14 dc14 pm14 an14 cd14 ct14), sl14⟩) (c14 : PySem.W.codeIn K cd14 "_law_is_int" = true) (k14 : PySem.W.keepIn K (.ref f__law_is_int) = true)
    (a15 : PySem.W.nsIn K mainGlobals "_law_is_rows" = some (some (.ref f__law_is_rows)))
    (l16 : K.lookup f__law_is_rows = some ⟨oc16, od16, .func (PySem.W.fnOf "_law_is_rows" "_law_is_rows" (defArgs s_law_is_rows) (defBody s_law_is_rows) (defScope s_law_is_rows) .none kV16 dc16 pm16 an16 cd16 ct16), sl16⟩) (c16 : PySem.W.codeIn K cd16 "_law_is_rows" = true) (k16 : PySem.W.keepIn K (.ref f__law_is_rows) = true)
    (a17 : PySem.W.nsIn K mainGlobals "_law_of_width" = some (some (.ref f__law_of_width)))
    (l18 : K.lookup f__law_of_width = some ⟨oc18, od18, .func (PySem.W.fnOf "_law_of_width" "_law_of_width" (defArgs s_law_of_width) (defBody s_law_of_width) (defScope s_law_of_width) .none kV18 dc18 pm18 an18 cd18 ct18), sl18⟩) (c18 : PySem.W.codeIn K cd18 "_law_of_width" = true) (k18 : PySem.W.keepIn K (.ref f__law_of_width) = true)
    (a19 : PySem.W.nsIn K mainGlobals "_law_new_node" = some (some (.ref f__law_new_node)))
    (l20 : K.lookup f__law_new_node = some ⟨oc20, od20, .func (PySem.W.fnOf "_law_new_node" "_law_new_node" (defArgs s_law_new_node) (defBody s_law_new_node) (defScope s_law_new_node) .none kV20 dc20 pm20 an20 cd20 ct20), sl20⟩) (c20 : PySem.W.codeIn K cd20 "_law_new_node" = true) (k20 : PySem.W.keepIn K (.ref f__law_new_node) = true)
    (a21 : PySem.W.nsIn K mainGlobals "_law_graph" = some (some (.ref f__law_graph)))
    (l22 : K.lookup f__law_graph = some ⟨oc22, od22, .func (PySem.W.fnOf "_law_graph" "_law_graph" (defArgs s_law_graph) (defBody s_law_graph) (defScope s_law_graph) .none kV22 dc22 pm22 an22 cd22 ct22), sl22⟩) (c22 : PySem.W.codeIn K cd22 "_law_graph" = true) (k22 : PySem.W.keepIn K (.ref f__law_graph) = true)
    (a23 : PySem.W.nsIn K mainGlobals "_law_tree" = some (some (.ref f__law_tree)))
    (l24 : K.lookup f__law_tree = some ⟨oc24, od24, .func (PySem.W.fnOf "_law_tree" "_law_tree" (defArgs s_law_tree) (defBody s_law_tree) (defScope s_law_tree) .none kV24 dc24 pm24 an24 cd24 ct24), sl24⟩) (c24 : PySem.W.codeIn K cd24 "_law_tree" = true) (k24 : PySem.W.keepIn K (.ref f__law_tree) = true)
    (a25 : PySem.W.nsIn K mainGlobals "_law_chain" = some (some (.ref f__law_chain)))
    (l26 : K.lookup f__law_chain = some ⟨oc26, od26, .func (PySem.W.fnOf "_law_chain" "_law_chain" (defArgs s_law_chain) (defBody s_law_chain) (defScope s_law_chain) .none kV26 dc26 pm26 an26 cd26 ct26), sl26⟩) (c26 : PySem.W.codeIn K cd26 "_law_chain" = true) (k26 : PySem.W.keepIn K (.ref f__law_chain) = true)
    (a27 : PySem.W.nsIn K mainGlobals "_law_machines" = some (some (.ref f__law_machines)))
    (l28 : K.lookup f__law_machines = some ⟨oc28, od28, .func (PySem.W.fnOf "_law_machines" "_law_machines" (defArgs s_law_machines) (defBody s_law_machines) (defScope s_law_machines) .none kV28 dc28 pm28 an28 cd28 ct28), sl28⟩) (c28 : PySem.W.codeIn K cd28 "_law_machines" = true) (k28 : PySem.W.keepIn K (.ref f__law_machines) = true)
    (a29 : PySem.W.nsIn K mainGlobals "room_width" = some (some (.ref f_room_width)))
    (l30 : K.lookup f_room_width = some ⟨oc30, od30, .func (PySem.W.fnOf "room_width" "room_width" (defArgs s_room_width) (defBody s_room_width) (defScope s_room_width) .none kV30 dc30 pm30 an30 cd30 ct30), sl30⟩) (c30 : PySem.W.codeIn K cd30 "room_width" = true) (k30 : PySem.W.keepIn K (.ref f_room_width) = true)
    (a31 : PySem.W.nsIn K mainGlobals "picked_nodes" = some (some (.ref f_picked_nodes)))
    (l32 : K.lookup f_picked_nodes = some ⟨oc32, od32, .func (PySem.W.fnOf "picked_nodes" "picked_nodes" (defArgs s_picked_nodes) (defBody s_picked_nodes) (defScope s_picked_nodes) .none kV32 dc32 pm32 an32 cd32 ct32), sl32⟩) (c32 : PySem.W.codeIn K cd32 "picked_nodes" = true) (k32 : PySem.W.keepIn K (.ref f_picked_nodes) = true)
    (a33 : PySem.W.nsIn K mainGlobals "picked_words" = some (some (.ref f_picked_words)))
    (l34 : K.lookup f_picked_words = some ⟨oc34, od34, .func (PySem.W.fnOf "picked_words" "picked_words" (defArgs s_picked_words) (defBody s_picked_words) (defScope s_picked_words) .none kV34 dc34 pm34 an34 cd34 ct34), sl34⟩) (c34 : PySem.W.codeIn K cd34 "picked_words" = true) (k34 : PySem.W.keepIn K (.ref f_picked_words) = true)
    (a35 : PySem.W.nsIn K mainGlobals "ranked_codes" = some (some (.ref f_ranked_codes)))
    (l36 : K.lookup f_ranked_codes = some ⟨oc36, od36, .func (PySem.W.fnOf "ranked_codes" "ranked_codes" (defArgs s_ranked_codes) (defBody s_ranked_codes) (defScope s_ranked_codes) .none kV36 dc36 pm36 an36 cd36 ct36), sl36⟩) (c36 : PySem.W.codeIn K cd36 "ranked_codes" = true) (k36 : PySem.W.keepIn K (.ref f_ranked_codes) = true)
    (a37 : PySem.W.nsIn K mainGlobals "code_paper" = some (some (.ref f_code_paper)))
    (l38 : K.lookup f_code_paper = some ⟨oc38, od38, .func (PySem.W.fnOf "code_paper" "code_paper" (defArgs s_code_paper) (defBody s_code_paper) (defScope s_code_paper) .none kV38 dc38 pm38 an38 cd38 ct38), sl38⟩) (c38 : PySem.W.codeIn K cd38 "code_paper" = true) (k38 : PySem.W.keepIn K (.ref f_code_paper) = true)
    (a39 : PySem.W.nsIn K mainGlobals "_law_olds" = some (some (.ref f__law_olds)))
    (l40 : K.lookup f__law_olds = some ⟨oc40, od40, .func (PySem.W.fnOf "_law_olds" "_law_olds" (defArgs s_law_olds) (defBody s_law_olds) (defScope s_law_olds) .none kV40 dc40 pm40 an40 cd40 ct40), sl40⟩) (c40 : PySem.W.codeIn K cd40 "_law_olds" = true) (k40 : PySem.W.keepIn K (.ref f__law_olds) = true)
    (a41 : PySem.W.nsIn K mainGlobals "_law_paper" = some (some (.ref f__law_paper)))
    (l42 : K.lookup f__law_paper = some ⟨oc42, od42, .func (PySem.W.fnOf "_law_paper" "_law_paper" (defArgs s_law_paper) (defBody s_law_paper) (defScope s_law_paper) .none kV42 dc42 pm42 an42 cd42 ct42), sl42⟩) (c42 : PySem.W.codeIn K cd42 "_law_paper" = true) (k42 : PySem.W.keepIn K (.ref f__law_paper) = true)
    (a43 : PySem.W.nsIn K mainGlobals "_law_is_paper" = some (some (.ref f__law_is_paper)))
    (l44 : K.lookup f__law_is_paper = some ⟨oc44, od44, .func (PySem.W.fnOf "_law_is_paper" "_law_is_paper" (defArgs s_law_is_paper) (defBody s_law_is_paper) (defScope s_law_is_paper) .none kV44 dc44 pm44 an44 cd44 ct44), sl44⟩) (c44 : PySem.W.codeIn K cd44 "_law_is_paper" = true) (k44 : PySem.W.keepIn K (.ref f__law_is_paper) = true)
    (a45 : PySem.W.nsIn K mainGlobals "law" = some (some (.ref f_law)))
    (l46 : K.lookup f_law = some ⟨oc46, od46, .func (PySem.W.fnOf "law" "law" (defArgs s_law) (defBody s_law) (defScope s_law) .none kV46 dc46 pm46 an46 cd46 ct46), sl46⟩) (c46 : PySem.W.codeIn K cd46 "law" = true) (k46 : PySem.W.keepIn K (.ref f_law) = true)
    (x47 : PySem.W.nsIn K mainGlobals "MOST_WIDTH" = some (some (.int 8 tM)))
    (z48 : PySem.W.nsIn K mainGlobals "int" = some none)
    (z49 : PySem.W.nsIn K mainGlobals "len" = some none)
    (z50 : PySem.W.nsIn K mainGlobals "abs" = some none)
    (z51 : PySem.W.nsIn K mainGlobals "isinstance" = some none)
    (z52 : PySem.W.nsIn K mainGlobals "range" = some none)
    (z53 : PySem.W.nsIn K mainGlobals "tuple" = some none)
    (z54 : PySem.W.nsIn K mainGlobals "all" = some none)
    (z55 : PySem.W.nsIn K mainGlobals "list" = some none)
    (z56 : PySem.W.nsIn K mainGlobals "enumerate" = some none)
    (z57 : PySem.W.nsIn K mainGlobals "bool" = some none)
    (z58 : PySem.W.nsIn K mainGlobals "max" = some none)
    (z59 : PySem.W.nsIn K mainGlobals "min" = some none)
    (z60 : PySem.W.nsIn K mainGlobals "str" = some none)
    (z61 : PySem.W.nsIn K mainGlobals "sorted" = some none)
    (z62 : PySem.W.nsIn K mainGlobals "zip" = some none)
    (z63 : PySem.W.nsIn K mainGlobals "reversed" = some none) :
    ∃ fd : FuncData, (∀ (s : Shared) (v : Value), BindsTo s fd ⟨[v], []⟩ [("_law_script", v)]) ∧ ∀ base : Heap, K.In base → base.Ns mainGlobals mg → FnOk l.prog w K mg base CX0 10 fa fd ["_law_script"] (spLaw K) := by
  have e := hfa.symm.trans (PySem.W.mg_of X G a45)
  cases e
  have T : Txt mg := ⟨PySem.W.mg_none_of X G z48, PySem.W.mg_none_of X G z49, PySem.W.mg_none_of X G z50, PySem.W.mg_none_of X G z51, PySem.W.mg_none_of X G z52, PySem.W.mg_none_of X G z53, PySem.W.mg_none_of X G z54, PySem.W.mg_none_of X G z55, PySem.W.mg_none_of X G z56, PySem.W.mg_none_of X G z57, PySem.W.mg_none_of X G z58, PySem.W.mg_none_of X G z59, PySem.W.mg_none_of X G z60, PySem.W.mg_none_of X G z61, PySem.W.mg_none_of X G z62, PySem.W.mg_none_of X G z63⟩
  have TP : TxtP mg tM := ⟨T, PySem.W.mg_of X G x47⟩
  have F_law_draw := fun_mk (st := s_law_draw) l2 c2 k2
  have F_law_begin := fun_mk (st := s_law_begin) l4 c4 k4
  have F_law_pick := fun_mk (st := s_law_pick) l6 c6 k6
  have F_law_pop := fun_mk (st := s_law_pop) l8 c8 k8
  have F_law_shuffled := fun_mk (st := s_law_shuffled) l10 c10 k10
  have F_law_pool := fun_mk (st := s_law_pool) l12 c12 k12
  have F_law_is_int := fun_mk (st := s_law_is_int) l14 c14 k14
  have F_law_is_rows := fun_mk (st := s_law_is_rows) l16 c16 k16
  have F_law_of_width := fun_mk (st := s_law_of_width) l18 c18 k18
  have F_law_new_node := fun_mk (st := s_law_new_node) l20 c20 k20
  have F_law_graph := fun_mk (st := s_law_graph) l22 c22 k22
  have F_law_tree := fun_mk (st := s_law_tree) l24 c24 k24
  have F_law_chain := fun_mk (st := s_law_chain) l26 c26 k26
  have F_law_machines := fun_mk (st := s_law_machines) l28 c28 k28
  have F_room_width := fun_mk (st := s_room_width) l30 c30 k30
  have F_picked_nodes := fun_mk (st := s_picked_nodes) l32 c32 k32
  have F_picked_words := fun_mk (st := s_picked_words) l34 c34 k34
  have F_ranked_codes := fun_mk (st := s_ranked_codes) l36 c36 k36
  have F_code_paper := fun_mk (st := s_code_paper) l38 c38 k38
  have F_law_olds := fun_mk (st := s_law_olds) l40 c40 k40
  have F_law_paper := fun_mk (st := s_law_paper) l42 c42 k42
  have F_law_is_paper := fun_mk (st := s_law_is_paper) l44 c44 k44
  have F_law := fun_mk (st := s_law) l46 c46 k46
  refine ⟨PySem.W.fnOf "law" "law" (defArgs s_law) (defBody s_law) (defScope s_law) .none kV46 dc46 pm46 an46 cd46 ct46, fun s v => .of_eq rfl, fun base _ _ => ?_⟩
  have D_law_draw : Dn l.prog w K mg base "_law_draw" ["_law_d", "_law_many"] 1 spDraw := ⟨f__law_draw, _, ok_draw F_law_draw T, PySem.W.mg_of X G a1, k2, (F_law_draw.binds (ps := ["_law_d", "_law_many"]) fun _ _ _ _ _ _ us hl => match us, hl with | [_, _], _ => rfl)⟩
  have D_law_begin : Dn l.prog w K mg base "_law_begin" ["_law_script"] 1 (spBegin K) := ⟨f__law_begin, _, ok_begin F_law_begin T, PySem.W.mg_of X G a3, k4, (F_law_begin.binds (ps := ["_law_script"]) fun _ _ _ _ _ _ us hl => match us, hl with | [_], _ => rfl)⟩
  have D_law_pick : Dn l.prog w K mg base "_law_pick" ["_law_d", "_law_row"] 2 (spPick K) := ⟨f__law_pick, _, ok_pick F_law_pick T D_law_draw, PySem.W.mg_of X G a5, k6, (F_law_pick.binds (ps := ["_law_d", "_law_row"]) fun _ _ _ _ _ _ us hl => match us, hl with | [_, _], _ => rfl)⟩
  have D_law_pop : Dn l.prog w K mg base "_law_pop" ["_law_d", "_law_row"] 2 spPop := ⟨f__law_pop, _, ok_pop F_law_pop T D_law_draw, PySem.W.mg_of X G a7, k8, (F_law_pop.binds (ps := ["_law_d", "_law_row"]) fun _ _ _ _ _ _ us hl => match us, hl with | [_, _], _ => rfl)⟩
  have D_law_shuffled : Dn l.prog w K mg base "_law_shuffled" ["_law_d", "_law_row"] 2 (spShuf K) := ⟨f__law_shuffled, _, ok_shuf F_law_shuffled T D_law_draw, PySem.W.mg_of X G a9, k10, (F_law_shuffled.binds (ps := ["_law_d", "_law_row"]) fun _ _ _ _ _ _ us hl => match us, hl with | [_, _], _ => rfl)⟩
  have D_law_pool : Dn l.prog w K mg base "_law_pool" [] 1 spPool := ⟨f__law_pool, _, ok_pool F_law_pool , PySem.W.mg_of X G a11, k12, (F_law_pool.binds (ps := []) fun _ _ _ _ _ _ us hl => match us, hl with | [], _ => rfl)⟩
  have D_law_is_int : Dn l.prog w K mg base "_law_is_int" ["_law_thing"] 1 spIsInt := ⟨f__law_is_int, _, ok_isInt F_law_is_int T, PySem.W.mg_of X G a13, k14, (F_law_is_int.binds (ps := ["_law_thing"]) fun _ _ _ _ _ _ us hl => match us, hl with | [_], _ => rfl)⟩
  have D_law_is_rows : Dn l.prog w K mg base "_law_is_rows" ["_law_rows", "_law_kinds"] 2 spRows := ⟨f__law_is_rows, _, ok_rows F_law_is_rows T D_law_is_int, PySem.W.mg_of X G a15, k16, (F_law_is_rows.binds (ps := ["_law_rows", "_law_kinds"]) fun _ _ _ _ _ _ us hl => match us, hl with | [_, _], _ => rfl)⟩
  have D_law_of_width : Dn l.prog w K mg base "_law_of_width" ["_law_d", "_law_nodes", "_law_width"] 3 spOfW := ⟨f__law_of_width, _, ok_ofW F_law_of_width T D_law_pick, PySem.W.mg_of X G a17, k18, (F_law_of_width.binds (ps := ["_law_d", "_law_nodes", "_law_width"]) fun _ _ _ _ _ _ us hl => match us, hl with | [_, _, _], _ => rfl)⟩
  have D_law_new_node : Dn l.prog w K mg base "_law_new_node" ["_law_d", "_law_nodes", "_law_stores", "_law_most"] 4 spNewNode := ⟨f__law_new_node, _, ok_newNode F_law_new_node T D_law_draw D_law_pick D_law_of_width, PySem.W.mg_of X G a19, k20, (F_law_new_node.binds (ps := ["_law_d", "_law_nodes", "_law_stores", "_law_most"]) fun _ _ _ _ _ _ us hl => match us, hl with | [_, _, _, _], _ => rfl)⟩
  have D_law_graph : Dn l.prog w K mg base "_law_graph" ["_law_d", "_law_inputs", "_law_regs", "_law_mems", "_law_nodes", "_law_most"] 5 spGraph := ⟨f__law_graph, _, ok_graph F_law_graph T D_law_draw D_law_pop D_law_pool D_law_of_width D_law_new_node, PySem.W.mg_of X G a21, k22, (F_law_graph.binds (ps := ["_law_d", "_law_inputs", "_law_regs", "_law_mems", "_law_nodes", "_law_most"]) fun _ _ _ _ _ _ us hl => match us, hl with | [_, _, _, _, _, _], _ => rfl)⟩
  have D_law_tree : Dn l.prog w K mg base "_law_tree" ["_law_d", "_law_nodes", "_law_reg", "_law_wide", "_law_words", "_law_made", "_law_depth"] 8 (spTree 4) := ⟨f__law_tree, _, ok_tree F_law_tree T D_law_draw D_law_pick D_law_of_width (PySem.W.mg_of X G a23) k24 (F_law_tree.binds (ps := ["_law_d", "_law_nodes", "_law_reg", "_law_wide", "_law_words", "_law_made", "_law_depth"]) fun _ _ _ _ _ _ us hl => match us, hl with | [_, _, _, _, _, _, _], _ => rfl) 4, PySem.W.mg_of X G a23, k24, (F_law_tree.binds (ps := ["_law_d", "_law_nodes", "_law_reg", "_law_wide", "_law_words", "_law_made", "_law_depth"]) fun _ _ _ _ _ _ us hl => match us, hl with | [_, _, _, _, _, _, _], _ => rfl)⟩
  have D_law_chain : Dn l.prog w K mg base "_law_chain" ["_law_d", "_law_nodes", "_law_reg", "_law_wide", "_law_words"] 4 spChain := ⟨f__law_chain, _, ok_chain F_law_chain T D_law_draw D_law_of_width, PySem.W.mg_of X G a25, k26, (F_law_chain.binds (ps := ["_law_d", "_law_nodes", "_law_reg", "_law_wide", "_law_words"]) fun _ _ _ _ _ _ us hl => match us, hl with | [_, _, _, _, _], _ => rfl)⟩
  have D_law_machines : Dn l.prog w K mg base "_law_machines" ["_law_d", "_law_graph_here", "_law_many", "_law_longest"] 9 spMach := ⟨f__law_machines, _, ok_mach F_law_machines T D_law_draw D_law_pick D_law_shuffled D_law_chain D_law_tree, PySem.W.mg_of X G a27, k28, (F_law_machines.binds (ps := ["_law_d", "_law_graph_here", "_law_many", "_law_longest"]) fun _ _ _ _ _ _ us hl => match us, hl with | [_, _, _, _], _ => rfl)⟩
  have D_room_width : Dn l.prog w K mg base "room_width" ["many"] 1 spRoom := ⟨f_room_width, _, ok_room F_room_width T, PySem.W.mg_of X G a29, k30, (F_room_width.binds (ps := ["many"]) fun _ _ _ _ _ _ us hl => match us, hl with | [_], _ => rfl)⟩
  have D_picked_nodes : Dn l.prog w K mg base "picked_nodes" ["nodes", "start"] 1 spPicked := ⟨f_picked_nodes, _, ok_picked F_picked_nodes T, PySem.W.mg_of X G a31, k32, (F_picked_nodes.binds (ps := ["nodes", "start"]) fun _ _ _ _ _ _ us hl => match us, hl with | [_, _], _ => rfl)⟩
  have D_picked_words : Dn l.prog w K mg base "picked_words" ["graph", "reg"] 2 spWords := ⟨f_picked_words, _, ok_words F_picked_words T D_picked_nodes, PySem.W.mg_of X G a33, k34, (F_picked_words.binds (ps := ["graph", "reg"]) fun _ _ _ _ _ _ us hl => match us, hl with | [_, _], _ => rfl)⟩
  have D_ranked_codes : Dn l.prog w K mg base "ranked_codes" ["olds", "style"] 2 spRanked := ⟨f_ranked_codes, _, ok_ranked F_ranked_codes TP D_room_width, PySem.W.mg_of X G a35, k36, (F_ranked_codes.binds (ps := ["olds", "style"]) fun _ _ _ _ _ _ us hl => match us, hl with | [_, _], _ => rfl)⟩
  have D_code_paper : Dn l.prog w K mg base "code_paper" ["graph", "style"] 3 spPaper := ⟨f_code_paper, _, ok_paper F_code_paper T D_picked_words D_ranked_codes, PySem.W.mg_of X G a37, k38, (F_code_paper.binds (ps := ["graph", "style"]) fun _ _ _ _ _ _ us hl => match us, hl with | [_, _], _ => rfl)⟩
  have D_law_olds : Dn l.prog w K mg base "_law_olds" ["_law_graph_here", "_law_reg"] 1 spOlds := ⟨f__law_olds, _, ok_olds F_law_olds T, PySem.W.mg_of X G a39, k40, (F_law_olds.binds (ps := ["_law_graph_here", "_law_reg"]) fun _ _ _ _ _ _ us hl => match us, hl with | [_, _], _ => rfl)⟩
  have D_law_paper : Dn l.prog w K mg base "_law_paper" ["_law_graph_here", "_law_style"] 2 spPaper := ⟨f__law_paper, _, ok_lpaper F_law_paper T D_law_olds, PySem.W.mg_of X G a41, k42, (F_law_paper.binds (ps := ["_law_graph_here", "_law_style"]) fun _ _ _ _ _ _ us hl => match us, hl with | [_, _], _ => rfl)⟩
  have D_law_is_paper : Dn l.prog w K mg base "_law_is_paper" ["_law_told"] 3 spIsPaper := ⟨f__law_is_paper, _, ok_isPaper F_law_is_paper T D_law_is_rows, PySem.W.mg_of X G a43, k44, (F_law_is_paper.binds (ps := ["_law_told"]) fun _ _ _ _ _ _ us hl => match us, hl with | [_], _ => rfl)⟩
  exact ok_law F_law T D_law_begin D_law_draw D_law_pick D_law_shuffled D_law_graph D_law_machines D_code_paper D_law_paper D_law_is_paper
end Bf
open PySem PySem.W PyProof.Rows
set_option maxRecDepth 100000 in
set_option maxHeartbeats 0 in
theorem PySem.Challenge.cw_beatfabric_k28_codes_found_holds : PySem.Challenge.rw_beatfabric_k28_codes_found.Holds := by
  w_on; o_law; k_head; (case hw => w_witness2)
  k_fill
  refine L2.walk_of (l := PySem.Challenge.rw_beatfabric_k28_codes_found) (n := 63) (k := 10) (x := "_law_script") (CX := fun _ => L2.CX0) (sp := fun w => Bf.spLaw _) rfl (by decide) rfl ⟨rfl, by decide, by decide⟩ (fun w h Y => PySem.W.kIn_of Y) ?F (fun _ _ a ns hl _ hS => ⟨a, ns, rfl, hS, hl, fun _ => rfl⟩) (fun _ _ _ _ _ h => h)
  case F =>
    intro w mg fa h KX G hmg
    refine' Bf.all_mk KX G hmg ?a1 ?l2 ?c2 ?k2 ?a3 ?l4 ?c4 ?k4 ?a5 ?l6 ?c6 ?k6 ?a7 ?l8 ?c8 ?k8 ?a9 ?l10 ?c10 ?k10 ?a11 ?l12 ?c12 ?k12 ?a13 ?l14 ?c14 ?k14 ?a15 ?l16 ?c16 ?k16 ?a17 ?l18 ?c18 ?k18 ?a19 ?l20 ?c20 ?k20 ?a21 ?l22 ?c22 ?k22 ?a23 ?l24 ?c24 ?k24 ?a25 ?l26 ?c26 ?k26 ?a27 ?l28 ?c28 ?k28 ?a29 ?l30 ?c30 ?k30 ?a31 ?l32 ?c32 ?k32 ?a33 ?l34 ?c34 ?k34 ?a35 ?l36 ?c36 ?k36 ?a37 ?l38 ?c38 ?k38 ?a39 ?l40 ?c40 ?k40 ?a41 ?l42 ?c42 ?k42 ?a43 ?l44 ?c44 ?k44 ?a45 ?l46 ?c46 ?k46 ?x47 ?z48 ?z49 ?z50 ?z51 ?z52 ?z53 ?z54 ?z55 ?z56 ?z57 ?z58 ?z59 ?z60 ?z61 ?z62 ?z63
    (case a1 => k_is)
    (case l2 => k_is)
    (case c2 => k_is)
    (case k2 => k_is)
    (case a3 => k_is)
    (case l4 => k_is)
    (case c4 => k_is)
    (case k4 => k_is)
    (case a5 => k_is)
    (case l6 => k_is)
    (case c6 => k_is)
    (case k6 => k_is)
    (case a7 => k_is)
    (case l8 => k_is)
    (case c8 => k_is)
    (case k8 => k_is)
    (case a9 => k_is)
    (case l10 => k_is)
    (case c10 => k_is)
    (case k10 => k_is)
    (case a11 => k_is)
    (case l12 => k_is)
    (case c12 => k_is)
    (case k12 => k_is)
    (case a13 => k_is)
    (case l14 => k_is)
    (case c14 => k_is)
    (case k14 => k_is)
    (case a15 => k_is)
    (case l16 => k_is)
    (case c16 => k_is)
    (case k16 => k_is)
    (case a17 => k_is)
    (case l18 => k_is)
    (case c18 => k_is)
    (case k18 => k_is)
    (case a19 => k_is)
    (case l20 => k_is)
    (case c20 => k_is)
    (case k20 => k_is)
    (case a21 => k_is)
    (case l22 => k_is)
    (case c22 => k_is)
    (case k22 => k_is)
    (case a23 => k_is)
    (case l24 => k_is)
    (case c24 => k_is)
    (case k24 => k_is)
    (case a25 => k_is)
    (case l26 => k_is)
    (case c26 => k_is)
    (case k26 => k_is)
    (case a27 => k_is)
    (case l28 => k_is)
    (case c28 => k_is)
    (case k28 => k_is)
    (case a29 => k_is)
    (case l30 => k_is)
    (case c30 => k_is)
    (case k30 => k_is)
    (case a31 => k_is)
    (case l32 => k_is)
    (case c32 => k_is)
    (case k32 => k_is)
    (case a33 => k_is)
    (case l34 => k_is)
    (case c34 => k_is)
    (case k34 => k_is)
    (case a35 => k_is)
    (case l36 => k_is)
    (case c36 => k_is)
    (case k36 => k_is)
    (case a37 => k_is)
    (case l38 => k_is)
    (case c38 => k_is)
    (case k38 => k_is)
    (case a39 => k_is)
    (case l40 => k_is)
    (case c40 => k_is)
    (case k40 => k_is)
    (case a41 => k_is)
    (case l42 => k_is)
    (case c42 => k_is)
    (case k42 => k_is)
    (case a43 => k_is)
    (case l44 => k_is)
    (case c44 => k_is)
    (case k44 => k_is)
    (case a45 => k_is)
    (case l46 => k_is)
    (case c46 => k_is)
    (case k46 => k_is)
    (case x47 => k_is)
    (case z48 => k_is)
    (case z49 => k_is)
    (case z50 => k_is)
    (case z51 => k_is)
    (case z52 => k_is)
    (case z53 => k_is)
    (case z54 => k_is)
    (case z55 => k_is)
    (case z56 => k_is)
    (case z57 => k_is)
    (case z58 => k_is)
    (case z59 => k_is)
    (case z60 => k_is)
    (case z61 => k_is)
    (case z62 => k_is)
    (case z63 => k_is)
