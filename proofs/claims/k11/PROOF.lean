import PyProof.Rows.All
import Wide.All
import OpenK.AllK
import Wide.FinOn
import HandS.Base
import HandS.Call
import HandS.List
import HandS.Comp
import HandS.Ends
import HandS.Words
import HandS.Wide
import HandS.WideBits
import HandS.More
import HandS.IsInst
import HandS.CallLocal
import HandS.Text
import HandS.Iter
import HandS.Dict
import HandS.Defaults
import HandS.DeepEq
import HandS.Codes
import HandS.Zip
import HandS.Walk
import HandS.TupAny
import KE.GoesEnum
import KE.GoesMore
import HandS.Style
import HandS.Strs
import HandS.Conv
import HandS.ExcInit
import KE.KExcSuper
import KE.KSuper
import HandS.FStr
import HandS.ExcIs
import HandS.ExcField
import HandS.WordsExc
import HandS.ExcOwn
import KE.KExcIs
import HandS.TryMany
import HandS.ExcCtx
import HandS.HotCalls
import HandS.RaiseFrom
import HandS.NoneIn
import HandS.Rev
import HandS.Deep
import PySem.Challenge.RW_beatfabric_k11_consts
set_option Elab.async false
set_option linter.all false
set_option maxRecDepth 100000
set_option maxHeartbeats 4000000
namespace Bf
open PySem PySem.Spec PyProof.Rows L2

/-! ### rules that the layer lacks -/
section
variable {X : Cx}
def rGetL : V → V → Hp → VK → Prop := fun o i H Q => ∃ p xs k v, o = .ref p ∧ i = .int k ∧ H p = some (.lst xs) ∧ atI xs k = some v ∧ Q v H
theorem get_list : PGet X rGetL := by
  intro pins s σ H o i ov iv Q I ro ri h
  obtain ⟨p, xs, k, z, rfl, rfl, hp, he, q⟩ := h
  cases ro
  obtain ⟨t, rfl⟩ := ri
  obtain ⟨its, r, pl, hz⟩ := I.list (SqL.of hp)
  obtain ⟨j, h1, h2, h3, h4, h5⟩ := atI_get he
  obtain ⟨w, ew, rw'⟩ := r.get h2
  have hl := r.length
  have hn := line63
  have fin : EP X pins σ Q w s := ⟨z, H, I, rw', q⟩
  by_cases h0 : 0 ≤ k
  · have hj : k.toNat = j := by
      rw [seqIndex_of h0 h5] at h1
      exact Option.some.inj h1
    refine PySem.wpAny_getItem_list pl.isList h0 (by omega) (by rw [hj]; simpa using ew) fin
  · have hj : (k + (its.toArray.size : Int)).toNat = j := by
      rw [seqIndex_neg (by omega) h4] at h1
      rw [List.size_toArray, ← hl]
      exact Option.some.inj h1
    exact wpAny_getItem_list_neg pl.isList (by omega) (by rw [List.size_toArray] <;> omega) (by omega) (by rw [hj]; simpa using ew) fin

/-- max, min of two numbers that are not negative -/
theorem cr_maxN (hc : X.calm = true) : CallR X (.builtin "max") (fun xs H Q => ∃ i j : Nat, xs = [V.int i, V.int j] ∧ Q (V.int ((max i j : Nat) : Int)) H) := by
  intro pins s σ H vs us Q I r h
  obtain ⟨i, j, rfl, q⟩ := h
  refine call_max2 hc pins s σ H _ us Q I r ⟨i, j, rfl, ?_⟩
  have e : (if (j : Int) > (i : Int) then (j : Int) else (i : Int)) = ((max i j : Nat) : Int) := by
    by_cases h : (j : Int) > i
    · rw [if_pos h, Nat.max_eq_right (by omega)]
    · rw [if_neg h, Nat.max_eq_left (by omega)]
  rw [e]
  exact q
theorem cr_minN (hc : X.calm = true) : CallR X (.builtin "min") (fun xs H Q => ∃ i j : Nat, xs = [V.int i, V.int j] ∧ Q (V.int ((min i j : Nat) : Int)) H) := by
  intro pins s σ H vs us Q I r h
  obtain ⟨i, j, rfl, q⟩ := h
  refine call_min2 hc pins s σ H _ us Q I r ⟨i, j, rfl, ?_⟩
  have e : (if (j : Int) < (i : Int) then (j : Int) else (i : Int)) = ((min i j : Nat) : Int) := by
    by_cases h : (j : Int) < i
    · rw [if_pos h, Nat.min_eq_right (by omega)]
    · rw [if_neg h, Nat.min_eq_left (by omega)]
  rw [e]
  exact q
/-- sum of a tuple of ints -/
def rSumT (K : PySem.W.Frag) : List V → Hp → VK → Prop := fun vs H Q => ∃ (a : Addr) (ns : List Int), vs = [V.ref a] ∧ SqT K H a (ns.map V.int) ∧ Q (.int ns.sum) H
theorem cr_sumT (hc : X.calm = true) : CallR X (.builtin "sum") (rSumT X.K) := by
  intro pins s σ H vs us Q I r h
  obtain ⟨a, ns, rfl, hs, q⟩ := h
  obtain ⟨its, rv, hl, _⟩ := I.tuple hs
  rw [Vals.ref1 r]
  obtain ⟨xs, e⟩ := rv.ints.allInts.items
  have hn : numsOf (intItems xs).toList = ns := by rw [← e]; exact rv.ints.numsOf
  rw [nums_intItems] at hn
  have hl' : s.heap.IsTuple a (intItems xs) := by
    rw [← e]
    exact hl
  refine PySem.W.ktm_sumG (I.ok.hd hc) hl' fun h' tk t' hk => ?_
  rw [preSum_eq, List.take_of_length_le (by simp), hn]
  exact ⟨.int _, H, I.kept hk, ⟨_, rfl⟩, q⟩
end

/-- a def that stands, with its promise -/
def vI (n : Nat) : V := .int (n : Int)
structure Dn (P : Program) (w : World) (K : PySem.W.Frag) (mg : Str → Option Value) (base : Heap) (x : Str) (ps : List Str) (k : Nat) (sp : Sp) : Prop where
  ex : ∃ (f : Addr) (fd : FuncData), FnOk P w K mg base CX0 k f fd ps sp ∧ mg x = some (.ref f) ∧ PySem.W.keepIn K (.ref f) = true ∧ Binds K fd ps []
def tCallD (sp : Sp) (t : TA) : TE := fun σ H Q => t σ H fun vs H1 => sp vs H1 Q E0
section
variable {X : Cx} {x : Str} {ps : List Str} {k : Nat} {sp : Sp} {e : Expr} {es : List Expr} {t : TA} {p pos : Pos}
theorem pe_dn (D : Dn X.prog X.w X.K X.mg X.base x ps k sp) (hr : Room k X.A) (hg : Gl X x) (ha : PA X (e :: es) t) (hdb : (x == ("__debug__" : Str)) = false := by decide)
    (he : starEach (e :: es) X.env = (false, eval e X.env) :: starEach es X.env := by rfl) (hpl : (backTo pos (starEach es X.env)).any (·.1) = false := by rfl) :
    PE X (.Call (.Name x p) (e :: es) [] pos) (tCallD sp t) := by
  obtain ⟨f, fd, F, hm, hk, hb⟩ := D.ex
  refine ⟨fun pins s σ H Q I h => (pe_call (E := E0) F hr hg hm hk hb .nil pass0 ha hdb he hpl).run pins s σ H Q I ?_⟩
  have e0 : (fun (vs : List V) (H1 : Hp) => sp (vs ++ []) H1 Q E0) = fun vs H1 => sp vs H1 Q E0 := by
    funext vs H1
    rw [List.append_nil]
  show t σ H (fun vs H1 => sp (vs ++ []) H1 Q E0)
  rw [e0]
  exact h
theorem pe_dn0 (D : Dn X.prog X.w X.K X.mg X.base x ps k sp) (hr : Room k X.A) (hg : Gl X x) (hdb : (x == ("__debug__" : Str)) = false := by decide) :
    PE X (.Call (.Name x p) [] [] pos) (tCallD sp tNil) := by
  obtain ⟨f, fd, F, hm, hk, hb⟩ := D.ex
  exact ⟨fun pins s σ H Q I h => (pe_call0 (E := E0) F hr hg hm hk hb .nil pass0 hdb).run pins s σ H Q I h⟩
end
/-- the same where the last arguments are defaults -/
structure DnD (P : Program) (w : World) (K : PySem.W.Frag) (mg : Str → Option Value) (base : Heap) (x : Str) (ps : List Str) (dvs : List V) (k : Nat) (sp : Sp) : Prop where
  ex : ∃ (f : Addr) (fd : FuncData) (ds : List Value), FnOk P w K mg base CX0 k f fd ps sp ∧ mg x = some (.ref f) ∧ PySem.W.keepIn K (.ref f) = true ∧ Binds K fd ps ds ∧ Vals dvs ds
theorem pe_dnD {X : Cx} {x : Str} {ps : List Str} {dvs : List V} {k : Nat} {sp : Sp} {e : Expr} {es : List Expr} {t : TA} {p pos : Pos} (D : DnD X.prog X.w X.K X.mg X.base x ps dvs k sp) (hr : Room k X.A) (hg : Gl X x) (ha : PA X (e :: es) t) (hdb : (x == ("__debug__" : Str)) = false := by decide)
    (he : starEach (e :: es) X.env = (false, eval e X.env) :: starEach es X.env := by rfl) (hpl : (backTo pos (starEach es X.env)).any (·.1) = false := by rfl) :
    PE X (.Call (.Name x p) (e :: es) [] pos) (tCall sp dvs E0 t) := by
  obtain ⟨f, fd, ds, F, hm, hk, hb, hv⟩ := D.ex
  exact pe_call (E := E0) F hr hg hm hk hb hv pass0 ha hdb he hpl
/-- a def of the text, its promise: the level a letter -/
theorem Dn.mk' {P : Program} {w : World} {K : PySem.W.Frag} {mg : Str → Option Value} {base : Heap} {x : Str} {st : Stmt} {ps : List Str} {k : Nat} {sp : Sp} {f : Addr} {fd : FuncData}
    (F : Fun K x x st f fd) (hm : mg x = some (.ref f)) (hb : Binds K fd ps []) (ok : FnOk P w K mg base CX0 k f fd ps sp) : Dn P w K mg base x ps k sp :=
  ⟨f, fd, ok, hm, F.kp, hb⟩
end Bf
namespace Bf
open PySem PySem.Spec PyProof.Rows L2
section
variable {X : Cx} {d : Addr} {es : Array DictEntry} {n : Nat}
/-- d[k], d a dict of the module with text keys -/
theorem ix_kd (D : KDict X.K X.w d es n) : IxR X (fun x y H Q => ∃ (z : Str) (u0 : Value) (v0 : V), x = .ref d ∧ y = .str z ∧ PySem.W.nsIn X.K d z = some (some u0) ∧ RelV v0 u0 ∧ Q v0 H) := by
  intro value slice pins s σ H x y v u Q I rx ry h hs
  have h0 := h
  obtain ⟨z, u0, v0, rfl, rfl, e, r, q⟩ := h
  cases rx
  exact tail_any (kd_type D I) PySem.slot_dict_getitem.lookup (op_item_kd D pins s σ H (V.ref d) (V.str z) _ u Q I (show RelV (V.ref d) (Value.ref d) from rfl) ry h0) hs
/-- of several defs that the slot may hold: the def and its promise are told in the reading -/
def tCallH (P : Program) (w : World) (K : PySem.W.Frag) (mg : Str → Option Value) (base : Heap) (k i : Nat) (t : TA) : TE := fun σ H Q => ∃ f sp fd ps, σ[i]? = some (some (.ref f)) ∧ FnOk P w K mg base CX0 k f fd ps sp ∧ PySem.W.keepIn K (.ref f) = true ∧ Binds K fd ps [] ∧ t σ H fun vs H1 => sp vs H1 Q E0
theorem pe_held {i k : Nat} {x : Str} {p pos : Pos} {e : Expr} {es : List Expr} {t : TA} (hr : Room k X.A) (hN : X.N[i]? = some x) (hv : Vis X.env.scope x) (ha : PA X (e :: es) t)
    (hdb : (x == ("__debug__" : Str)) = false := by decide) (hcd : (x == ("__classdict__" : Str)) = false := by decide)
    (he : starEach (e :: es) X.env = (false, eval e X.env) :: starEach es X.env := by rfl) (hpl : (backTo pos (starEach es X.env)).any (·.1) = false := by rfl) : PE X (.Call (.Name x p) (e :: es) [] pos) (tCallH X.prog X.w X.K X.mg X.base k i t) := by
  refine ⟨fun pins s σ H Q I h => ?_⟩
  obtain ⟨f, sp, fd, ps, hs, F, hk, hb, ht⟩ := h
  refine (pe_callL (i := i) (f := f) (sp := sp) (dvs := []) (E := E0) F hr hN hv hk hb .nil pass0 ha hdb hcd he hpl).run pins s σ H Q I ⟨hs, ?_⟩
  have e0 : (fun (vs : List V) (H1 : Hp) => sp (vs ++ []) H1 Q E0) = fun vs H1 => sp vs H1 Q E0 := by
    funext vs H1
    rw [List.append_nil]
  show t σ H (fun vs H1 => sp (vs ++ []) H1 Q E0)
  rw [e0]
  exact ht
end
end Bf

set_option Elab.async false
set_option linter.all false
set_option maxRecDepth 100000
set_option maxHeartbeats 4000000
namespace Bf
open PySem PySem.Spec PyProof.Rows L2
/-! ### small steps of a reading -/
theorem ifY {c : Bool} {A B : Prop} (e : c = true) (h : A) : if c = true then A else B := by
  rw [if_pos e]
  exact h
theorem ifN {c : Bool} {A B : Prop} (e : c = false) (h : B) : if c = true then A else B := by
  rw [e]
  exact iteF h
theorem rdL {K : PySem.W.Frag} {H : Hp} {a : Addr} {xs : List V} {i : Int} {v : V} {Q : VK} (h : SqL K H a xs) (e : atI xs i = some v) (k : Q v H) : rIxL K (.ref a) (.int i) H Q := ⟨a, xs, _, v, rfl, rfl, h, e, k⟩
theorem rdC {v : V} {σ : L2.St} {H : Hp} {Q : VK} (k : Q v H) : tC v σ H Q := k
theorem seqNew {K : PySem.W.Frag} {H : Hp} {a p : Addr} {o : HO} {xs : List V} (hp : H p = none) (h : SqL K H a xs) : SqL K (upd H p o) a xs := by
  rcases h with (h | ⟨u, h⟩) | h
  · exact .inl (.inl (by rw [upd_ne (ne_of_none h hp)]; exact h))
  · exact .inl (.inr ⟨u, by rw [upd_ne (ne_of_none h hp)]; exact h⟩)
  · exact .inr h
theorem le1000 {n : Nat} (h : n ≤ 1000) : n ≤ sizeLine := Nat.le_of_lt (small1000 h)
end Bf

set_option Elab.async false
set_option linter.all false
set_option maxRecDepth 100000
set_option maxHeartbeats 4000000
namespace Bf
open PySem PySem.Spec PyProof.Rows L2

/-! ### what enumerate and zip walk: a list or a tuple -/
structure Src where
  sq : PySem.W.Frag → Hp → Addr → List V → Prop
  itr : Heap → Addr → Addr → Nat → Prop
  isS : Heap → Addr → Array Value → Prop
  ob : Addr → Obj
  inv : ∀ {X : Cx} {pins : List (Addr × Obj)} {σ : L2.St} {H : Hp} {s : Shared} {a : Addr} {xs : List V}, Inv X pins σ H s → sq X.K H a xs → ∃ its : List Value, Vals xs its ∧ isS s.heap a its.toArray
  inj : ∀ {X : Cx} {pins : List (Addr × Obj)} {σ : L2.St} {H : Hp} {s : Shared} {a : Addr} {xs ys : List V}, Inv X pins σ H s → sq X.K H a xs → sq X.K H a ys → xs = ys
  draws : ∀ {prog : Program} {w : World} {A : Around}, A.handled = none → ∀ (it l : Addr), l ≠ it → ∀ (items : Array Value), Draws prog w A it [it, l] items.size (fun i v => items[i]? = some v) (fun i h => itr h it l i ∧ isS h l items)
  obj : ∀ {h : Heap} {it a : Addr} {i : Nat}, itr h it a i → ∃ o, h.get? it = some o ∧ ∀ v, o.data ≠ .cell v
  at_ : ∀ {h h' : Heap} {it a : Addr} {i : Nat}, itr h it a i → (∀ o, h.get? it = some o → h'.get? it = some o) → itr h' it a i
  beg : ∀ (a : Addr) (items : Array Value), Begins (.ref a) (ob a) (fun h => isS h a items)
  start : ∀ {h : Heap} {it a : Addr}, h.get? it = some (ob a) → itr h it a 0
  lt : ∀ {h : Heap} {a : Addr} {items : Array Value}, isS h a items → a < h.objs.size
  keep : ∀ {K : PySem.W.Frag} {H H' : Hp} {a : Addr} {xs : List V}, Same H H' → sq K H a xs → sq K H' a xs
theorem seqT_same {K : PySem.W.Frag} {H H' : Hp} {a : Addr} {xs : List V} (k : Same H H') (h : SqT K H a xs) : SqT K H' a xs := by
  rcases h with (h | ⟨u, h⟩) | h
  · exact .inl (.inl (k _ _ h))
  · exact .inl (.inr ⟨u, k _ _ h⟩)
  · exact .inr h

def srcL : Src where
  sq := fun K H a xs => SqL K H a xs
  itr := fun h it a i => h.IsListIter it a i
  isS := fun h a items => h.IsList a items
  ob := fun a => { cls := .type "list_iterator", data := .fields #[.ref a, .int 0 0] }
  inv := fun I h => let ⟨its, r, p, _⟩ := I.list h; ⟨its, r, p.isList⟩
  inj := fun I h h' => I.list_inj h h'
  draws := fun hh it l hne items => Draws.list hh it l hne items
  obj := fun ⟨o, e, c, d⟩ => ⟨o, e, fun v z => by rw [d] at z; cases z⟩
  at_ := fun x k => x.at k
  beg := fun a items => begins_list a items
  start := fun e => ⟨_, e, rfl, rfl⟩
  lt := fun ⟨o, e, _⟩ => Heap.lt_size e
  keep := fun k h => k.seq h

def srcT : Src where
  sq := fun K H a xs => SqT K H a xs
  itr := fun h it a i => h.IsTupleIter it a i
  isS := fun h a items => h.IsTuple a items
  ob := fun a => { cls := .type "tuple_iterator", data := .fields #[.ref a, .int 0 0] }
  inv := fun I h => let ⟨its, r, p, _⟩ := I.tuple h; ⟨its, r, p⟩
  inj := fun I h h' => I.tuple_inj h h'
  draws := fun hh it l hne items => Draws.tuple hh it l hne items
  obj := fun ⟨o, e, c, d⟩ => ⟨o, e, fun v z => by rw [d] at z; cases z⟩
  at_ := fun x k => x.at k
  beg := fun a items => begins_tuple a items
  start := fun e => ⟨_, e, rfl, rfl⟩
  lt := fun ⟨o, e, _⟩ => Heap.lt_size e
  keep := fun k h => seqT_same k h

/-! ### enumerate -/
def ItE (S : Src) (K : PySem.W.Frag) (a : Addr) : It :=
  ⟨fun i H => ∃ (xs : List V) (x : V), S.sq K H a xs ∧ xs[i]? = some x, fun i H v H' => ∃ T x, v = .ref T ∧ H T = none ∧ H' = upd H T (.tup [.int (i : Nat), x]) ∧ ∀ xs, S.sq K H a xs → xs[i]? = some x, fun i H => ∃ xs : List V, S.sq K H a xs ∧ xs.length = i⟩

theorem turn_enumG (S : Src) {P : Program} {w : World} {K : PySem.W.Frag} {elts : List Expr} {kk : Nat} {tpos : Pos} (a e it : Addr) :
    Turn P w K (.Tuple elts kk tpos) (ItE S K a) [e, it] e (fun i h => (∃ old, IsEnum h e it ((i : Nat) : Int) old) ∧ S.itr h it a i ∧ e ≠ it ∧ e ≠ a ∧ a ≠ it) where
  mem := by simp
  obj := fun i h st b hb => by
    obtain ⟨⟨old, he⟩, hi, _⟩ := st
    have e' : b = e ∨ b = it := by simpa using hb
    rcases e' with z | z
    · rw [z]; exact ⟨_, he, fun v q => nomatch q⟩
    · rw [z]; exact S.obj hi
  keep := fun i h h' st k => let ⟨⟨old, he⟩, hi, r⟩ := st; ⟨⟨old, k e (by simp) _ he⟩, S.at_ hi fun o q => k it (by simp) o q, r⟩
  item := by
    intro X hP hw hK hc i pins s σ H E I hf st hg
    subst hP hw hK
    obtain ⟨⟨old, he⟩, hit, hne, hea, hai⟩ := st
    obtain ⟨xs, x, hq, hx⟩ := hg
    obtain ⟨its, rv, p⟩ := S.inv I hq
    obtain ⟨u, hu, ru⟩ := rv.get hx
    have hel : e < s.heap.objs.size := Heap.lt_size he
    have hil : it < s.heap.objs.size := by obtain ⟨_, q, _⟩ := S.obj hit; exact Heap.lt_size q
    have hlt : i < its.toArray.size := by
      have q := (List.getElem?_eq_some_iff.mp hu).1
      simpa using q
    refine wpAny_pyNext_enum_itemD (S.draws (show X.A.in1.handled = none from I.ok.hd hc) it a hai its.toArray) he ⟨hit, p⟩ hlt hne (by simp [hne, hea]) fun v h' tk hv ho hst hT hsz hk => ?_
    have ev : u = v := by
      have q : its[i]? = some v := by simpa using hv
      rw [hu] at q; cases q; rfl
    subst ev
    refine ⟨_, rfl, wpAny_letOwnedTupleGo_enum (s := { s with heap := h', toks := tk + 1 }) ho fun h'' he' sb => ?_⟩
    have hT2 : h''.get? s.heap.objs.size = some { cls := .type "tuple", data := .seq #[.int i tk, u] } := (sb.2 _ (Nat.ne_of_gt hel)).trans hT
    have new : ObjOk X.prog X.w (upd H s.heap.objs.size (.tup [.int (i : Nat), x])) h'' s.heap.objs.size (.tup [.int (i : Nat), x]) :=
      ⟨by show 2 ≤ sizeLine; decide, [.int i tk, u], .cons ⟨_, rfl⟩ (.cons ru .nil), ⟨_, hT2, rfl, _, rfl⟩⟩
    have I1 : Inv X pins σ (upd H s.heap.objs.size (.tup [.int (i : Nat), x])) { s with heap := h'', toks := tk + 1 } :=
      I.turnedNew (ch := [e, it]) (fun b ob hb q => (sb.2 b (fun z => hb (by simp [z]))).trans (hk b ob (fun z => hb (by simp [z])) (fun z => hb (by simp [z])) q)) hf (Nat.le_refl _) new
    refine ⟨.ref s.heap.objs.size, _, I1, rfl, ⟨_, x, rfl, I.hok.fresh (Nat.le_refl _), rfl, fun ys hy => by rw [S.inj I hy hq]; exact hx⟩, ⟨⟨u, ?_⟩, S.at_ hst.1 fun o q => (sb.2 it (Ne.symm hne)).trans q, hne, hea, hai⟩, fun b hb => ?_⟩
    · have e1 : ((i + 1 : Nat) : Int) = (i : Int) + 1 := by omega
      rw [e1]; exact he'
    · have hb' : b < s.heap.objs.size := by
        have e' : b = e ∨ b = it := by simpa using hb
        rcases e' with z | z
        · rw [z]; exact hel
        · rw [z]; exact hil
      rw [upd_ne (Nat.ne_of_lt hb')]
      exact (hf b hb).1
  done := by
    intro X hP hw hK hc i pins s σ H E I hf st hg
    subst hP hw hK
    obtain ⟨⟨old, he⟩, hit, hne, hea, hai⟩ := st
    obtain ⟨xs, hq, hx⟩ := hg
    obtain ⟨its, rv, p⟩ := S.inv I hq
    obtain ⟨f0, f1, f2, f3, f4, f5⟩ := hf it (by simp)
    have hl := rv.length
    have hn : its.toArray.size = i := by rw [List.size_toArray]; omega
    subst hn
    exact wpAny_pyNext_enum_endD (S.draws (show X.A.in1.handled = none from I.ok.hd hc) it a hai its.toArray) he ⟨hit, p⟩ fun h' eb => ⟨rfl, I.turned (t' := s.toks) (fun b o hb q => eb b o hb q) f0 f1 f3 f4 f5⟩
  self := fun A i s Q E st h => let ⟨⟨_, he⟩, _⟩ := st; wpAny_pyIter_enum he h

theorem meets_enum_new0 {v : Value} {o : Obj} {H : Heap → Prop} (B : Begins v o H) :
    Meets (Builtin.«enumerate.__new__» ⟨[.type "enumerate", v], []⟩) (fun _ R s => H s.heap ∧
      R (.ok (.ret (.ref (s.heap.push o).objs.size))) { s with heap := (s.heap.push o).push { cls := .type "enumerate", data := .fields #[.none, .bool false, .ref s.heap.objs.size, rawInt 0, .none, .none] } }) :=
  .of_wp fun prog w A R s h => by
    obtain ⟨hp, g, d, tk, os⟩ := s; obtain ⟨h1, h⟩ := h
    have hsub := sub_enumerate
    have q1 : ∀ {A' : Around} {E : Value → Shared → Prop} {Q : Value → Shared → Prop}, Q (.ref hp.objs.size) ⟨hp.push o, g, d, tk, os⟩ → wpAny (model prog w) A' (pyIter v) Q E ⟨hp, g, d, tk, os⟩ :=
      fun q => B.iter prog w _ _ ⟨hp, g, d, tk, os⟩ _ h1 q
    wp_walk using q1
    refine wpAny_stack_any fun st => wpAny_pure ?_
    split
    · rename_i c _ _ _ _ _
      cases (c == Value.type "enumerate")
      · wp_walk using q1
        exact ⟨_, rfl, h⟩
      · wp_walk using q1
        exact ⟨_, rfl, h⟩
    · wp_walk using q1
      exact ⟨_, rfl, h⟩
section
variable {prog : Program} {w : World} {A : Around} {E : Value → Shared → Prop} {s : Shared}
theorem enum_begins0 {v : Value} {o : Obj} {H : Heap → Prop} {Q : Value → Shared → Prop} (B : Begins v o H) (h1 : H s.heap)
    (h : ∀ h', IsEnum h' (s.heap.objs.size + 1) s.heap.objs.size 0 .none → h'.get? s.heap.objs.size = some o → h'.objs.size = s.heap.objs.size + 2 →
      (∀ b o, s.heap.get? b = some o → h'.get? b = some o) → Q (.ref (s.heap.objs.size + 1)) { s with heap := h' }) :
    wpAny (model prog w) A (call (.type "enumerate") [v]) Q E s := by
  refine callType_new F.called_enumerate (by decide) (F.typeCall_enumerate_1 _) (F.newCall_enumerate_1 _) (fun obj => F.args_object_init_2 obj _) F.entry_enumerate_new
    (meets_enum_new0 B) ⟨h1, ?_⟩
  have hz : (s.heap.push o).objs.size = s.heap.objs.size + 1 := Heap.size_push ..
  show _ ∧ _
  rw [hz]
  have he : IsEnum ((s.heap.push o).push { cls := .type "enumerate", data := .fields #[.none, .bool false, .ref s.heap.objs.size, rawInt 0, .none, .none] }) (s.heap.objs.size + 1) s.heap.objs.size 0 .none := by
    have := Heap.get?_push_size (s.heap.push o) (o := { cls := .type "enumerate", data := .fields #[.none, .bool false, .ref s.heap.objs.size, rawInt 0, .none, .none] }) rfl
    rw [hz] at this; exact this
  exact ⟨⟨_, he, rfl⟩, h _ he (Heap.get?_push_of_some _ (Heap.get?_push_size _ B.free)) (by rw [Heap.size_push, hz]) fun b o x => Heap.get?_push_of_some _ (Heap.get?_push_of_some _ x)⟩
end
def iEnG (S : Src) (K : PySem.W.Frag) (ta : TA) : TI := fun σ H R => ta σ H fun vs H1 => ∃ a xs, vs = [.ref a] ∧ S.sq K H1 a xs ∧ R (ItE S K a) H1
theorem enumG_run (S : Src) {X : Cx} {pins : List (Addr × Obj)} {σ : L2.St} {H1 : Hp} {s1 : Shared} {us : List Value} {vs : List V} {elts : List Expr} {kk : Nat} {tpos : Pos} {R : It → Hp → Prop} (I1 : Inv X pins σ H1 s1) (r1 : Vals vs us)
    (q1 : ∃ (a : Addr) (xs : List V), vs = [.ref a] ∧ S.sq X.K H1 a xs ∧ R (ItE S X.K a) H1) :
    wpAny (model X.prog X.w) X.A (call (.type "enumerate") us) (fun v s1 => wpAny (model X.prog X.w) X.A (pyIter v) (PIE X pins σ (.Tuple elts kk tpos) R) X.xe s1) X.xe s1 := by
  obtain ⟨a, xs, ex, hq, q⟩ := q1
  subst ex
  cases r1 with
  | cons r rr =>
    cases rr
    cases r
    obtain ⟨its, rv, p'⟩ := S.inv I1 hq
    have la := S.lt p'
    refine enum_begins0 (S.beg a its.toArray) p' fun h' he hit hsz hk => wpAny_pyIter_enum he ?_
    have I2 : Inv X pins σ H1 { s1 with heap := h' } := I1.kept (t' := s1.toks) hk
    refine ⟨s1.heap.objs.size + 1, [s1.heap.objs.size + 1, s1.heap.objs.size], _, _, H1, rfl, I2, turn_enumG S a (s1.heap.objs.size + 1) s1.heap.objs.size, ⟨⟨.none, he⟩, S.start hit, Nat.succ_ne_self _, Nat.ne_of_gt (Nat.lt_succ_of_lt la), Nat.ne_of_lt la⟩, fun b hb => ?_, q⟩
    have e' : b = s1.heap.objs.size + 1 ∨ b = s1.heap.objs.size := by simpa using hb
    have hle : s1.heap.objs.size ≤ b := by
      rcases e' with z | z
      · rw [z]; exact Nat.le_add_right _ _
      · rw [z]; exact Nat.le_refl _
    exact I1.fpOk hle (I1.hok.fresh hle)

/-! ### zip of two -/
def ItZ (S1 S2 : Src) (K : PySem.W.Frag) (a b : Addr) : It :=
  ⟨fun i H => ∃ (xs ys : List V) (x y : V), S1.sq K H a xs ∧ S2.sq K H b ys ∧ xs[i]? = some x ∧ ys[i]? = some y,
    fun i H v H' => ∃ T x y, v = .ref T ∧ H T = none ∧ H' = upd H T (.tup [x, y]) ∧ (∀ xs, S1.sq K H a xs → xs[i]? = some x) ∧ ∀ ys, S2.sq K H b ys → ys[i]? = some y,
    fun i H => ∃ xs ys : List V, S1.sq K H a xs ∧ S2.sq K H b ys ∧ i ≤ xs.length ∧ i ≤ ys.length ∧ (i = xs.length ∨ i = ys.length)⟩
theorem turn_zipG (S1 S2 : Src) {P : Program} {w : World} {K : PySem.W.Frag} {elts : List Expr} {kk : Nat} {tpos : Pos} {a b z TI TO i1 i2 : Addr} (D : ZipSep2 z TI TO i1 i2 [i1, a] [i2, b]) (ha1 : a ≠ i1) (hb2 : b ≠ i2) :
    Turn P w K (.Tuple elts kk tpos) (ItZ S1 S2 K a b) [z, TI, TO, i1, i2] z (fun i h => IsZip h z TI TO .none ∧ IsTupOf2 h TI (.ref i1) (.ref i2) ∧ (∃ x y, IsTupOf2 h TO x y) ∧ S1.itr h i1 a i ∧ S2.itr h i2 b i) where
  mem := by simp
  obj := fun i h st c hc => by
    obtain ⟨hz, hTI, ⟨x, y, hTO⟩, h1, h2⟩ := st
    have e' : c = z ∨ c = TI ∨ c = TO ∨ c = i1 ∨ c = i2 := by simpa using hc
    rcases e' with q | q | q | q | q
    · rw [q]; exact ⟨_, hz, fun v q => nomatch q⟩
    · rw [q]; exact ⟨_, hTI, fun v q => nomatch q⟩
    · rw [q]; exact ⟨_, hTO, fun v q => nomatch q⟩
    · rw [q]; exact S1.obj h1
    · rw [q]; exact S2.obj h2
  keep := fun i h h' st k => by
    obtain ⟨hz, hTI, ⟨x, y, hTO⟩, h1, h2⟩ := st
    exact ⟨k z (by simp) _ hz, k TI (by simp) _ hTI, ⟨x, y, k TO (by simp) _ hTO⟩, S1.at_ h1 fun o q => k i1 (by simp) o q, S2.at_ h2 fun o q => k i2 (by simp) o q⟩
  item := by
    intro X hP hw hK hc i pins s σ H E I hf st hg
    subst hP hw hK
    obtain ⟨hz, hTI, ⟨x0, y0, hTO⟩, h1, h2⟩ := st
    obtain ⟨xs, ys, x, y, hqx, hqy, hx, hy⟩ := hg
    obtain ⟨its, rv, p⟩ := S1.inv I hqx
    obtain ⟨its2, rv2, p2⟩ := S2.inv I hqy
    obtain ⟨u, hu, ru⟩ := rv.get hx
    obtain ⟨u2, hu2, ru2⟩ := rv2.get hy
    have hzl : z < s.heap.objs.size := Heap.lt_size hz
    have hlt : i < its.toArray.size := by
      have q := (List.getElem?_eq_some_iff.mp hu).1
      simpa using q
    have hlt2 : i < its2.toArray.size := by
      have q := (List.getElem?_eq_some_iff.mp hu2).1
      simpa using q
    have hh : X.A.in1.handled = none := I.ok.hd hc
    refine wpAny_pyNext_zipD2_item D (S1.draws hh i1 a ha1 its.toArray) (S2.draws hh i2 b hb2 its2.toArray) hz hTI hTO ⟨h1, p⟩ ⟨h2, p2⟩ hlt hlt2 fun v v2 h' tk hv hv2 z' TO' st1 st2 hT hsz hk => ?_
    have ev : u = v := by
      have q : its[i]? = some v := by simpa using hv
      rw [hu] at q; cases q; rfl
    have ev2 : u2 = v2 := by
      have q : its2[i]? = some v2 := by simpa using hv2
      rw [hu2] at q; cases q; rfl
    subst ev ev2
    refine ⟨_, rfl, wpAny_letOwnedTupleGo_zip (s := { s with heap := h', toks := tk }) z' fun h'' z'' sb => ?_⟩
    have hT2 : h''.get? s.heap.objs.size = some { cls := .type "tuple", data := .seq #[u, u2] } := (sb.2 _ (Nat.ne_of_gt hzl)).trans hT
    have new : ObjOk X.prog X.w (upd H s.heap.objs.size (.tup [x, y])) h'' s.heap.objs.size (.tup [x, y]) :=
      ⟨by show 2 ≤ sizeLine; decide, [u, u2], .cons ru (.cons ru2 .nil), ⟨_, hT2, rfl, _, rfl⟩⟩
    have I1 : Inv X pins σ (upd H s.heap.objs.size (.tup [x, y])) { s with heap := h'', toks := tk } :=
      I.turnedNew (ch := [z, TI, TO, i1, i2]) (fun c o hb q => (sb.2 c (fun q' => hb (by simp [q']))).trans (hk c o (fun q' => hb (by simp [q'])) (fun q' => hb (by simp [q'])) (fun q' => hb (by simp [q'])) (fun q' => hb (by simp [q'])) q)) hf (Nat.le_refl _) new
    have zi1 : i1 ≠ z := fun q => D.zf1 (by simp [q])
    have zi2 : i2 ≠ z := fun q => D.zf2 (by simp [q])
    refine ⟨.ref s.heap.objs.size, _, I1, rfl, ⟨_, x, y, rfl, I.hok.fresh (Nat.le_refl _), rfl, fun l hl => by rw [S1.inj I hl hqx]; exact hx, fun l hl => by rw [S2.inj I hl hqy]; exact hy⟩, ⟨z'', ?_, ⟨u, u2, ?_⟩, ?_, ?_⟩, fun c hcm => ?_⟩
    · exact (sb.2 _ D.TIz).trans (hk _ _ D.TIz D.TITO D.TIi1 D.TIi2 hTI)
    · exact (sb.2 _ D.TOz).trans TO'
    · exact S1.at_ st1.1 fun o q => (sb.2 _ zi1).trans q
    · exact S2.at_ st2.1 fun o q => (sb.2 _ zi2).trans q
    · have hlt : c < s.heap.objs.size := by
        have e' : c = z ∨ c = TI ∨ c = TO ∨ c = i1 ∨ c = i2 := by simpa using hcm
        rcases e' with q | q | q | q | q
        · rw [q]; exact hzl
        · rw [q]; exact Heap.lt_size hTI
        · rw [q]; exact Heap.lt_size hTO
        · rw [q]; obtain ⟨_, e1, _⟩ := S1.obj h1; exact Heap.lt_size e1
        · rw [q]; obtain ⟨_, e2, _⟩ := S2.obj h2; exact Heap.lt_size e2
      rw [upd_ne (Nat.ne_of_lt hlt)]
      exact (hf c hcm).1
  done := by
    intro X hP hw hK hc i pins s σ H E I hf st hg
    subst hP hw hK
    obtain ⟨hz, hTI, ⟨x0, y0, hTO⟩, h1, h2⟩ := st
    obtain ⟨xs, ys, hqx, hqy, le1, le2, hend⟩ := hg
    obtain ⟨its, rv, p⟩ := S1.inv I hqx
    obtain ⟨its2, rv2, p2⟩ := S2.inv I hqy
    have l1 := rv.length
    have l2 := rv2.length
    have hh : X.A.in1.handled = none := I.ok.hd hc
    exact wpAny_pyNext_zipD2_end D (S1.draws hh i1 a ha1 its.toArray) (S2.draws hh i2 b hb2 its2.toArray) hz hTI hTO ⟨h1, p⟩ ⟨h2, p2⟩ (by rw [List.size_toArray]; omega) (by rw [List.size_toArray]; omega)
      (by rw [List.size_toArray, List.size_toArray]; omega) fun h' tk hk => ⟨rfl, I.turnedL (t' := tk) (ch := [z, TI, TO, i1, i2]) (fun c o hb q =>
      hk c o (fun q' => hb (by simp [q'])) (fun q' => hb (by simp [q'])) (fun q' => hb (by simp [q'])) (fun q' => hb (by simp [q'])) q) hf⟩
  self := fun A i s Q E st h => wpAny_pyIter_zip st.1 h
def iZpG (S1 S2 : Src) (K : PySem.W.Frag) (ta : TA) : TI := fun σ H R => ta σ H fun vs H1 => ∃ a b xs ys, vs = [.ref a, .ref b] ∧ S1.sq K H1 a xs ∧ S2.sq K H1 b ys ∧ R (ItZ S1 S2 K a b) H1
theorem zipG_run (S1 S2 : Src) {X : Cx} {pins : List (Addr × Obj)} {σ : L2.St} {H1 : Hp} {s1 : Shared} {us : List Value} {vs : List V} {elts : List Expr} {kk : Nat} {tpos : Pos} {R : It → Hp → Prop} (I1 : Inv X pins σ H1 s1) (r1 : Vals vs us)
    (q1 : ∃ (a b : Addr) (xs ys : List V), vs = [.ref a, .ref b] ∧ S1.sq X.K H1 a xs ∧ S2.sq X.K H1 b ys ∧ R (ItZ S1 S2 X.K a b) H1) :
    wpAny (model X.prog X.w) X.A (call (.type "zip") us) (fun v s1 => wpAny (model X.prog X.w) X.A (pyIter v) (PIE X pins σ (.Tuple elts kk tpos) R) X.xe s1) X.xe s1 := by
  obtain ⟨a, b, xs, ys, ex, hqx, hqy, q⟩ := q1
  subst ex
  cases r1 with
  | cons r rr =>
    cases rr with
    | cons r' rr =>
      cases rr
      cases r
      cases r'
      obtain ⟨its, rv, p1⟩ := S1.inv I1 hqx
      obtain ⟨its2, rv2, p2⟩ := S2.inv I1 hqy
      have la := S1.lt p1
      have lb := S2.lt p2
      refine zip_begins2 (S1.beg a its.toArray) (S2.beg b its2.toArray) p1 p2 fun h' hz hTI hTO h1 h2 hsz hk => wpAny_pyIter_zip hz ?_
      have I2 : Inv X pins σ H1 { s1 with heap := h' } := I1.kept (t' := s1.toks) hk
      refine ⟨s1.heap.objs.size + 4, [s1.heap.objs.size + 4, s1.heap.objs.size + 2, s1.heap.objs.size + 3, s1.heap.objs.size, s1.heap.objs.size + 1], _, _, H1, rfl, I2,
        turn_zipG S1 S2 (zip_sep2 (fp1 := [a]) (fp2 := [b]) (by intro c hc; rw [List.mem_singleton.mp hc]; exact la) (by intro c hc; rw [List.mem_singleton.mp hc]; exact lb)) (Nat.ne_of_lt la) (Nat.ne_of_lt (Nat.lt_succ_of_lt lb)),
        ⟨hz, hTI, ⟨_, _, hTO⟩, S1.start h1, S2.start h2⟩, fun c hcm => ?_, q⟩
      have e' : c = s1.heap.objs.size + 4 ∨ c = s1.heap.objs.size + 2 ∨ c = s1.heap.objs.size + 3 ∨ c = s1.heap.objs.size ∨ c = s1.heap.objs.size + 1 := by simpa using hcm
      have hle : s1.heap.objs.size ≤ c := by
        rcases e' with z | z | z | z | z
        · rw [z]; exact Nat.le_add_right _ _
        · rw [z]; exact Nat.le_add_right _ _
        · rw [z]; exact Nat.le_add_right _ _
        · rw [z]; exact Nat.le_refl _
        · rw [z]; exact Nat.le_add_right _ _
      exact I1.fpOk hle (I1.hok.fresh hle)

/-! ### for over them -/
theorem for_enumG (S : Src) {K : PySem.W.Frag} {a : Addr} {xs : List V} {g : TG} {tb : TS} {D : Ends} {σ : L2.St} {H : Hp} (Pv : Nat → L2.St → Hp → Prop) (h0 : Pv 0 σ H) (hq : ∀ i σ H, Pv i σ H → S.sq K H a xs)
    (hs : ∀ (i : Nat) (x : V) (T : Addr) (σ : L2.St) (H : Hp), xs[i]? = some x → Pv i σ H → H T = none → g (.ref T) σ (upd H T (.tup [.int (i : Nat), x])) fun σ2 H2 => tb { D with nx := Pv (i + 1), ct := Pv (i + 1), bk := D.nx } σ2 H2) (hd : ∀ σ H, Pv xs.length σ H → D.nx σ H) :
    ∃ W : Nat → Nat → L2.St → Hp → Prop, (∃ m, W 0 m σ H) ∧ ∀ i m σ H, W i m σ H →
      ((ItE S K a).stop i H ∧ D.nx σ H) ∨ ((ItE S K a).go i H ∧ ∃ N : L2.St → Hp → Prop, (∀ σ' H', N σ' H' → ∃ m', m' < m ∧ W (i + 1) m' σ' H') ∧ ∀ v H', (ItE S K a).yld i H v H' → g v σ H' fun σ2 H2 => tb { D with nx := N, ct := N, bk := D.nx } σ2 H2) := by
  refine ⟨fun i m σ H => m = xs.length - i ∧ i ≤ xs.length ∧ Pv i σ H, ⟨xs.length, rfl, Nat.zero_le _, h0⟩, ?_⟩
  rintro i m σ H ⟨rfl, hi, p⟩
  have qx := hq i σ H p
  by_cases hlt : i < xs.length
  · have hx : xs[i]? = some xs[i] := List.getElem?_eq_getElem hlt
    refine .inr ⟨⟨xs, _, qx, hx⟩, Pv (i + 1), fun σ' H' p' => ⟨xs.length - (i + 1), by omega, rfl, hlt, p'⟩, fun v H' y => ?_⟩
    obtain ⟨T, x', rfl, hT, rfl, f1⟩ := y
    exact hs i x' T σ H (f1 xs qx) p hT
  · have e : i = xs.length := by omega
    subst e
    exact .inl ⟨⟨xs, qx, rfl⟩, hd σ H p⟩
theorem for_zipG (S1 S2 : Src) {K : PySem.W.Frag} {a b : Addr} {xs ys : List V} {g : TG} {tb : TS} {D : Ends} {σ : L2.St} {H : Hp} (hl : xs.length = ys.length) (Pv : Nat → L2.St → Hp → Prop) (h0 : Pv 0 σ H) (hq : ∀ i σ H, Pv i σ H → S1.sq K H a xs ∧ S2.sq K H b ys)
    (hs : ∀ (i : Nat) (x y : V) (T : Addr) (σ : L2.St) (H : Hp), xs[i]? = some x → ys[i]? = some y → Pv i σ H → H T = none → g (.ref T) σ (upd H T (.tup [x, y])) fun σ2 H2 => tb { D with nx := Pv (i + 1), ct := Pv (i + 1), bk := D.nx } σ2 H2) (hd : ∀ σ H, Pv xs.length σ H → D.nx σ H) :
    ∃ W : Nat → Nat → L2.St → Hp → Prop, (∃ m, W 0 m σ H) ∧ ∀ i m σ H, W i m σ H →
      ((ItZ S1 S2 K a b).stop i H ∧ D.nx σ H) ∨ ((ItZ S1 S2 K a b).go i H ∧ ∃ N : L2.St → Hp → Prop, (∀ σ' H', N σ' H' → ∃ m', m' < m ∧ W (i + 1) m' σ' H') ∧ ∀ v H', (ItZ S1 S2 K a b).yld i H v H' → g v σ H' fun σ2 H2 => tb { D with nx := N, ct := N, bk := D.nx } σ2 H2) := by
  refine ⟨fun i m σ H => m = xs.length - i ∧ i ≤ xs.length ∧ Pv i σ H, ⟨xs.length, rfl, Nat.zero_le _, h0⟩, ?_⟩
  rintro i m σ H ⟨rfl, hi, p⟩
  obtain ⟨qx, qy⟩ := hq i σ H p
  by_cases hlt : i < xs.length
  · have hx : xs[i]? = some xs[i] := List.getElem?_eq_getElem hlt
    have hlt2 : i < ys.length := by omega
    have hy : ys[i]? = some ys[i] := List.getElem?_eq_getElem hlt2
    refine .inr ⟨⟨xs, ys, _, _, qx, qy, hx, hy⟩, Pv (i + 1), fun σ' H' p' => ⟨xs.length - (i + 1), by omega, rfl, hlt, p'⟩, fun v H' y => ?_⟩
    obtain ⟨T, x', y', rfl, hT, rfl, f1, f2⟩ := y
    exact hs i x' y' T σ H (f1 xs qx) (f2 ys qy) p hT
  · have e : i = xs.length := by omega
    subst e
    exact .inl ⟨⟨xs, ys, qx, qy, Nat.le_refl _, by omega, .inl rfl⟩, hd σ H p⟩

theorem for_zipLe (S1 S2 : Src) {K : PySem.W.Frag} {a b : Addr} {xs ys : List V} {g : TG} {tb : TS} {D : Ends} {σ : L2.St} {H : Hp} (hl : xs.length ≤ ys.length) (Pv : Nat → L2.St → Hp → Prop) (h0 : Pv 0 σ H) (hq : ∀ i σ H, Pv i σ H → S1.sq K H a xs ∧ S2.sq K H b ys)
    (hs : ∀ (i : Nat) (x y : V) (T : Addr) (σ : L2.St) (H : Hp), xs[i]? = some x → ys[i]? = some y → Pv i σ H → H T = none → g (.ref T) σ (upd H T (.tup [x, y])) fun σ2 H2 => tb { D with nx := Pv (i + 1), ct := Pv (i + 1), bk := D.nx } σ2 H2) (hd : ∀ σ H, Pv xs.length σ H → D.nx σ H) :
    ∃ W : Nat → Nat → L2.St → Hp → Prop, (∃ m, W 0 m σ H) ∧ ∀ i m σ H, W i m σ H →
      ((ItZ S1 S2 K a b).stop i H ∧ D.nx σ H) ∨ ((ItZ S1 S2 K a b).go i H ∧ ∃ N : L2.St → Hp → Prop, (∀ σ' H', N σ' H' → ∃ m', m' < m ∧ W (i + 1) m' σ' H') ∧ ∀ v H', (ItZ S1 S2 K a b).yld i H v H' → g v σ H' fun σ2 H2 => tb { D with nx := N, ct := N, bk := D.nx } σ2 H2) := by
  refine ⟨fun i m σ H => m = xs.length - i ∧ i ≤ xs.length ∧ Pv i σ H, ⟨xs.length, rfl, Nat.zero_le _, h0⟩, ?_⟩
  rintro i m σ H ⟨rfl, hi, p⟩
  obtain ⟨qx, qy⟩ := hq i σ H p
  by_cases hlt : i < xs.length
  · have hx : xs[i]? = some xs[i] := List.getElem?_eq_getElem hlt
    have hlt2 : i < ys.length := by omega
    have hy : ys[i]? = some ys[i] := List.getElem?_eq_getElem hlt2
    refine .inr ⟨⟨xs, ys, _, _, qx, qy, hx, hy⟩, Pv (i + 1), fun σ' H' p' => ⟨xs.length - (i + 1), by omega, rfl, hlt, p'⟩, fun v H' y => ?_⟩
    obtain ⟨T, x', y', rfl, hT, rfl, f1, f2⟩ := y
    exact hs i x' y' T σ H (f1 xs qx) (f2 ys qy) p hT
  · have e : i = xs.length := by omega
    subst e
    exact .inl ⟨⟨xs, ys, qx, qy, Nat.le_refl _, by omega, .inl rfl⟩, hd σ H p⟩

/-! ### two tuples of the same numbers -/
theorem canLay_ints : ∀ ns : List Nat, PyData.canLayAll0 (ns.map fun n : Nat => PyData.int (n : Int)) = true
  | [] => by simp [PyData.canLayAll0]
  | n :: r => by
    rw [List.map_cons, PyData.canLayAll0, canLay_ints r]
    simp [PyData.canLay0]
theorem depth_ints : ∀ ns : List Nat, PyData.depthAll (ns.map fun n : Nat => PyData.int (n : Int)) ≤ 1
  | [] => by simp [PyData.depthAll]
  | n :: r => by
    have := depth_ints r
    rw [List.map_cons, PyData.depthAll]
    simp [PyData.depth] <;> omega
theorem dp_ints {K : PySem.W.Frag} {H : Hp} : ∀ ns : List Nat, DpAll K H (ns.map vI) (ns.map fun n : Nat => PyData.int (n : Int))
  | [] => .nil
  | n :: r => .cons (.int _) (dp_ints r)
theorem shaped_ints (ns : List Nat) : SeqAt.shaped (.tuple (ns.map fun n : Nat => PyData.int (n : Int))) = true := by
  have h := depth_ints ns
  unfold SeqAt.shaped
  rw [PyData.canLay0, canLay_ints, Bool.true_and]
  refine decide_eq_true ?_
  rw [PyData.depth]
  omega
def rNeI (K : PySem.W.Frag) : R2 := fun x y H Q => ∃ (a b : Addr) (ns : List Nat), x = .ref a ∧ y = .ref b ∧ SqT K H a (ns.map vI) ∧ SqT K H b (ns.map vI) ∧ Q (.bl false) H
theorem op_neI {X : Cx} (hu : X.A.units + 64 < cLine) : OpR X (compareOp .NotEq) (rNeI X.K) := by
  intro pins s σ H x y v u Q I rx ry h
  obtain ⟨a, b, ns, rfl, rfl, ha, hb, q⟩ := h
  refine op_neD hu pins s σ H _ _ v u Q I rx ry ⟨_, _, .tup ha (dp_ints ns), .tup hb (dp_ints ns), shaped_ints ns, shaped_ints ns, ?_⟩
  rw [SeqAt.eqv_refl _ (SeqAt.canLay_of_shaped (shaped_ints ns))]
  exact q
def rEqI (K : PySem.W.Frag) : R2 := fun x y H Q => ∃ (a b : Addr) (ns : List Nat), x = .ref a ∧ y = .ref b ∧ SqT K H a (ns.map vI) ∧ SqT K H b (ns.map vI) ∧ Q (.bl true) H
theorem op_eqI {X : Cx} (hu : X.A.units + 64 < cLine) : OpR X (compareOp .Eq) (rEqI X.K) := by
  intro pins s σ H x y v u Q I rx ry h
  obtain ⟨a, b, ns, rfl, rfl, ha, hb, q⟩ := h
  refine op_eqD hu pins s σ H _ _ v u Q I rx ry ⟨_, _, .tup ha (dp_ints ns), .tup hb (dp_ints ns), shaped_ints ns, shaped_ints ns, ?_⟩
  rw [SeqAt.eqv_refl _ (SeqAt.canLay_of_shaped (shaped_ints ns))]
  exact q

/-! ### list.extend(tuple) -/
theorem ext_tupA (l : Addr) (items : Array Value) (n : Nat) (b : Addr) (items2 : Array Value) (n2 : Nat) (dd : Option Addr) (sl : Array (Option Value)) (hs0 : ¬(!items.isEmpty && Builtin.List.listTooLong (items.size + items2.size)) = true) (hs1 : items.size ≤ sizeLine) (hs2 : items.size + items2.size ≤ sizeLine + 1) :
    Meets (Builtin.«list.extend» ⟨[.ref l, .ref b], []⟩) (fun _ R s => s.heap.get? l = some { cls := .type "list", dict := none, data := .seq items n, slots := #[] } ∧ s.heap.get? b = some { cls := .type "tuple", dict := dd, data := .seq items2 n2, slots := sl } ∧ R (.ok (.ret Value.none)) { s with heap := s.heap.update l (Obj.mapSeq fun x => x ++ items2), toks := s.toks }) :=
  .of_wp fun prog w A R s h => by
    obtain ⟨hp, g, d, tk, os⟩ := s; obtain ⟨hl, hb, h⟩ := h; have f2 := sub_tuple_tuple; have f3 := sub_list_list; have f4 := sub_tuple_list; have f5 := sub_list_tuple
    have hz' : (items ++ items2).size ≤ sizeLine + 1 := by rw [Array.size_append]; exact hs2
    wp_walk using (wpAny_updateSeq hl rfl (hz := hs1) (_hz' := hz')), wpAny_loadPart' hl, wpAny_loadPart' hb
    exact ⟨_, rfl, h⟩
def rExtT (K : PySem.W.Frag) : V → List V → Hp → VK → Prop := fun x vs H Q => ∃ l b xs zs, x = .ref l ∧ vs = [.ref b] ∧ H l = some (.lst xs) ∧ SqT K H b zs ∧ xs.length + zs.length ≤ sizeLine ∧ Q .non (upd H l (.lst (xs ++ zs)))
theorem mt_extT {X : Cx} : MtM X "list.extend" (rExtT X.K) := by
  intro pins s σ H x vs v us Q I rx rv h
  obtain ⟨l, b, xs, zs, rfl, rfl, hH, hB, hz, q⟩ := h
  cases rx
  obtain ⟨u, rfl, ru⟩ := rv.one
  cases ru
  obtain ⟨z, its, n, r, hl, e⟩ := I.lstM hH
  obtain ⟨its2, r2, p2, hl2⟩ := I.tuple hB
  obtain ⟨⟨cls, dd, data, sl⟩, ho, hc, n2, hd⟩ := id p2
  simp only at hc hd
  subst hc hd
  have len2 := r2.length
  have hsz : its.toArray.size + its2.toArray.size ≤ sizeLine := by rw [List.size_toArray, List.size_toArray]; omega
  have hlong : ¬ (!its.toArray.isEmpty && Builtin.List.listTooLong (its.toArray.size + its2.toArray.size)) = true := by
    rw [notLongL hsz, Bool.and_false]
    exact Bool.false_ne_true
  refine call_meets F.slot_list_extend ⟨_, e, rfl⟩ F.entry_list_extend (F.args_list_extend_2 _ _)
    (ext_tupA l its.toArray n b its2.toArray n2 dd sl hlong (by rw [List.size_toArray]; omega) (by omega)) ⟨e, ho, ?_⟩
  refine ⟨.non, _, I.lset (its' := its ++ its2) hH e (by simp) (r.append r2) ?_, rfl, q⟩
  rw [List.length_append]
  omega

/-! ### the source as it comes -/
def iEnX (K : PySem.W.Frag) (ta : TA) : TI := fun σ H R => ta σ H fun vs H1 => ∃ (S : Src) (a : Addr) (xs : List V), vs = [.ref a] ∧ S.sq K H1 a xs ∧ R (ItE S K a) H1
theorem pi_enumX {X : Cx} {e : Expr} {ta : TA} {p pos tpos : Pos} {elts : List Expr} {kk : Nat} (hg : Gl X "enumerate") (hm : X.mg "enumerate" = none) (ha : PA X [e] ta) (hs : starEach [e] X.env = [(false, eval e X.env)] := by rfl) :
    PI X (.Tuple elts kk tpos) (.Call (.Name "enumerate" p) [e] [] pos) (iEnX X.K ta) := by
  refine ⟨fun pins s σ H R I h => ?_⟩
  have h' : ta σ H fun vs H1 => ∃ S : Src, ∃ (a : Addr) (xs : List V), vs = [.ref a] ∧ S.sq X.K H1 a xs ∧ R (ItE S X.K a) H1 := h
  refine Call_ (ld_blt I hg hm boot_enumerate (PyProof.Rows.callWith_type1 (thn (ha.run pos pins s σ H _ I h') fun us s1 ⟨vs, H1, I1, r1, q1⟩ => ?_) hs rfl))
  obtain ⟨S, a, xs, ex, hq, q⟩ := q1
  exact enumG_run S I1 r1 ⟨a, xs, ex, hq, q⟩
def iZpX (K : PySem.W.Frag) (ta : TA) : TI := fun σ H R => ta σ H fun vs H1 => ∃ (S1 S2 : Src) (a b : Addr) (xs ys : List V), vs = [.ref a, .ref b] ∧ S1.sq K H1 a xs ∧ S2.sq K H1 b ys ∧ R (ItZ S1 S2 K a b) H1
theorem pi_zipX {X : Cx} {e e2 : Expr} {ta : TA} {p pos tpos : Pos} {elts : List Expr} {kk : Nat} (hg : Gl X "zip") (hm : X.mg "zip" = none) (ha : PA X [e, e2] ta)
    (hs : starEach [e, e2] X.env = (false, eval e X.env) :: starEach [e2] X.env := by rfl) (hpl : (backTo pos (starEach [e2] X.env)).any (·.1) = false := by rfl) :
    PI X (.Tuple elts kk tpos) (.Call (.Name "zip" p) [e, e2] [] pos) (iZpX X.K ta) := by
  refine ⟨fun pins s σ H R I h => ?_⟩
  have h' : ta σ H fun vs H1 => ∃ S1 S2 : Src, ∃ (a b : Addr) (xs ys : List V), vs = [.ref a, .ref b] ∧ S1.sq X.K H1 a xs ∧ S2.sq X.K H1 b ys ∧ R (ItZ S1 S2 X.K a b) H1 := h
  refine Call_ (ld_blt I hg hm PyProof.Rows.boot_zip (PyProof.Rows.callWith_type1 (thn (ha.run pos pins s σ H _ I h') fun us s1 ⟨vs, H1, I1, r1, q1⟩ => ?_) hs hpl))
  obtain ⟨S1, S2, a, b, xs, ys, ex, hqx, hqy, q⟩ := q1
  exact zipG_run S1 S2 I1 r1 ⟨a, b, xs, ys, ex, hqx, hqy, q⟩
end Bf

set_option Elab.async false
set_option linter.all false
set_option maxRecDepth 100000
set_option maxHeartbeats 4000000
namespace Bf
open PySem PySem.Spec PyProof.Rows L2
/-! ### data of tuples, ints and texts, as they lie -/
mutual
inductive Lay (H : Hp) : V → PyData → Prop
  | non : Lay H .non .none
  | bl (b : Bool) : Lay H (.bl b) (.bool b)
  | int (i : Int) : Lay H (.int i) (.int i)
  | str (x : Str) : Lay H (.str x) (.str x)
  | tup {a : Addr} {xs : List V} {ds : List PyData} : H a = some (.tup xs) → LayAll H xs ds → Lay H (.ref a) (.tuple ds)
inductive LayAll (H : Hp) : List V → List PyData → Prop
  | nil : LayAll H [] []
  | cons {v : V} {vs : List V} {d : PyData} {ds : List PyData} : Lay H v d → LayAll H vs ds → LayAll H (v :: vs) (d :: ds)
end
/-- what is tracked as a tuple in H is so in H' -/
def KeepT (H H' : Hp) : Prop := ∀ b xs, H b = some (.tup xs) → H' b = some (.tup xs)
theorem KeepT.refl (H : Hp) : KeepT H H := fun _ _ h => h
theorem KeepT.same {H H' : Hp} (k : Same H H') : KeepT H H' := fun b xs h => k _ _ h
theorem KeepT.trans {H H1 H2 : Hp} (a : KeepT H H1) (b : KeepT H1 H2) : KeepT H H2 := fun c o h => b c o (a c o h)
theorem KeepT.new {H : Hp} {p : Addr} {o : HO} (h : H p = none) : KeepT H (upd H p o) := fun b u q => by rw [upd_ne (ne_of_none q h)]; exact q
theorem KeepT.lst {H : Hp} {p : Addr} {o : HO} {l : List V} (h : H p = some (.lst l)) : KeepT H (upd H p o) := fun b u q => by
  rw [upd_ne (fun e => by rw [e, h] at q; cases q)]
  exact q
mutual
theorem Lay.keep {H H' : Hp} (k : KeepT H H') : ∀ (d : PyData) (v : V), Lay H v d → Lay H' v d
  | .none, _, h => by cases h; exact .non
  | .bool b, _, h => by cases h; exact .bl b
  | .int i, _, h => by cases h; exact .int i
  | .str x, _, h => by cases h; exact .str x
  | .list ds, _, h => by cases h
  | .tuple ds, _, h => by
    cases h with
    | tup e a => exact .tup (k _ _ e) (LayAll.keep k ds _ a)
  | .dict _, _, h => by cases h
theorem LayAll.keep {H H' : Hp} (k : KeepT H H') : ∀ (ds : List PyData) (vs : List V), LayAll H vs ds → LayAll H' vs ds
  | [], _, h => by cases h; exact .nil
  | d :: ds, _, h => by
    cases h with
    | cons a b => exact .cons (Lay.keep k d _ a) (LayAll.keep k ds _ b)
end
mutual
theorem Lay.dp {K : PySem.W.Frag} {H : Hp} : ∀ (d : PyData) (v : V), Lay H v d → Dp K H v d
  | .none, _, h => by cases h; exact .non
  | .bool b, _, h => by cases h; exact .bl b
  | .int i, _, h => by cases h; exact .int i
  | .str x, _, h => by cases h; exact .str x
  | .list ds, _, h => by cases h
  | .tuple ds, _, h => by
    cases h with
    | tup e a => exact .tup (SqT.of e) (LayAll.dp ds _ a)
  | .dict _, _, h => by cases h
theorem LayAll.dp {K : PySem.W.Frag} {H : Hp} : ∀ (ds : List PyData) (vs : List V), LayAll H vs ds → DpAll K H vs ds
  | [], _, h => by cases h; exact .nil
  | d :: ds, _, h => by
    cases h with
    | cons a b => exact .cons (Lay.dp d _ a) (LayAll.dp ds _ b)
end
theorem Lay.keep' {H H' : Hp} {d : PyData} {v : V} (h : Lay H v d) (k : KeepT H H') : Lay H' v d := Lay.keep k d v h
theorem LayAll.keep' {H H' : Hp} {ds : List PyData} {vs : List V} (h : LayAll H vs ds) (k : KeepT H H') : LayAll H' vs ds := LayAll.keep k ds vs h
theorem Lay.dp' {K : PySem.W.Frag} {H : Hp} {d : PyData} {v : V} (h : Lay H v d) : Dp K H v d := Lay.dp d v h
theorem LayAll.len {H : Hp} : ∀ {vs : List V} {ds : List PyData}, LayAll H vs ds → vs.length = ds.length
  | _, _, .nil => rfl
  | _, _, .cons _ h => by rw [List.length_cons, List.length_cons, h.len]
theorem LayAll.get {H : Hp} {v : V} : ∀ {vs : List V} {ds : List PyData} (i : Nat), LayAll H vs ds → vs[i]? = some v → ∃ d, ds[i]? = some d ∧ Lay H v d
  | [], _, _, _, e => by simp at e
  | _ :: _, _, 0, h, e => by
    cases h with
    | cons a b => cases e; exact ⟨_, rfl, a⟩
  | x :: vs, ds, i + 1, h, e => by
    cases h with
    | cons a b =>
      obtain ⟨d, q, l⟩ := LayAll.get (vs := vs) i b (by simpa using e)
      exact ⟨d, by simpa using q, l⟩
theorem LayAll.at_ {H : Hp} {d : PyData} : ∀ {vs : List V} {ds : List PyData} (i : Nat), LayAll H vs ds → ds[i]? = some d → ∃ v, vs[i]? = some v ∧ Lay H v d
  | _, [], _, _, e => by simp at e
  | _, _ :: _, 0, h, e => by
    cases h with
    | cons a b => cases e; exact ⟨_, rfl, a⟩
  | vs, x :: ds, i + 1, h, e => by
    cases h with
    | cons a b =>
      obtain ⟨d, q, l⟩ := LayAll.at_ (ds := ds) i b (by simpa using e)
      exact ⟨d, by simpa using q, l⟩
theorem LayAll.app {H : Hp} : ∀ {vs us : List V} {ds es : List PyData}, LayAll H vs ds → LayAll H us es → LayAll H (vs ++ us) (ds ++ es)
  | _, _, _, _, .nil, h => h
  | _, _, _, _, .cons a b, h => .cons a (b.app h)
theorem LayAll.snoc {H : Hp} {vs : List V} {ds : List PyData} {v : V} {d : PyData} (h : LayAll H vs ds) (a : Lay H v d) : LayAll H (vs ++ [v]) (ds ++ [d]) := h.app (.cons a .nil)
theorem LayAll.ints {H : Hp} : ∀ ns : List Nat, LayAll H (ns.map vI) (ns.map fun n : Nat => PyData.int (n : Int))
  | [] => .nil
  | n :: ns => .cons (.int _) (LayAll.ints ns)
theorem LayAll.ints_inv {H : Hp} : ∀ {ns : List Nat} {vs : List V}, LayAll H vs (ns.map fun n : Nat => PyData.int (n : Int)) → vs = ns.map vI
  | [], _, .nil => rfl
  | n :: ns, _, .cons (.int _) h => by rw [LayAll.ints_inv h]; rfl
theorem LayAll.strs_inv {H : Hp} : ∀ {ns : List Str} {vs : List V}, LayAll H vs (ns.map PyData.str) → vs = ns.map V.str
  | [], _, .nil => rfl
  | n :: ns, _, .cons (.str _) h => by rw [LayAll.strs_inv h]; rfl
theorem LayAll.strs {H : Hp} : ∀ ns : List Str, LayAll H (ns.map V.str) (ns.map PyData.str)
  | [] => .nil
  | n :: ns => .cons (.str _) (LayAll.strs ns)
theorem Lay.tup_inv {H : Hp} {v : V} {ds : List PyData} (h : Lay H v (.tuple ds)) : ∃ p vs, v = .ref p ∧ H p = some (.tup vs) ∧ LayAll H vs ds := by
  cases h with
  | tup e a => exact ⟨_, _, rfl, e, a⟩
theorem Lay.int_inv {H : Hp} {v : V} {i : Int} (h : Lay H v (.int i)) : v = .int i := by cases h; rfl
theorem Lay.str_inv {H : Hp} {v : V} {z : Str} (h : Lay H v (.str z)) : v = .str z := by cases h; rfl
theorem LayAll.nil_inv {H : Hp} {vs : List V} (h : LayAll H vs []) : vs = [] := by cases h; rfl
theorem LayAll.cons_inv {H : Hp} {vs : List V} {d : PyData} {ds : List PyData} (h : LayAll H vs (d :: ds)) : ∃ v us, vs = v :: us ∧ Lay H v d ∧ LayAll H us ds := by
  cases h with
  | cons a b => exact ⟨_, _, rfl, a, b⟩
/-! ### the shapes that == serves -/
def Sh (k : Nat) (d : PyData) : Prop := d.canLay0 = true ∧ d.depth ≤ k
theorem Sh.int (k : Nat) (i : Int) : Sh k (.int i) := ⟨by simp only [PyData.canLay0], by simp only [PyData.depth]; omega⟩
theorem Sh.all {k : Nat} : ∀ {ds : List PyData}, (∀ d ∈ ds, Sh k d) → PyData.canLayAll0 ds = true ∧ PyData.depthAll ds ≤ k
  | [], _ => ⟨by simp only [PyData.canLayAll0], by simp only [PyData.depthAll]; omega⟩
  | d :: ds, h => by
    have a := h d (by simp)
    have b := Sh.all (ds := ds) fun e he => h e (by simp [he])
    refine ⟨?_, ?_⟩
    · simp only [PyData.canLayAll0]
      rw [a.1, b.1]
      rfl
    · simp only [PyData.depthAll]
      have := a.2
      have := b.2
      omega
theorem Sh.tup {k : Nat} {ds : List PyData} (h : ∀ d ∈ ds, Sh k d) : Sh (k + 1) (.tuple ds) := by
  have q := Sh.all h
  exact ⟨by simp only [PyData.canLay0]; exact q.1, by simp only [PyData.depth]; omega⟩
theorem Sh.lst {k : Nat} {ds : List PyData} (h : ∀ d ∈ ds, Sh k d) : Sh (k + 1) (.list ds) := by
  have q := Sh.all h
  exact ⟨by simp only [PyData.canLay0]; exact q.1, by simp only [PyData.depth]; omega⟩
theorem Sh.shaped {k : Nat} {d : PyData} (h : Sh k d) (hk : k ≤ 64) : SeqAt.shaped d = true := by
  show (d.canLay0 && decide (d.depth ≤ 64)) = true
  rw [Bool.and_eq_true]
  exact ⟨h.1, decide_eq_true (by have := h.2; omega)⟩
mutual
theorem eqv_self : ∀ d : PyData, d.canLay0 = true → PyData.eqv d d = true
  | .none, _ => by simp [PyData.eqv]
  | .bool b, _ => by simp [PyData.eqv]
  | .int i, _ => by simp [PyData.eqv]
  | .str x, _ => by simp [PyData.eqv]
  | .list ds, h => by
    simp only [PyData.canLay0] at h
    simp only [PyData.eqv]
    exact eqvAll_self ds h
  | .tuple ds, h => by
    simp only [PyData.canLay0] at h
    simp only [PyData.eqv]
    exact eqvAll_self ds h
  | .dict _, h => by simp [PyData.canLay0] at h
theorem eqvAll_self : ∀ ds : List PyData, PyData.canLayAll0 ds = true → PyData.eqvAll ds ds = true
  | [], _ => by simp [PyData.eqvAll]
  | d :: ds, h => by
    simp only [PyData.canLayAll0, Bool.and_eq_true] at h
    simp only [PyData.eqvAll, Bool.and_eq_true]
    exact ⟨eqv_self d h.1, eqvAll_self ds h.2⟩
end
/-! ### bits of numbers that are not negative -/
section
variable {X : Cx}
theorem op_xorB : OpR X (binaryOp .BitXor) (fun x y H Q => ∃ n m : Nat, x = .int (n : Int) ∧ y = .int (m : Int) ∧ Q (vI (n ^^^ m)) H) := by
  intro pins s σ H x y v u Q I rx ry h
  obtain ⟨n, m, rfl, rfl, q⟩ := h
  refine op_xor pins s σ H _ _ v u Q I rx ry ⟨_, _, rfl, rfl, ?_⟩
  show Q (V.int (Builtin.bitXor (n : Int) (m : Int))) H
  rw [Bits.bitXor_pp (Int.natCast_nonneg _) (Int.natCast_nonneg _)]
  exact q
theorem op_andB : OpR X (binaryOp .BitAnd) (fun x y H Q => ∃ n m : Nat, x = .int (n : Int) ∧ y = .int (m : Int) ∧ Q (vI (n &&& m)) H) := by
  intro pins s σ H x y v u Q I rx ry h
  obtain ⟨n, m, rfl, rfl, q⟩ := h
  refine op_and pins s σ H _ _ v u Q I rx ry ⟨_, _, rfl, rfl, ?_⟩
  show Q (V.int (Builtin.bitAnd (n : Int) (m : Int))) H
  rw [bitAnd_pp (Int.natCast_nonneg _) (Int.natCast_nonneg _)]
  exact q
theorem op_orB : OpR X (binaryOp .BitOr) (fun x y H Q => ∃ n m : Nat, x = .int (n : Int) ∧ y = .int (m : Int) ∧ Q (vI (n ||| m)) H) := by
  intro pins s σ H x y v u Q I rx ry h
  obtain ⟨n, m, rfl, rfl, q⟩ := h
  refine op_or pins s σ H _ _ v u Q I rx ry ⟨_, _, rfl, rfl, ?_⟩
  show Q (V.int (Builtin.bitOr (n : Int) (m : Int))) H
  rw [Bits.bitOr_pp (Int.natCast_nonneg _) (Int.natCast_nonneg _)]
  exact q
end
/-! ### wide numbers that are not negative -/
theorem natAbs_cast (n : Nat) : ((n : Int)).natAbs = n := rfl
section
variable {X : Cx}
theorem op_fdivNW : OpR X (binaryOp .FloorDiv) (fun x y H Q => ∃ n m : Nat, x = .int (n : Int) ∧ y = .int (m : Int) ∧ (1 ≤ m ∧ m < 2 ^ 9000) ∧ Q (vI (n / m)) H) := by
  intro pins s σ H x y v u Q I rx ry h
  obtain ⟨n, m, rfl, rfl, ⟨h1, h2⟩, q⟩ := h
  exact op_fdivW pins s σ H _ _ v u Q I rx ry ⟨_, _, rfl, rfl, wide_div (b := 9000) (by omega) h2 (by omega) (by omega), q⟩
theorem op_mulNW : OpR X (binaryOp .Mult) (fun x y H Q => ∃ n m : Nat, x = .int (n : Int) ∧ y = .int (m : Int) ∧ (n < 2 ^ 100000 ∧ m < 2 ^ 100000) ∧ Q (vI (n * m)) H) := by
  intro pins s σ H x y v u Q I rx ry h
  obtain ⟨n, m, rfl, rfl, ⟨h1, h2⟩, q⟩ := h
  refine op_mulW pins s σ H _ _ v u Q I rx ry ⟨_, _, rfl, rfl, wide_mul (a := 100000) (b := 100000) h1 h2 (by omega) (by omega) (by omega), ?_⟩
  show Q (V.int ((n : Int) * (m : Int))) H
  rw [← Int.natCast_mul]
  exact q
theorem op_shlNN : OpR X (binaryOp .LShift) (fun x y H Q => ∃ n k : Nat, x = .int (n : Int) ∧ y = .int (k : Int) ∧ (n < 2 ^ 100000 ∧ k ≤ 100000) ∧ Q (vI (n * 2 ^ k)) H) := by
  intro pins s σ H x y v u Q I rx ry h
  obtain ⟨n, k, rfl, rfl, ⟨h1, h2⟩, q⟩ := h
  refine op_shlN pins s σ H _ _ v u Q I rx ry ⟨_, k, rfl, rfl, shl_ok (n := 100000) h1 (by omega), ?_⟩
  have e : ((n : Int) * 2 ^ k) = ((n * 2 ^ k : Nat) : Int) := by simp
  rw [e]
  exact q
theorem op_oneShlN : OpR X (binaryOp .LShift) (fun x y H Q => ∃ k : Nat, x = .int 1 ∧ y = .int (k : Int) ∧ k ≤ 134217727 ∧ Q (vI (2 ^ k)) H) := by
  intro pins s σ H x y v u Q I rx ry h
  obtain ⟨k, rfl, rfl, h1, q⟩ := h
  refine op_oneShl pins s σ H _ _ v u Q I rx ry ⟨k, rfl, rfl, h1, ?_⟩
  have e : ((2 : Int) ^ k) = ((2 ^ k : Nat) : Int) := by simp
  rw [e]
  exact q
end
/-! ### walks -/
theorem walk_enumG (S : Src) {K : PySem.W.Frag} {a : Addr} {xs : List V} : Walk (ItE S K a) xs.length (fun H => S.sq K H a xs) (YPair (fun i => some (.int (i : Nat))) (fun i => xs[i]?)) := by
  refine ⟨fun i _ hi q => ⟨xs, xs[i], q, by simp [hi]⟩, fun _ q => ⟨xs, q, rfl⟩, fun i H v H' _ q y => ?_⟩
  obtain ⟨T, x, h1, h2, h3, h4⟩ := y
  exact ⟨T, .int (i : Nat), x, h1, h2, h3, rfl, h4 xs q⟩
def rLenK (K : PySem.W.Frag) (xs : List V) (H : Hp) (Q : V → Hp → Prop) : Prop := ∃ p ys, xs = [.ref p] ∧ (SqL K H p ys ∨ SqT K H p ys) ∧ Q (.int ys.length) H
theorem call_lenK {X : Cx} : CallR X (.builtin "len") (rLenK X.K) := call_len_seq
/-! ### small facts -/
theorem refAt {ts : List Addr} {i : Nat} {x : V} (h : (ts.map V.ref)[i]? = some x) : ∃ t, ts[i]? = some t ∧ x = .ref t := by
  rw [List.getElem?_map] at h
  cases e : ts[i]? with
  | none => rw [e] at h; cases h
  | some k => rw [e] at h; exact ⟨k, rfl, (Option.some.inj h).symm⟩
theorem natAt {xs : List Nat} {i : Nat} {x : V} (h : (xs.map vI)[i]? = some x) : ∃ k, xs[i]? = some k ∧ x = vI k := by
  rw [List.getElem?_map] at h
  cases e : xs[i]? with
  | none => rw [e] at h; cases h
  | some k => rw [e] at h; exact ⟨k, rfl, (Option.some.inj h).symm⟩
theorem mapAt {α : Type} {f : α → V} {xs : List α} {i : Nat} {x : V} (h : (xs.map f)[i]? = some x) : ∃ k, xs[i]? = some k ∧ x = f k := by
  rw [List.getElem?_map] at h
  cases e : xs[i]? with
  | none => rw [e] at h; cases h
  | some k => rw [e] at h; exact ⟨k, rfl, (Option.some.inj h).symm⟩
theorem mapAtD {α : Type} {f : α → PyData} {xs : List α} {i : Nat} {x : PyData} (h : (xs.map f)[i]? = some x) : ∃ k, xs[i]? = some k ∧ x = f k := by
  rw [List.getElem?_map] at h
  cases e : xs[i]? with
  | none => rw [e] at h; cases h
  | some k => rw [e] at h; exact ⟨k, rfl, (Option.some.inj h).symm⟩
theorem take_snoc {α : Type} {l : List α} {i : Nat} {x : α} (h : l[i]? = some x) : l.take (i + 1) = l.take i ++ [x] := by
  rw [List.take_add_one, h]
  rfl
theorem same_two {H H' : Hp} {p : Addr} {o : HO} (k : Same H H') (hp : H p = none) : Same H (upd H' p o) := fun b u q => by
  rw [upd_ne (ne_of_none q hp)]
  exact k _ _ q
theorem i62 {n : Nat} (h : n ≤ 1000) : -(2 ^ 62) ≤ (n : Int) ∧ (n : Int) < 2 ^ 62 := by
  have a : (-(2 ^ 62) : Int) ≤ 0 := by decide
  have b : (1001 : Int) ≤ 2 ^ 62 := by decide
  exact ⟨Int.le_trans a (Int.natCast_nonneg _), Int.lt_of_lt_of_le (by omega) b⟩
theorem vInt {i : Int} {n : Nat} (h : i = (n : Int)) : V.int i = vI n := by rw [h]; rfl
theorem all_true : ∀ n : Nat, (List.replicate n true).all id = true
  | 0 => rfl
  | n + 1 => by
    rw [List.replicate_succ, List.all_cons, all_true n]
    rfl
theorem len1000 {n : Nat} (h : n ≤ 1000) : n < sizeLine := small1000 h
end Bf

set_option Elab.async false
set_option linter.all false
set_option maxRecDepth 100000
set_option maxHeartbeats 4000000
namespace Bf
open PySem PySem.Spec PyProof.Rows L2
/-! ### set(list of ints), so that it can be sorted: what set() has, member by member -/
theorem ints_at : ∀ {us : List Value} {xs : List Int}, IntsAre us xs → ∀ (i : Nat) (v : Value), us[i]? = some v → ∃ t, v = .int (xs.getD i 0) t
  | _, _, .nil, i, v, h => by simp at h
  | _, _, .cons n t hr, 0, v, h => by simp at h; exact ⟨t, by rw [← h] <;> rfl⟩
  | _, _, .cons n t hr, i + 1, v, h => by
    simp only [List.getElem?_cons_succ] at h
    obtain ⟨t', e⟩ := ints_at hr i v h
    exact ⟨t', by rw [e] <;> rfl⟩
section
variable {prog : Program} {w : World} {A : Around} {E : Value → Shared → Prop} {s : Shared}
theorem code_set_led1 (a : Value) {Q₁ : Value → Shared → Prop}
    (h : Q₁ (.ref s.heap.objs.size) { s with heap := s.heap.push { cls := .type "set", dict := none, data := .set #[] 0 (.fresh 0 0 (!w.params.followText "set-order")) } }) :
    codeAny (model prog w) A (.call (.builtin "set.__new__") ⟨[.type "set", a], []⟩) (wants Q₁ E) s := by
  refine codeAny_of_tree ?_
  show wpAny _ A.in1 (do checkBuiltinCall "set.__new__" ⟨[.type "set", a], []⟩; again (.builtin "set.__new__" ⟨[.type "set", a], []⟩)) _ _ s
  refine wpAny_bind (wpAny_of_eq (F.newCall_set_1 a) (wpAny_pure ⟨plainId_quiet F.plain_set_new _, codeAny_builtin F.entry_set_new ?_⟩))
  rw [Around.under_plainId F.plain_set_new _]
  unfold Builtin.«set.__new__» Builtin.Frozenset.newClass
  have hsub := sub_set_self
  obtain ⟨hp, g, d, tk, os⟩ := s
  dsimp only
  wp_walk
  refine wpAny_askSetting (wpAny_pure ?_)
  dsimp only
  simp only [newObj]
  refine wpAny_bind (wpAny_alloc (wpAny_pure ?_))
  exact wpAny_pure h
end
section
variable {prog : Program} {w : World} {A : Around} {R : Result → Shared → Prop} {I : Addr} {fp wr : List Addr} {G : Array GenState → Array GenState → Prop} {n : Nat} {P : Nat → Value → Prop} {St : Nat → Shared → Prop}
theorem loopInt (W : WalksS prog w A.in1 I fp wr G n P St) (S : Addr) (hSf : S ∉ fp) (xs : List Int) (hsz : xs.length = n) (hn : n ≤ 4000)
    (hval : ∀ i v, P i v → ∃ t, v = .int (xs.getD i 0) t) :
    ∀ (k i m : Nat) (s : Shared) (Sb : Int → Bool), n - i = k → i ≤ n → m ≤ i → St i s → SetR w s.heap S Sb m → (∀ x, Sb x = true ↔ x ∈ xs.take i) →
      (∀ s' Sb' m', Moved (S :: wr) G s s' → SetR w s'.heap S Sb' m' → m' ≤ n → (∀ x, Sb' x = true ↔ x ∈ xs) → R (.ok (.ret .none)) s') →
      codeAny (model prog w) A (.builtin "set.update.loop" ⟨[.ref S, .ref I], []⟩) R s := by
  have hSw : S ∉ wr := fun h => hSf (W.sub _ h)
  have hsub : ∀ b ∈ wr, b ∈ S :: wr := fun b hb => List.mem_cons_of_mem _ hb
  intro k
  induction k with
  | zero =>
    intro i m s Sb hk hi hm hst hS hSb hR
    have hin : i = n := by omega
    subst hin
    refine codeAny_builtin PyProof.Rows.F.entry_set_update_loop ?_
    rw [Around.under_plainId PyProof.Rows.F.plain_set_update_loop _]
    show wpAny _ A.in1 (pyNext (.ref I) >>= _) _ _ s
    refine wpAny_bind (W.done s _ _ hst fun s' hm' => ?_)
    show wpAny _ A.in1 (ret Value.none) _ _ s'
    refine wpAny_pure (hR s' Sb m (hm'.mono hsub) (hS.at fun o ho => hm'.heap S _ hSw ho) hm fun x => ?_)
    rw [hSb, List.take_of_length_le (by omega)]
  | succ k ih =>
    intro i m s Sb hk hi hm hst hS hSb hR
    have hlt : i < n := by omega
    refine codeAny_builtin PyProof.Rows.F.entry_set_update_loop ?_
    rw [Around.under_plainId PyProof.Rows.F.plain_set_update_loop _]
    show wpAny _ A.in1 (pyNext (.ref I) >>= _) _ _ s
    refine wpAny_bind (W.item i s _ _ hlt hst fun v s' hP hst' hm' => ?_)
    obtain ⟨t, rfl⟩ := hval i v hP
    have hS' : SetR w s'.heap S Sb m := hS.at fun o ho => hm'.heap S _ hSw ho
    show wpAny _ A.in1 (holding [Value.int (xs.getD i 0) t] (setAdd S (.int (xs.getD i 0) t)) >>= _) _ _ s'
    refine wpAny_bind (wpAny_holding ?_)
    unfold setAdd
    refine wpAny_holding ?_
    refine wpAny_bind ((intKind prog w).pyHash (k := xs.getD i 0) (intKind_is _ _ _ _) ?_)
    refine setR_add_hashed (P := prog) (s := { s' with toks := s'.toks + 1 }) hS' (by unfold scanBound; omega) fun h' hsb hS2 => ?_
    have hx : xs[i]? = some (xs.getD i 0) := by
      rw [List.getD_eq_getElem?_getD, List.getElem?_eq_getElem (by omega)]
      rfl
    refine wpAny_pure ⟨plainId_quiet PyProof.Rows.F.plain_set_update_loop _, ih (i + 1) _ _ _ (by omega) hlt (by split <;> omega) (W.frame _ s' _ _ hst' (Nat.le_succ _) fun b hb o e => ?_) hS2 (fun x => ?_) fun s'' Sb' m' hm'' hS'' => ?_⟩
    · rw [hsb.2 b (fun h : b = S => hSf (by rw [← h]; exact hb))]; exact e
    · rw [List.take_add_one, hx, Bool.or_eq_true, hSb, decide_eq_true_iff, List.mem_append]
      simp
    · refine hR s'' Sb' m' (Moved.trans W.gtrans ((hm'.mono hsub).then_heap (Nat.le_succ _) fun b o hb e => ?_) hm'') hS''
      rw [hsb.2 b (fun h : b = S => hb (by rw [h]; exact List.mem_cons_self))]; exact e
end
section
variable {prog : Program} {w : World} {A : Around} {E : Value → Shared → Prop} {s : Shared}
set_option maxHeartbeats 3200000 in
theorem call_set_listI {l : Addr} {items : Array Value} {xs : List Int} {Q : Value → Shared → Prop}
    (hh : A.handled = none) (hl : s.heap.IsList l items) (hi : IntsAre items.toList xs) (hn1 : xs.length ≤ 4000)
    (h : ∀ (h' : Heap) (tk : Nat) (Sb : Int → Bool) (m : Nat), SetR w h' s.heap.objs.size Sb m → m ≤ xs.length → (∀ x, Sb x = true ↔ x ∈ xs) →
      (∀ b o, b < s.heap.objs.size → s.heap.get? b = some o → h'.get? b = some o) → Q (.ref s.heap.objs.size) { s with heap := h', toks := tk }) :
    wpAny (model prog w) A (call (.type "set") [.ref l]) Q E s := by
  obtain ⟨c, tl, hmro⟩ := PySem.F.called_set.mro
  have hmade := PySem.F.called_set.made
  have hsub := PySem.F.called_set.sub
  refine wpAny_call (codeAny_of_tree ?_)
  show wpAny _ _ (callAny (.type "set") _) _ _ _
  refine wpAny_pure ⟨Code.quiet_builtin _ (by decide +kernel), codeAny_builtin PySem.F.entry_type_call ?_⟩
  rw [Around.under_plain (weight_type_call_type "set" [.ref l] []) rfl]
  have h1 := PySem.F.called_set.notType
  have h2 := PySem.F.called_set.canCreate
  have hct := PySem.F.typeCall_set_1 (.ref l)
  repeat (any_goals (first | assumption | wp_step))
  refine codeAny_mono (code_set_led1 (.ref l) (E := E) (Q₁ := fun obj s₁ => obj = .ref s.heap.objs.size ∧ s₁ = { s with heap := s.heap.push { cls := .type "set", dict := none, data := .set #[] 0 (.fresh 0 0 (!w.params.followText "set-order")) } }) ⟨rfl, rfl⟩) fun r s₁ hr => ?_
  cases r with
  | error e => exact hr
  | ok fl =>
    cases fl with
    | ret obj =>
      obtain ⟨rfl, rfl⟩ := hr
      have hF := setR_fresh (h := s.heap) w
      generalize (!w.params.followText "set-order") = led at hF ⊢
      have hS : (s.heap.push { cls := .type "set", dict := none, data := .set #[] 0 (.fresh 0 0 led) }).get? s.heap.objs.size = some { cls := .type "set", dict := none, data := .set #[] 0 (.fresh 0 0 led) } := Heap.get?_push_size _ rfl
      have hT : Shared.TypeIs { s with heap := s.heap.push { cls := .type "set", dict := none, data := .set #[] 0 (.fresh 0 0 led) } } (.ref s.heap.objs.size) "set" := ⟨_, hS, rfl⟩
      have hli := PySem.F.called_set.init.lookup
      have hbi := PySem.F.called_set.init.bind (.ref s.heap.objs.size)
      repeat (any_goals (first | assumption | wp_step))
      refine codeAny_mono (codeAny_call_builtin (R := wants (fun r s₂ => r = .none ∧ ∃ h' tk Sb m, s₂ = { s with heap := h', toks := tk } ∧
          SetR w h' s.heap.objs.size Sb m ∧ m ≤ xs.length ∧ (∀ x, Sb x = true ↔ x ∈ xs) ∧
          (∀ b o, b < s.heap.objs.size → s.heap.get? b = some o → h'.get? b = some o)) E) PySem.F.called_set.init.plain PySem.F.entry_set_init (check_set_init_1 hT ?_)) fun r₂ s₂ hr₂ => ?_
      · obtain ⟨ol, hol, hcl, nl, hdl⟩ := hl
        obtain ⟨ocls, odict, odata, oslots⟩ := ol
        simp only at hcl hdl
        subst hcl; subst hdl
        have hol' : (s.heap.push { cls := .type "set", dict := none, data := .set #[] 0 (.fresh 0 0 led) }).get? l = some { cls := .type "list", dict := odict, data := .seq items nl, slots := oslots } := Heap.get?_push_of_some _ hol
        have hsls := PySem.F.sub_list_set
        have hslf := PySem.F.sub_list_frozenset
        have hne : (Value.type "list" == Value.type "dict") = false := by decide
        have hl1 : (s.heap.push { cls := .type "set", dict := none, data := .set #[] 0 (.fresh 0 0 led) }).IsList l items := ⟨_, hol', rfl, nl, rfl⟩
        unfold Builtin.«set.__init__» noKeywords Builtin.Frozenset.updateFrom
        generalize hPI : pyIter = PI
        wp_walk
        subst hPI
        refine wpAny_pyIter_list hl1 ?_
        refine wpAny_bind (wpAny_runValue ?_)
        have hlS : l < s.heap.objs.size := Heap.lt_size hol
        have hh3 : A.in1.in1.in1.handled = none := by simp [hh]
        have hneI : l ≠ (s.heap.push { cls := .type "set", dict := none, data := .set #[] 0 (.fresh 0 0 led) }).objs.size := by
          rw [Heap.size_push]; exact Nat.ne_of_lt (Nat.lt_succ_of_lt hlS)
        have hSf : s.heap.objs.size ∉ [(s.heap.push { cls := .type "set", dict := none, data := .set #[] 0 (.fresh 0 0 led) }).objs.size, l] := by
          rw [Heap.size_push]; simp only [List.mem_cons, List.mem_singleton, List.not_mem_nil, or_false, not_or]
          exact ⟨Nat.ne_of_lt (Nat.lt_succ_self _), Nat.ne_of_gt hlS⟩
        have hsz : xs.length = items.size := by rw [← IntsAre.length hi, Array.length_toList]
        have hval : ∀ (i : Nat) (v : Value), items[i]? = some v → ∃ t, v = .int (xs.getD i 0) t := fun i v hv => ints_at hi i v (by rw [Array.getElem?_toList]; exact hv)
        refine loopInt ((Walks.list hh3 _ l hneI items).toS) s.heap.objs.size
          hSf xs hsz (by rw [← hsz]; exact hn1) hval (items.size - 0) 0 0 _ (fun _ => false) (by omega) (Nat.zero_le _) (Nat.le_refl _)
          ⟨⟨_, Heap.get?_push_size _ rfl, rfl, rfl⟩, (hl1.push _)⟩ (hF.at fun o ho => Heap.get?_push_of_some _ ho) (fun x => by simp) ?hR
        case hR =>
          intro s' Sb' m' hm hS' hm' hSb'
          obtain ⟨h', g', d', tk', os'⟩ := s'
          have eg : g' = s.gens := hm.gens
          have ed : d' = s.drawn := hm.drawn
          have eo : os' = s.os := hm.os
          subst eg; subst ed; subst eo
          show wpAny _ _ _ _ _ _
          refine wpAny_pure ?_
          show wpAny _ _ (ret Value.none) _ _ _
          refine wpAny_pure ⟨rfl, h', tk', Sb', m', rfl, hS', by omega, hSb', fun b o hb e => ?_⟩
          have hb1 : b ≠ s.heap.objs.size := Nat.ne_of_lt hb
          have hb2 : b ≠ (s.heap.push { cls := .type "set", dict := none, data := .set #[] 0 (.fresh 0 0 led) }).objs.size := by
            rw [Heap.size_push]; exact Nat.ne_of_lt (Nat.lt_succ_of_lt hb)
          exact hm.heap b o (by simp only [List.mem_cons, List.mem_singleton, List.not_mem_nil, or_false, not_or]; exact ⟨hb1, hb2⟩) (Heap.get?_push_of_some _ (Heap.get?_push_of_some _ e))
      · cases r₂ with
        | error e => exact hr₂
        | ok fl₂ =>
          cases fl₂ with
          | ret r =>
            obtain ⟨rfl, h', tk, Sb, m, rfl, hS', hm', hSb', hk'⟩ := hr₂
            repeat (any_goals (first | assumption | wp_step))
            exact h _ _ _ _ hS' hm' hSb' hk'
          | _ => exact hr₂.elim
    | _ => exact hr.elim
end
/-- set(xs), xs a list of ints -/
def rSetI (K : PySem.W.Frag) (w : World) : List V → Hp → VK → Prop := fun vs H Q => ∃ (l : Addr) (xs : List Int), vs = [.ref l] ∧ SqL K H l (xs.map V.int) ∧ xs.length ≤ 4000 ∧
  ∀ (p : Addr) (Sb : Int → Bool) (m : Nat), H p = none → m ≤ xs.length → (∀ x, Sb x = true ↔ x ∈ xs) → Q (.ref p) (upd H p (SetO w p Sb m))
section
variable {X : Cx}
theorem cr_setI (hc : X.calm = true) : CallR X (.type "set") (rSetI X.K X.w) := by
  intro pins s σ H vs us Q I r h
  obtain ⟨l, xs, rfl, hq, hz, q⟩ := h
  rw [Vals.ref1 r]
  obtain ⟨its, rv, pl, _⟩ := I.list hq
  refine call_set_listI (I.ok.hd hc) pl.isList (by simpa using L2.intsAre_of rv) hz fun h' tk Sb m R hm hS k => ?_
  exact ⟨.ref _, upd H s.heap.objs.size (SetO X.w s.heap.objs.size Sb m), I.laid (t' := tk) (fun b u e => k b u (Heap.lt_size e) e) (Nat.le_refl _) (setO_new R), rfl, q _ _ _ (I.hok.fresh (Nat.le_refl _)) hm hS⟩
end
end Bf

set_option Elab.async false
set_option linter.all false
set_option maxRecDepth 100000
set_option maxHeartbeats 4000000
namespace Bf
open PySem PySem.Spec PyProof.Rows L2
/-! ### ints in sequences; slices of tuples -/
theorem eqV_int (a b : Nat) : eqV (vI a) (vI b) = decide (a = b) := by
  show (((a : Int)) == (b : Int)) = _
  by_cases h : a = b
  · subst h; simp
  · rw [decide_eq_false h]
    simp
    omega
theorem inV_int (x : Nat) (xs : List Nat) : inV (vI x) (xs.map vI) = decide (x ∈ xs) := by
  induction xs with
  | nil => rfl
  | cons a r ih =>
    show (eqV (vI a) (vI x) || inV (vI x) (r.map vI)) = decide (x ∈ a :: r)
    rw [ih, eqV_int]
    by_cases h : a = x
    · subst h; simp
    · by_cases h2 : x ∈ r
      · simp [h2]
      · have : x ≠ a := fun e => h e.symm
        simp [h, h2, this]
theorem flat_ints : ∀ xs : List Nat, (xs.map vI).all flatV = true
  | [] => rfl
  | a :: r => by
    rw [List.map_cons, List.all_cons, flat_ints r]
    rfl
theorem rdIndex {xs : List Nat} {f j : Nat} (hj : xs[j]? = some f) (hn : ∀ m, m < j → xs[m]? ≠ some f) :
    ∃ z : V, (xs.map vI)[j]? = some z ∧ eqV z (vI f) = true ∧ ∀ (m : Nat) (z' : V), m < j → (xs.map vI)[m]? = some z' → eqV z' (vI f) = false := by
  refine ⟨vI f, by rw [List.getElem?_map, hj]; rfl, by rw [eqV_int]; simp, fun m z' hm hz => ?_⟩
  obtain ⟨k, hk, rfl⟩ := natAt hz
  rw [eqV_int]
  exact decide_eq_false fun e => hn m hm (by rw [hk, e])
theorem cut_map {xs : List Nat} {lo hi : Option Int} {i j : Nat} (h1 : HT.sIx xs.length 0 lo = i) (h2 : HT.sIx xs.length xs.length hi = j) : cutV (xs.map vI) lo hi = ((xs.drop i).take (j - i)).map vI := by
  unfold cutV
  rw [List.length_map, h1, h2, ← List.map_drop, ← List.map_take]
theorem rdCut {K : PySem.W.Frag} {H : Hp} {b : Addr} {xs : List Nat} {lo hi : Option Int} {i j : Nat} {Q : VK} (hb : SqT K H b (xs.map vI)) (h1 : HT.sIx xs.length 0 lo = i) (h2 : HT.sIx xs.length xs.length hi = j)
    (k : ∀ (t : Addr) (H' : Hp), Same H H' → SqT K H' t (((xs.drop i).take (j - i)).map vI) → Q (.ref t) H') : rSlA K (.ref b) lo hi H Q := by
  refine ⟨b, xs.map vI, rfl, hb, fun hw => ?_, fun hw p hp => ?_⟩
  · rw [List.length_map, h1, h2] at hw
    obtain ⟨w1, w2⟩ := hw
    subst w1 w2
    refine k b H (Same.refl _) ?_
    rw [List.drop_zero, Nat.sub_zero, List.take_length]
    exact hb
  · refine k p _ (fun b u q => by rw [upd_ne (ne_of_none q hp)]; exact q) ?_
    rw [← cut_map h1 h2]
    exact SqT.of upd_same
theorem sIx_neg {n d k : Nat} (h : 1 ≤ k) : HT.sIx n d (some (-(k : Int))) = n - k := by
  show (if (-(k : Int)) < 0 then ((-(k : Int)) + (n : Int)).toNat else min (-(k : Int)).toNat n) = n - k
  rw [if_pos (by omega)]
  omega
theorem qI {Q : VK} {H : Hp} {i : Int} {n : Nat} (h : i = (n : Int)) (q : Q (vI n) H) : Q (V.int i) H := by
  rw [h]
  exact q
end Bf

set_option Elab.async false
set_option linter.all false
set_option maxRecDepth 100000
set_option maxHeartbeats 4000000
namespace Bf
open PySem PySem.Spec PyProof.Rows L2
/-! ### d.get(k, x), d a dict of the module with text keys -/
def tKGet2 (K : PySem.W.Frag) (d : Addr) (td ty tx : TE) : TE := fun σ H Q => td σ H fun x H1 => x = .ref d ∧ ty σ H1 fun y H2 => tx σ H2 fun z H3 => ∃ (k : Str) (r : Option Value) (v : V), y = .str k ∧ PySem.W.nsIn K d k = some r ∧ (∀ u, r = some u → RelV v u) ∧ (r = none → v = z) ∧ Q v H3
theorem pe_kget2 {X : Cx} {d : Addr} {es : Array DictEntry} {n : Nat} {o e f : Expr} {apos cpos : Pos} {td ty tx : TE} (D : KDict X.K X.w d es n) (ho : PE X o td) (he : PE X e ty) (hf : PE X f tx) (m : M2 X o "get" apos e f cpos) :
    PE X (.Call (.Attribute o "get" apos) [e, f] [] cpos) (tKGet2 X.K d td ty tx) := by
  refine ⟨fun pins s σ H Q I h => ?_⟩
  refine wpAny_Call_method m.base m.few m.line PySem.F.plainAttrs_dict PySem.F.slot_dict_get PySem.F.type_dict_get (thn (ho.run pins s σ H _ I h) fun u s1 ⟨x, H1, I1, rx, ex, q1⟩ => ?_)
  subst ex
  obtain rfl : u = Value.ref d := rx
  have hm := PySem.W.mapOf_K (prog := X.prog) (w := X.w) I1.kIn D.at_ D.lit
  refine ⟨hm.typeIs, hm.noDict, ?_⟩
  rw [m.trees]
  refine Calls.callWith_builtin rfl (Calls.evalArgs_plain (Calls.spliced_cons (thn (he.run pins s1 σ H1 _ I1 q1) fun iv s2 ⟨y, H2, I2, ry, q2⟩ =>
    Calls.spliced_cons (thn (hf.run pins s2 σ H2 _ I2 q2) fun fv s3 ⟨z, H3, I3, rz, k, r, v, ey, ek, e1, e2, q3⟩ => Calls.spliced_nil ?_))))
  subst ey
  obtain ⟨t, rfl⟩ := ry
  have hm3 := PySem.W.mapOf_K (prog := X.prog) (w := X.w) I3.kIn D.at_ D.lit
  refine call_meetsIn PySem.F.slot_dict_get hm3.typeIs PySem.F.entry_dict_get (PySem.F.args_dict_get_3 _ _ _) (meets_dict_get_default (strKind X.prog X.w) d (PySem.strKind_is X.prog X.w k t) D.low fv) ⟨_, hm3, ?_⟩
  rw [PySem.W.find_K D.at_ ek]
  refine ⟨v, H3, I3.tok _, ?_, q3⟩
  cases r with
  | none =>
    rw [e2 rfl]
    exact rz
  | some u => exact e1 u rfl
/-! ### a < b < c < d as a test -/
def tChain3 (r r' r'' : R2) (ta tb tc td : TE) : TT := fun σ H Q => ta σ H fun x H1 => tb σ H1 fun y H2 => r x y H2 fun z H3 => ∃ k, z = .bl k ∧
  if k = true then (tc σ H3 fun w H4 => r' y w H4 fun z' H5 => ∃ k', z' = .bl k' ∧ if k' = true then (td σ H5 fun u H6 => r'' w u H6 fun z'' H7 => ∃ k'', z'' = .bl k'' ∧ Q k'' H7) else Q false H5) else Q false H3
theorem pt_chain3 {X : Cx} {op op' op'' : CmpOp} {r r' r'' : R2} {a b c d : Expr} {pos : Pos} {ta tb tc td : TE} (ho : OpR X (compareOp op) r) (ho' : OpR X (compareOp op') r') (ho'' : OpR X (compareOp op'') r'') (ha : PE X a ta) (hb : PE X b tb) (hc : PE X c tc) (hd : PE X d td)
    (hm : lastMarks [op, op', op''] [b, c, d] = false := by with_unfolding_all rfl) : PT X (.Compare a [op, op', op''] [b, c, d] pos) (tChain3 r r' r'' ta tb tc td) := by
  refine ⟨fun pins s σ H Q I h => ?_⟩
  refine isTrue_chain (thn (ha.run pins s σ H _ I h) fun v s1 ⟨x, H1, I1, r1, q1⟩ => test_link (thn (hb.run pins s1 σ H1 _ I1 q1) fun u s2 ⟨y, H2, I2, r2, q2⟩ =>
    thn (ho pins s2 σ H2 x y v u _ I2 r1 r2 q2) fun d s3 ⟨z, H3, I3, r3, k, e, q3⟩ => ?_)) hm
  subst e
  cases r3
  refine wpAny_truthy_bool ?_
  cases k with
  | false => exact ite_ff ⟨H3, I3, q3⟩
  | true =>
    refine ite_tt (test_link (thn (hc.run pins s3 σ H3 _ I3 q3) fun w s4 ⟨z', H4, I4, r4, q4⟩ => thn (ho' pins s4 σ H4 y z' u w _ I4 r2 r4 q4) fun d' s5 ⟨z2, H5, I5, r5, k', e', q5⟩ => ?_))
    subst e'
    cases r5
    refine wpAny_truthy_bool ?_
    cases k' with
    | false => exact ite_ff ⟨H5, I5, q5⟩
    | true =>
      refine ite_tt (test_last (thn (hd.run pins s5 σ H5 _ I5 q5) fun w2 s6 ⟨z3, H6, I6, r6, q6⟩ => thn (ho'' pins s6 σ H6 z' z3 w w2 _ I6 r4 r6 q6) fun d2 s7 ⟨z4, H7, I7, r7, k2, e2, q7⟩ => ?_))
      subst e2
      cases r7
      exact wpAny_truthy_bool ⟨H7, I7, q7⟩
end Bf

set_option Elab.async false
set_option linter.all false
set_option maxRecDepth 100000
set_option maxHeartbeats 4000000
namespace Bf
open PySem PySem.Spec PyProof.Rows L2 PySem.W PySem.Calls
/-! ### an own exception whose __init__ says super().__init__(e) first -/
structure FnScopeS (N ps : List Str) (sc : Scope) : Prop where
  kind : sc.kind = .function
  co : sc.isCoroutine = false
  gen : sc.isGenerator = false
  nd : N.Nodup
  pre : N.take ps.length = ps
  par : ∀ x ∈ ps, sc.names.lookup x = some .local
  nocell : ∀ y ∈ sc.names, y.2 ≠ .cell
  free : ∀ y ∈ sc.names, y.2 = .free → y.1 = "__class__"
  cls : sc.names.lookup ("__class__" : Str) = some .free
  sup : sc.names.lookup ("super" : Str) = some .globalImplicit
def cxS (CX : CXT) (P : Program) (w : World) (K : Frag) (mg : Str → Option Value) (base : Heap) (N : List Str) (qual : Str) (scope : Scope) (f : Addr) (cd : Value) (cc : Addr) (A : Around) (outer : List Env) (s : Shared) (H : Hp) (E : XK) : Cx where
  prog := P
  w := w
  K := K
  mg := mg
  base := base
  A := A.deeper (ksEnv qual scope s.heap.objs.size f cd cc)
  N := N
  s_0 := s
  H_0 := H
  env := ksEnv qual scope s.heap.objs.size f cd cc
  outer := outer
  stack := ksEnv qual scope s.heap.objs.size f cd cc :: outer
  ex := []
  calm := true
  fn := fun x => !(x == ("__class__" : Str))
  pn := []
  xe := fun e s' => wpAny (model P w) (A.deeper (ksEnv qual scope s.heap.objs.size f cd cc)) (leaving (ksEnv qual scope s.heap.objs.size f cd cc) e) (fun _ s'' => CX outer H s E e s'') (fun e' s'' => CX outer H s E e' s'') s'
theorem look_nd {y : Str} {u : Value} : ∀ {l : List (Str × Value)}, (l.map Prod.fst).Nodup → (y, u) ∈ l → l.lookup y = some u
  | [], _, h => by cases h
  | (k, v) :: l, nd, h => by
    rw [List.map_cons, List.nodup_cons] at nd
    rcases List.mem_cons.mp h with e | e
    · cases e
      simp [List.lookup]
    · have hk : (y == k) = false := by
        rw [beq_eq_false_iff_ne]
        intro z
        exact nd.1 (List.mem_map.mpr ⟨_, e, z⟩)
      simp only [List.lookup, hk]
      exact look_nd nd.2 e
theorem look_zip {y : Str} {u : Value} {ps : List Str} {us : List Value} {i : Nat} (nd : ps.Nodup) (hp : ps[i]? = some y) (hu : us[i]? = some u) (hl : us.length = ps.length) : (ps.zip us).reverse.lookup y = some u := by
  refine look_nd ?_ (List.mem_reverse.mpr ?_)
  · rw [List.map_reverse, List.map_fst_zip (by omega)]
    exact (List.reverse_perm ps).nodup_iff.mpr nd
  · refine List.mem_of_getElem? (i := i) ?_
    rw [List.getElem?_zip_eq_some]
    exact ⟨hp, hu⟩
theorem cls_look {cc c : Addr} {x : Str} (h : ([("__class__", cc)] : List (Str × Addr)).lookup x = some c) : x = "__class__" ∧ c = cc := by
  simp only [List.lookup] at h
  split at h
  · rename_i e
    exact ⟨by simpa using e, (Option.some.inj h).symm⟩
  · cases h
theorem inv_startS {CX : CXT} {P : Program} {w : World} {K : Frag} {mg : Str → Option Value} {base : Heap} {N ps : List Str} {qual : Str} {scope : Scope} {f cc : Addr} {cd : Value} {A : Around} {outer : List Env} {s : Shared} {h1 : Heap} {H : Hp} {E : XK} {us : List Value} {vs : List V} {cl : Value} {cv : Option Value} {cld : Option Addr} {csl : Array (Option Value)} {tk : Nat}
    (S : FnScopeS N ps scope) (hd : A.handled = none) (e0 : Env0 P w K mg base A outer s H) (hl : vs.length = ps.length) (r : Vals vs us) (kc : K.lookup cc = some ⟨cl, cld, .cell cv, csl⟩)
    (hns : h1.Ns s.heap.objs.size (fun y => (ps.zip us).reverse.lookup y)) (hk : ∀ b o, s.heap.get? b = some o → h1.get? b = some o) :
    Inv (cxS CX P w K mg base N qual scope f cd cc A outer s H E) [] (L2.start N vs) H { s with heap := h1, toks := tk } := by
  have hpl : ps.length ≤ N.length := by have := congrArg List.length S.pre; rw [List.length_take] at this; omega
  have hul : us.length = ps.length := by rw [← hl]; exact (Paired.length r).symm
  have noA : ∀ b : Addr, b ∉ (cxS CX P w K mg base N qual scope f cd cc A outer s H E).ex := fun b z => absurd (show b ∈ ([] : List Addr) from z) (by simp)
  have hbc := e0.mod.kin _ _ kc
  have hcs := e0.bs _ _ hbc
  have hlt : cc < s.heap.objs.size := Heap.lt_size hcs.1
  refine ⟨⟨e0.mod, S.kind, rfl, rfl, Nat.le_refl _, fun y z c h1 h2 => ?_, fun y hy => ?_, fun y c hf h => ?_, fun _ => hd, Around.frames_deeper e0.frames, .inr ⟨rfl, rfl⟩, fun b z => absurd z (noA b), e0.bs, e0.bsz, fun b _ _ => noA b, fun b z => absurd z (noA b), e0.funs, e0.frf⟩,
    rfl, e0.bare, Un.kept hk, ⟨_, hns, fun i y v h1 h2 h3 => ?_⟩, fun y c h => ?_, e0.hok.fresh (Nat.le_refl _), fun y c h => ?_, fun p hp => absurd (show p ∈ ([] : List (Addr × Obj)) from hp) (by simp), e0.hok.kept hk, ?_⟩
  · rw [(cls_look h1).1, (cls_look h2).1]
  · have hy : scope.names.lookup y = some .cell ∨ scope.names.lookup y = some .free := hy
    rcases hy with hy | hy
    · exact absurd rfl (S.nocell _ (PySem.mem_of_lookup hy))
    · have := S.free _ (PySem.mem_of_lookup hy) rfl
      have e : y = "__class__" := this
      exact ⟨cc, by rw [e]; rfl⟩
  · have e := (cls_look h).1
    rw [e] at hf
    exact absurd hf (by show ¬ (!(("__class__" : Str) == ("__class__" : Str))) = true; simp)
  · have hi : i < vs.length := by
      unfold L2.start at h2
      by_cases hi : i < vs.length
      · exact hi
      · rw [List.getElem?_append_right (by simpa using hi)] at h2
        rw [List.getElem?_replicate] at h2
        split at h2 <;> cases h2
    have ha : vs[i]? = some v := by
      unfold L2.start at h2
      rw [List.getElem?_append_left (by simpa using hi), List.getElem?_map] at h2
      cases e : vs[i]? with
      | none => rw [e] at h2; cases h2
      | some a => rw [e] at h2; cases h2; rfl
    obtain ⟨u, hu, rv⟩ := r.get ha
    have hp : ps[i]? = some y := by
      rw [← S.pre, List.getElem?_take_of_lt (by omega)]; exact h1
    have ndP : ps.Nodup := by rw [← S.pre]; exact S.nd.sublist (List.take_sublist _ _)
    exact ⟨u, rv, .inl ⟨S.par y (List.mem_of_getElem? hp), look_zip ndP hp hu hul⟩⟩
  · obtain ⟨_, rfl⟩ := cls_look h
    exact ⟨cv, _, hk _ _ hcs.1, rfl⟩
  · obtain ⟨_, rfl⟩ := cls_look h
    exact hcs.2
  · unfold L2.start
    show _ = N.length
    rw [List.length_append, List.length_map, List.length_replicate]
    omega
theorem boot_super : bootBuiltins "super" = some (.type "super") := by kernel_rfl
/-- the wrapper of ValueError.__init__ called -/
theorem call_vw {X : Cx} {pins : List (Addr × Obj)} {σ : L2.St} {H : Hp} {s : Shared} {a C u : Addr} {us : List Value} {E : Value → Shared → Prop} {Q : Value → Shared → Prop} (T : OexC X.K C) (I : Inv X pins σ H s) (e : H a = some (exo a C none)) (hu : s.heap.get? u = some (kxs_mw "ValueError.__init__" a)) (hz : us.length ≤ sizeLine)
    (h : ∀ s', Inv X pins σ H s' → Q .none s') : wpAny (model X.prog X.w) X.A (call (.ref u) us) Q E s := by
  obtain ⟨nm, q, N, bs, bm, sn, sub, ab, col, dd, k0, k1, k2, k3, k5, hC, hbm⟩ := T.cls
  obtain ⟨t1, ho⟩ := exo_at I.hok e
  obtain ⟨hp, g, d, t, os⟩ := s
  have FB := F.excBase_ValueError
  refine wpAny_call (codeAny_of_tree ?_)
  show wpAny _ X.A.in1 (callAny (.ref u) ⟨us, []⟩) _ _ _
  simp only [callAny]
  refine wpAny_bind (wpAny_load hu ?_)
  simp only [kxs_mw, show (Value.type "method-wrapper" == Value.type "method" || Value.type "method-wrapper" == Value.type "builtin_function_or_method" || Value.type "method-wrapper" == Value.type "method-wrapper") = true by decide, if_true]
  refine KFB.if_so (by decide) ?_
  refine wpAny_bind (check_bound_init FB.toExcCallFacts (I.kIn _ _ hC) ho rfl ?_)
  refine wpAny_bind (wpAny_pure (wpAny_pure ?_))
  refine ⟨plainId_quiet FB.init.plain _, codeAny_builtin FB.initEntry ?_⟩
  have eu : upd H a (exo a C none) = H := by
    funext b
    by_cases hb : b = a
    · rw [hb, upd_same, e]
    · rw [upd_ne hb]
  refine exc_init_tree (cls := .ref C) (t0 := t1) (dv := none) (c2 := .none) (c3 := .none) (b4 := .bool false) ho hz fun h' k e' _ => ?_
  have J := I.write (t' := t) (x := a) (e := a) (o := exo a C none) (by rw [e]; exact True.intro) (.inl rfl) k ⟨_, e'⟩ (exo_ok e')
  rw [eu] at J
  exact h _ J
/-- what the text says of such an __init__: the def at f, its class D, its cell cc, its code cda -/
structure SupI (P : Program) (K : Frag) (mg : Str → Option Value) (name qual : Str) (params : Arguments) (body : List Stmt) (scope : Scope) (f cc D cda : Addr) (fd : FuncData) : Prop where
  ex : ∃ (oc : Value) (od : Option Addr) (kV doc pm : Value) (an : Option Addr) (ct : Value) (osl : Array (Option Value)), fd = ksFn name qual params body scope .none kV doc pm an (.ref cda) ct cc ∧ K.lookup f = some ⟨oc, od, .func fd, osl⟩
  code : codeIn K (.ref cda) qual = true
  cell : ∃ (cl : Value) (cld : Option Addr) (csl : Array (Option Value)), K.lookup cc = some ⟨cl, cld, .cell (some (.ref D)), csl⟩
  file : ∃ (ccl : Value) (cdd : Option Addr) (vs : Array Value) (ccs : Array (Option Value)) (fl : Str) (tf : Tok), K.lookup cda = some ⟨ccl, cdd, .fields vs, ccs⟩ ∧ vs[2]? = some (.str fl tf) ∧ ((P.main.file : Str) == fl) = true
  top : (P.main.scope.names.lookup ("super" : Str)).isSome = false
  sup : mg "super" = none
/-- what it says of the class C of what is made -/
structure SupC (K : Frag) (C D : Addr) : Prop where
  oex : OexC K C
  cls : ∃ cd, clsIn K D = some cd
  ini : ks_superIn K C D "__init__" = some (some (.builtin "ValueError.__init__"))
  mro : mroIn K C (.ref D) = some true
  ve : subIn K (.ref C) (.type "ValueError") = some true
  stat : nsIn K cStatics "thirdparty.any" = some none
theorem fn_super {CX : CXT} {P : Program} {w : World} {K : Frag} {mg : Str → Option Value} {base : Heap} {k : Nat} {f cc D cda : Addr} {name qual : Str} {params : Arguments} {e : Expr} {rest : List Stmt} {p0 p1 p2 p3 p4 : Pos} {scope : Scope} {fd : FuncData} {N ps : List Str} {sp : Sp} {ar : Arg}
    (G : SupI P K mg name qual params (.Expr (.Call (.Attribute (.Call (.Name "super" p0) [] [] p1) "__init__" p2) [e] [] p3) p4 :: rest) scope f cc D cda fd) (S : FnScopeS N ps scope) (len : ∀ vs H Q E, sp vs H Q E → vs.length = ps.length)
    (self0 : (params.posonlyargs ++ params.args).head? = some ar) (ps0 : ps[0]? = some ar.arg)
    (hbody : ∀ (cdv : Value) (A : Around) (outer : List Env) (s : Shared) (H : Hp) (vs : List V) (Q : VK) (E : XK), cdv = .ref cda → Room k (A.deeper (ksEnv qual scope s.heap.objs.size f cdv cc)) → sp vs H Q E →
      ∃ (ta : TA) (t : TS) (a C : Addr), PA (cxS CX P w K mg base N qual scope f cdv cc A outer s H E) [e] ta ∧ PSs (cxS CX P w K mg base N qual scope f cdv cc A outer s H E) rest t ∧ vs[0]? = some (.ref a) ∧ SupC K C D ∧ H a = some (exo a C none) ∧
        ta (L2.start N vs) H fun ws H1 => ws.length ≤ 1000 ∧ H1 a = some (exo a C none) ∧ t { nx := fun _ H' => Q .non H', rt := Q } (L2.start N vs) H1)
    {pl : Sem Bool} (he : ∀ L : Addr, eval (.Call (.Attribute (.Call (.Name "super" p0) [] [] p1) "__init__" p2) [e] [] p3) (ksEnv qual scope L f (.ref cda) cc) = (do
      let ov ← attributeBase (.Call (.Name "super" p0) [] [] p1) "__init__" (ksEnv qual scope L f (.ref cda) cc) (eval (.Call (.Name "super" p0) [] [] p1) (ksEnv qual scope L f (.ref cda) cc))
      standAt p2.atName
      let (f', first) ← holding [ov] (getMethod ov "__init__" pl)
      callWith p3 f' first (backTo p3 (starEach [e] (ksEnv qual scope L f (.ref cda) cc))) []) := by intro _; rfl)
    (hst : ∀ L : Addr, starEach [e] (ksEnv qual scope L f (.ref cda) cc) = (false, eval e (ksEnv qual scope L f (.ref cda) cc)) :: starEach [] (ksEnv qual scope L f (.ref cda) cc) := by intro _; rfl) :
    FnOk P w K mg base CX (k + 1) f fd ps sp := by
  obtain ⟨oc, od, kV, doc, pm, an, ct, osl, rfl, lk⟩ := G.ex
  obtain ⟨cl, cld, csl, kc⟩ := G.cell
  obtain ⟨ccl, cdd, fvs, ccs, fl, tf, kcode, hvs, hfile⟩ := G.file
  refine ⟨len, fun A outer s H args us vs Q E hr e0 hb r hsp => ?_⟩
  have hl := len _ _ _ _ hsp
  have KX : K.In s.heap := e0.mod.kin.keeps fun b o e => (e0.bs b o e).1
  have lim : s.heap.NoLimit := e0.mod.nolimit.keeps fun b o e => (e0.bs b o e).1
  have hloc : ∀ y ∈ ps.zip us, scope.names.lookup y.1 = some .local := fun ⟨n, v⟩ hy => S.par n (List.of_mem_zip hy).1
  refine ks_codeAny_call_defAt (fd := ksFn name qual params _ scope .none kV doc pm an (.ref cda) ct cc) hr.depth (KX _ _ lk) rfl lim (codeRec_of KX G.code) rfl hb S.nocell hloc (fun h₁ hns hk₁ => ?_) S.co S.gen S.kind
  obtain ⟨ta, t, a, C, hA, hT, hv0, SC, ha, hta⟩ := hbody (.ref cda) A outer s H vs Q E rfl (hr.deeper _) hsp
  have I0 := inv_startS (CX := CX) (qual := qual) (f := f) (cd := .ref cda) (E := E) (tk := s.toks + (ps.zip us).length) S hr.hd e0 hl r kc hns hk₁
  obtain ⟨cd, hD⟩ := SC.cls
  have hks : (ksEnv qual scope s.heap.objs.size f (.ref cda) cc).kindOf "super" = some .globalImplicit := S.sup
  have hkc : (ksEnv qual scope s.heap.objs.size f (.ref cda) cc).kindOf "__class__" = some .free := S.cls
  show _root_.PySem.wpAt (model P w) (A.deeper (ksEnv qual scope s.heap.objs.size f (.ref cda) cc)) (.func _ (ksEnv qual scope s.heap.objs.size f (.ref cda) cc)) (execs (.Expr (.Call (.Attribute (.Call (.Name "super" p0) [] [] p1) "__init__" p2) [e] [] p3) p4 :: rest) (ksEnv qual scope s.heap.objs.size f (.ref cda) cc)) _ _ _
  refine ks_wpAt_execs_cons (ks_wpAt_Expr_any (ks_wpAt_MethodCall ?_ (he _)) I0.quiet)
  have KX1 : K.In h₁ := KX.keeps hk₁
  have hvs0 : ps[0]? = some ar.arg := ps0
  obtain ⟨u0, hu0, ru0⟩ := r.get hv0
  obtain rfl : u0 = Value.ref a := ru0
  have hself : (ps.zip us).reverse.lookup ar.arg = some (.ref a) := by
    have ndP : ps.Nodup := by rw [← S.pre]; exact S.nd.sublist (List.take_sublist _ _)
    exact look_zip ndP ps0 hu0 (by rw [← hl]; exact (Paired.length r).symm)
  obtain ⟨t1, hoa⟩ := exo_at I0.hok ha
  have hoa : h₁.get? a = some ({ cls := .ref C, dict := none, data := .fields #[.ref t1, .none, .none, .none, .bool false, .none] } : Obj) := hoa
  obtain ⟨oD, hD1, hD2⟩ : ∃ oD, h₁.get? D = some oD ∧ oD.data = .cls cd := by
    unfold clsIn at hD
    split at hD
    · rename_i c d cd' sl ho
      cases hD
      exact ⟨_, KX1 _ _ ho, rfl⟩
    · cases hD
  refine ks_wpAt_super_base (env := ksEnv qual scope s.heap.objs.size f (.ref cda) cc) hks hkc rfl rfl (KX1 _ _ lk) rfl self0 rfl (KX1 _ _ kcode) rfl hvs hfile G.top ?_
  obtain ⟨mb, hb1, hb2⟩ := I0.mod.blt
  refine ks_loadName_global S.kind hks (loadGlobal_builtin (env := ksEnv qual scope s.heap.objs.size f (.ref cda) cc) (I0.mod.glob.keeps I0.bk) G.sup (hb1.keeps I0.bk) ((hb2 "super" (by decide)).trans boot_super) ⟨rfl, ?_⟩)
  refine wpAny_loadName_free S.kind hkc rfl ⟨_, KX1 _ _ kc, rfl⟩ ?_
  refine wpAny_loadName_local S.kind (S.par _ (List.mem_of_getElem? ps0)) hns hself ?_
  refine ks_wpAny_isType_cls hD1 hD2 ⟨rfl, ?_⟩
  obtain ⟨s0h, g, d, t0, os⟩ := s
  refine ks_wpAny_call_super hD1 hD2 hoa rfl (fun c e => by cases e) (looks_mroIn KX1 SC.mro) (fun h' eh kh => ?_)
  have KX2 : K.In h' := KX1.keeps kh
  have hIs : Looks (model P w) h' (isInstance (.ref a) (.type "ValueError")) true := by
    have I2 : InstAt h' a { cls := .ref C, dict := none, data := .fields #[.ref t1, .none, .none, .none, .bool false, .none] } C none := ⟨kh _ _ hoa, rfl, rfl, trivial⟩
    exact I2.type.andThen (looks_subIn KX2 SC.ve)
  cases hc : clsIn K C with
  | none =>
    have := SC.ini
    unfold ks_superIn at this
    rw [hc] at this
    cases this
  | some cdC =>
    have hm := SC.ini
    unfold ks_superIn at hm
    rw [hc] at hm
    have I2 : InstAt h' a { cls := .ref C, dict := none, data := .fields #[.ref t1, .none, .none, .none, .bool false, .none] } C none := ⟨kh _ _ hoa, rfl, rfl, trivial⟩
    refine kxs_getMethod kxs_ValueError eh (looks_opaque KX2 SC.stat) (l₀ := cdC.mro) (fun A Q E s k q => wpAny_bind ((looks_clsIn KX2 hc) A _ E s k (wpAny_pure q))) rfl KX2 hm hIs (ks_ne KX2 I2 hc) rfl ?_
    have hsz : h₁.objs.size < h'.objs.size := Heap.lt_size eh
    have kp : ∀ b o, h₁.get? b = some o → (h'.push (kxs_mw "ValueError.__init__" a)).get? b = some o := fun b o q => Heap.get?_push_of_some _ (kh b o q)
    have J1 := I0.kept (t' := t0 + (ps.zip us).length + 1) kp
    have hu : (h'.push (kxs_mw "ValueError.__init__" a)).get? h'.objs.size = some (kxs_mw "ValueError.__init__" a) := Heap.get?_push_size _ rfl
    have hloc := I0.lt
    have hlt0 : s0h.objs.size < h₁.objs.size := hloc
    have J2 := J1.pins_of (pins' := [(h'.objs.size, kxs_mw "ValueError.__init__" a)]) fun p hp => by
      rw [List.mem_singleton.mp hp]
      refine ⟨hu, I0.hok.fresh (Nat.le_of_lt hsz), fun z => ?_, I0.nofs (Nat.le_of_lt hsz), fun v z => by cases z⟩
      have z : h'.objs.size = s0h.objs.size := z
      omega
    have hrun : wpAny (model P w) (A.deeper (ksEnv qual scope s0h.objs.size f (.ref cda) cc)) (spliced (backTo p3 (starEach [e] (ksEnv qual scope s0h.objs.size f (.ref cda) cc)))) _ _ _ := hA.run p3 _ _ _ H _ J2 hta
    have hst1 := hst s0h.objs.size
    show wpAny _ _ (callWith p3 (.ref h'.objs.size) [] (backTo p3 (starEach [e] (ksEnv qual scope s0h.objs.size f (.ref cda) cc))) []) _ _ _
    rw [hst1] at hrun ⊢
    refine kxs_callWith (i := "ValueError.__init__") (x := a) rfl ?_
    refine evalArgs_plain (thn hrun fun us1 s1 hap => ?_)
    obtain ⟨vs1, H1, J3, r1, hn, ea, ht⟩ := hap
    have hu3 := (J3.pin (h'.objs.size, kxs_mw "ValueError.__init__" a) (List.mem_append_right _ (by simp))).1
    have hn1 : us1.length ≤ sizeLine := by
      rw [← Paired.length r1, sizeLine_eq]
      omega
    refine ⟨hu3, call_vw SC.oex J3 ea hu3 hn1 fun s' J4 => ?_⟩
    have J5 := J4.pins_of (pins' := []) fun p hp => absurd hp (by simp)
    refine wpAt_of_wpAny (wpAny_mono (hT.run [] s' _ H1 _ J5 ht) (fun fl s'' hs => ?_) fun _ _ y => y)
    have fin : ∀ {σ' : L2.St} {H' : Hp} {v : V} {u : Value}, Inv (cxS CX P w K mg base N qual scope f (.ref cda) cc A outer ⟨s0h, g, d, t0, os⟩ H E) [] σ' H' s'' → RelV v u → Q v H' → CE outer P w H ⟨s0h, g, d, t0, os⟩ Q u s'' :=
      fun {σ' H' v u} J rv q => ⟨v, H', J.os, J.bare, J.base, J.hok, rv, q⟩
    cases fl with
    | ret u =>
      obtain ⟨v, σ', H', J, rv, q⟩ := hs
      exact fin J rv q
    | next =>
      obtain ⟨σ', H', J, q⟩ := hs
      exact fin (v := V.non) (u := Value.none) J rfl q
    | brk =>
      obtain ⟨_, _, _, q⟩ := hs
      exact False.elim q
    | cont =>
      obtain ⟨_, _, _, q⟩ := hs
      exact False.elim q
end Bf

set_option Elab.async false
set_option linter.all false
set_option maxRecDepth 100000
set_option maxHeartbeats 4000000
namespace Bf
open PySem PySem.Spec PyProof.Rows L2
/-! ### isinstance(e, C), isinstance(e, (C, ..)): e an exception that the suite holds, with or without a dict -/
structure ExcT (K : PySem.W.Frag) (C : Addr) : Prop where
  cl : (PySem.W.clsIn K C).isSome = true
  ga : PySem.W.findIn K (.ref C) "__getattribute__" = some (some (.builtin "BaseException.__getattribute__"))
  gg : PySem.W.findIn K (.ref C) "__getattr__" = some none
  exC : PySem.W.subIn K (.ref C) (.type "BaseException") = some true
  ha : PySem.W.findIn K (.ref C) "__class__" = some (some (.builtin "object.__class__"))
  hn : PySem.W.specialIn K (.builtin "object.__class__") "__get__" = some (some (.builtin "getset_descriptor.__get__"))
  ht : PySem.W.takesIn K (.builtin "object.__class__") = some true
  hm : PySem.W.mroIn K C (.type "object") = some true
  hdC : PySem.W.hasDictIn K C = true
theorem ExcT.xf {K : PySem.W.Frag} {C : Addr} (T : ExcT K C) : XfC K C := ⟨T.ga, T.gg, T.exC, T.hdC⟩
/-- an object of the class at C, caught -/
theorem inst_of {X : Cx} {pins : List (Addr × Obj)} {σ : L2.St} {H : Hp} {s : Shared} {a C : Addr} {oe : Obj} {d : Addr} {fs : List (Str × V)} (I : Inv X pins σ H s) (ha : s.heap.get? a = some oe) (hz : Zc (.ref C) (some d) oe) (hf : ∃ vs, oe.data = .fields vs) (ed : H d = some (.xd fs)) : ∃ od, PySem.W.InstAt s.heap a oe C (some od) := by
  obtain ⟨vs, hd⟩ := hf
  have hx : ObjOk X.prog X.w H s.heap d (.xd fs) := I.hok d _ ed
  obtain ⟨mA, hns, hr⟩ := hx
  obtain ⟨od, ho, hl⟩ := lookIn_ns hns
  exact ⟨od, ha, hz.1, by unfold PySem.W.notCls; rw [hd] <;> rfl, by rw [hz.2]; exact ho⟩
def rIsX (K : PySem.W.Frag) (a : Addr) (cls : Value) (d : Option Addr) : List V → Hp → VK → Prop := fun xs H Q => ∃ (C dd : Addr) (fs : List (Str × V)), cls = .ref C ∧ ExcT K C ∧ d = some dd ∧ H dd = some (.xd fs) ∧
  ((∃ (D : Addr) (b : Bool), xs = [.ref a, .ref D] ∧ PySem.W.kitOne K (.ref C) (.ref D) = some b ∧ Q (.bl b) H) ∨
    ∃ (tp : Addr) (cs : List Addr) (b : Bool), xs = [.ref a, .ref tp] ∧ H tp = some (.tup (cs.map V.ref)) ∧ PySem.W.kitAny K (.ref C) (cs.map Value.ref) = some b ∧ Q (.bl b) H)
theorem refs_vals : ∀ {cs : List Addr} {its : List Value}, Vals (cs.map V.ref) its → its = cs.map Value.ref
  | [], _, h => by cases h; rfl
  | c :: cs, _, h => by
    cases h with
    | cons a b =>
      cases a
      rw [refs_vals b]
      rfl
theorem call_isX {X : Cx} {a : Addr} {cls : Value} {d : Option Addr} {oe : Obj} {pn : List (Addr × Obj)} (hz : Zc cls d oe) (hf : ∃ vs, oe.data = .fields vs) : CallR (X.suite a ((a, oe) :: pn)) (.builtin "isinstance") (rIsX X.K a cls d) := by
  intro pins s σ H xs us Q I r h
  obtain ⟨C, dd, fs, rfl, T, rfl, ed, h⟩ := h
  obtain ⟨hget, _⟩ := I.pin (a, oe) (List.mem_append.mpr (.inl List.mem_cons_self))
  obtain ⟨od, J⟩ := inst_of I hget hz hf ed
  have Z := PySem.W.kitx_exc (K := X.K) (x := a) (ox := oe) (od := some od) T.cl T.ga T.gg T.exC T.ha T.hn T.ht T.hm
  rcases h with ⟨D, b, rfl, e, q⟩ | ⟨tp, cs, b, rfl, et, e, q⟩
  · obtain ⟨u1, u2, rfl, r1, r2⟩ := vals2 r
    cases r1
    cases r2
    exact PySem.W.kia_one Z I.kIn J e (fun z => nomatch z) fun tk => ⟨.bl b, H, I.kept (t' := tk) fun _ _ z => z, rfl, q⟩
  · obtain ⟨u1, u2, rfl, r1, r2⟩ := vals2 r
    cases r1
    cases r2
    obtain ⟨its, rv, p, _⟩ := I.tuple (SqT.of et)
    obtain rfl := refs_vals rv
    obtain ⟨⟨oc, od2, dt, sl⟩, ho, hc, n, hd⟩ := p
    dsimp only at hc hd
    subst hc hd
    exact PySem.W.kia_tup Z I.kIn J ho e (fun z => nomatch z) fun tk => ⟨.bl b, H, I.kept (t' := tk) fun _ _ z => z, rfl, q⟩
end Bf

set_option Elab.async false
set_option linter.all false
set_option maxRecDepth 100000
set_option maxHeartbeats 4000000
namespace Bf
open PySem PySem.Spec PyProof.Rows L2
/-! ### several except clauses, each `as` the same name -/
abbrev Cl := Value × (Addr → Value → Option Addr → TS)
/-- the ends of a suite whose name goes at its end -/
def endsAs (i : Nat) (D : Ends) : Ends := { nx := fun τ G => D.nx (τ.set i none) G, rt := D.rt, bk := fun τ G => D.bk (τ.set i none) G, ct := fun τ G => D.ct (τ.set i none) G }
def wAlts (K : PySem.W.Frag) (i : Nat) (O : WX) (D : Ends) : List Cl → WX
  | [] => O
  | k :: ks => fun cls d σ H => ∃ b, PySem.W.exmOne K cls k.1 = some b ∧ (b = true → ∀ a, H a = none → k.2 a cls d (endsAs i D) (σ.set i (some (.ref a))) H) ∧ (b = false → wAlts K i O D ks cls d σ H)
inductive AltsOk (X : Cx) (n : Str) : List ExceptHandler → List Cl → Prop
  | nil : AltsOk X n [] []
  | cons {x : Str} {k : Cl} {b : Stmt} {bs : List Stmt} {p q : Pos} {hs : List ExceptHandler} {ks : List Cl} (nm : Names X x k.1)
      (su : ∀ (a : Addr) (oe : Obj) (cls : Value) (d : Option Addr) (pn : List (Addr × Obj)), Zc cls d oe → (∃ vs, oe.data = .fields vs) → PSs (X.suite a ((a, oe) :: pn)) (b :: bs) (k.2 a cls d)) (r : AltsOk X n hs ks) :
      AltsOk X n (.ExceptHandler (some (.Name x p)) (some n) (b :: bs) q :: hs) (k :: ks)
theorem ps_try_alts {X : Cx} {n : Str} {i : Nat} {body : List Stmt} {g : ExceptHandler} {gs : List ExceptHandler} {ks : List Cl} {pos : Pos} {tb : WX → TS} {O : WX}
    (st : X.stack = X.env :: X.outer) (fr : X.env.frame = some X.env.locals) (nd : X.N.Nodup) (ni : X.N[i]? = some n) (nl : X.env.kindOf n = some .local) (tk : Takes X O)
    (tries : ∀ (W : WX) (pn : List (Addr × Obj)) (xe : Value → Shared → Prop), Takes (X.tr pn xe) W → PassesOwn (model X.prog X.w) X.A X.env xe → PSs (X.tr pn xe) body (tb W))
    (alts : AltsOk X n (g :: gs) ks) : PS X (.Try body (g :: gs) [] [] pos) (fun D σ H => tb (wAlts X.K i O D ks) D σ H) := by
  constructor
  intro pins s0 σ0 H0 D I0 reading
  have okI := I0.ok
  have frs0 : X.A.frames = some (X.env :: X.outer) := okI.frames.trans (by rw [st])
  refine wpAny_Try_except (wpAny_mono ((tries (wAlts X.K i O D ks) (X.pn ++ pins) (fun e t1 => wpAny (model X.prog X.w) X.A (noteFrame e X.env) (fun _ t2 => wpAny (model X.prog X.w) X.A (setFlight e none) (fun _ t3 => wpAny (model X.prog X.w) X.A (handleBy e X.env (g :: gs)) (SP X pins D) X.xe t3) X.xe t2) X.xe t1) (fun _ t caught => ?cau) PassesOwn.looking).run [] s0 σ0 H0 D (I0.toTry _) reading) (fun fl t got => ?fin) (fun e t z => z))
  case fin =>
    cases fl with
    | next => obtain ⟨τ, G, J, q⟩ := got; exact wpAny_execs_nil ⟨τ, G, J.ofTry okI, q⟩
    | brk => obtain ⟨τ, G, J, q⟩ := got; exact ⟨τ, G, J.ofTry okI, q⟩
    | cont => obtain ⟨τ, G, J, q⟩ := got; exact ⟨τ, G, J.ofTry okI, q⟩
    | ret u => obtain ⟨y, τ, G, J, ru, q⟩ := got; exact ⟨y, τ, G, J.ofTry okI, ru, q⟩
  case cau =>
    obtain ⟨a, B, sI, pinsT, τ, G, cls, d, rfl, JT, nb, up, sky0, na, os, ag, wish⟩ := caught
    have JI : Inv X pins τ G sI := JT.ofTry okI
    have sky1 : Sky B (X.env :: X.outer) a (Zc cls d) X.env.locals t.heap := st ▸ sky0
    show wpAny (model X.prog X.w) X.A (noteFrame (.ref a) X.env) _ _ _
    refine Sky.land Zc.steady frs0 fr sky1 (fun hA flA upA => ?_)
    have JA : Inv X pins τ G { t with heap := hA } := JI.landed nb flA.1 (up.trans upA) os ag
    obtain ⟨oA, vA, eA, zA, dA⟩ := flA.there
    have apart : a ∉ frs (X.env :: X.outer) := by
      intro hm
      obtain ⟨_, oB, eB, hB⟩ := flA.2.2.1.mem hm
      obtain rfl : oA = oB := Option.some.inj (eA.symm.trans eB)
      exact hB _ dA
    have aL : a ≠ X.env.locals := by
      intro z
      exact apart (List.mem_filterMap.mpr ⟨X.env, by simp, by rw [fr, z]⟩)
    have aF : a ∉ X.fs := by
      intro hm
      obtain ⟨e1, h1, h2⟩ := List.mem_filterMap.mp hm
      exact apart (List.mem_filterMap.mpr ⟨e1, List.mem_cons_of_mem _ h1, h2⟩)
    have inA := JA.suite eA dA na aL aF
    suffices go : ∀ {gs' : List ExceptHandler} {ks' : List Cl}, AltsOk X n gs' ks' → wAlts X.K i O D ks' cls d τ G → wpAny (model X.prog X.w) X.A (handleBy (.ref a) X.env gs') (SP X pins D) X.xe { t with heap := hA } from go alts wish
    intro gs' ks' hk
    induction hk with
    | nil =>
      intro out
      refine wpAny_handleBy_nil ?_
      obtain ⟨_, _, _, oT, vT, T, oT2, tsT, eT, _, dT, h1, _⟩ := id flA
      unfold PySem.passOn
      refine wpAny_bind (wpAny_field eT dT h1 ?_)
      rw [if_neg (by simp : ¬ ((Value.ref T == Value.none) = true))]
      have away : wpAny (model X.prog X.w) X.A (setFlight (.ref a) X.env.frame) (fun _ t4 => wpAny (model X.prog X.w) X.A (throw (.ref a) : Sem Flow) (SP X pins D) X.xe t4) X.xe { t with heap := hA } := by
        rw [fr]
        exact HandSPX.setFlight_upZ flA fun hC flC upC => wpAny_throw (tk _ _ ⟨a, B, sI, pins, τ, G, cls, d, rfl, JI, nb, (up.trans upA).trans upC, .inr (.inr (by rw [st]; exact flC)), na, os, ag, out⟩)
      first
        | exact wpAny_bind (wpAny_pure (wpAny_bind away))
        | exact wpAny_bind away
    | @cons x k b bs p q hs ks2 nm su r ih =>
      intro wsh
      obtain ⟨yes, ey, onY, onN⟩ := wsh
      refine wpAny_handleBy_cons (codeAny_handlers_test ?_) (by intro z; cases z)
      have looksC : PySem.W.Looks (model X.prog X.w) hA (typeOf (.ref a)) cls := fun A' Q' E' s' k' q' => wpAny_typeOf_ref (k' _ _ eA) (by rw [zA.1]; exact q')
      have asks := PySem.W.exm_one (M := model X.prog X.w) JA.kIn looksC ey
      have named : ∀ {Q E : Value → Shared → Prop}, Q k.1 { t with heap := hA } → wpAny (model X.prog X.w) (X.A.mark (some (.ref a))) (eval (.Name x p) X.env) Q E { t with heap := hA } := by
        intro Q E got
        obtain ⟨h1, h2, h3 | ⟨h3, h4, h5⟩⟩ := nm
        · exact ld_glob (X := X.suite a ((a, oA) :: (X.pn ++ pins))) inA h1 h3 got h2
        · exact ld_blt (X := X.suite a ((a, oA) :: (X.pn ++ pins))) inA h1 h3 h4 got h5 h2
      refine named (asks.here ?_)
      cases yes with
      | false =>
        show wpAny _ X.A (handleBy (.ref a) X.env hs) _ _ _
        exact ih (onN rfl)
      | true =>
        refine codeAny_handlers_suite_as (HandSPX.lands_againZ flA fun hD flD upD => ?_)
        have JD : Inv X pins τ G { t with heap := hD } := JI.landed nb flD.1 ((up.trans upA).trans upD) os ag
        obtain ⟨oD, vD, eD, zD, dD⟩ := flD.there
        have inD := JD.suite eD dD na aL aF
        refine store_ok (X := X.suite a ((a, oD) :: (X.pn ++ pins))) (v := .ref a) inD nd ni (.inl nl) rfl (fun t5 in5 => wpAny_mono ((su a oD cls d (X.pn ++ pins) zD ⟨_, dD⟩).run [] t5 _ G _ in5 (onY rfl a na)) (fun fl t6 got => ?_) (fun _ _ z => z.elim)) (.inr nl)
        have goes : ∀ {τ6 : L2.St} {G6 : Hp} {Q : Shared → Prop}, Inv (X.suite a ((a, oD) :: (X.pn ++ pins))) [] τ6 G6 t6 → (∀ t7, Inv X pins (τ6.set i none) G6 t7 → Q t7) →
            wpAny (model X.prog X.w) X.A (do bindName X.env n .none; unbindBehindTheSuite X.env n q) (fun _ t7 => Q t7) X.xe t6 := fun {τ6 G6 Q} in6 hq => gone_ok (in6.unsuite okI) nd ni nl hq
        cases fl with
        | next => obtain ⟨τ6, G6, in6, q6⟩ := got; exact goes in6 fun t7 in7 => ⟨_, _, in7, q6⟩
        | brk => obtain ⟨τ6, G6, in6, q6⟩ := got; exact goes in6 fun t7 in7 => ⟨_, _, in7, q6⟩
        | cont => obtain ⟨τ6, G6, in6, q6⟩ := got; exact goes in6 fun t7 in7 => ⟨_, _, in7, q6⟩
        | ret u => obtain ⟨y6, τ6, G6, in6, r6, q6⟩ := got; exact goes in6 fun t7 in7 => ⟨_, _, _, in7, r6, q6⟩
/-! ### isinstance(e, T): T a built-in class -/
def rIsY (K : PySem.W.Frag) (a : Addr) (cls : Value) (d : Option Addr) : List V → Hp → VK → Prop := fun xs H Q => ∃ (C dd : Addr) (fs : List (Str × V)) (t : String) (b : Bool), cls = .ref C ∧ ExcT K C ∧ d = some dd ∧ H dd = some (.xd fs) ∧ xs = [.ref a, .ty t] ∧ PySem.W.kitOne K (.ref C) (.type t) = some b ∧ Q (.bl b) H
theorem call_isY {X : Cx} {a : Addr} {cls : Value} {d : Option Addr} {oe : Obj} {pn : List (Addr × Obj)} (hz : Zc cls d oe) (hf : ∃ vs, oe.data = .fields vs) : CallR (X.suite a ((a, oe) :: pn)) (.builtin "isinstance") (rIsY X.K a cls d) := by
  intro pins s σ H xs us Q I r h
  obtain ⟨C, dd, fs, t, b, rfl, T, rfl, ed, rfl, e, q⟩ := h
  obtain ⟨hget, _⟩ := I.pin (a, oe) (List.mem_append.mpr (.inl List.mem_cons_self))
  obtain ⟨od, J⟩ := inst_of I hget hz hf ed
  have Z := PySem.W.kitx_exc (K := X.K) (x := a) (ox := oe) (od := some od) T.cl T.ga T.gg T.exC T.ha T.hn T.ht T.hm
  obtain ⟨u1, u2, rfl, r1, r2⟩ := vals2 r
  cases r1
  cases r2
  exact PySem.W.kia_one Z I.kIn J e (fun z => nomatch z) fun tk => ⟨.bl b, H, I.kept (t' := tk) fun _ _ z => z, rfl, q⟩
end Bf

set_option Elab.async false
set_option linter.all false
set_option maxRecDepth 100000
set_option maxHeartbeats 4000000
namespace Bf
open PySem PySem.Spec PyProof.Rows L2
/-! ### several except clauses, each `as` the same name; the exception was raised where nothing is handled -/
def wAltsN (K : PySem.W.Frag) (i : Nat) (O : WX) (D : Ends) : List Cl → WX
  | [] => O
  | k :: ks => fun cls d σ H => ∃ b, PySem.W.exmOne K cls k.1 = some b ∧ (b = true → ∀ a, H a = none → k.2 a cls d (endsAs i D) (σ.set i (some (.ref a))) H) ∧ (b = false → wAltsN K i O D ks cls d σ H)
inductive AltsOkN (X : Cx) (n : Str) : List ExceptHandler → List Cl → Prop
  | nil : AltsOkN X n [] []
  | cons {x : Str} {k : Cl} {b : Stmt} {bs : List Stmt} {p q : Pos} {hs : List ExceptHandler} {ks : List Cl} (nm : Names X x k.1)
      (su : ∀ (a : Addr) (oe : Obj) (cls : Value) (d : Option Addr) (pn : List (Addr × Obj)), L2N.Zn cls d oe → (∃ vs, oe.data = .fields vs) → PSs (X.suite a ((a, oe) :: pn)) (b :: bs) (k.2 a cls d)) (r : AltsOkN X n hs ks) :
      AltsOkN X n (.ExceptHandler (some (.Name x p)) (some n) (b :: bs) q :: hs) (k :: ks)
theorem ps_try_altsN {X : Cx} {n : Str} {i : Nat} {body : List Stmt} {g : ExceptHandler} {gs : List ExceptHandler} {ks : List Cl} {pos : Pos} {tb : WX → TS} {O : WX}
    (st : X.stack = X.env :: X.outer) (fr : X.env.frame = some X.env.locals) (nd : X.N.Nodup) (ni : X.N[i]? = some n) (nl : X.env.kindOf n = some .local) (tk : L2N.Takes X O)
    (tries : ∀ (W : WX) (pn : List (Addr × Obj)) (xe : Value → Shared → Prop), L2N.Takes (X.tr pn xe) W → PassesOwn (model X.prog X.w) X.A X.env xe → PSs (X.tr pn xe) body (tb W))
    (alts : AltsOkN X n (g :: gs) ks) : PS X (.Try body (g :: gs) [] [] pos) (fun D σ H => tb (wAltsN X.K i O D ks) D σ H) := by
  constructor
  intro pins s0 σ0 H0 D I0 reading
  have okI := I0.ok
  have frs0 : X.A.frames = some (X.env :: X.outer) := okI.frames.trans (by rw [st])
  refine wpAny_Try_except (wpAny_mono ((tries (wAltsN X.K i O D ks) (X.pn ++ pins) (fun e t1 => wpAny (model X.prog X.w) X.A (noteFrame e X.env) (fun _ t2 => wpAny (model X.prog X.w) X.A (setFlight e none) (fun _ t3 => wpAny (model X.prog X.w) X.A (handleBy e X.env (g :: gs)) (SP X pins D) X.xe t3) X.xe t2) X.xe t1) (fun _ t caught => ?cau) PassesOwn.looking).run [] s0 σ0 H0 D (I0.toTry _) reading) (fun fl t got => ?fin) (fun e t z => z))
  case fin =>
    cases fl with
    | next => obtain ⟨τ, G, J, q⟩ := got; exact wpAny_execs_nil ⟨τ, G, J.ofTry okI, q⟩
    | brk => obtain ⟨τ, G, J, q⟩ := got; exact ⟨τ, G, J.ofTry okI, q⟩
    | cont => obtain ⟨τ, G, J, q⟩ := got; exact ⟨τ, G, J.ofTry okI, q⟩
    | ret u => obtain ⟨y, τ, G, J, ru, q⟩ := got; exact ⟨y, τ, G, J.ofTry okI, ru, q⟩
  case cau =>
    obtain ⟨a, B, sI, pinsT, τ, G, cls, d, rfl, JT, nb, up, sky0, na, os, ag, wish⟩ := caught
    have JI : Inv X pins τ G sI := JT.ofTry okI
    have sky1 : Sky B (X.env :: X.outer) a (L2N.Zn cls d) X.env.locals t.heap := st ▸ sky0
    show wpAny (model X.prog X.w) X.A (noteFrame (.ref a) X.env) _ _ _
    refine L2N.Sky.land L2N.Zn.steady frs0 fr sky1 (fun hA flA upA => ?_)
    have JA : Inv X pins τ G { t with heap := hA } := JI.landed nb flA.1 (up.trans upA) os ag
    obtain ⟨oA, vA, eA, zA, dA⟩ := flA.there
    have apart : a ∉ frs (X.env :: X.outer) := by
      intro hm
      obtain ⟨_, oB, eB, hB⟩ := flA.2.2.1.mem hm
      obtain rfl : oA = oB := Option.some.inj (eA.symm.trans eB)
      exact hB _ dA
    have aL : a ≠ X.env.locals := by
      intro z
      exact apart (List.mem_filterMap.mpr ⟨X.env, by simp, by rw [fr, z]⟩)
    have aF : a ∉ X.fs := by
      intro hm
      obtain ⟨e1, h1, h2⟩ := List.mem_filterMap.mp hm
      exact apart (List.mem_filterMap.mpr ⟨e1, List.mem_cons_of_mem _ h1, h2⟩)
    have inA := JA.suite eA dA na aL aF
    suffices go : ∀ {gs' : List ExceptHandler} {ks' : List Cl}, AltsOkN X n gs' ks' → wAltsN X.K i O D ks' cls d τ G → wpAny (model X.prog X.w) X.A (handleBy (.ref a) X.env gs') (SP X pins D) X.xe { t with heap := hA } from go alts wish
    intro gs' ks' hk
    induction hk with
    | nil =>
      intro out
      refine wpAny_handleBy_nil ?_
      obtain ⟨_, _, _, oT, vT, T, oT2, tsT, eT, _, dT, h1, _⟩ := id flA
      unfold PySem.passOn
      refine wpAny_bind (wpAny_field eT dT h1 ?_)
      rw [if_neg (by simp : ¬ ((Value.ref T == Value.none) = true))]
      have away : wpAny (model X.prog X.w) X.A (setFlight (.ref a) X.env.frame) (fun _ t4 => wpAny (model X.prog X.w) X.A (throw (.ref a) : Sem Flow) (SP X pins D) X.xe t4) X.xe { t with heap := hA } := by
        rw [fr]
        exact HandSPX.setFlight_upZ flA fun hC flC upC => wpAny_throw (tk _ _ ⟨a, B, sI, pins, τ, G, cls, d, rfl, JI, nb, (up.trans upA).trans upC, .inr (.inr (by rw [st]; exact flC)), na, os, ag, out⟩)
      first
        | exact wpAny_bind (wpAny_pure (wpAny_bind away))
        | exact wpAny_bind away
    | @cons x k b bs p q hs ks2 nm su r ih =>
      intro wsh
      obtain ⟨yes, ey, onY, onN⟩ := wsh
      refine wpAny_handleBy_cons (codeAny_handlers_test ?_) (by intro z; cases z)
      have looksC : PySem.W.Looks (model X.prog X.w) hA (typeOf (.ref a)) cls := fun A' Q' E' s' k' q' => wpAny_typeOf_ref (k' _ _ eA) (by rw [zA.1]; exact q')
      have asks := PySem.W.exm_one (M := model X.prog X.w) JA.kIn looksC ey
      have named : ∀ {Q E : Value → Shared → Prop}, Q k.1 { t with heap := hA } → wpAny (model X.prog X.w) (X.A.mark (some (.ref a))) (eval (.Name x p) X.env) Q E { t with heap := hA } := by
        intro Q E got
        obtain ⟨h1, h2, h3 | ⟨h3, h4, h5⟩⟩ := nm
        · exact ld_glob (X := X.suite a ((a, oA) :: (X.pn ++ pins))) inA h1 h3 got h2
        · exact ld_blt (X := X.suite a ((a, oA) :: (X.pn ++ pins))) inA h1 h3 h4 got h5 h2
      refine named (asks.here ?_)
      cases yes with
      | false =>
        show wpAny _ X.A (handleBy (.ref a) X.env hs) _ _ _
        exact ih (onN rfl)
      | true =>
        refine codeAny_handlers_suite_as (HandSPX.lands_againZ flA fun hD flD upD => ?_)
        have JD : Inv X pins τ G { t with heap := hD } := JI.landed nb flD.1 ((up.trans upA).trans upD) os ag
        obtain ⟨oD, vD, eD, zD, dD⟩ := flD.there
        have inD := JD.suite eD dD na aL aF
        refine store_ok (X := X.suite a ((a, oD) :: (X.pn ++ pins))) (v := .ref a) inD nd ni (.inl nl) rfl (fun t5 in5 => wpAny_mono ((su a oD cls d (X.pn ++ pins) zD ⟨_, dD⟩).run [] t5 _ G _ in5 (onY rfl a na)) (fun fl t6 got => ?_) (fun _ _ z => z.elim)) (.inr nl)
        have goes : ∀ {τ6 : L2.St} {G6 : Hp} {Q : Shared → Prop}, Inv (X.suite a ((a, oD) :: (X.pn ++ pins))) [] τ6 G6 t6 → (∀ t7, Inv X pins (τ6.set i none) G6 t7 → Q t7) →
            wpAny (model X.prog X.w) X.A (do bindName X.env n .none; unbindBehindTheSuite X.env n q) (fun _ t7 => Q t7) X.xe t6 := fun {τ6 G6 Q} in6 hq => gone_ok (in6.unsuite okI) nd ni nl hq
        cases fl with
        | next => obtain ⟨τ6, G6, in6, q6⟩ := got; exact goes in6 fun t7 in7 => ⟨_, _, in7, q6⟩
        | brk => obtain ⟨τ6, G6, in6, q6⟩ := got; exact goes in6 fun t7 in7 => ⟨_, _, in7, q6⟩
        | cont => obtain ⟨τ6, G6, in6, q6⟩ := got; exact goes in6 fun t7 in7 => ⟨_, _, in7, q6⟩
        | ret u => obtain ⟨y6, τ6, G6, in6, r6, q6⟩ := got; exact goes in6 fun t7 in7 => ⟨_, _, _, in7, r6, q6⟩
/-! ### a def that may raise, where nothing is handled -/
theorem _root_.L2.Fun.okN {P : Program} {w : World} {K : PySem.W.Frag} {mg : Str → Option Value} {base : Heap} {x qual : Str} {st : Stmt} {f : Addr} {fd : FuncData} {N ps : List Str} {k : Nat} {sp : Sp} (F : Fun K x qual st f fd) (S : FnScope N ps (defScope st)) (len : ∀ vs H Q E, sp vs H Q E → vs.length = ps.length)
    (run : ∀ (cdv : Value) (A : Around) (outer : List Env) (s : Shared) (H : Hp) (vs : List V) (Q : VK) (E : XK), Room k (A.deeper (envOfC qual (defScope st) s.heap.objs.size f cdv)) → sp vs H Q E →
      ∃ t, PSs (cxOf (L2N.CX P w) P w K mg base N qual (defScope st) f cdv A outer s H E) (defBody st) t ∧ t { nx := fun _ H' => Q .non H', rt := Q } (L2.start N vs) H) : FnOk P w K mg base (L2N.CX P w) (k + 1) f fd ps sp := by
  obtain ⟨_, _, _, _, _, _, cdv, _, _, rfl, here, code⟩ := F.ex
  exact fn_of here code S len (run cdv)
/-- a def, called while an exception is handled -/
theorem _root_.L2.Fun.okH {P : Program} {w : World} {K : PySem.W.Frag} {mg : Str → Option Value} {base : Heap} {x qual : Str} {st : Stmt} {f : Addr} {fd : FuncData} {N ps : List Str} {k : Nat} {sp : Sp} (F : Fun K x qual st f fd) (S : FnScope N ps (defScope st)) (len : ∀ vs H Q E, sp vs H Q E → vs.length = ps.length)
    (run : ∀ (cdv : Value) (A : Around) (outer : List Env) (s : Shared) (H : Hp) (vs : List V) (Q : VK) (E : XK) (p : Addr × Obj), L2H.Hot1 A p → L2H.RoomH k (A.deeper (envOfC qual (defScope st) s.heap.objs.size f cdv)) → sp vs H Q E →
      ∃ t, PSs (L2H.cxH CX0 P w K mg base N qual (defScope st) f cdv A outer s H E p) (defBody st) t ∧ t { nx := fun _ H' => Q .non H', rt := Q } (L2.start N vs) H) : L2H.FnH P w K mg base CX0 (k + 1) f fd ps sp := by
  obtain ⟨_, _, _, _, _, _, cdv, _, _, rfl, here, code⟩ := F.ex
  exact L2H.fn_ofH here code S len (run cdv)
structure DnN (P : Program) (w : World) (K : PySem.W.Frag) (mg : Str → Option Value) (base : Heap) (x : Str) (ps : List Str) (k : Nat) (sp : Sp) : Prop where
  ex : ∃ (f : Addr) (fd : FuncData), FnOk P w K mg base (L2N.CX P w) k f fd ps sp ∧ mg x = some (.ref f) ∧ PySem.W.keepIn K (.ref f) = true ∧ Binds K fd ps []
structure DnH (P : Program) (w : World) (K : PySem.W.Frag) (mg : Str → Option Value) (base : Heap) (x : Str) (ps : List Str) (k : Nat) (sp : Sp) : Prop where
  ex : ∃ (f : Addr) (fd : FuncData), L2H.FnH P w K mg base CX0 k f fd ps sp ∧ mg x = some (.ref f) ∧ PySem.W.keepIn K (.ref f) = true ∧ Binds K fd ps []
theorem fnok_noN {P : Program} {w : World} {K : PySem.W.Frag} {mg : Str → Option Value} {base : Heap} {k : Nat} {f : Addr} {fd : FuncData} {ps : List Str} {sp sp' : Sp} (F : FnOk P w K mg base (L2N.CX P w) k f fd ps sp) (h : ∀ vs H Q E, sp' vs H Q E → sp vs H Q fun _ _ _ => False) : FnOk P w K mg base CX0 k f fd ps sp' := by
  refine ⟨fun vs H Q E q => F.len _ _ _ _ (h _ _ _ _ q), fun A outer s H args us vs Q E hr he hb hv hs => codeAny_mono (F.run A outer s H args us vs Q _ hr he hb hv (h _ _ _ _ hs)) fun r s' q => ?_⟩
  cases r with
  | error e =>
    obtain ⟨_, _, _, _, _, _, _, _, _, _, _, _, z⟩ := q
    exact z.elim
  | ok fl =>
    cases fl with
    | ret v => exact q
    | next => exact q.elim
    | brk => exact q.elim
    | cont => exact q.elim
theorem DnN.noX {P : Program} {w : World} {K : PySem.W.Frag} {mg : Str → Option Value} {base : Heap} {x : Str} {ps : List Str} {k : Nat} {sp sp' : Sp} (D : DnN P w K mg base x ps k sp) (h : ∀ vs H Q E, sp' vs H Q E → sp vs H Q fun _ _ _ => False) : Dn P w K mg base x ps k sp' := by
  obtain ⟨f, fd, F, r⟩ := D.ex
  exact ⟨f, fd, fnok_noN F h, r⟩
section
variable {X : Cx} {x : Str} {ps : List Str} {k : Nat} {sp : Sp} {e : Expr} {es : List Expr} {t : TA} {p pos : Pos} {E : L2.St → XK}
theorem pe_dnN (D : DnN X.prog X.w X.K X.mg X.base x ps k sp) (hr : Room k X.A) (hg : Gl X x) (hx : ∀ σ, PassesAt (L2N.CX X.prog X.w) X σ (E σ)) (ha : PA X (e :: es) t) (hdb : (x == ("__debug__" : Str)) = false := by decide)
    (he : starEach (e :: es) X.env = (false, eval e X.env) :: starEach es X.env := by rfl) (hpl : (backTo pos (starEach es X.env)).any (·.1) = false := by rfl) :
    PE X (.Call (.Name x p) (e :: es) [] pos) (tCallS sp E t) := by
  obtain ⟨f, fd, F, hm, hk, hb⟩ := D.ex
  exact pe_callS F hr hg hm hk hb hx ha hdb he hpl
theorem pe_dnH (D : DnH X.prog X.w X.K X.mg X.base x ps k sp) (hr : L2H.RoomH k X.A) (hc : L2H.HotC X) (hg : Gl X x) (ha : PA X (e :: es) t) (hdb : (x == ("__debug__" : Str)) = false := by decide)
    (he : starEach (e :: es) X.env = (false, eval e X.env) :: starEach es X.env := by rfl) (hpl : (backTo pos (starEach es X.env)).any (·.1) = false := by rfl) :
    PE X (.Call (.Name x p) (e :: es) [] pos) (tCallS sp (fun _ => E0) t) := by
  obtain ⟨f, fd, F, hm, hk, hb⟩ := D.ex
  exact L2H.pe_callH F hr hc hg hm hk hb (fun _ _ _ _ _ _ _ z => z.elim) ha hdb he hpl
end
/-- the suite bears the exception -/
theorem hot_suite {X : Cx} {a : Addr} {oe : Obj} {pn : List (Addr × Obj)} {cls : Value} {d : Option Addr} (hz : L2N.Zn cls d oe) (hf : ∃ vs, oe.data = .fields vs) : L2H.HotC (X.suite a ((a, oe) :: pn)) := by
  obtain ⟨vs, e⟩ := hf
  exact ⟨(a, oe), ⟨rfl, vs, e, hz.2.2 vs e⟩, List.mem_cons_self⟩
theorem room_suite {X : Cx} {k : Nat} {a : Addr} {pn : List (Addr × Obj)} (r : Room k X.A) : L2H.RoomH k (X.suite a pn).A := ⟨r.dp, r.un⟩
/-- an own exception with its own __init__, made where nothing is handled -/
theorem pmk_oexN {X : Cx} {e : Expr} {es : List Expr} {ta : TA} {p pos : Pos} {CX : CXT} {x : Str} {C fI : Addr} {k : Nat} {fd : FuncData} {ps : List Str} {sp : Sp} (T : OexC X.K C) (iC : PySem.W.findIn X.K (.ref C) "__init__" = some (some (.ref fI)))
    (tI : PySem.W.typeIn X.K (.ref fI) = some (.type "function")) (FI : FnOk X.prog X.w X.K X.mg X.base CX k fI fd ps sp) (rm : Room (k + 1) X.A) (bi : Binds X.K fd ps []) (out : Passes CX X (fun _ _ _ => False)) (gl : Gl X x) (mx : X.mg x = some (.ref C)) (args : PA X (e :: es) ta)
    (nd : (x == ("__debug__" : Str)) = false := by decide) (st : starEach (e :: es) X.env = (false, eval e X.env) :: starEach es X.env := by rfl) (pl : (backTo pos (starEach es X.env)).any (·.1) = false := by rfl) :
    L2N.PMk X (.Call (.Name x p) (e :: es) [] pos) (tMkO C sp [] ta) := by
  intro pins s0 σ H Q I0 reading
  obtain ⟨_, _, _, _, bm, _, _, _, _, _, _, _, _, _, _, look, hbm⟩ := T.cls
  refine wpAny_Call_Name_kw (ld_glob I0 gl mx (PySem.W.callWith_K (h₀ := X.base) I0.ok.mod.kin T.kC (thn (args.run pos pins s0 σ H _ I0 reading) fun us s1 got => ?_) st pl) nd)
  obtain ⟨vs, H1, I1, r1, small, q1⟩ := got
  refine ⟨I1.kIn, ?_⟩
  show wpAny _ _ (call (.ref C) us) _ _ _
  obtain ⟨hp, g, dr, tk, os⟩ := s1
  generalize ea : hp.objs.size + 1 = a
  have above : hp.objs.size ≤ a := by omega
  have reads := q1 a (I1.hok.fresh above)
  rw [List.append_nil] at reads
  generalize eh : (hp.push (PySem.W.kdv_tup us)).push (PySem.HandSPX.excO C hp.objs.size) = hp2
  have grows : ∀ b o, hp.get? b = some o → hp2.get? b = some o := by
    intro b o z
    rw [← eh]
    exact Heap.get?_push_of_some _ (Heap.get?_push_of_some _ z)
  have made : hp2.get? a = some (PySem.HandSPX.excO C hp.objs.size) := by
    rw [← eh, ← ea]
    heap_get
  have I2 : Inv X pins σ (upd H1 a (exo a C none)) ⟨hp2, g, dr, tk, os⟩ := I1.laid (t' := tk) (a := a) (o := exo a C none) (h' := hp2) grows above (exo_ok made)
  have rel : Vals (V.ref a :: vs) (Value.ref a :: us) := .cons rfl r1
  have many : (Value.ref a :: us ++ []).length = ps.length := by
    have z := rel.length
    rw [FI.len _ _ _ _ reads] at z
    rw [List.append_nil]
    exact z.symm
  have fits : us.length ≤ sizeLine := by
    rw [sizeLine_eq, ← Paired.length r1]
    omega
  have binds := bi _ (Value.ref a :: us) I2.kIn many
  rw [List.append_nil] at binds
  have run := FI.run _ X.stack _ _ ⟨Value.ref a :: us, []⟩ (Value.ref a :: us) _ _ (fun _ _ _ => False) (rm.make C us []) (I2.env0.make C us []) binds rel reads
  subst ea
  subst eh
  refine wpAny_call (PySem.HandSPX.call_own F.excBase_ValueError (fun Y => PySem.HandSPX.refsVE_contains Y bm hbm) (I1.kIn _ _ look) (PySem.W.looks_findIn I1.kIn iC)
    (fun self => PySem.W.bind_fn I1.kIn self tI) fits (codeAny_mono run fun r s' res => ?_))
  cases r with
  | error er => exact out pins σ _ _ er s' I2 res
  | ok fl =>
    cases fl with
    | next => exact res.elim
    | brk => exact res.elim
    | cont => exact res.elim
    | ret u =>
      obtain ⟨v, H2, os2, bare2, un2, hok2, rv, rfl, d, fs, ea2, ed2, hd1, q2⟩ := res
      obtain ⟨h2, g2, d2, t2, os'⟩ := s'
      obtain ⟨t0, G, J, kG, ge, lies, na⟩ := mk_end0 (d2 := d2) (t2 := t2) I1 above grows un2 hok2 os2 bare2 ea2 ed2 hd1
      exact ⟨rv, ⟨_, _, _, ⟨G, g2, d2, t2, os'⟩, _, .ref C, some d, rfl, J, kG, ge, lies, ⟨rfl, rfl, fun ws z => by cases z; rfl⟩, rfl, rfl, na, rfl, bare2, raises_own T.exC T.tyC, q2⟩⟩
end Bf

set_option Elab.async false
set_option linter.all false
set_option maxRecDepth 100000
set_option maxHeartbeats 4000000
namespace Bf
open PySem PySem.Spec PyProof.Rows L2
/-! ### consts and what they are worth -/
inductive Cst where
  | num (n : Nat)
  | par (z : Str)
  | op (g : Str) (a b : Cst)
inductive Out where
  | val (n : Int)
  | unk (z : Str)
  | bad (n : Int)
abbrev Prs := List (Str × Nat)
/-- the last pair of a name -/
def look : Prs → Str → Option Nat
  | [], _ => none
  | p :: r, z => (look r z).or (if p.1 = z then some p.2 else none)
def opv (g : Str) (x y : Int) : Int := if g = "+" then x + y else if g = "-" then x - y else x * y
def inR (n : Int) : Prop := 0 ≤ n ∧ n ≤ 255
instance (n : Int) : Decidable (inR n) := inferInstanceAs (Decidable (0 ≤ n ∧ n ≤ 255))
def outV (n : Int) : Out := if inR n then .val n else .bad n
def Cst.ev (ps : Prs) : Cst → Out
  | .num n => .val n
  | .par z => match look ps z with
    | some n => .val n
    | none => .unk z
  | .op g a b => match a.ev ps with
    | .val x => (match b.ev ps with
      | .val y => outV (opv g x y)
      | o => o)
    | o => o
def Cst.D : Cst → PyData
  | .num n => .tuple [.str "int", .int n]
  | .par z => .tuple [.str "param", .str z]
  | .op g a b => .tuple [.str g, a.D, b.D]
def Out.D : Out → PyData
  | .val n => .tuple [.str "value", .int n]
  | .unk z => .tuple [.str "Unknown", .str z]
  | .bad n => .tuple [.str "BadNumber", .int n]
def Out.D3 : Out → PyData
  | .val n => .tuple [.str "value", .int n, .bool true]
  | .unk z => .tuple [.str "Unknown", .str z, .bool true]
  | .bad n => .tuple [.str "BadNumber", .int n, .bool true]
def zOk (z : Str) : Prop := z.length ≤ 100 ∧ PyData.strOk z = true
def Cst.Ok : Cst → Prop
  | .num n => n ≤ 255
  | .par z => zOk z
  | .op g a b => (g = "+" ∨ g = "-" ∨ g = "*") ∧ a.Ok ∧ b.Ok
def Cst.dep : Cst → Nat
  | .num _ => 0
  | .par _ => 0
  | .op _ a b => max a.dep b.dep + 1
def prD (p : Str × Nat) : PyData := .tuple [.str p.1, .int p.2]
def prsD (ps : Prs) : PyData := .tuple (ps.map prD)
def PrsOk (ps : Prs) : Prop := ∀ p ∈ ps, zOk p.1 ∧ p.2 ≤ 255
theorem look_mem : ∀ {ps : Prs} {z : Str} {n : Nat}, look ps z = some n → (z, n) ∈ ps
  | [], _, _, h => by cases h
  | p :: r, z, n, h => by
    unfold look at h
    cases e : look r z with
    | some m =>
      rw [e] at h
      obtain rfl : m = n := by simpa using h
      exact List.mem_cons_of_mem _ (look_mem e)
    | none =>
      rw [e] at h
      have h : (if p.1 = z then some p.2 else none) = some n := by simpa using h
      by_cases q : p.1 = z
      · rw [if_pos q] at h
        cases h
        rw [← q]
        simp
      · rw [if_neg q] at h; cases h
theorem look_snoc {ps : Prs} {p : Str × Nat} {z : Str} : look (ps ++ [p]) z = if p.1 = z then some p.2 else look ps z := by
  induction ps with
  | nil => 
    show (Option.or none _) = _
    simp
    rfl
  | cons q r ih =>
    show Option.or (look (r ++ [p]) z) _ = if p.1 = z then some p.2 else Option.or (look r z) _
    rw [ih]
    by_cases h : p.1 = z
    · rw [if_pos h, if_pos h]; rfl
    · rw [if_neg h, if_neg h]
/-- found by filtering -/
def hits (ps : Prs) (z : Str) : List Nat := (ps.filter fun p => decide (p.1 = z)).map (·.2)
theorem look_hits (ps : Prs) (z : Str) : look ps z = (hits ps z).getLast? := by
  induction ps with
  | nil => rfl
  | cons p r ih =>
    show Option.or (look r z) _ = _
    rw [ih]
    unfold hits
    by_cases h : p.1 = z
    · rw [List.filter_cons_of_pos (by simpa using h), List.map_cons, if_pos h, List.getLast?_cons]
      cases ((r.filter fun p => decide (p.1 = z)).map (·.2)).getLast? <;> rfl
    · rw [List.filter_cons_of_neg (by simpa using h), if_neg h]
      cases ((r.filter fun p => decide (p.1 = z)).map (·.2)).getLast? <;> rfl
theorem opv_small {g : Str} {x y : Int} (hx : inR x) (hy : inR y) : -255 ≤ opv g x y ∧ opv g x y ≤ 65025 := by
  have h1 : 0 ≤ x * y := Int.mul_nonneg hx.1 hy.1
  have h2 : x * y ≤ 255 * 255 := Int.mul_le_mul hx.2 hy.2 hy.1 (by decide)
  unfold inR at hx hy
  unfold opv
  split
  · omega
  · split
    · omega
    · omega
theorem ev_ok {ps : Prs} (hp : PrsOk ps) : ∀ {c : Cst}, c.Ok → (∀ n, c.ev ps = .val n → inR n) ∧ (∀ z, c.ev ps = .unk z → zOk z ∧ look ps z = none) ∧ (∀ n, c.ev ps = .bad n → ¬ inR n ∧ -255 ≤ n ∧ n ≤ 65025)
  | .num n, h => by
    have h : n ≤ 255 := h
    exact ⟨fun m e => (by cases e; exact ⟨by omega, by omega⟩), fun z e => (by cases e), fun z e => (by cases e)⟩
  | .par z, h => by
    show (∀ n, (match look ps z with | some n => Out.val n | none => Out.unk z) = .val n → inR n) ∧ (∀ y, (match look ps z with | some n => Out.val n | none => Out.unk z) = .unk y → zOk y ∧ look ps y = none) ∧ (∀ n, (match look ps z with | some n => Out.val n | none => Out.unk z) = .bad n → ¬ inR n ∧ -255 ≤ n ∧ n ≤ 65025)
    cases e : look ps z with
    | some n =>
      have := (hp _ (look_mem e)).2
      refine ⟨fun m q => ?_, fun y q => ?_, fun y q => ?_⟩
      · cases q
        have : n ≤ 255 := this
        exact ⟨by omega, by omega⟩
      · cases q
      · cases q
    | none =>
      refine ⟨fun m q => ?_, fun y q => ?_, fun y q => ?_⟩
      · cases q
      · cases q; exact ⟨h, e⟩
      · cases q
  | .op g a b, h => by
    obtain ⟨_, ha, hb⟩ := h
    have A := ev_ok hp ha
    have B := ev_ok hp hb
    unfold Cst.ev
    cases ea : a.ev ps with
    | unk z => exact ⟨fun n q => (by cases q), fun y q => (by cases q; exact A.2.1 _ ea), fun n q => (by cases q)⟩
    | bad z => exact ⟨fun n q => (by cases q), fun y q => (by cases q), fun n q => (by cases q; exact A.2.2 _ ea)⟩
    | val x =>
      cases eb : b.ev ps with
      | unk z => exact ⟨fun n q => (by cases q), fun y q => (by cases q; exact B.2.1 _ eb), fun n q => (by cases q)⟩
      | bad z => exact ⟨fun n q => (by cases q), fun y q => (by cases q), fun n q => (by cases q; exact B.2.2 _ eb)⟩
      | val y =>
        have s := opv_small (g := g) (A.1 _ ea) (B.1 _ eb)
        show (∀ n, outV (opv g x y) = .val n → inR n) ∧ (∀ z, outV (opv g x y) = .unk z → _) ∧ (∀ n, outV (opv g x y) = .bad n → _)
        unfold outV
        by_cases z : inR (opv g x y)
        · rw [if_pos z]
          exact ⟨fun n q => (by cases q; exact z), fun _ q => (by cases q), fun _ q => (by cases q)⟩
        · rw [if_neg z]
          exact ⟨fun n q => (by cases q), fun _ q => (by cases q), fun _ q => (by cases q; exact ⟨z, s⟩)⟩
end Bf

set_option Elab.async false
set_option linter.all false
set_option maxRecDepth 100000
set_option maxHeartbeats 4000000
namespace Bf
open PySem PySem.Spec PyProof.Rows L2
def topS (i : Nat) : Stmt := PySem.Challenge.pw_beatfabric_k11_consts.main.body.getD i (.Pass ⟨0, 0, 0, 0⟩)
abbrev s_param_value : Stmt := topS 11
abbrev s_const_value : Stmt := topS 12
abbrev s_law_begin : Stmt := topS 14
abbrev s_law_draw : Stmt := topS 15
abbrev s_law_pick : Stmt := topS 16
abbrev s_law_pop : Stmt := topS 17
abbrev s_law_pool : Stmt := topS 18
abbrev s_law_is_int : Stmt := topS 19
abbrev s_law_atom : Stmt := topS 20
abbrev s_law_shape : Stmt := topS 21
abbrev s_law_chain : Stmt := topS 22
abbrev s_law_drawn_const : Stmt := topS 23
abbrev s_law_due : Stmt := topS 24
abbrev s_law_asked : Stmt := topS 25
abbrev s_law_by_base : Stmt := topS 26
abbrev s_law_agrees : Stmt := topS 27
abbrev s_law : Stmt := topS 28
theorem sc_param_value : FnScope ["name", "numbers", "other", "value"] ["name", "numbers"] (defScope s_param_value) := ⟨rfl, rfl, rfl, by decide +kernel, rfl, by decide +kernel, by decide +kernel⟩
theorem sc_const_value : FnScope ["const", "numbers", "value", "left", "right"] ["const", "numbers"] (defScope s_const_value) := ⟨rfl, rfl, rfl, by decide +kernel, rfl, by decide +kernel, by decide +kernel⟩
theorem sc_law_begin : FnScope ["_law_script", "_law_cell"] ["_law_script"] (defScope s_law_begin) := ⟨rfl, rfl, rfl, by decide +kernel, rfl, by decide +kernel, by decide +kernel⟩
theorem sc_law_draw : FnScope ["_law_d", "_law_many", "_law_found", "_law_size", "_law_cell"] ["_law_d", "_law_many"] (defScope s_law_draw) := ⟨rfl, rfl, rfl, by decide +kernel, rfl, by decide +kernel, by decide +kernel⟩
theorem sc_law_pick : FnScope ["_law_d", "_law_row"] ["_law_d", "_law_row"] (defScope s_law_pick) := ⟨rfl, rfl, rfl, by decide +kernel, rfl, by decide +kernel, by decide +kernel⟩
theorem sc_law_pop : FnScope ["_law_d", "_law_row"] ["_law_d", "_law_row"] (defScope s_law_pop) := ⟨rfl, rfl, rfl, by decide +kernel, rfl, by decide +kernel, by decide +kernel⟩
theorem sc_law_pool : FnScope ["_law_text"] [] (defScope s_law_pool) := ⟨rfl, rfl, rfl, by decide +kernel, rfl, by decide +kernel, by decide +kernel⟩
theorem sc_law_is_int : FnScope ["_law_thing"] ["_law_thing"] (defScope s_law_is_int) := ⟨rfl, rfl, rfl, by decide +kernel, rfl, by decide +kernel, by decide +kernel⟩
theorem sc_law_atom : FnScope ["_law_d", "_law_names", "_law_is_small", "_law_turn"] ["_law_d", "_law_names", "_law_is_small"] (defScope s_law_atom) := ⟨rfl, rfl, rfl, by decide +kernel, rfl, by decide +kernel, by decide +kernel⟩
theorem sc_law_shape : FnScope ["_law_d", "_law_atoms", "_law_left", "_law_k", "_law_at", "_law_sign", "_law_other"] ["_law_d", "_law_atoms"] (defScope s_law_shape) := ⟨rfl, rfl, rfl, by decide +kernel, rfl, by decide +kernel, by decide +kernel⟩
theorem sc_law_chain : FnScope ["_law_d", "_law_names", "_law_is_left", "_law_many", "_law_sign", "_law_found", "_law_k", "_law_other"] ["_law_d", "_law_names"] (defScope s_law_chain) := ⟨rfl, rfl, rfl, by decide +kernel, rfl, by decide +kernel, by decide +kernel⟩
theorem sc_law_drawn_const : FnScope ["_law_d", "_law_names", "_law_is_small", "_law_many", "_law_k"] ["_law_d", "_law_names"] (defScope s_law_drawn_const) := ⟨rfl, rfl, rfl, by decide +kernel, rfl, by decide +kernel, by decide +kernel⟩
theorem sc_law_due : FnScope ["_law_const", "_law_numbers", "_law_found", "_law_left", "_law_right", "_law_total", "_law_row"] ["_law_const", "_law_numbers"] (defScope s_law_due) := ⟨rfl, rfl, rfl, by decide +kernel, rfl, by decide +kernel, by decide +kernel⟩
theorem sc_law_asked : FnScope ["_law_const", "_law_numbers", "_law_found", "e"] ["_law_const", "_law_numbers"] (defScope s_law_asked) := ⟨rfl, rfl, rfl, by decide +kernel, rfl, by decide +kernel, by decide +kernel⟩
theorem sc_law_by_base : FnScope ["_law_const", "_law_numbers", "e", "_law_is_other", "_law_is_base"] ["_law_const", "_law_numbers"] (defScope s_law_by_base) := ⟨rfl, rfl, rfl, by decide +kernel, rfl, by decide +kernel, by decide +kernel⟩
theorem sc_law_agrees : FnScope ["_law_const", "_law_numbers", "_law_due_here"] ["_law_const", "_law_numbers"] (defScope s_law_agrees) := ⟨rfl, rfl, rfl, by decide +kernel, rfl, by decide +kernel, by decide +kernel⟩
theorem sc_law : FnScope ["_law_script", "_law_d", "_law_pool_here", "_law_names", "_law_least", "_law_pairs", "_law_const", "_law_other", "_law_more", "_law_wider", "_law_k"] ["_law_script"] (defScope s_law) := ⟨rfl, rfl, rfl, by decide +kernel, rfl, by decide +kernel, by decide +kernel⟩
structure Txt (mg : Str → Option Value) : Prop where
  n_int : mg "int" = none
  n_len : mg "len" = none
  n_abs : mg "abs" = none
  n_isinstance : mg "isinstance" = none
  n_range : mg "range" = none
  n_tuple : mg "tuple" = none
  n_list : mg "list" = none
  n_reversed : mg "reversed" = none
  n_bool : mg "bool" = none
  n_str : mg "str" = none
  n_super : mg "super" = none
  n_ValueError : mg "ValueError" = none
structure TxtP (mg : Str → Option Value) (tG : Tok) : Prop extends Txt mg where
  g_GREATEST : mg "GREATEST" = some (.int 255 tG)
/-! ### the draws -/
/-- what stood elsewhere stands -/
def Keep (S : List Addr) (H H' : Hp) : Prop := ∀ b o, b ∉ S → H b = some o → H' b = some o
theorem Keep.refl (S : List Addr) (H : Hp) : Keep S H H := fun _ _ _ h => h
theorem Keep.trans {S : List Addr} {H H1 H2 : Hp} (a : Keep S H H1) (b : Keep S H1 H2) : Keep S H H2 := fun c o n h => b c o n (a c o n h)
theorem Keep.of_same {S : List Addr} {H H1 : Hp} (a : Same H H1) : Keep S H H1 := fun c o _ h => a c o h
theorem Keep.wide {S S' : List Addr} {H H1 : Hp} (a : Keep S H H1) (h : ∀ b, b ∈ S → b ∈ S') : Keep S' H H1 := fun c o n e => a c o (fun q => n (h c q)) e
theorem Keep.upd {S : List Addr} {H : Hp} {a : Addr} {o : HO} (h : a ∈ S) : Keep S H (upd H a o) := fun b u n e => by
  rw [upd_ne (fun q => n (by rw [q]; exact h))]
  exact e
theorem Keep.new {S : List Addr} {H : Hp} {a : Addr} {o : HO} (h : H a = none) : Keep S H (L2.upd H a o) := fun b u n e => by
  rw [upd_ne (ne_of_none e h)]
  exact e
/-- the state of the draws -/
def DS (H : Hp) (a c : Addr) : Prop := ∃ (at_ left st : Int) (cells : List Int), H a = some (.lst [.ref c, .int at_, .int left, .int st, .int 3]) ∧ 0 ≤ at_ ∧ H c = some (.lst (cells.map V.int))
theorem DS.ne {H : Hp} {a c : Addr} {x : V} {xs : List V} {cells : List Int} (h : H a = some (.lst (.ref c :: xs))) (hc : H c = some (.lst (cells.map V.int))) : c ≠ a := by
  intro e
  rw [e, h] at hc
  have q := HO.lst.inj (Option.some.inj hc)
  cases cells with
  | nil => cases q
  | cons x r => cases (List.cons.inj q).1
theorem DS.keep {S : List Addr} {H H' : Hp} {a c : Addr} (h : DS H a c) (k : Keep S H H') (ha : a ∉ S) (hc : c ∉ S) : DS H' a c := by
  obtain ⟨at_, left, st, cells, h1, h2, h3⟩ := h
  exact ⟨at_, left, st, cells, k _ _ ha h1, h2, k _ _ hc h3⟩
theorem DS.same {H H' : Hp} {a c : Addr} (h : DS H a c) (k : Same H H') : DS H' a c := h.keep (S := []) (Keep.of_same k) (by simp) (by simp)
theorem DS.new {H : Hp} {a c l : Addr} (h : DS H a c) (hl : H l = none) : l ≠ a ∧ l ≠ c := by
  obtain ⟨at_, left, st, cells, h1, h2, h3⟩ := h
  exact ⟨(ne_of_none h1 hl).symm, (ne_of_none h3 hl).symm⟩
theorem pow6000 : (0 : Int) < 1 * 2 ^ (6000 : Int).toNat := by
  rw [Int.one_mul]
  exact Int.pow_pos (by decide)
def spDraw : Sp := fun vs H Q _ => ∃ (a c : Addr) (m : Int), vs = [.ref a, .int m] ∧ DS H a c ∧ 1 ≤ m ∧ m < 1073741824 ∧ ∀ (r : Int) (H' : Hp), 0 ≤ r → r < m → DS H' a c → Keep [a] H H' → Q (.int r) H'
section
variable {P : Program} {w : World} {K : PySem.W.Frag} {mg : Str → Option Value} {base : Heap}
theorem ok_draw {f : Addr} {fd : FuncData} (F : Fun K "_law_draw" "_law_draw" s_law_draw f fd) (T : Txt mg) : FnOk P w K mg base CX0 1 f fd ["_law_d", "_law_many"] spDraw := by
  refine F.ok sc_law_draw (fun vs H Q E h => ?_) (fun cdv A outer s H vs Q E hr h => ?_)
  · obtain ⟨a, c, m, rfl, _⟩ := h
    rfl
  obtain ⟨a, c, m, rfl, ⟨at_, left, st, cells, ha, h0, hc⟩, m1, m2, q⟩ := h
  have hca : c ≠ a := DS.ne (x := .non) ha hc
  refine ⟨_, (pss_cons (ps_if (pt_cmpR op_gt (pe_ix ix_list (pv 0) pe_int (fun _ _ => rfl)) pe_int (nomark _)) (pss_cons (ps_set (i := 2) sc_law_draw.nd rfl (Or.inl rfl) (pe_ix ix_list (pv 0) pe_int (fun _ _ => rfl)))
      (pss_cons (ps_asg (pe_op op_fdiv (pv 2) (pv 1)) (pg_sub (pv 0) pe_int set_list))
      (pss_one (ps_ret (pe_op op_mod (pe_callTy call_int1 (by rfl) T.n_int (by decide +kernel) (pa_cons (pv 2) pa_nil)) (pv 1)))))) pss_nil)
      (pss_cons (ps_set (i := 3) sc_law_draw.nd rfl (Or.inl rfl) pe_int)
      (C8.pss_cut (ps_if (pt_cmpR op_lt (pe_ix ix_list (pv 0) pe_int (fun _ _ => rfl)) (pe_callB call_len_seq (by rfl) T.n_len (by decide +kernel) (pa_cons (pe_ix ix_list (pv 0) pe_int (fun _ _ => rfl)) pa_nil)) (nomark _)) (pss_cons (ps_set (i := 4) sc_law_draw.nd rfl (Or.inl rfl) (pe_ix ix_list (pe_ix ix_list (pv 0) pe_int (fun _ _ => rfl)) (pe_ix ix_list (pv 0) pe_int (fun _ _ => rfl)) (fun _ _ => rfl)))
      (pss_one (ps_set (i := 3) sc_law_draw.nd rfl (Or.inl rfl) (pe_op op_add (pe_op op_mul pe_int (pe_callB call_abs (by rfl) T.n_abs (by decide +kernel) (pa_cons (pv 4) pa_nil))) (pe_callTy call_int1 (by rfl) T.n_int (by decide +kernel) (pa_cons (pe_cmpR op_lt (pv 4) pe_int (nomark _)) pa_nil)))))) pss_nil)
      (C8.pss_cut (ps_augS (pv 0) pe_int get_list pe_int ip_add set_list)
      (pss_cons (ps_if (pt_cmpR op_ge (pv 3) (pe_op op_mul pe_int (pe_op op_pow pe_int pe_int)) (nomark _)) (pss_cons (ps_set (i := 2) sc_law_draw.nd rfl (Or.inl rfl) (pe_op op_mod (pe_callTy call_int1 (by rfl) T.n_int (by decide +kernel) (pa_cons (pe_op op_fdiv (pv 3) pe_int) pa_nil)) (pe_op op_shl pe_int pe_int)))
      (pss_cons (ps_asg (pe_op op_fdiv (pv 2) (pv 1)) (pg_sub (pv 0) pe_int set_list))
      (pss_one (ps_ret (pe_op op_mod (pe_callTy call_int1 (by rfl) T.n_int (by decide +kernel) (pa_cons (pv 2) pa_nil)) (pv 1)))))) pss_nil)
      (pss_cons (ps_asg (pe_op op_mod (pe_callTy call_int1 (by rfl) T.n_int (by decide +kernel) (pa_cons (pe_op op_add (pe_op op_add (pe_op op_add (pe_op op_mul (pe_ix ix_list (pv 0) pe_int (fun _ _ => rfl)) pe_int) (pe_op op_mul (pe_op op_mod (pe_callTy call_int1 (by rfl) T.n_int (by decide +kernel) (pa_cons (pv 3) pa_nil)) pe_int) pe_int)) (pe_op op_mul (pe_ix ix_list (pv 0) pe_int (fun _ _ => rfl)) pe_int)) pe_int) pa_nil)) pe_int) (pg_sub (pv 0) pe_int set_list))
      (pss_one (ps_ret (pe_op op_mod (pe_callTy call_int1 (by rfl) T.n_int (by decide +kernel) (pa_cons (pe_op op_fdiv (pe_ix ix_list (pv 0) pe_int (fun _ _ => rfl)) pe_int) pa_nil)) (pv 1)))))))))), ?_⟩
  refine ⟨_, rfl, a, _, _, _, rfl, rfl, SqL.of ha, atI_nat (j := 2) rfl, _, _, rfl, rfl, _, rfl, ?_⟩
  refine ite2 (fun e => ?_) (fun e => ?_)
  · refine ⟨_, rfl, a, _, _, _, rfl, rfl, SqL.of ha, atI_nat (j := 2) rfl, ?_⟩
    refine ⟨_, rfl, _, rfl, left, m, rfl, rfl, ⟨by omega, by omega⟩, _, rfl, a, _, 2, 2, rfl, rfl, ha, rfl, ?_⟩
    refine ⟨_, rfl, .inl ⟨_, rfl, _, rfl, _, _, rfl, rfl, (by omega), ?_⟩⟩
    exact q _ _ (Int.emod_nonneg _ (by omega)) (Int.emod_lt_of_pos _ (by omega)) ⟨at_, left / m, st, cells, upd_same, h0, by rw [upd_ne hca]; exact hc⟩ (Keep.upd (by simp))
  · refine ⟨fun σ' H' => ∃ (z : Int) (v4 : Option V), σ' = [some (.ref a), some (.int m), none, some (.int z), v4] ∧ H' = H, ?_, ?_⟩
    · refine ⟨_, rfl, a, _, _, _, rfl, rfl, SqL.of ha, atI_nat (j := 1) rfl, _, rfl, a, _, _, _, rfl, rfl, SqL.of ha, atI_nat (j := 0) rfl, c, _, rfl, .inl (SqL.of hc), _, _, rfl, rfl, _, rfl, ?_⟩
      refine ite2 (fun e1 => ?_) (fun e1 => ?_)
      · have e2 : at_ < ((cells.map V.int).length : Nat) := of_decide_eq_true e1
        rw [List.length_map] at e2
        have hk : at_.toNat < cells.length := by omega
        have ek : ((at_.toNat : Nat) : Int) = at_ := by omega
        have q1 : atI (cells.map V.int) ((at_.toNat : Nat) : Int) = some (.int cells[at_.toNat]) := atI_nat (by rw [List.getElem?_map, List.getElem?_eq_getElem hk] <;> rfl)
        rw [ek] at q1
        refine ⟨_, rfl, a, _, _, _, rfl, rfl, SqL.of ha, atI_nat (j := 0) rfl, _, rfl, a, _, _, _, rfl, rfl, SqL.of ha, atI_nat (j := 1) rfl, c, _, _, _, rfl, rfl, SqL.of hc, q1, ?_⟩
        refine ⟨_, rfl, _, rfl, _, _, rfl, rfl, .inl ⟨by decide, by decide⟩, _, rfl, _, _, rfl, rfl, .inr ⟨_, rfl, _, _, rfl, rfl, ?_⟩⟩
        exact ⟨_, _, rfl, rfl⟩
      · exact ⟨_, _, rfl, rfl⟩
    · rintro σ' H' ⟨z, v4, rfl, rfl⟩
      refine ⟨fun σ' H1 => σ' = [some (.ref a), some (.int m), none, some (.int z), v4] ∧ H1 a = some (.lst [.ref c, .int (at_ + 1), .int left, .int st, .int 3]) ∧ H1 c = some (.lst (cells.map V.int)) ∧ Keep [a] H' H1, ?_, ?_⟩
      · exact ⟨_, rfl, a, _, 1, .int at_, rfl, rfl, ha, atI_nat (j := 1) rfl, at_, 1, rfl, rfl, a, _, 1, 1, rfl, rfl, ha, rfl, rfl, upd_same, by rw [upd_ne hca]; exact hc, Keep.upd (by simp)⟩
      rintro σ' H1 ⟨rfl, h1, h2, k1⟩
      refine ⟨_, rfl, _, _, rfl, rfl, ⟨by decide, by decide, by decide⟩, _, _, rfl, rfl, .inl ⟨by decide, by decide⟩, _, _, rfl, rfl, _, rfl, ?_⟩
      refine ite2 (fun e3 => ?_) (fun e3 => ?_)
      · refine ⟨_, rfl, z, 2, rfl, rfl, ⟨by decide, by decide⟩, .inl ⟨_, rfl, 1, 6000, rfl, rfl, ⟨by decide, by decide, by decide⟩, _, _, rfl, rfl, pow6000, ?_⟩⟩
        refine ⟨_, rfl, _, rfl, _, m, rfl, rfl, ⟨by omega, by omega⟩, _, rfl, a, _, 2, 2, rfl, rfl, h1, rfl, ?_⟩
        refine ⟨_, rfl, .inl ⟨_, rfl, _, rfl, _, _, rfl, rfl, (by omega), ?_⟩⟩
        refine q _ _ (Int.emod_nonneg _ (by omega)) (Int.emod_lt_of_pos _ (by omega)) ⟨at_ + 1, _, st, cells, upd_same, by omega, by rw [upd_ne hca]; exact h2⟩ (k1.trans (Keep.upd (by simp)))
      · refine ⟨_, rfl, a, _, _, _, rfl, rfl, SqL.of h1, atI_nat (j := 3) rfl, _, _, rfl, rfl, .inr ⟨by decide, by decide⟩, ?_⟩
        refine ⟨_, rfl, .inl ⟨_, rfl, _, _, rfl, rfl, (by show (0 : Int) < 2147483629; decide), _, _, rfl, rfl, .inr ⟨by decide, by decide⟩, _, _, rfl, rfl, ?_⟩⟩
        refine ⟨_, rfl, a, _, _, _, rfl, rfl, SqL.of h1, atI_nat (j := 1) rfl, _, _, rfl, rfl, .inr ⟨by decide, by decide⟩, _, _, rfl, rfl, _, _, rfl, rfl, .inl ⟨_, rfl, _, _, rfl, rfl, (by show (0 : Int) < 2147483647; decide), ?_⟩⟩
        refine ⟨_, rfl, a, _, 3, 3, rfl, rfl, h1, rfl, ?_⟩
        refine ⟨_, rfl, a, _, _, _, rfl, rfl, SqL.of upd_same, atI_nat (j := 3) rfl, _, _, rfl, rfl, ⟨by decide, by decide⟩, .inl ⟨_, rfl, _, rfl, _, _, rfl, rfl, (by omega), ?_⟩⟩
        exact q _ _ (Int.emod_nonneg _ (by omega)) (Int.emod_lt_of_pos _ (by omega)) ⟨at_ + 1, left, _, cells, upd_same, by omega, by rw [upd_ne hca]; exact h2⟩ (k1.trans (Keep.upd (by simp)))
end

/-! ### the beginning of the draws; a draw out of a list; is it an int -/
theorem same_new {H : Hp} {p : Addr} (h : H p = none) (o : HO) : Same H (upd H p o) := fun b u q => by rw [upd_ne (ne_of_none q h)]; exact q
theorem intAt {xs : List Int} {i : Nat} {x : V} (h : (xs.map V.int)[i]? = some x) : ∃ k, xs[i]? = some k ∧ x = V.int k := by
  rw [List.getElem?_map] at h
  cases e : xs[i]? with
  | none => rw [e] at h; cases h
  | some k => rw [e] at h; exact ⟨k, rfl, (Option.some.inj h).symm⟩
def spBegin (K : PySem.W.Frag) : Sp := fun vs H Q _ => ∃ (a : Addr) (ns : List Int), vs = [.ref a] ∧ SqL K H a (ns.map V.int) ∧ ns.length ≤ 63 ∧ ∀ (d c : Addr) (H' : Hp), H d = none → H c = none → DS H' d c → Same H H' → Q (.ref d) H'
section
variable {P : Program} {w : World} {K : PySem.W.Frag} {mg : Str → Option Value} {base : Heap}
theorem ok_begin {f : Addr} {fd : FuncData} (F : Fun K "_law_begin" "_law_begin" s_law_begin f fd) (T : Txt mg) : FnOk P w K mg base CX0 1 f fd ["_law_script"] (spBegin K) := by
  refine F.ok sc_law_begin (fun vs H Q E h => ?_) (fun cdv A outer s H vs Q E hr h => ?_)
  · obtain ⟨a, ns, rfl, _⟩ := h
    rfl
  obtain ⟨a, ns, rfl, hS, h63, q⟩ := h
  refine ⟨_, (pss_one (ps_ret (pe_lst (pa_cons (pe_lc (own := [("_law_cell", 1)]) (g := (gName 1)) (tt := tYes) rfl sc_law_begin.nd (pi_list (pv 0)) (blkOk_by (N := ["_law_script", "_law_cell"]) (sc := defScope s_law_begin) (by decide +kernel)) (fun _ _ _ _ _ => (pg_name (i := 1) sc_law_begin.nd rfl (Or.inl rfl))) (fun _ _ _ _ _ => pts_nil) (fun _ _ _ _ _ => (pe_callTy call_int1 (by rfl) T.n_int (by decide +kernel) (pa_cons (pv 1) pa_nil)))) (pa_cons pe_int (pa_cons pe_int (pa_cons pe_int (pa_cons pe_int pa_nil)))))))), ?_⟩
  refine ⟨_, rfl, a, rfl, ⟨_, hS⟩, fun D hD => lc_list (K := K) (a := a) (xs := ns.map V.int) (fun i H' => Same H H' ∧ H' D = some (.lst ((ns.take i).map V.int)))
    ⟨same_new hD _, upd_same⟩ (fun i H' _ p => p.1.seq hS) (fun i x H' hx p => ?_) (fun H' p => ?_)⟩
  · obtain ⟨k, hk, rfl⟩ := intAt hx
    refine ⟨rfl, _, rfl, .inl ⟨_, rfl, _, p.2, ?_, ?_, ?_⟩⟩
    · rw [List.length_map, List.length_take]
      exact small1000 (by omega)
    · intro b o e
      rw [upd_ne (ne_of_none e hD)]
      exact p.1 b o e
    · rw [upd_same, List.take_add_one, hk, List.map_append]
      rfl
  · rw [List.length_map, List.take_length] at p
    refine ⟨(by show 5 ≤ sizeLine; decide), fun l hl => ?_⟩
    have nDl : D ≠ l := ne_of_none p.2 hl
    refine q l D _ (p.1.free hl) hD ⟨0, 0, 7, ns, upd_same, Int.le_refl 0, by rw [upd_ne nDl]; exact p.2⟩ (p.1.trans (same_new hl _))
end

def spIsInt : Sp := fun vs H Q _ => ∃ i : Int, vs = [.int i] ∧ Q (.bl true) H
section
variable {P : Program} {w : World} {K : PySem.W.Frag} {mg : Str → Option Value} {base : Heap}
theorem ok_isInt {f : Addr} {fd : FuncData} (F : Fun K "_law_is_int" "_law_is_int" s_law_is_int f fd) (T : Txt mg) : FnOk P w K mg base CX0 1 f fd ["_law_thing"] spIsInt := by
  refine F.ok sc_law_is_int (fun vs H Q E h => ?_) (fun cdv A outer s H vs Q E hr h => ?_)
  · obtain ⟨i, rfl, _⟩ := h
    rfl
  obtain ⟨i, rfl, q⟩ := h
  refine ⟨_, (pss_one (ps_ret (pe_and (pe_callB (call_isi : CallR _ _ (rIsi K)) (by rfl) T.n_isinstance (by decide +kernel) (pa_cons (pv 0) (pa_cons (pe_bltn rfl T.n_int (by decide +kernel) (v := .ty "int") rfl) pa_nil))) (pe_one (pe_not (pe_callB (call_isi : CallR _ _ (rIsi K)) (by rfl) T.n_isinstance (by decide +kernel) (pa_cons (pv 0) (pa_cons (pe_bltn rfl T.n_bool (by decide +kernel) (v := .ty "bool") rfl) pa_nil)))))))), ?_⟩
  refine ⟨_, rfl, _, _, .type "int", .type "int", true, rfl, .ty "int", .base (.int i), kit_ty (by decide +kernel), true, rfl, ?_⟩
  refine iteT ?_
  refine ⟨_, rfl, _, _, .type "int", .type "bool", false, rfl, .ty "bool", .base (.int i), kit_ty (by decide +kernel), false, rfl, ?_⟩
  exact q
end

/-- a draw of an item of a list, which is taken out -/
def spPop : Sp := fun vs H Q _ => ∃ (d c l : Addr) (xs : List V), vs = [.ref d, .ref l] ∧ DS H d c ∧ H l = some (.lst xs) ∧ l ≠ d ∧ l ≠ c ∧ 1 ≤ xs.length ∧ xs.length ≤ 1000 ∧
  ∀ (k : Nat) (y : V) (H' : Hp), xs[k]? = some y → DS H' d c → H' l = some (.lst (xs.eraseIdx k)) → Keep [d, l] H H' → Q y H'
section
variable {P : Program} {w : World} {K : PySem.W.Frag} {mg : Str → Option Value} {base : Heap}
theorem ok_pop {f : Addr} {fd : FuncData} (F : Fun K "_law_pop" "_law_pop" s_law_pop f fd) (T : Txt mg) (D_law_draw : Dn P w K mg base "_law_draw" ["_law_d", "_law_many"] 1 spDraw) :
    FnOk P w K mg base CX0 2 f fd ["_law_d", "_law_row"] spPop := by
  refine F.ok sc_law_pop (fun vs H Q E h => ?_) (fun cdv A outer s H vs Q E hr h => ?_)
  · obtain ⟨d, c, l, xs, rfl, _⟩ := h
    rfl
  obtain ⟨d, c, l, xs, rfl, hd, hl, nld, nlc, h1, h2, q⟩ := h
  refine ⟨_, (pss_one (ps_ret (pe_bm PySem.F.plainAttrs_list PySem.F.slot_list_pop PySem.F.type_list_pop mt_popAt (pv 1) (pa_cons (pe_dn D_law_draw (hr.mono (by omega)) (by rfl) (pa_cons (pv 0) (pa_cons (pe_callB call_len_seq (by rfl) T.n_len (by decide +kernel) (pa_cons (pv 1) pa_nil)) pa_nil))) pa_nil)))), ?_⟩
  refine ⟨_, rfl, .inl ⟨rfl, _, SqL.of hl⟩, _, rfl, _, rfl, l, _, rfl, .inl (SqL.of hl), d, c, _, rfl, hd, (by omega), (by omega), fun r H' r0 r1 hd' k1 => ?_⟩
  have hl' : H' l = some (.lst xs) := k1 _ _ (by simp [nld]) hl
  have hk : r.toNat < xs.length := by omega
  refine ⟨l, xs, r, r.toNat, xs[r.toNat], rfl, rfl, hl', by omega, by omega, seqIndex_of r0 (by omega), List.getElem?_eq_getElem hk, ?_⟩
  refine q _ _ _ (List.getElem?_eq_getElem hk) (hd'.keep (S := [l]) (Keep.upd (by simp)) (by simp [nld.symm]) (by simp [nlc.symm])) upd_same ((k1.wide (by simp)).trans (Keep.upd (by simp)))
end

/-! ### what stands -/
theorem DS.at_ {H : Hp} {d c : Addr} (h : DS H d c) : ∃ l, H d = some (.lst l) := let ⟨_, _, _, _, e, _⟩ := h; ⟨_, e⟩
theorem Keep.tups {S : List Addr} {H H' : Hp} (k : Keep S H H') (n : ∀ b ∈ S, ∃ l, H b = some (.lst l)) : KeepT H H' := fun b xs h => k _ _ (fun m => by
  obtain ⟨l, q⟩ := n b m
  rw [q] at h
  cases h) h
theorem Keep.tup1 {H H' : Hp} {d c : Addr} (k : Keep [d] H H') (h : DS H d c) : KeepT H H' := k.tups fun b hb => by rw [List.mem_singleton.mp hb]; exact h.at_
theorem Keep.tup2 {H H' : Hp} {d c l : Addr} {xs : List V} (k : Keep [d, l] H H') (h : DS H d c) (hl : H l = some (.lst xs)) : KeepT H H' := k.tups fun b hb => by
  rcases List.mem_cons.mp hb with e | hb
  · rw [e]; exact h.at_
  · rw [List.mem_singleton.mp hb]; exact ⟨_, hl⟩
/-- the names that are left -/
def NmOk (z : Str) : Prop := z.length ≤ 100 ∧ PyData.strOk z = true
instance (z : Str) : Decidable (NmOk z) := inferInstanceAs (Decidable (z.length ≤ 100 ∧ PyData.strOk z = true))
def Nms (H : Hp) (l : Addr) (n : Nat) : Prop := ∃ names : List V, H l = some (.lst names) ∧ (∀ v ∈ names, ∃ z : Str, v = .str z ∧ NmOk z) ∧ names.length = n
theorem Nms.keep {S : List Addr} {H H' : Hp} {l : Addr} {n : Nat} (h : Nms H l n) (k : Keep S H H') (hl : l ∉ S) : Nms H' l n := let ⟨x, a, b, e⟩ := h; ⟨x, k _ _ hl a, b, e⟩
theorem Nms.same {H H' : Hp} {l : Addr} {n : Nat} (h : Nms H l n) (k : Same H H') : Nms H' l n := let ⟨x, a, b, e⟩ := h; ⟨x, k _ _ a, b, e⟩
theorem Nms.cast {H : Hp} {l : Addr} {n m : Nat} (h : Nms H l n) (e : n = m) : Nms H l m := e ▸ h
theorem Keep.thin {S S' : List Addr} {H H' : Hp} (k : Keep S' H H') (h : ∀ b ∈ S', b ∈ S ∨ H b = none) : Keep S H H' := fun b o n e => k b o (fun m => by
  rcases h b m with q | q
  · exact n q
  · rw [q] at e; cases e) e
theorem Keep.cat {S S' : List Addr} {H H1 H2 : Hp} (a : Keep S H H1) (b : Keep S' H1 H2) : Keep (S ++ S') H H2 := fun c o n h => b c o (fun m => n (List.mem_append_right _ m)) (a c o (fun m => n (List.mem_append_left _ m)) h)
theorem Keep.free {S : List Addr} {H H' : Hp} {l : Addr} (k : Keep S H H') (h : H' l = none) (n : l ∉ S) : H l = none := by
  cases e : H l with
  | none => rfl
  | some o => rw [k l o n e] at h; cases h
theorem Keep.sm {H H' : Hp} (k : Same H H') : Keep [] H H' := .of_same k
theorem Keep.at1 {H : Hp} {a : Addr} {o : HO} : Keep [a] H (L2.upd H a o) := .upd (by simp)
/-- the list at D: data of acc -/
def Acc {α : Type} (D : Addr) (f : α → PyData) (acc : List α) (H : Hp) : Prop := ∃ vs : List V, H D = some (.lst vs) ∧ LayAll H vs (acc.map f)
theorem Acc.nil {α : Type} {D : Addr} {f : α → PyData} {H : Hp} : Acc D f [] (upd H D (.lst [])) := ⟨[], upd_same, .nil⟩
theorem Acc.keep {α : Type} {D : Addr} {f : α → PyData} {acc : List α} {S : List Addr} {H H' : Hp} (h : Acc D f acc H) (k : Keep S H H') (t : KeepT H H') (n : D ∉ S) : Acc D f acc H' := let ⟨vs, a, b⟩ := h; ⟨vs, k _ _ n a, b.keep' t⟩
theorem Acc.same {α : Type} {D : Addr} {f : α → PyData} {acc : List α} {H H' : Hp} (h : Acc D f acc H) (k : Same H H') : Acc D f acc H' := let ⟨vs, a, b⟩ := h; ⟨vs, k _ _ a, b.keep' (.same k)⟩
theorem Acc.push {α : Type} {D : Addr} {f : α → PyData} {acc : List α} {H : Hp} {y : V} {x : α} (h : Acc D f acc H) (l : Lay H y (f x)) (n : acc.length ≤ 1000) :
    ∃ vs, H D = some (.lst vs) ∧ vs.length < sizeLine ∧ Acc D f (acc ++ [x]) (upd H D (.lst (vs ++ [y]))) ∧ KeepT H (upd H D (.lst (vs ++ [y]))) := by
  obtain ⟨vs, a, b⟩ := h
  have e := b.len
  rw [List.length_map] at e
  have kt : KeepT H (upd H D (.lst (vs ++ [y]))) := .lst a
  refine ⟨vs, a, by rw [e]; exact small1000 n, ⟨_, upd_same, ?_⟩, kt⟩
  rw [List.map_append]
  exact (b.snoc l).keep' kt
theorem Acc.at_ {α : Type} {D : Addr} {f : α → PyData} {acc : List α} {H : Hp} (h : Acc D f acc H) : ∃ l, H D = some (.lst l) := let ⟨vs, a, _⟩ := h; ⟨vs, a⟩

def spPool : Sp := fun vs H Q _ => vs = [] ∧ ∀ (p : Addr) (xs : List Str), H p = none → xs.length = 61 → (∀ x ∈ xs, NmOk x) → Q (.ref p) (upd H p (.lst (xs.map V.str)))
section
variable {P : Program} {w : World} {K : PySem.W.Frag} {mg : Str → Option Value} {base : Heap} {f : Addr} {fd : FuncData}
theorem ok_pool (F : Fun K "_law_pool" "_law_pool" s_law_pool f fd) : FnOk P w K mg base CX0 1 f fd [] spPool := by
  refine F.ok sc_law_pool (fun vs H Q E h => ?_) (fun cdv A outer s H vs Q E hr h => ?_)
  · rw [h.1]
    rfl
  obtain ⟨rfl, q⟩ := h
  refine ⟨_, (pss_cons (ps_set (i := 0) sc_law_pool.nd rfl (Or.inl rfl) pe_str)
      (pss_cons (ps_set (i := 0) sc_law_pool.nd rfl (Or.inl rfl) (pe_op op_add_str (pv 0) pe_str))
      (pss_one (ps_ret (pe_split (pe_op op_add_str (pv 0) pe_str) pe_str))))), ?_⟩
  refine ⟨_, rfl, _, _, rfl, rfl, (by decide +kernel), _, rfl, _, _, rfl, rfl, (by decide +kernel), ?_⟩
  exact ⟨⟨_, rfl⟩, _, _, rfl, rfl, (by decide +kernel), (by decide +kernel), fun p hp => q p _ hp (by decide +kernel) (by decide +kernel)⟩
end

/-! ### an item of a list by draws; a list in a drawn order -/
def spPick (K : PySem.W.Frag) : Sp := fun vs H Q _ => ∃ (d c l : Addr) (xs : List V), vs = [.ref d, .ref l] ∧ DS H d c ∧ l ≠ d ∧ SqL K H l xs ∧ 1 ≤ xs.length ∧ xs.length ≤ 1000 ∧
  ∀ (k : Nat) (y : V) (H' : Hp), xs[k]? = some y → DS H' d c → Keep [d] H H' → Q y H'
theorem Keep.seqL {S : List Addr} {K : PySem.W.Frag} {H H' : Hp} {a : Addr} {xs : List V} (k : Keep S H H') (n : a ∉ S) (h : SqL K H a xs) : SqL K H' a xs := by
  rcases h with (h | ⟨u, h⟩) | h
  · exact .inl (.inl (k _ _ n h))
  · exact .inl (.inr ⟨u, k _ _ n h⟩)
  · exact .inr h
section
variable {P : Program} {w : World} {K : PySem.W.Frag} {mg : Str → Option Value} {base : Heap} {f : Addr} {fd : FuncData}
theorem ok_pick (F : Fun K "_law_pick" "_law_pick" s_law_pick f fd) (T : Txt mg) (D_law_draw : Dn P w K mg base "_law_draw" ["_law_d", "_law_many"] 1 spDraw) : FnOk P w K mg base CX0 2 f fd ["_law_d", "_law_row"] (spPick K) := by
  refine F.ok sc_law_pick (fun vs H Q E h => ?_) (fun cdv A outer s H vs Q E hr h => ?_)
  · obtain ⟨d, c, l, xs, rfl, _⟩ := h
    rfl
  obtain ⟨d, c, l, xs, rfl, hd, nld, hl, h1, h2, q⟩ := h
  refine ⟨_, (pss_one (ps_ret (pe_ix ix_list (pv 1) (pe_dn D_law_draw (hr.mono (by omega)) (by rfl) (pa_cons (pv 0) (pa_cons (pe_callB call_len_seq (by rfl) T.n_len (by decide +kernel) (pa_cons (pv 1) pa_nil)) pa_nil))) (fun _ _ => rfl)))), ?_⟩
  refine ⟨_, rfl, _, rfl, _, rfl, l, _, rfl, .inl hl, d, c, _, rfl, hd, by omega, by omega, fun r H' r0 r1 hd' k1 => ?_⟩
  obtain ⟨x, rfl⟩ := Int.eq_ofNat_of_zero_le r0
  have hx : x < xs.length := by omega
  exact ⟨l, xs, _, _, rfl, rfl, k1.seqL (by simp [nld]) hl, atI_nat (List.getElem?_eq_getElem hx), q _ _ _ (List.getElem?_eq_getElem hx) hd' k1⟩
end

end Bf

set_option Elab.async false
set_option linter.all false
set_option maxRecDepth 100000
set_option maxHeartbeats 4000000
namespace Bf
open PySem PySem.Spec PyProof.Rows L2
/-! ### own exceptions -/
structure OwnX (P : Program) (K : PySem.W.Frag) (mg : Str → Option Value) (nm qual : Str) (st : Stmt) (par : Str) (C fI : Addr) : Prop where
  sup : SupC K C C
  ini : ∃ (cc cda : Addr) (fd : FuncData), SupI P K mg "__init__" qual (defArgs st) (defBody st) (defScope st) fI cc C cda fd ∧ Binds K fd ["self", par] []
  gC : mg nm = some (.ref C)
  iC : PySem.W.findIn K (.ref C) "__init__" = some (some (.ref fI))
  tI : PySem.W.typeIn K (.ref fI) = some (.type "function")
  noN : PySem.W.findIn K (.ref C) par = some none
  exT : ExcT K C

/-! ### the exceptions of consts -/
abbrev s_binit : Stmt := inClass (topS 3) 0
abbrev s_uinit : Stmt := inClass (topS 4) 0
theorem sc_binit : FnScopeS ["self", "value"] ["self", "value"] (defScope s_binit) := ⟨rfl, rfl, rfl, by decide +kernel, rfl, by decide +kernel, by decide +kernel, by decide +kernel, by decide +kernel, by decide +kernel⟩
theorem sc_uinit : FnScopeS ["self", "name"] ["self", "name"] (defScope s_uinit) := ⟨rfl, rfl, rfl, by decide +kernel, rfl, by decide +kernel, by decide +kernel, by decide +kernel, by decide +kernel, by decide +kernel⟩
abbrev BadX (P : Program) (K : PySem.W.Frag) (mg : Str → Option Value) (C fI : Addr) : Prop := OwnX P K mg "BadNumber" "BadNumber.__init__" s_binit "value" C fI
abbrev UnkX (P : Program) (K : PySem.W.Frag) (mg : Str → Option Value) (C fI : Addr) : Prop := OwnX P K mg "Unknown" "Unknown.__init__" s_uinit "name" C fI
def spBI (C : Addr) : Sp := fun vs H Q _ => ∃ (a : Addr) (n : Int), vs = [.ref a, .int n] ∧ -255 ≤ n ∧ n ≤ 65025 ∧ H a = some (exo a C none) ∧ ∀ dx, H dx = none → dx ≠ a → Q .non (upd (upd H dx (exd dx [("value", .int n)])) a (exo a C (some dx)))
def spUI (C : Addr) : Sp := fun vs H Q _ => ∃ (a : Addr) (y : Str), vs = [.ref a, .str y] ∧ y.length ≤ 100 ∧ H a = some (exo a C none) ∧ ∀ dx, H dx = none → dx ≠ a → Q .non (upd (upd H dx (exd dx [("name", .str y)])) a (exo a C (some dx)))
section
variable {P : Program} {w : World} {K : PySem.W.Frag} {mg : Str → Option Value} {base : Heap} {f : Addr} {fd : FuncData}
theorem ok_uinit {C fI cc cda : Addr} (X : UnkX P K mg C fI) (G : SupI P K mg "__init__" "Unknown.__init__" (defArgs s_uinit) (defBody s_uinit) (defScope s_uinit) fI cc C cda fd) : FnOk P w K mg base CX0 1 fI fd ["self", "name"] (spUI C) := by
  refine fn_super (ar := { arg := "self", annotation := none, pos := ⟨13, 17, 13, 21⟩ }) G sc_uinit (fun vs H Q E h => ?_) rfl rfl (fun cdv A outer s H vs Q E hcd hr h => ?_)
  · obtain ⟨a, y, rfl, _⟩ := h
    rfl
  obtain ⟨a, y, rfl, hy, ha, q⟩ := h
  have hy2 : y.length ≤ sizeLine := Nat.le_trans hy (le1000 (by decide))
  refine ⟨_, _, a, C, pa_cons (pe_joined (.cons pe_str (.cons (pe_fmt (pv 1)) .nil))) pa_nil, pss_one (ps_ost (pv 0) (pv 1)), rfl, X.sup, ha, ?_⟩
  refine ⟨_, rfl, by decide +kernel, _, rfl, .inl ⟨y, rfl, hy2, y, rfl, ?_, ?_⟩⟩
  · rw [PySem.Str.length_append]
    exact Nat.le_trans (Nat.add_le_add_left hy _) (by decide +kernel)
  · refine ⟨by show 1 ≤ 1000; decide, ha, ?_⟩
    exact ⟨_, rfl, _, rfl, a, C, rfl, X.sup.oex, X.noN, .inl ⟨ha, q⟩⟩
theorem log_ok {n : Int} (h1 : -255 ≤ n) (h2 : n ≤ 65025) : n.natAbs.log2 < 1920 := by
  by_cases z : n.natAbs = 0
  · rw [z]; decide +kernel
  · exact Nat.lt_trans ((Nat.log2_lt z).mpr (show n.natAbs < 2 ^ 17 by omega)) (by decide)
theorem ok_binit {C fI cc cda : Addr} (X : BadX P K mg C fI) (G : SupI P K mg "__init__" "BadNumber.__init__" (defArgs s_binit) (defBody s_binit) (defScope s_binit) fI cc C cda fd) : FnOk P w K mg base CX0 1 fI fd ["self", "value"] (spBI C) := by
  refine fn_super (ar := { arg := "self", annotation := none, pos := ⟨8, 17, 8, 21⟩ }) G sc_binit (fun vs H Q E h => ?_) rfl rfl (fun cdv A outer s H vs Q E hcd hr h => ?_)
  · obtain ⟨a, y, rfl, _⟩ := h
    rfl
  obtain ⟨a, n, rfl, n1, n2, ha, q⟩ := h
  refine ⟨_, _, a, C, pa_cons (pe_joined (.cons pe_str (.cons (pe_fmt (pv 1)) .nil))) pa_nil, pss_one (ps_ost (pv 0) (pv 1)), rfl, X.sup, ha, ?_⟩
  refine ⟨_, rfl, by decide +kernel, _, rfl, .inr ⟨n, rfl, log_ok n1 n2, _, rfl, ?_, ?_⟩⟩
  · rw [PySem.Str.length_append]
    exact Nat.le_trans (Nat.add_le_add_left (int_text_len_1921 (log_ok n1 n2)) _) (by decide +kernel)
  · refine ⟨by show 1 ≤ 1000; decide, ha, ?_⟩
    exact ⟨_, rfl, _, rfl, a, C, rfl, X.sup.oex, X.noN, .inl ⟨ha, q⟩⟩
end
/-! ### what raises -/
/-- a reading of what is raised: the class with one field -/
def XE (E : XK) (H : Hp) (C : Addr) (fs : List (Str × V)) : Prop := ∀ (d : Addr) (H' : Hp), Same H H' → H' d = some (.xd fs) → E (.ref C) (some d) H'
theorem XE.same {E : XK} {H H' : Hp} {C : Addr} {fs : List (Str × V)} (h : XE E H C fs) (s : Same H H') : XE E H' C fs := fun d H2 s2 e => h d H2 (s.trans s2) e
def spParam (CU : Addr) : Sp := fun vs H Q E => ∃ (q : V) (ps : Prs) (z : Str), vs = [.str z, q] ∧ Lay H q (prsD ps) ∧ ps.length ≤ 20 ∧ PrsOk ps ∧ zOk z ∧
  (∀ n, look ps z = some n → ∀ H' : Hp, Same H H' → Q (vI n) H') ∧ (look ps z = none → XE E H CU [("name", .str z)])
section
variable {P : Program} {w : World} {K : PySem.W.Frag} {mg : Str → Option Value} {base : Heap} {f : Addr} {fd : FuncData}
theorem ok_param {CU fU : Addr} (F : Fun K "param_value" "param_value" s_param_value f fd) (T : Txt mg) (XU : UnkX P K mg CU fU) : FnOk P w K mg base (L2N.CX P w) 3 f fd ["name", "numbers"] (spParam CU) := by
  obtain ⟨cc, cda, fdI, G, bIU⟩ := XU.ini
  have FIU := ok_uinit (w := w) (base := base) XU G
  refine F.okN sc_param_value (fun vs H Q E h => ?_) (fun cdv A outer s H vs Q E hr h => ?_)
  · obtain ⟨q, ps, z, rfl, _⟩ := h
    rfl
  obtain ⟨qv, ps, z, rfl, hq, h20, hps, hz, q1, q2⟩ := h
  refine ⟨_, (pss_cons (ps_for (passes_of rfl) rfl (RT.pi_revA (by rfl) T.n_reversed (pv 1)) (pg_tup rfl (pgs_cons (pg_name (i := 2) sc_param_value.nd rfl (Or.inl rfl)) (pgs_cons (pg_name (i := 3) sc_param_value.nd rfl (Or.inl rfl)) pgs_nil))) (pss_one (ps_if (pt_cmpR op_eq (pv 2) (pv 0) (nomark _)) (pss_one (ps_ret (pv 3))) pss_nil)))
      (pss_one (L2N.ps_raise rfl (L2N.takes_of rfl rfl rfl rfl) (pmk_oexN XU.sup.oex XU.iC XU.tI FIU (hr.mono (by omega)) bIU pass0 (by rfl) XU.gC (pa_cons (pv 0) pa_nil))))), ?_⟩
  obtain ⟨qa, vs, rfl, eq, la⟩ := hq.tup_inv
  have lvs : vs.length = ps.length := by rw [la.len, List.length_map]
  refine ⟨_, rfl, qa, vs, rfl, .inr ⟨SqT.of eq, RT.for_ItvT (fun i σ' H' => ∃ (v2 v3 : Option V), σ' = [some (.str z), some (.ref qa), v2, v3] ∧ H' = H ∧ look ps z = look (ps.take (ps.length - i)) z) ⟨_, _, rfl, rfl, by rw [Nat.sub_zero, List.take_length]⟩ (fun i σ' H' pp => ?_) (fun i x σ' H' hi hx pp => ?_) (fun σ' H' pp => ?_)⟩⟩
  · obtain ⟨_, _, _, rfl, _⟩ := pp
    exact SqT.of eq
  · obtain ⟨v2, v3, rfl, rfl, hk⟩ := pp
    obtain ⟨dd, ed, ld⟩ := la.get _ hx
    rw [lvs] at ed hi
    rw [List.getElem?_map] at ed
    have hj : ps.length - 1 - i < ps.length := by omega
    rw [List.getElem?_eq_getElem hj] at ed
    obtain rfl := Option.some.inj ed
    have hpm : ps[ps.length - 1 - i] ∈ ps := List.getElem_mem hj
    have htk : ps.take (ps.length - i) = ps.take (ps.length - 1 - i) ++ [ps[ps.length - 1 - i]] := by
      rw [show ps.length - i = ps.length - 1 - i + 1 by omega, List.take_add_one, List.getElem?_eq_getElem hj]
      rfl
    rw [htk, look_snoc] at hk
    generalize ps[ps.length - 1 - i] = p at ld hpm hk
    obtain ⟨y, n⟩ := p
    obtain ⟨pa, pvs, rfl, ep, lp⟩ := ld.tup_inv
    obtain ⟨v1, u1, rfl, l1, lp⟩ := lp.cons_inv
    obtain ⟨v0, u0, rfl, l0, lp⟩ := lp.cons_inv
    obtain rfl := lp.nil_inv
    obtain rfl := l1.str_inv
    obtain rfl := l0.int_inv
    refine ⟨pa, _, rfl, SqT.of ep, rfl, _, _, rfl, _, _, rfl, rfl, ?_⟩
    refine ⟨_, rfl, _, rfl, rfl, _, rfl, ite2 (fun e => ?_) (fun e => ?_)⟩
    · have e : y = z := by
        have e2 := of_decide_eq_true e
        exact (V.str.inj e2)
      rw [if_pos e] at hk
      exact ⟨_, rfl, q1 n hk H' (.refl H')⟩
    · have e : ¬ y = z := fun w => e (by rw [w]; exact decide_eq_true rfl)
      rw [if_neg e] at hk
      exact ⟨_, _, rfl, rfl, by rw [hk, show ps.length - (i + 1) = ps.length - 1 - i by omega]⟩
  · obtain ⟨v2, v3, rfl, rfl, hk⟩ := pp
    rw [lvs, Nat.sub_self, List.take_zero] at hk
    refine ⟨_, rfl, by show 1 ≤ 1000; decide, fun a ha => ?_⟩
    refine ⟨a, z, rfl, hz.1, upd_same, fun dx hdx hne => ⟨rfl, dx, [("name", .str z)], upd_same, ?_, ?_, ?_⟩⟩
    · rw [upd_ne hne]
      exact upd_same
    · rw [upd_ne hne] at hdx; exact hdx
    · have hdx1 : H' dx = none := by rw [upd_ne hne] at hdx; exact hdx
      refine q2 hk dx _ (fun b o hb => ?_) upd_same
      have nb : b ≠ dx := ne_of_none hb hdx1
      have nba : b ≠ a := ne_of_none hb ha
      rw [upd_ne nb, del_ne nba, upd_ne nba, upd_ne nb, upd_ne nba]
      exact hb
end
end Bf

set_option Elab.async false
set_option linter.all false
set_option maxRecDepth 100000
set_option maxHeartbeats 4000000
namespace Bf
open PySem PySem.Spec PyProof.Rows L2
/-! ### the value of a const -/
def spConst (CB CU : Addr) (N : Nat) : Sp := fun vs H Q E => ∃ (v q : V) (c : Cst) (ps : Prs), vs = [v, q] ∧ Lay H v c.D ∧ Lay H q (prsD ps) ∧ ps.length ≤ 20 ∧ PrsOk ps ∧ c.Ok ∧ c.dep < N ∧
  (∀ n, c.ev ps = .val n → ∀ H' : Hp, Same H H' → Q (.int n) H') ∧ (∀ z, c.ev ps = .unk z → XE E H CU [("name", .str z)]) ∧ (∀ n, c.ev ps = .bad n → XE E H CB [("value", .int n)])
/-- a const as it lies -/
theorem Lay.num {H : Hp} {v : V} {n : Nat} (h : Lay H v (Cst.num n).D) : ∃ p, v = .ref p ∧ H p = some (.tup [.str "int", vI n]) := by
  obtain ⟨p, vs, rfl, e, l⟩ := Lay.tup_inv h
  obtain ⟨v1, u1, rfl, l1, l⟩ := l.cons_inv
  obtain ⟨v2, u2, rfl, l2, l⟩ := l.cons_inv
  obtain rfl := l.nil_inv
  obtain rfl := l1.str_inv
  obtain rfl := l2.int_inv
  exact ⟨p, rfl, e⟩
theorem Lay.par {H : Hp} {v : V} {z : Str} (h : Lay H v (Cst.par z).D) : ∃ p, v = .ref p ∧ H p = some (.tup [.str "param", .str z]) := by
  obtain ⟨p, vs, rfl, e, l⟩ := Lay.tup_inv h
  obtain ⟨v1, u1, rfl, l1, l⟩ := l.cons_inv
  obtain ⟨v2, u2, rfl, l2, l⟩ := l.cons_inv
  obtain rfl := l.nil_inv
  obtain rfl := l1.str_inv
  obtain rfl := l2.str_inv
  exact ⟨p, rfl, e⟩
theorem Lay.op {H : Hp} {v : V} {g : Str} {a b : Cst} (h : Lay H v (Cst.op g a b).D) : ∃ p x y, v = .ref p ∧ H p = some (.tup [.str g, x, y]) ∧ Lay H x a.D ∧ Lay H y b.D := by
  obtain ⟨p, vs, rfl, e, l⟩ := Lay.tup_inv h
  obtain ⟨v1, u1, rfl, l1, l⟩ := l.cons_inv
  obtain ⟨v2, u2, rfl, l2, l⟩ := l.cons_inv
  obtain ⟨v3, u3, rfl, l3, l⟩ := l.cons_inv
  obtain rfl := l.nil_inv
  obtain rfl := l1.str_inv
  exact ⟨p, v2, v3, rfl, e, l2, l3⟩
theorem gs (g : Str) (h : g = "+" ∨ g = "-" ∨ g = "*") : g ≠ "int" ∧ g ≠ "param" := by
  rcases h with rfl | rfl | rfl <;> exact ⟨by decide, by decide⟩
section
variable {P : Program} {w : World} {K : PySem.W.Frag} {mg : Str → Option Value} {base : Heap} {f : Addr} {fd : FuncData}
theorem step_const {CB CU fB : Addr} {tG : Tok} (N : Nat) (F : Fun K "const_value" "const_value" s_const_value f fd) (T : TxtP mg tG) (XB : BadX P K mg CB fB) (D_param_value : DnN P w K mg base "param_value" ["name", "numbers"] 3 (spParam CU))
    (D_const_value : DnN P w K mg base "const_value" ["const", "numbers"] (N + 4) (spConst CB CU N)) : FnOk P w K mg base (L2N.CX P w) (N + 5) f fd ["const", "numbers"] (spConst CB CU (N + 1)) := by
  obtain ⟨cc, cda, fdI, G, bIB⟩ := XB.ini
  have FIB := ok_binit (w := w) (base := base) XB G
  refine F.okN sc_const_value (fun vs H Q E h => ?_) (fun cdv A outer s H vs Q E hr h => ?_)
  · obtain ⟨v, q, c, ps, rfl, _⟩ := h
    rfl
  obtain ⟨v, qv, c, ps, rfl, hv, hq, h20, hps, hc, hN, q1, q2, q3⟩ := h
  refine ⟨_, (C8.pss_cut (ps_if (pt_cmpR op_eq (pe_ix ix_tup (pv 0) pe_int (fun _ _ => rfl)) pe_str (nomark _)) (pss_one (ps_set (i := 2) sc_const_value.nd rfl (Or.inl rfl) (pe_ix ix_tup (pv 0) pe_int (fun _ _ => rfl)))) (pss_one (ps_if (pt_cmpR op_eq (pe_ix ix_tup (pv 0) pe_int (fun _ _ => rfl)) pe_str (nomark _)) (pss_one (ps_set (i := 2) sc_const_value.nd rfl (Or.inl rfl) (pe_dnN D_param_value (hr.mono (by omega)) (by rfl) (fun σ => L2N.passAt (L2N.takes_of rfl rfl rfl rfl) σ) (pa_cons (pe_ix ix_tup (pv 0) pe_int (fun _ _ => rfl)) (pa_cons (pv 1) pa_nil))))) (pss_cons (ps_set (i := 3) sc_const_value.nd rfl (Or.inl rfl) (pe_dnN D_const_value (hr.mono (by omega)) (by rfl) (fun σ => L2N.passAt (L2N.takes_of rfl rfl rfl rfl) σ) (pa_cons (pe_ix ix_tup (pv 0) pe_int (fun _ _ => rfl)) (pa_cons (pv 1) pa_nil))))
      (pss_cons (ps_set (i := 4) sc_const_value.nd rfl (Or.inl rfl) (pe_dnN D_const_value (hr.mono (by omega)) (by rfl) (fun σ => L2N.passAt (L2N.takes_of rfl rfl rfl rfl) σ) (pa_cons (pe_ix ix_tup (pv 0) pe_int (fun _ _ => rfl)) (pa_cons (pv 1) pa_nil))))
      (pss_one (ps_if (pt_cmpR op_eq (pe_ix ix_tup (pv 0) pe_int (fun _ _ => rfl)) pe_str (nomark _)) (pss_one (ps_set (i := 2) sc_const_value.nd rfl (Or.inl rfl) (pe_op op_add (pv 3) (pv 4)))) (pss_one (ps_if (pt_cmpR op_eq (pe_ix ix_tup (pv 0) pe_int (fun _ _ => rfl)) pe_str (nomark _)) (pss_one (ps_set (i := 2) sc_const_value.nd rfl (Or.inl rfl) (pe_op op_sub (pv 3) (pv 4)))) (pss_one (ps_set (i := 2) sc_const_value.nd rfl (Or.inl rfl) (pe_op op_mul (pv 3) (pv 4)))))))))))))
      (pss_cons (ps_if (PW.pt (pw_or (pt_cmpR op_lt (pv 2) pe_int (nomark _)) (pw_or1 (pt_cmpR op_gt (pv 2) (pe_glob (v := .int 255) rfl T.g_GREATEST ⟨_, rfl⟩) (nomark _))))) (pss_one (L2N.ps_raise rfl (L2N.takes_of rfl rfl rfl rfl) (pmk_oexN XB.sup.oex XB.iC XB.tI FIB (hr.mono (by omega)) bIB pass0 (by rfl) XB.gC (pa_cons (pv 2) pa_nil)))) pss_nil)
      (pss_one (ps_ret (pv 2))))), ?_⟩
  refine ⟨fun σ' H' => ∃ (m : Int) (v3 v4 : Option V), σ' = [some v, some qv, some (.int m), v3, v4] ∧ Same H H' ∧ -255 ≤ m ∧ m ≤ 65025 ∧ (inR m → c.ev ps = .val m) ∧ (¬ inR m → c.ev ps = .bad m), ?_, ?_⟩
  rotate_left
  · rintro σ' H' ⟨m, v3, v4, rfl, s1, m1, m2, e1, e2⟩
    have over : ¬ inR m → tMkO CB (spBI CB) [] (tCons (tVar 2) tNil) [some v, some qv, some (.int m), v3, v4] H' fun cls d H' => E cls d H' := fun hn => by
      refine ⟨_, rfl, by show 1 ≤ 1000; decide, fun a ha => ?_⟩
      refine ⟨a, m, rfl, m1, m2, upd_same, fun dx hdx hne => ⟨rfl, dx, [("value", .int m)], upd_same, ?_, ?_, ?_⟩⟩
      · rw [upd_ne hne]
        exact upd_same
      · rw [upd_ne hne] at hdx; exact hdx
      · have hdx1 : H' dx = none := by rw [upd_ne hne] at hdx; exact hdx
        refine q3 m (e2 hn) dx _ (s1.trans fun b o hb => ?_) upd_same
        have nb : b ≠ dx := ne_of_none hb hdx1
        have nba : b ≠ a := ne_of_none hb ha
        rw [upd_ne nb, del_ne nba, upd_ne nba, upd_ne nb, upd_ne nba]
        exact hb
    refine ⟨_, rfl, _, _, rfl, rfl, _, rfl, ite2 (fun z => iteT ?_) (fun z => ⟨_, rfl, _, _, rfl, rfl, _, rfl, ite2 (fun z2 => ?_) (fun z2 => ?_)⟩)⟩
    · exact over fun r => by have := of_decide_eq_true z; exact absurd r.1 (by omega)
    · exact over fun r => by have := of_decide_eq_true z2; exact absurd r.2 (by omega)
    · have z : ¬ m < 0 := fun h => z (decide_eq_true h)
      have z2 : ¬ 255 < m := fun h => z2 (decide_eq_true h)
      exact ⟨_, rfl, q1 m (e1 ⟨by omega, by omega⟩) H' s1⟩
  cases c with
  | num n =>
    obtain ⟨p, rfl, ep⟩ := hv.num
    refine ⟨_, rfl, p, _, _, _, rfl, rfl, SqT.of ep, atI_nat (j := 0) rfl, rfl, _, rfl, ite2 (fun z => ?_) (fun z => absurd rfl z)⟩
    refine ⟨_, rfl, p, _, _, _, rfl, rfl, SqT.of ep, atI_nat (j := 1) rfl, ?_⟩
    have hn : n ≤ 255 := hc
    exact ⟨(n : Int), _, _, rfl, .refl _, by omega, by omega, fun _ => rfl, fun h => absurd (show inR n from ⟨by omega, by omega⟩) h⟩
  | par z =>
    obtain ⟨p, rfl, ep⟩ := hv.par
    refine ⟨_, rfl, p, _, _, _, rfl, rfl, SqT.of ep, atI_nat (j := 0) rfl, rfl, _, rfl, ite2 (fun z => absurd (of_decide_eq_true z) (by decide)) (fun _ => ?_)⟩
    refine ⟨_, rfl, p, _, _, _, rfl, rfl, SqT.of ep, atI_nat (j := 0) rfl, rfl, _, rfl, ite2 (fun _ => ?_) (fun z => absurd rfl z)⟩
    refine ⟨_, rfl, p, _, _, _, rfl, rfl, SqT.of ep, atI_nat (j := 1) rfl, ?_⟩
    refine ⟨_, rfl, qv, ps, z, rfl, hq, h20, hps, hc, fun n hn H1 s1 => ?_, fun hn => q2 z (by show (match look ps z with | some n => Out.val n | none => Out.unk z) = _; rw [hn])⟩
    have hb : n ≤ 255 := (hps _ (look_mem hn)).2
    exact ⟨(n : Int), _, _, rfl, s1, by omega, by omega, fun _ => by show (match look ps z with | some n => Out.val n | none => Out.unk z) = _; rw [hn], fun h => absurd (show inR n from ⟨by omega, by omega⟩) h⟩
  | op g a b =>
    obtain ⟨p, x, y, rfl, ep, lx, ly⟩ := hv.op
    refine ⟨_, rfl, p, _, _, _, rfl, rfl, SqT.of ep, atI_nat (j := 0) rfl, rfl, _, rfl, ite2 (fun z => absurd (V.str.inj (of_decide_eq_true z)) (gs g hc.1).1) (fun _ => ?_)⟩
    refine ⟨_, rfl, p, _, _, _, rfl, rfl, SqT.of ep, atI_nat (j := 0) rfl, rfl, _, rfl, ite2 (fun z => absurd (V.str.inj (of_decide_eq_true z)) (gs g hc.1).2) (fun _ => ?_)⟩
    refine ⟨_, rfl, p, _, _, _, rfl, rfl, SqT.of ep, atI_nat (j := 1) rfl, ?_⟩
    obtain ⟨hg, ha, hb⟩ := hc
    have da : a.dep < N := by
      have : max a.dep b.dep + 1 < N + 1 := hN
      omega
    have db : b.dep < N := by
      have : max a.dep b.dep + 1 < N + 1 := hN
      omega
    have ev0 : (Cst.op g a b).ev ps = match a.ev ps with
      | .val x => (match b.ev ps with
        | .val y => outV (opv g x y)
        | o => o)
      | o => o := rfl
    refine ⟨_, rfl, x, qv, a, ps, rfl, lx, hq, h20, hps, ha, da, fun m1 h1 H1 s1 => ?_, fun z hz => q2 z (by rw [ev0, hz]), fun z hz => q3 z (by rw [ev0, hz])⟩
    refine ⟨_, rfl, p, _, _, _, rfl, rfl, SqT.of (s1 _ _ ep), atI_nat (j := 2) rfl, ?_⟩
    refine ⟨_, rfl, y, qv, b, ps, rfl, ly.keep' (.same s1), hq.keep' (.same s1), h20, hps, hb, db, fun m2 h2 H2 s2 => ?_, fun z hz => (q2 z (by rw [ev0, h1]; show (match b.ev ps with | .val y => outV (opv g m1 y) | o => o) = _; rw [hz])).same s1, fun z hz => (q3 z (by rw [ev0, h1]; show (match b.ev ps with | .val y => outV (opv g m1 y) | o => o) = _; rw [hz])).same s1⟩
    have s12 := s1.trans s2
    have ep2 := s12 _ _ ep
    have ev1 : (Cst.op g a b).ev ps = outV (opv g m1 m2) := by
      rw [ev0, h1]
      show (match b.ev ps with | .val y => outV (opv g m1 y) | o => o) = _
      rw [h2]
    have r1 := (ev_ok hps ha).1 _ h1
    have r2 := (ev_ok hps hb).1 _ h2
    have sm := opv_small (g := g) r1 r2
    have fin : ∀ m : Int, m = opv g m1 m2 → ∃ (m' : Int) (v3 v4 : Option V), [some (V.ref p), some qv, some (V.int m), some (V.int m1), some (V.int m2)] = [some (V.ref p), some qv, some (.int m'), v3, v4] ∧ Same H H2 ∧ -255 ≤ m' ∧ m' ≤ 65025 ∧ (inR m' → (Cst.op g a b).ev ps = .val m') ∧ (¬ inR m' → (Cst.op g a b).ev ps = .bad m') := fun m e => by
      refine ⟨m, _, _, rfl, s12, by rw [e]; exact sm.1, by rw [e]; exact sm.2, fun h => ?_, fun h => ?_⟩
      · rw [ev1, ← e]; exact if_pos h
      · rw [ev1, ← e]; exact if_neg h
    refine ⟨_, rfl, p, _, _, _, rfl, rfl, SqT.of ep2, atI_nat (j := 0) rfl, rfl, _, rfl, ite2 (fun z => ?_) (fun z => ?_)⟩
    · have z := V.str.inj (of_decide_eq_true z)
      exact ⟨_, rfl, _, rfl, _, _, rfl, rfl, fin _ (by rw [z]; rfl)⟩
    have z : g ≠ "+" := fun e => z (decide_eq_true (by rw [e]))
    refine ⟨_, rfl, p, _, _, _, rfl, rfl, SqT.of ep2, atI_nat (j := 0) rfl, rfl, _, rfl, ite2 (fun z2 => ?_) (fun z2 => ?_)⟩
    · have z2 := V.str.inj (of_decide_eq_true z2)
      exact ⟨_, rfl, _, rfl, _, _, rfl, rfl, fin _ (by rw [z2]; rfl)⟩
    have z2 : g ≠ "-" := fun e => z2 (decide_eq_true (by rw [e]))
    refine ⟨_, rfl, _, rfl, _, _, rfl, rfl, .inl ?_, fin _ (by unfold opv; rw [if_neg z, if_neg z2])⟩
    obtain ⟨a1, a2⟩ := r1
    exact ⟨by omega, by omega⟩
theorem ok_const {CB CU fB : Addr} {tG : Tok} (F : Fun K "const_value" "const_value" s_const_value f fd) (T : TxtP mg tG) (XB : BadX P K mg CB fB) (D_param_value : DnN P w K mg base "param_value" ["name", "numbers"] 3 (spParam CU))
    (hm : mg "const_value" = some (.ref f)) (kp : PySem.W.keepIn K (.ref f) = true) (hb : Binds K fd ["const", "numbers"] []) :
    ∀ N : Nat, FnOk P w K mg base (L2N.CX P w) (N + 4) f fd ["const", "numbers"] (spConst CB CU N)
  | 0 => by
    refine F.okN sc_const_value (fun vs H Q E h => ?_) (fun cdv A outer s H vs Q E hr h => ?_)
    · obtain ⟨v, q, c, ps, rfl, _⟩ := h
      rfl
    · obtain ⟨v, q, c, ps, rfl, _, _, _, _, _, hn, _⟩ := h
      exact absurd hn (Nat.not_lt_zero _)
  | N + 1 => step_const N F T XB D_param_value ⟨f, fd, ok_const F T XB D_param_value hm kp hb N, hm, kp, hb⟩
end
end Bf

set_option Elab.async false
set_option linter.all false
set_option maxRecDepth 100000
set_option maxHeartbeats 4000000
namespace Bf
open PySem PySem.Spec PyProof.Rows L2
/-! ### what the law says of a const -/
def spDue (N : Nat) : Sp := fun vs H Q _ => ∃ (v q : V) (c : Cst) (ps : Prs), vs = [v, q] ∧ Lay H v c.D ∧ Lay H q (prsD ps) ∧ ps.length ≤ 20 ∧ PrsOk ps ∧ c.Ok ∧ c.dep < N ∧
  ∀ (r : V) (H' : Hp), Same H H' → Lay H' r (c.ev ps).D → Q r H'
theorem Lay.two {H : Hp} {p : Addr} {a b : V} {d e : PyData} (h : H p = some (.tup [a, b])) (la : Lay H a d) (lb : Lay H b e) : Lay H (.ref p) (.tuple [d, e]) := .tup h (.cons la (.cons lb .nil))
/-- what is due, as it lies -/
theorem Out.lay {H : Hp} {r : V} {o : Out} (h : Lay H r o.D) : ∃ (p : Addr) (tg : Str) (y : V), r = .ref p ∧ H p = some (.tup [.str tg, y]) ∧
    ((∃ n, o = .val n ∧ tg = "value" ∧ y = .int n) ∨ (∃ z, o = .unk z ∧ tg = "Unknown" ∧ y = .str z) ∨ (∃ n, o = .bad n ∧ tg = "BadNumber" ∧ y = .int n)) := by
  cases o with
  | val n =>
    obtain ⟨p, vs, rfl, e, l⟩ := Lay.tup_inv h
    obtain ⟨v1, u1, rfl, l1, l⟩ := l.cons_inv
    obtain ⟨v2, u2, rfl, l2, l⟩ := l.cons_inv
    obtain rfl := l.nil_inv
    obtain rfl := l1.str_inv
    obtain rfl := l2.int_inv
    exact ⟨p, _, _, rfl, e, .inl ⟨n, rfl, rfl, rfl⟩⟩
  | unk z =>
    obtain ⟨p, vs, rfl, e, l⟩ := Lay.tup_inv h
    obtain ⟨v1, u1, rfl, l1, l⟩ := l.cons_inv
    obtain ⟨v2, u2, rfl, l2, l⟩ := l.cons_inv
    obtain rfl := l.nil_inv
    obtain rfl := l1.str_inv
    obtain rfl := l2.str_inv
    exact ⟨p, _, _, rfl, e, .inr (.inl ⟨z, rfl, rfl, rfl⟩)⟩
  | bad n =>
    obtain ⟨p, vs, rfl, e, l⟩ := Lay.tup_inv h
    obtain ⟨v1, u1, rfl, l1, l⟩ := l.cons_inv
    obtain ⟨v2, u2, rfl, l2, l⟩ := l.cons_inv
    obtain rfl := l.nil_inv
    obtain rfl := l1.str_inv
    obtain rfl := l2.int_inv
    exact ⟨p, _, _, rfl, e, .inr (.inr ⟨n, rfl, rfl, rfl⟩)⟩
theorem atI_last {xs : List V} {x : V} (h : xs[xs.length - 1]? = some x) : atI xs (-1) = some x := by
  have hl := (List.getElem?_eq_some_iff.mp h).1
  unfold atI ixN
  rw [if_neg (by omega), if_pos (by omega), show ((-1 : Int) + (xs.length : Int)).toNat = xs.length - 1 by omega]
  exact h
theorem hits_snoc (ps : Prs) (p : Str × Nat) (z : Str) : hits (ps ++ [p]) z = if p.1 = z then hits ps z ++ [p.2] else hits ps z := by
  unfold hits
  rw [List.filter_append, List.map_append]
  by_cases h : p.1 = z
  · rw [if_pos h, List.filter_cons_of_pos (by simpa using h)]
    rfl
  · rw [if_neg h, List.filter_cons_of_neg (by simpa using h)]
    simp
theorem hits_len (ps : Prs) (z : Str) : (hits ps z).length ≤ ps.length := by
  unfold hits
  rw [List.length_map]
  exact List.length_filter_le _ _
section
variable {P : Program} {w : World} {K : PySem.W.Frag} {mg : Str → Option Value} {base : Heap} {f : Addr} {fd : FuncData}
theorem step_due (N : Nat) (F : Fun K "_law_due" "_law_due" s_law_due f fd) (T : Txt mg) (D_law_due : Dn P w K mg base "_law_due" ["_law_const", "_law_numbers"] (N + 1) (spDue N)) : FnOk P w K mg base CX0 (N + 2) f fd ["_law_const", "_law_numbers"] (spDue (N + 1)) := by
  refine F.ok sc_law_due (fun vs H Q E h => ?_) (fun cdv A outer s H vs Q E hr h => ?_)
  · obtain ⟨v, q, c, ps, rfl, _⟩ := h
    rfl
  obtain ⟨v, qv, c, ps, rfl, hv, hq, h20, hps, hc, hN, q⟩ := h
  refine ⟨_, (pss_cons (ps_if (pt_cmpR op_eq (pe_ix ix_tup (pv 0) pe_int (fun _ _ => rfl)) pe_str (nomark _)) (pss_one (ps_ret (pe_tup (pa_cons pe_str (pa_cons (pe_ix ix_tup (pv 0) pe_int (fun _ _ => rfl)) pa_nil))))) pss_nil)
      (pss_cons (ps_if (pt_cmpR op_eq (pe_ix ix_tup (pv 0) pe_int (fun _ _ => rfl)) pe_str (nomark _)) (pss_cons (ps_setLc (i := 2) (own := [("_law_row", 6)]) (g := (gName 6)) rfl sc_law_due.nd rfl rfl (sw_true rfl rfl rfl (by decide +kernel)) (pi_tup (pv 1)) (blkOk_by (N := ["_law_const", "_law_numbers", "_law_found", "_law_left", "_law_right", "_law_total", "_law_row"]) (sc := defScope s_law_due) (by decide +kernel)) (fun _ _ _ _ _ => (pg_name (i := 6) sc_law_due.nd rfl (Or.inl rfl))) (fun _ _ _ _ _ => (pts_one (pt_cmpR op_eq (pe_ix (ix_tup : IxR _ (rIxT K)) (pv 6) pe_int (fun _ _ => rfl)) (pe_ix (ix_tup : IxR _ (rIxT K)) (pv 0) pe_int (fun _ _ => rfl)) (nomark _)))) (fun _ _ _ _ _ => (pe_ix (ix_tup : IxR _ (rIxT K)) (pv 6) pe_int (fun _ _ => rfl))))
      (pss_one (ps_ret (pe_ifExp (pt_cmpR op_gt (pe_callB call_len_seq (by rfl) T.n_len (by decide +kernel) (pa_cons (pv 2) pa_nil)) pe_int (nomark _)) (pe_tup (pa_cons pe_str (pa_cons (pe_ix ix_list (pv 2) (pe_un un_neg pe_int) (fun _ _ => rfl)) pa_nil))) (pe_tup (pa_cons pe_str (pa_cons (pe_ix ix_tup (pv 0) pe_int (fun _ _ => rfl)) pa_nil))))))) pss_nil)
      (pss_cons (ps_set (i := 3) sc_law_due.nd rfl (Or.inl rfl) (pe_dn D_law_due (hr.mono (by omega)) (by rfl) (pa_cons (pe_ix ix_tup (pv 0) pe_int (fun _ _ => rfl)) (pa_cons (pv 1) pa_nil))))
      (pss_cons (ps_if (pt_cmpR op_ne (pe_ix ix_tup (pv 3) pe_int (fun _ _ => rfl)) pe_str (nomark _)) (pss_one (ps_ret (pv 3))) pss_nil)
      (pss_cons (ps_set (i := 4) sc_law_due.nd rfl (Or.inl rfl) (pe_dn D_law_due (hr.mono (by omega)) (by rfl) (pa_cons (pe_ix ix_tup (pv 0) pe_int (fun _ _ => rfl)) (pa_cons (pv 1) pa_nil))))
      (pss_cons (ps_if (pt_cmpR op_ne (pe_ix ix_tup (pv 4) pe_int (fun _ _ => rfl)) pe_str (nomark _)) (pss_one (ps_ret (pv 4))) pss_nil)
      (pss_cons (ps_set (i := 5) sc_law_due.nd rfl (Or.inl rfl) (pe_op op_mul (pe_ix ix_tup (pv 3) pe_int (fun _ _ => rfl)) (pe_ix ix_tup (pv 4) pe_int (fun _ _ => rfl))))
      (C8.pss_cut (ps_if (pt_cmpR op_eq (pe_ix ix_tup (pv 0) pe_int (fun _ _ => rfl)) pe_str (nomark _)) (pss_one (ps_set (i := 5) sc_law_due.nd rfl (Or.inl rfl) (pe_op op_add (pe_ix ix_tup (pv 3) pe_int (fun _ _ => rfl)) (pe_ix ix_tup (pv 4) pe_int (fun _ _ => rfl))))) pss_nil)
      (C8.pss_cut (ps_if (pt_cmpR op_eq (pe_ix ix_tup (pv 0) pe_int (fun _ _ => rfl)) pe_str (nomark _)) (pss_one (ps_set (i := 5) sc_law_due.nd rfl (Or.inl rfl) (pe_op op_sub (pe_ix ix_tup (pv 3) pe_int (fun _ _ => rfl)) (pe_ix ix_tup (pv 4) pe_int (fun _ _ => rfl))))) pss_nil)
      (pss_one (ps_ret (pe_tup (pa_cons (pe_ifExp (pt_chain op_le op_le pe_int (pv 5) pe_int) pe_str pe_str) (pa_cons (pv 5) pa_nil)))))))))))))), ?_⟩
  cases c with
  | num n =>
    obtain ⟨p, rfl, ep⟩ := hv.num
    refine ⟨_, rfl, p, _, _, _, rfl, rfl, SqT.of ep, atI_nat (j := 0) rfl, rfl, _, rfl, ite2 (fun z => ?_) (fun z => absurd rfl z)⟩
    refine ⟨_, rfl, p, _, _, _, rfl, rfl, SqT.of ep, atI_nat (j := 1) rfl, (by show 2 ≤ sizeLine; decide), fun r hr => ?_⟩
    exact q _ _ (same_new hr _) (Lay.two upd_same (.str _) (.int _))
  | par z =>
    obtain ⟨p, rfl, ep⟩ := hv.par
    refine ⟨_, rfl, p, _, _, _, rfl, rfl, SqT.of ep, atI_nat (j := 0) rfl, rfl, _, rfl, ite2 (fun z => absurd (of_decide_eq_true z) (by decide)) (fun _ => ?_)⟩
    refine ⟨_, rfl, p, _, _, _, rfl, rfl, SqT.of ep, atI_nat (j := 0) rfl, rfl, _, rfl, ite2 (fun _ => ?_) (fun z => absurd rfl z)⟩
    obtain ⟨qa, vs, rfl, eq, la⟩ := hq.tup_inv
    have lvs : vs.length = ps.length := by rw [la.len, List.length_map]
    refine ⟨_, rfl, qa, rfl, ⟨_, SqT.of eq⟩, fun D hD => ?_⟩
    refine lc_it (walk_tup (xs := vs)) (fun i H' => Same H H' ∧ H' D = some (.lst ((hits (ps.take i) z).map vI))) ⟨same_new hD _, upd_same⟩ (fun i H' _ pp => SqT.of (pp.1 _ _ eq)) (fun i x H' H2 hi pp y => ?_) (fun H' pp => ?_)
    · obtain ⟨s1, eD⟩ := pp
      obtain ⟨rfl, hx⟩ := y
      obtain ⟨dd, ed, ld⟩ := la.get _ hx
      rw [lvs] at hi
      rw [List.getElem?_map, List.getElem?_eq_getElem hi] at ed
      obtain rfl := Option.some.inj ed
      have htk : ps.take (i + 1) = ps.take i ++ [ps[i]] := by
        rw [List.take_add_one, List.getElem?_eq_getElem hi]
        rfl
      generalize ps[i] = p' at ld htk
      obtain ⟨y, n⟩ := p'
      obtain ⟨pa, pvs, rfl, ep', lp⟩ := ld.tup_inv
      obtain ⟨v1, u1, rfl, l1, lp⟩ := lp.cons_inv
      obtain ⟨v0, u0, rfl, l0, lp⟩ := lp.cons_inv
      obtain rfl := lp.nil_inv
      obtain rfl := l1.str_inv
      obtain rfl := l0.int_inv
      have ep2 := s1 _ _ ep'
      refine ⟨rfl, _, rfl, pa, _, _, _, rfl, rfl, SqT.of ep2, atI_nat (j := 0) rfl, _, rfl, p, _, _, _, rfl, rfl, SqT.of (s1 _ _ ep), atI_nat (j := 1) rfl, rfl, _, rfl, ?_⟩
      have hh := hits_snoc (ps.take i) (y, n) z
      rw [← htk] at hh
      by_cases e : y = z
      · rw [if_pos e] at hh
        refine ifY (decide_eq_true (by rw [e])) ⟨_, rfl, pa, _, _, _, rfl, rfl, SqT.of ep2, atI_nat (j := 1) rfl, _, eD, ?_, same_two s1 hD, ?_⟩
        · rw [List.length_map]
          exact small1000 (Nat.le_trans (hits_len _ _) (by rw [List.length_take]; omega))
        · rw [upd_same, hh, List.map_append]
          rfl
      · rw [if_neg e] at hh
        refine ifN (decide_eq_false fun q => e (V.str.inj q)) ⟨s1, ?_⟩
        rw [hh]
        exact eD
    · obtain ⟨s1, eD⟩ := pp
      rw [lvs, List.take_length] at eD
      have lh := look_hits ps z
      have hl := hits_len ps z
      refine ⟨_, rfl, D, _, rfl, .inl (SqL.of eD), _, _, rfl, rfl, _, rfl, ite2 (fun e => ?_) (fun e => ?_)⟩
      · have e : (0 : Int) < (((hits ps z).map vI).length : Nat) := of_decide_eq_true e
        rw [List.length_map] at e
        have hx : (hits ps z)[(hits ps z).length - 1]? = some ((hits ps z)[(hits ps z).length - 1]'(by omega)) := List.getElem?_eq_getElem _
        have gl : look ps z = some ((hits ps z)[(hits ps z).length - 1]'(by omega)) := by rw [lh, List.getLast?_eq_getElem?]; exact hx
        generalize (hits ps z)[(hits ps z).length - 1]'(by omega) = n at hx gl
        have hy : ((hits ps z).map vI)[((hits ps z).map vI).length - 1]? = some (vI n) := by rw [List.length_map, List.getElem?_map, hx]; rfl
        refine ⟨_, rfl, _, rfl, D, _, _, _, rfl, rfl, SqL.of eD, atI_last hy, (by show 2 ≤ sizeLine; decide), fun r hr => ?_⟩
        refine q _ _ (s1.trans (same_new hr _)) ?_
        show Lay _ _ (match look ps z with | some n => Out.val n | none => Out.unk z).D
        rw [gl]
        exact Lay.two upd_same (.str _) (.int _)
      · have e : ¬ (0 : Int) < (((hits ps z).map vI).length : Nat) := fun h => e (decide_eq_true h)
        rw [List.length_map] at e
        have e0 : hits ps z = [] := List.eq_nil_of_length_eq_zero (by omega)
        rw [e0] at lh
        refine ⟨_, rfl, p, _, _, _, rfl, rfl, SqT.of (s1 _ _ ep), atI_nat (j := 1) rfl, (by show 2 ≤ sizeLine; decide), fun r hr => ?_⟩
        refine q _ _ (s1.trans (same_new hr _)) ?_
        show Lay _ _ (match look ps z with | some n => Out.val n | none => Out.unk z).D
        rw [lh]
        exact Lay.two upd_same (.str _) (.str _)
  | op g a b =>
    obtain ⟨p, x, y, rfl, ep, lx, ly⟩ := hv.op
    refine ⟨_, rfl, p, _, _, _, rfl, rfl, SqT.of ep, atI_nat (j := 0) rfl, rfl, _, rfl, ite2 (fun z => absurd (V.str.inj (of_decide_eq_true z)) (gs g hc.1).1) (fun _ => ?_)⟩
    refine ⟨_, rfl, p, _, _, _, rfl, rfl, SqT.of ep, atI_nat (j := 0) rfl, rfl, _, rfl, ite2 (fun z => absurd (V.str.inj (of_decide_eq_true z)) (gs g hc.1).2) (fun _ => ?_)⟩
    obtain ⟨hg, ha, hb⟩ := hc
    have da : a.dep < N := by
      have : max a.dep b.dep + 1 < N + 1 := hN
      omega
    have db : b.dep < N := by
      have : max a.dep b.dep + 1 < N + 1 := hN
      omega
    have ev0 : (Cst.op g a b).ev ps = match a.ev ps with
      | .val x => (match b.ev ps with
        | .val y => outV (opv g x y)
        | o => o)
      | o => o := rfl
    refine ⟨_, rfl, p, _, _, _, rfl, rfl, SqT.of ep, atI_nat (j := 1) rfl, ?_⟩
    refine ⟨_, rfl, x, qv, a, ps, rfl, lx, hq, h20, hps, ha, da, fun r1 H1 s1 l1 => ?_⟩
    have O1 := Out.lay l1
    obtain ⟨p1, t1, y1, rfl, e1, o1⟩ := O1
    refine ⟨_, rfl, p1, _, _, _, rfl, rfl, SqT.of e1, atI_nat (j := 0) rfl, rfl, _, rfl, ?_⟩
    rcases o1 with ⟨m1, h1, rfl, rfl⟩ | ⟨z, h1, rfl, rfl⟩ | ⟨z, h1, rfl, rfl⟩
    rotate_left
    · refine ite2 (fun _ => ⟨_, rfl, ?_⟩) (fun z => absurd rfl z)
      rw [h1] at l1
      exact q _ _ s1 (by rw [ev0, h1]; exact l1)
    · refine ite2 (fun _ => ⟨_, rfl, ?_⟩) (fun z => absurd rfl z)
      rw [h1] at l1
      exact q _ _ s1 (by rw [ev0, h1]; exact l1)
    refine ite2 (fun z => Bool.noConfusion z) (fun _ => ?_)
    refine ⟨_, rfl, p, _, _, _, rfl, rfl, SqT.of (s1 _ _ ep), atI_nat (j := 2) rfl, ?_⟩
    refine ⟨_, rfl, y, qv, b, ps, rfl, ly.keep' (.same s1), hq.keep' (.same s1), h20, hps, hb, db, fun r2 H2 s2 l2 => ?_⟩
    have O2 := Out.lay l2
    obtain ⟨p2, t2, y2, rfl, e2, o2⟩ := O2
    have s12 := s1.trans s2
    have e12 := s2 _ _ e1
    have ep2 := s12 _ _ ep
    have ev1 : (Cst.op g a b).ev ps = match b.ev ps with
        | .val y => outV (opv g m1 y)
        | o => o := by rw [ev0, h1]
    refine ⟨_, rfl, p2, _, _, _, rfl, rfl, SqT.of e2, atI_nat (j := 0) rfl, rfl, _, rfl, ?_⟩
    rcases o2 with ⟨m2, h2, rfl, rfl⟩ | ⟨z, h2, rfl, rfl⟩ | ⟨z, h2, rfl, rfl⟩
    rotate_left
    · refine ite2 (fun _ => ⟨_, rfl, ?_⟩) (fun z => absurd rfl z)
      rw [h2] at l2
      exact q _ _ s12 (by rw [ev1, h2]; exact l2)
    · refine ite2 (fun _ => ⟨_, rfl, ?_⟩) (fun z => absurd rfl z)
      rw [h2] at l2
      exact q _ _ s12 (by rw [ev1, h2]; exact l2)
    refine ite2 (fun z => Bool.noConfusion z) (fun _ => ?_)
    have ev2 : (Cst.op g a b).ev ps = outV (opv g m1 m2) := by rw [ev1, h2]
    have r1 := (ev_ok hps ha).1 _ h1
    refine ⟨_, rfl, p1, _, _, _, rfl, rfl, SqT.of e12, atI_nat (j := 1) rfl, _, rfl, p2, _, _, _, rfl, rfl, SqT.of e2, atI_nat (j := 1) rfl, _, _, rfl, rfl, .inl ⟨by unfold inR at r1; omega, by unfold inR at r1; omega⟩, ?_⟩
    refine ⟨fun σ' H' => H2 = H' ∧ σ' = [some (.ref p), some qv, none, some (.ref p1), some (.ref p2), some (.int (if g = "+" then m1 + m2 else m1 * m2)), none], ?_, ?_⟩
    · refine ⟨_, rfl, p, _, _, _, rfl, rfl, SqT.of ep2, atI_nat (j := 0) rfl, rfl, _, rfl, ite2 (fun z => ?_) (fun z => ?_)⟩
      · have z := V.str.inj (of_decide_eq_true z)
        refine ⟨_, rfl, p1, _, _, _, rfl, rfl, SqT.of e12, atI_nat (j := 1) rfl, _, rfl, p2, _, _, _, rfl, rfl, SqT.of e2, atI_nat (j := 1) rfl, _, _, rfl, rfl, rfl, ?_⟩
        rw [if_pos z]
        rfl
      · have z : g ≠ "+" := fun e => z (decide_eq_true (by rw [e]))
        rw [if_neg z]
        exact ⟨rfl, rfl⟩
    rintro σ' H' ⟨rfl, rfl⟩
    refine ⟨fun σ' H' => H2 = H' ∧ σ' = [some (.ref p), some qv, none, some (.ref p1), some (.ref p2), some (.int (opv g m1 m2)), none], ?_, ?_⟩
    · refine ⟨_, rfl, p, _, _, _, rfl, rfl, SqT.of ep2, atI_nat (j := 0) rfl, rfl, _, rfl, ite2 (fun z => ?_) (fun z => ?_)⟩
      · have z := V.str.inj (of_decide_eq_true z)
        refine ⟨_, rfl, p1, _, _, _, rfl, rfl, SqT.of e12, atI_nat (j := 1) rfl, _, rfl, p2, _, _, _, rfl, rfl, SqT.of e2, atI_nat (j := 1) rfl, _, _, rfl, rfl, rfl, ?_⟩
        rw [z]
        rfl
      · have z : g ≠ "-" := fun e => z (decide_eq_true (by rw [e]))
        refine ⟨rfl, ?_⟩
        unfold opv
        rw [if_neg z]
    rintro σ' H' ⟨rfl, rfl⟩
    generalize opv g m1 m2 = m at ev2
    have no : ¬ inR m → tTup (tCons (tC (.str "BadNumber")) (tCons (tVar 5) tNil)) [some (.ref p), some qv, none, some (.ref p1), some (.ref p2), some (.int m), none] H2 Q := fun h => by
      refine ⟨_, rfl, (by show 2 ≤ sizeLine; decide), fun r hr => ?_⟩
      refine q _ _ (s12.trans (same_new hr _)) ?_
      rw [ev2]
      unfold outV
      rw [if_neg h]
      exact Lay.two upd_same (.str _) (.int _)
    have yes : inR m → tTup (tCons (tC (.str "value")) (tCons (tVar 5) tNil)) [some (.ref p), some qv, none, some (.ref p1), some (.ref p2), some (.int m), none] H2 Q := fun h => by
      refine ⟨_, rfl, (by show 2 ≤ sizeLine; decide), fun r hr => ?_⟩
      refine q _ _ (s12.trans (same_new hr _)) ?_
      rw [ev2]
      unfold outV
      rw [if_pos h]
      exact Lay.two upd_same (.str _) (.int _)
    refine ⟨_, rfl, _, _, rfl, rfl, _, rfl, ite2 (fun z => ⟨_, _, rfl, rfl, _, rfl, ite2 (fun z2 => ?_) (fun z2 => ?_)⟩) (fun z => ⟨_, rfl, iteF ?_⟩)⟩
    · exact yes ⟨of_decide_eq_true z, of_decide_eq_true z2⟩
    · exact no fun h => z2 (decide_eq_true h.2)
    · exact no fun h => z (decide_eq_true h.1)
theorem ok_due (F : Fun K "_law_due" "_law_due" s_law_due f fd) (T : Txt mg)
    (hm : mg "_law_due" = some (.ref f)) (kp : PySem.W.keepIn K (.ref f) = true) (hb : Binds K fd ["_law_const", "_law_numbers"] []) :
    ∀ N : Nat, FnOk P w K mg base CX0 (N + 1) f fd ["_law_const", "_law_numbers"] (spDue N)
  | 0 => by
    refine F.ok sc_law_due (fun vs H Q E h => ?_) (fun cdv A outer s H vs Q E hr h => ?_)
    · obtain ⟨v, q, c, ps, rfl, _⟩ := h
      rfl
    · obtain ⟨v, q, c, ps, rfl, _, _, _, _, _, hn, _⟩ := h
      exact absurd hn (Nat.not_lt_zero _)
  | N + 1 => step_due N F T ⟨f, fd, ok_due F T hm kp hb N, hm, kp, hb⟩
end
end Bf

set_option Elab.async false
set_option linter.all false
set_option maxRecDepth 100000
set_option maxHeartbeats 4000000
namespace Bf
open PySem PySem.Spec PyProof.Rows L2
/-! ### the value asked for -/
structure K11X (K : PySem.W.Frag) (mg : Str → Option Value) (CB CU F DE TW BU CE LE : Addr) : Prop where
  gF : mg "FabricError" = some (.ref F)
  gD : mg "DesignError" = some (.ref DE)
  gT : mg "Twice" = some (.ref TW)
  gU : mg "BadUse" = some (.ref BU)
  gC : mg "CheckError" = some (.ref CE)
  gL : mg "LimitError" = some (.ref LE)
  eBB : PySem.W.exmOne K (.ref CB) (.ref CB) = some true
  eUB : PySem.W.exmOne K (.ref CU) (.ref CB) = some false
  eUU : PySem.W.exmOne K (.ref CU) (.ref CU) = some true
  eBD : PySem.W.exmOne K (.ref CB) (.ref DE) = some true
  eUD : PySem.W.exmOne K (.ref CU) (.ref DE) = some true
  kBU : PySem.W.kitOne K (.ref CB) (.ref CU) = some false
  kT : ∀ C, C = CB ∨ C = CU → PySem.W.kitOne K (.ref C) (.ref TW) = some false
  kU : ∀ C, C = CB ∨ C = CU → PySem.W.kitOne K (.ref C) (.ref BU) = some false
  kC : ∀ C, C = CB ∨ C = CU → PySem.W.kitOne K (.ref C) (.ref CE) = some false
  kL : ∀ C, C = CB ∨ C = CU → PySem.W.kitOne K (.ref C) (.ref LE) = some false
  kF : ∀ C, C = CB ∨ C = CU → PySem.W.kitOne K (.ref C) (.ref F) = some true
  kV : ∀ C, C = CB ∨ C = CU → PySem.W.kitOne K (.ref C) (.type "ValueError") = some true
def spAsked : Sp := fun vs H Q _ => ∃ (v q : V) (c : Cst) (ps : Prs), vs = [v, q] ∧ Lay H v c.D ∧ Lay H q (prsD ps) ∧ ps.length ≤ 20 ∧ PrsOk ps ∧ c.Ok ∧ c.dep < 50 ∧
  ∀ (r : V) (H' : Hp), Same H H' → Lay H' r (c.ev ps).D3 → Q r H'
def tSuB (K : PySem.W.Frag) (CB CU : Addr) : Addr → Value → Option Addr → TS := fun a cls d =>
  tRet (tTup (tCons (tC (.str "BadNumber")) (tCons (tXf a cls d CB "value" (tVar 3)) (tCons (tAndV (tCallS spIsInt (fun _ => E0) (tCons (tXf a cls d CB "value" (tVar 3)) tNil)) (tNotV (tCB (rIsX K a cls d) (tCons (tVar 3) (tCons (tC (.ref CU)) tNil))))) tNil))))
def tSuU (K : PySem.W.Frag) (CU : Addr) : Addr → Value → Option Addr → TS := fun a cls d =>
  tRet (tTup (tCons (tC (.str "Unknown")) (tCons (tXf a cls d CU "name" (tVar 3)) (tCons (tCB (rIsi K) (tCons (tXf a cls d CU "name" (tVar 3)) (tCons (tC (.ty "str")) tNil))) tNil))))
theorem Lay.three {H : Hp} {p : Addr} {a b c : V} {d e g : PyData} (h : H p = some (.tup [a, b, c])) (la : Lay H a d) (lb : Lay H b e) (lc : Lay H c g) : Lay H (.ref p) (.tuple [d, e, g]) := .tup h (.cons la (.cons lb (.cons lc .nil)))
theorem takesN0 {X : Cx} : L2N.Takes X (fun _ _ _ _ => False) := fun _ _ x => by
  obtain ⟨_, _, _, _, _, _, _, _, _, _, _, _, _, _, _, _, z⟩ := x
  exact z.elim
section
variable {P : Program} {w : World} {K : PySem.W.Frag} {mg : Str → Option Value} {base : Heap} {f : Addr} {fd : FuncData}
/-- isinstance(e, C) where the exception's context is None -/
theorem call_isN {X : Cx} {a : Addr} {cls : Value} {d : Option Addr} {oe : Obj} {pn : List (Addr × Obj)} (hz : L2N.Zn cls d oe) (hf : ∃ vs, oe.data = .fields vs) : CallR (X.suite a ((a, oe) :: pn)) (.builtin "isinstance") (rIsX X.K a cls d) := call_isX hz.zc hf
theorem ok_isIntH (F : Fun K "_law_is_int" "_law_is_int" s_law_is_int f fd) (T : Txt mg) : L2H.FnH P w K mg base CX0 1 f fd ["_law_thing"] spIsInt := by
  refine F.okH sc_law_is_int (fun vs H Q E h => ?_) (fun cdv A outer s H vs Q E p hot hr h => ?_)
  · obtain ⟨i, rfl, _⟩ := h
    rfl
  obtain ⟨i, rfl, q⟩ := h
  refine ⟨_, (pss_one (ps_ret (pe_and (pe_callB (call_isi : CallR _ _ (rIsi K)) (by rfl) T.n_isinstance (by decide +kernel) (pa_cons (pv 0) (pa_cons (pe_bltn rfl T.n_int (by decide +kernel) (v := .ty "int") rfl) pa_nil))) (pe_one (pe_not (pe_callB (call_isi : CallR _ _ (rIsi K)) (by rfl) T.n_isinstance (by decide +kernel) (pa_cons (pv 0) (pa_cons (pe_bltn rfl T.n_bool (by decide +kernel) (v := .ty "bool") rfl) pa_nil)))))))), ?_⟩
  refine ⟨_, rfl, _, _, .type "int", .type "int", true, rfl, .ty "int", .base (.int i), kit_ty (by decide +kernel), true, rfl, ?_⟩
  refine iteT ?_
  refine ⟨_, rfl, _, _, .type "int", .type "bool", false, rfl, .ty "bool", .base (.int i), kit_ty (by decide +kernel), false, rfl, ?_⟩
  exact q
theorem ok_asked {CB CU F0 DE TW BU CE LE fB fU : Addr} (F : Fun K "_law_asked" "_law_asked" s_law_asked f fd) (T : Txt mg) (XB : BadX P K mg CB fB) (XU : UnkX P K mg CU fU) (KX : K11X K mg CB CU F0 DE TW BU CE LE)
    (D_const_value : DnN P w K mg base "const_value" ["const", "numbers"] 54 (spConst CB CU 50)) (D_law_is_int : Dn P w K mg base "_law_is_int" ["_law_thing"] 1 spIsInt) (DH : DnH P w K mg base "_law_is_int" ["_law_thing"] 1 spIsInt) :
    FnOk P w K mg base CX0 56 f fd ["_law_const", "_law_numbers"] spAsked := by
  refine F.ok sc_law_asked (fun vs H Q E h => ?_) (fun cdv A outer s H vs Q E hr h => ?_)
  · obtain ⟨v, q, c, ps, rfl, _⟩ := h
    rfl
  obtain ⟨v, qv, c, ps, rfl, hv, hq, h20, hps, hc, hN, q⟩ := h
  refine ⟨_, (pss_cons (ps_try_altsN (i := 3) (tb := fun W => tAsg (tCallS (spConst CB CU 50) (WE W) (tCons (tVar 0) (tCons (tVar 1) tNil))) (gName 2)) (ks := [(.ref CB, tSuB K CB CU), (.ref CU, tSuU K CU)]) (O := fun _ _ _ _ => False) rfl rfl sc_law_asked.nd rfl rfl takesN0 ?tr ?al)
    (pss_one (ps_ret (pe_tup (pa_cons pe_str (pa_cons (pv 2) (pa_cons (pe_dn D_law_is_int (hr.mono (by omega)) (by rfl) (pa_cons (pv 2) pa_nil)) pa_nil))))))), ?_⟩
  case tr => exact fun W pn xe tk _ => pss_one (ps_set (i := 2) sc_law_asked.nd rfl (Or.inl rfl) (pe_dnN D_const_value (hr.mono (by omega)) (by rfl) (fun σ => L2N.passAt tk σ) (pa_cons (pv 0) (pa_cons (pv 1) pa_nil))))
  case al =>
    refine .cons ⟨rfl, by decide, .inl XB.gC⟩ (fun a oe cls d pn hz hf => ?_) (.cons ⟨rfl, by decide, .inl XU.gC⟩ (fun a oe cls d pn hz hf => ?_) .nil)
    · refine pss_one (ps_ret (pe_tup (pa_cons pe_str (pa_cons (pe_xf XB.exT.xf XB.noN hz.zc hf (pv 3)) (pa_cons (pe_and ?_ (pe_one (pe_not ?_))) pa_nil)))))
      · exact pe_dnH DH (room_suite (hr.mono (by decide))) (hot_suite hz hf) (by rfl) (pa_cons (pe_xf XB.exT.xf XB.noN hz.zc hf (pv 3)) pa_nil)
      · exact pe_callB (call_isN hz hf) (by rfl) T.n_isinstance (by decide +kernel) (pa_cons (pv 3) (pa_cons (pe_glob rfl XU.gC (v := .ref CU) rfl) pa_nil))
    · refine pss_one (ps_ret (pe_tup (pa_cons pe_str (pa_cons (pe_xf XU.exT.xf XU.noN hz.zc hf (pv 3)) (pa_cons ?_ pa_nil)))))
      exact pe_callB (call_isi : CallR _ _ (rIsi K)) (by rfl) T.n_isinstance (by decide +kernel) (pa_cons (pe_xf XU.exT.xf XU.noN hz.zc hf (pv 3)) (pa_cons (pe_bltn rfl T.n_str (by decide +kernel) (v := .ty "str") rfl) pa_nil))
  refine ⟨_, rfl, _, rfl, v, qv, c, ps, rfl, hv, hq, h20, hps, hc, hN, fun n hn H1 s1 => ?_, fun z hz d H1 s1 hd => ?_, fun n hn d H1 s1 hd => ?_⟩
  · refine ⟨_, rfl, _, rfl, n, rfl, (by show 3 ≤ sizeLine; decide), fun r hr => ?_⟩
    refine q _ _ (s1.trans (same_new hr _)) ?_
    rw [hn]
    exact Lay.three upd_same (.str _) (.int _) (.bl _)
  · refine ⟨false, KX.eUB, fun y => Bool.noConfusion y, fun _ => ⟨true, KX.eUU, fun _ a ha => ?_, fun y => Bool.noConfusion y⟩⟩
    refine ⟨_, rfl, rfl, rfl, d, _, .str z, rfl, hd, rfl, ?_⟩
    refine ⟨_, rfl, rfl, rfl, d, _, .str z, rfl, hd, rfl, ?_⟩
    refine ⟨_, _, .type "str", .type "str", true, rfl, .ty "str", .base (.str z), kit_ty (by decide +kernel), (by show 3 ≤ sizeLine; decide), fun r hr => ?_⟩
    refine q _ _ (s1.trans (same_new hr _)) ?_
    rw [hz]
    exact Lay.three upd_same (.str _) (.str _) (.bl _)
  · refine ⟨true, KX.eBB, fun _ a ha => ?_, fun y => Bool.noConfusion y⟩
    refine ⟨_, rfl, rfl, rfl, d, _, .int n, rfl, hd, rfl, ?_⟩
    refine ⟨_, rfl, rfl, rfl, d, _, .int n, rfl, hd, rfl, n, rfl, ?_⟩
    refine ⟨true, rfl, iteT ?_⟩
    refine ⟨_, rfl, CB, d, _, rfl, XB.exT, rfl, hd, .inl ⟨CU, false, rfl, KX.kBU, ?_⟩⟩
    refine ⟨false, rfl, (by show 3 ≤ sizeLine; decide), fun r hr => ?_⟩
    refine q _ _ (s1.trans (same_new hr _)) ?_
    rw [hn]
    exact Lay.three upd_same (.str _) (.int _) (.bl _)
/-! ### by the base classes -/
def spByBase : Sp := fun vs H Q _ => ∃ (v q : V) (c : Cst) (ps : Prs), vs = [v, q] ∧ Lay H v c.D ∧ Lay H q (prsD ps) ∧ ps.length ≤ 20 ∧ PrsOk ps ∧ c.Ok ∧ c.dep < 50 ∧ (∀ n, c.ev ps ≠ .val n) ∧
  ∀ (H' : Hp), Same H H' → Q (.bl true) H'
def tSuD (K : PySem.W.Frag) (F TW BU CE LE : Addr) : Addr → Value → Option Addr → TS := fun a cls d =>
  tSeq (tAsg (tOrV (tCB (rIsX K a cls d) (tCons (tVar 2) (tCons (tC (.ref TW)) tNil))) (tOrV (tCB (rIsX K a cls d) (tCons (tVar 2) (tCons (tC (.ref BU)) tNil))) (tCB (rIsX K a cls d) (tCons (tVar 2) (tCons (tC (.ref CE)) tNil))))) (gName 3))
    (tSeq (tAsg (tAndV (tCB (rIsX K a cls d) (tCons (tVar 2) (tCons (tC (.ref F)) tNil))) (tCB (rIsY K a cls d) (tCons (tVar 2) (tCons (tC (.ty "ValueError")) tNil)))) (gName 4))
      (tRet (tAndV (tVar 4) (tAndV (tNotV (tVar 3)) (tNotV (tCB (rIsX K a cls d) (tCons (tVar 2) (tCons (tC (.ref LE)) tNil))))))))
theorem ok_byBase {CB CU F0 DE TW BU CE LE fB fU : Addr} (F : Fun K "_law_by_base" "_law_by_base" s_law_by_base f fd) (T : Txt mg) (XB : BadX P K mg CB fB) (XU : UnkX P K mg CU fU) (KX : K11X K mg CB CU F0 DE TW BU CE LE)
    (D_const_value : DnN P w K mg base "const_value" ["const", "numbers"] 54 (spConst CB CU 50)) : FnOk P w K mg base CX0 56 f fd ["_law_const", "_law_numbers"] spByBase := by
  refine F.ok sc_law_by_base (fun vs H Q E h => ?_) (fun cdv A outer s H vs Q E hr h => ?_)
  · obtain ⟨v, q, c, ps, rfl, _⟩ := h
    rfl
  obtain ⟨v, qv, c, ps, rfl, hv, hq, h20, hps, hc, hN, hev, q⟩ := h
  refine ⟨_, (pss_cons (L2N.ps_try_as (i := 2) (tb := fun W => tDrop (tCallS (spConst CB CU 50) (WE W) (tCons (tVar 0) (tCons (tVar 1) tNil)))) (ts := tSuD K F0 TW BU CE LE) (Wout := fun _ _ _ _ => False) rfl rfl sc_law_by_base.nd rfl rfl ⟨rfl, by decide, .inl KX.gD⟩ takesN0 ?tr ?su)
    (pss_one (ps_ret pe_bl))), ?_⟩
  case tr => exact fun W pn xe tk _ => pss_one (ps_expr (pe_dnN D_const_value (hr.mono (by omega)) (by rfl) (fun σ => L2N.passAt tk σ) (pa_cons (pv 0) (pa_cons (pv 1) pa_nil))))
  case su =>
    intro a oe cls d pn hz hf
    refine pss_cons (ps_set (i := 3) sc_law_by_base.nd rfl (Or.inl rfl) (pe_or ?_ (pe_or ?_ (pe_one ?_)))) (pss_cons (ps_set (i := 4) sc_law_by_base.nd rfl (Or.inl rfl) (pe_and ?_ (pe_one ?_))) (pss_one (ps_ret (pe_and (pv 4) (pe_and (pe_not (pv 3)) (pe_one (pe_not ?_)))))))
    · exact pe_callB (call_isN hz hf) (by rfl) T.n_isinstance (by decide +kernel) (pa_cons (pv 2) (pa_cons (pe_glob rfl KX.gT (v := .ref TW) rfl) pa_nil))
    · exact pe_callB (call_isN hz hf) (by rfl) T.n_isinstance (by decide +kernel) (pa_cons (pv 2) (pa_cons (pe_glob rfl KX.gU (v := .ref BU) rfl) pa_nil))
    · exact pe_callB (call_isN hz hf) (by rfl) T.n_isinstance (by decide +kernel) (pa_cons (pv 2) (pa_cons (pe_glob rfl KX.gC (v := .ref CE) rfl) pa_nil))
    · exact pe_callB (call_isN hz hf) (by rfl) T.n_isinstance (by decide +kernel) (pa_cons (pv 2) (pa_cons (pe_glob rfl KX.gF (v := .ref F0) rfl) pa_nil))
    · exact pe_callB (call_isY hz.zc hf) (by rfl) T.n_isinstance (by decide +kernel) (pa_cons (pv 2) (pa_cons (pe_bltn rfl T.n_ValueError (by decide +kernel) (v := .ty "ValueError") rfl) pa_nil))
    · exact pe_callB (call_isN hz hf) (by rfl) T.n_isinstance (by decide +kernel) (pa_cons (pv 2) (pa_cons (pe_glob rfl KX.gL (v := .ref LE) rfl) pa_nil))
  have suite : ∀ (C a d : Addr) (fs : List (Str × V)) (H1 : Hp), C = CB ∨ C = CU → ExcT K C → Same H H1 → H1 d = some (.xd fs) → ∀ D : Ends, D.rt = Q → tSuD K F0 TW BU CE LE a (.ref C) (some d) D [some v, some qv, some (.ref a), none, none] H1 := fun C a d fs H1 hC hX s1 hd D hD => by
    refine ⟨_, rfl, C, d, fs, rfl, hX, rfl, hd, .inl ⟨TW, false, rfl, KX.kT C hC, false, rfl, iteF ?_⟩⟩
    refine ⟨_, rfl, C, d, fs, rfl, hX, rfl, hd, .inl ⟨BU, false, rfl, KX.kU C hC, false, rfl, iteF ?_⟩⟩
    refine ⟨_, rfl, C, d, fs, rfl, hX, rfl, hd, .inl ⟨CE, false, rfl, KX.kC C hC, ?_⟩⟩
    refine ⟨_, rfl, C, d, fs, rfl, hX, rfl, hd, .inl ⟨F0, true, rfl, KX.kF C hC, true, rfl, iteT ?_⟩⟩
    refine ⟨_, rfl, C, d, fs, "ValueError", true, rfl, hX, rfl, hd, rfl, KX.kV C hC, ?_⟩
    refine ⟨_, rfl, true, rfl, iteT ?_⟩
    refine ⟨_, rfl, false, rfl, true, rfl, iteT ?_⟩
    refine ⟨_, rfl, C, d, fs, rfl, hX, rfl, hd, .inl ⟨LE, false, rfl, KX.kL C hC, false, rfl, ?_⟩⟩
    rw [hD]
    exact q H1 s1
  refine ⟨_, rfl, _, rfl, v, qv, c, ps, rfl, hv, hq, h20, hps, hc, hN, fun n hn H1 s1 => absurd hn (hev n), fun z hz d H1 s1 hd => ?_, fun n hn d H1 s1 hd => ?_⟩
  · exact ⟨true, KX.eUD, fun _ a ha => suite CU a d _ H1 (.inr rfl) XU.exT s1 hd _ rfl, fun y => Bool.noConfusion y⟩
  · exact ⟨true, KX.eBD, fun _ a ha => suite CB a d _ H1 (.inl rfl) XB.exT s1 hd _ rfl, fun y => Bool.noConfusion y⟩
end
end Bf

set_option Elab.async false
set_option linter.all false
set_option maxRecDepth 100000
set_option maxHeartbeats 4000000
namespace Bf
open PySem PySem.Spec PyProof.Rows L2
/-! ### due and asked agree -/
def spAgrees : Sp := fun vs H Q _ => ∃ (v q : V) (c : Cst) (ps : Prs), vs = [v, q] ∧ Lay H v c.D ∧ Lay H q (prsD ps) ∧ ps.length ≤ 20 ∧ PrsOk ps ∧ c.Ok ∧ c.dep < 50 ∧
  ∀ (H' : Hp), Same H H' → Q (.bl true) H'
theorem D3_of {o : Out} {tg : Str} {y : V} {dy : PyData} (H : Hp) (hy : Lay H y dy) (h : (∃ n, o = .val n ∧ tg = "value" ∧ y = .int n) ∨ (∃ z, o = .unk z ∧ tg = "Unknown" ∧ y = .str z) ∨ (∃ n, o = .bad n ∧ tg = "BadNumber" ∧ y = .int n)) : o.D3 = .tuple [.str tg, dy, .bool true] := by
  rcases h with ⟨n, rfl, rfl, rfl⟩ | ⟨n, rfl, rfl, rfl⟩ | ⟨n, rfl, rfl, rfl⟩ <;> cases hy <;> rfl
theorem Sh.str1 {k : Nat} {z : Str} (h : PyData.strOk z = true) : Sh k (.str z) := ⟨by simpa only [PyData.canLay0] using h, by simp only [PyData.depth]; omega⟩
theorem D3_sh (o : Out) (ho : ∀ z, o = .unk z → zOk z) : Sh 2 o.D3 := by
  have s : ∀ a b c : PyData, Sh 1 a → Sh 1 b → Sh 1 c → Sh 2 (.tuple [a, b, c]) := fun a b c ha hb hc => Sh.tup fun d hd => by
    simp only [List.mem_cons, List.not_mem_nil, or_false] at hd
    rcases hd with rfl | rfl | rfl
    · exact ha
    · exact hb
    · exact hc
  have sb : Sh 1 (.bool true) := ⟨by simp only [PyData.canLay0], by simp only [PyData.depth]; omega⟩
  cases o with
  | val n => exact s _ _ _ (Sh.str1 (by decide +kernel)) (Sh.int _ _) sb
  | unk z => exact s _ _ _ (Sh.str1 (by decide +kernel)) (Sh.str1 (ho z rfl).2) sb
  | bad n => exact s _ _ _ (Sh.str1 (by decide +kernel)) (Sh.int _ _) sb
section
variable {P : Program} {w : World} {K : PySem.W.Frag} {mg : Str → Option Value} {base : Heap} {f : Addr} {fd : FuncData}
theorem ok_agrees (F : Fun K "_law_agrees" "_law_agrees" s_law_agrees f fd) (T : Txt mg) (D_law_due : Dn P w K mg base "_law_due" ["_law_const", "_law_numbers"] 51 (spDue 50)) (D_law_asked : Dn P w K mg base "_law_asked" ["_law_const", "_law_numbers"] 56 spAsked)
    (D_law_by_base : Dn P w K mg base "_law_by_base" ["_law_const", "_law_numbers"] 56 spByBase) : FnOk P w K mg base CX0 58 f fd ["_law_const", "_law_numbers"] spAgrees := by
  refine F.ok sc_law_agrees (fun vs H Q E h => ?_) (fun cdv A outer s H vs Q E hr h => ?_)
  · obtain ⟨v, q, c, ps, rfl, _⟩ := h
    rfl
  obtain ⟨v, qv, c, ps, rfl, hv, hq, h20, hps, hc, hN, q⟩ := h
  refine ⟨_, (pss_cons (ps_set (i := 2) sc_law_agrees.nd rfl (Or.inl rfl) (pe_dn D_law_due (hr.mono (by omega)) (by rfl) (pa_cons (pv 0) (pa_cons (pv 1) pa_nil))))
      (pss_cons (ps_if (pt_cmpR (op_neD hr.units) (pe_dn D_law_asked (hr.mono (by omega)) (by rfl) (pa_cons (pv 0) (pa_cons (pv 1) pa_nil))) (pe_tup (pa_cons (pe_ix ix_tup (pv 2) pe_int (fun _ _ => rfl)) (pa_cons (pe_ix ix_tup (pv 2) pe_int (fun _ _ => rfl)) (pa_cons pe_bl pa_nil)))) (nomark _)) (pss_one (ps_ret pe_bl)) pss_nil)
      (pss_one (ps_ret (pe_or (pe_cmpR op_eq (pe_ix ix_tup (pv 2) pe_int (fun _ _ => rfl)) pe_str (nomark _)) (pe_one (pe_dn D_law_by_base (hr.mono (by omega)) (by rfl) (pa_cons (pv 0) (pa_cons (pv 1) pa_nil))))))))), ?_⟩
  refine ⟨_, rfl, _, rfl, v, qv, c, ps, rfl, hv, hq, h20, hps, hc, hN, fun r H1 s1 l1 => ?_⟩
  refine ⟨_, rfl, _, rfl, v, qv, c, ps, rfl, hv.keep' (.same s1), hq.keep' (.same s1), h20, hps, hc, hN, fun r2 H2 s2 l2 => ?_⟩
  have O1 := Out.lay l1
  obtain ⟨p1, t1, y1, rfl, e1, o1⟩ := O1
  have s12 := s1.trans s2
  have e12 := s2 _ _ e1
  refine ⟨_, rfl, p1, _, _, _, rfl, rfl, SqT.of e12, atI_nat (j := 0) rfl, _, rfl, p1, _, _, _, rfl, rfl, SqT.of e12, atI_nat (j := 1) rfl, (by show 3 ≤ sizeLine; decide), fun p2 hp2 => ?_⟩
  have hz : ∀ z, c.ev ps = .unk z → zOk z := fun z e => ((ev_ok hps hc).2.1 z e).1
  obtain ⟨dy, hy⟩ : ∃ dy, Lay H2 y1 dy := by
    rcases o1 with ⟨n, _, _, rfl⟩ | ⟨n, _, _, rfl⟩ | ⟨n, _, _, rfl⟩
    · exact ⟨_, .int n⟩
    · exact ⟨_, .str n⟩
    · exact ⟨_, .int n⟩
  have eD := D3_of H2 hy o1
  have sn := same_new hp2 (.tup [.str t1, y1, .bl true])
  have l3 : Lay (upd H2 p2 (.tup [.str t1, y1, .bl true])) (.ref p2) (c.ev ps).D3 := by
    rw [eD]
    exact Lay.three upd_same (.str _) (hy.keep' (.same sn)) (.bl _)
  have s3 := s12.trans sn
  have sh := D3_sh (c.ev ps) hz
  refine ⟨_, _, (l2.keep' (.same sn)).dp', l3.dp', sh.shaped (by decide), sh.shaped (by decide), ?_⟩
  rw [eqv_self _ sh.1]
  refine ⟨_, rfl, iteF ?_⟩
  refine ⟨_, rfl, p1, _, _, _, rfl, rfl, SqT.of (sn _ _ e12), atI_nat (j := 0) rfl, rfl, _, rfl, ?_⟩
  rcases o1 with ⟨n, en, rfl, rfl⟩ | ⟨z, en, rfl, rfl⟩ | ⟨n, en, rfl, rfl⟩
  · exact iteT (q _ s3)
  · exact iteF ⟨_, rfl, _, rfl, v, qv, c, ps, rfl, hv.keep' (.same s3), hq.keep' (.same s3), h20, hps, hc, hN, fun n h => (by rw [en] at h; cases h), fun H4 s4 => q _ (s3.trans s4)⟩
  · exact iteF ⟨_, rfl, _, rfl, v, qv, c, ps, rfl, hv.keep' (.same s3), hq.keep' (.same s3), h20, hps, hc, hN, fun n h => (by rw [en] at h; cases h), fun H4 s4 => q _ (s3.trans s4)⟩
end
end Bf

set_option Elab.async false
set_option linter.all false
set_option maxRecDepth 100000
set_option maxHeartbeats 4000000
namespace Bf
open PySem PySem.Spec PyProof.Rows L2
/-! ### drawn consts -/
structure NS (H : Hp) (d c na : Addr) (ns : List Str) : Prop where
  ds : DS H d c
  hn : H na = some (.lst (ns.map V.str))
  ok : ∀ z ∈ ns, zOk z
  l1 : 1 ≤ ns.length
  l2 : ns.length ≤ 10
  nd : na ≠ d
theorem NS.draw {H H' : Hp} {d c na : Addr} {ns : List Str} (h : NS H d c na ns) (ds : DS H' d c) (k : Keep [d] H H') : NS H' d c na ns := ⟨ds, k _ _ (by simp [h.nd]) h.hn, h.ok, h.l1, h.l2, h.nd⟩
theorem strAt {ns : List Str} {k : Nat} {y : V} (h : (ns.map V.str)[k]? = some y) : ∃ z, z ∈ ns ∧ y = .str z := by
  rw [List.getElem?_map] at h
  cases e : ns[k]? with
  | none => rw [e] at h; cases h
  | some z =>
    rw [e] at h
    cases h
    exact ⟨z, List.mem_of_getElem? e, rfl⟩
def spAtom : Sp := fun vs H Q _ => ∃ (d c na : Addr) (ns : List Str) (b : Bool), vs = [.ref d, .ref na, .bl b] ∧ NS H d c na ns ∧
  ∀ (r : V) (a : Cst) (H' : Hp), NS H' d c na ns → Keep [d] H H' → Lay H' r a.D → a.Ok → a.dep = 0 → Q r H'
section
variable {P : Program} {w : World} {K : PySem.W.Frag} {mg : Str → Option Value} {base : Heap} {f : Addr} {fd : FuncData}
theorem ok_atom (F : Fun K "_law_atom" "_law_atom" s_law_atom f fd) (T : Txt mg) (D_law_draw : Dn P w K mg base "_law_draw" ["_law_d", "_law_many"] 1 spDraw) (D_law_pick : Dn P w K mg base "_law_pick" ["_law_d", "_law_row"] 2 (spPick K)) :
    FnOk P w K mg base CX0 3 f fd ["_law_d", "_law_names", "_law_is_small"] spAtom := by
  refine F.ok sc_law_atom (fun vs H Q E h => ?_) (fun cdv A outer s H vs Q E hr h => ?_)
  · obtain ⟨d, c, na, ns, b, rfl, _⟩ := h
    rfl
  obtain ⟨d, c, na, ns, b, rfl, N0, q⟩ := h
  refine ⟨_, (pss_cons (ps_set (i := 3) sc_law_atom.nd rfl (Or.inl rfl) (pe_dn D_law_draw (hr.mono (by omega)) (by rfl) (pa_cons (pv 0) (pa_cons pe_int pa_nil))))
      (pss_cons (ps_if (pt_cmpR op_lt (pv 3) pe_int (nomark _)) (pss_one (ps_ret (pe_tup (pa_cons pe_str (pa_cons (pe_dn D_law_pick (hr.mono (by omega)) (by rfl) (pa_cons (pv 0) (pa_cons (pv 1) pa_nil))) pa_nil))))) pss_nil)
      (pss_cons (ps_if (pt_cmpR op_eq (pv 3) pe_int (nomark _)) (pss_one (ps_ret (pe_tup (pa_cons pe_str (pa_cons (pe_dn D_law_pick (hr.mono (by omega)) (by rfl) (pa_cons (pv 0) (pa_cons (pe_lst (pa_cons pe_int (pa_cons pe_int (pa_cons pe_int (pa_cons pe_int (pa_cons pe_int (pa_cons pe_int (pa_cons pe_int (pa_cons pe_int pa_nil))))))))) pa_nil))) pa_nil))))) pss_nil)
      (pss_one (ps_ret (pe_tup (pa_cons pe_str (pa_cons (pe_dn D_law_draw (hr.mono (by omega)) (by rfl) (pa_cons (pv 0) (pa_cons (pe_ifExp (pt_val (pv 2)) pe_int pe_int) pa_nil))) pa_nil)))))))), ?_⟩
  refine ⟨_, rfl, d, c, 9, rfl, N0.ds, by decide, by decide, fun t H1 r0 r1 hd1 k1 => ?_⟩
  have N1 := N0.draw hd1 k1
  refine ⟨_, rfl, _, _, rfl, rfl, _, rfl, ite2 (fun _ => ?_) (fun _ => ?_)⟩
  · refine ⟨_, rfl, _, rfl, d, c, na, _, rfl, hd1, N0.nd, SqL.of N1.hn, by rw [List.length_map]; exact N1.l1, by rw [List.length_map]; exact Nat.le_trans N1.l2 (by decide), fun k y H2 hy hd2 k2 => ?_⟩
    obtain ⟨z, hz, rfl⟩ := strAt hy
    refine ⟨(by show 2 ≤ sizeLine; decide), fun r hr => ?_⟩
    have sn := same_new hr (.tup [.str "param", .str z])
    have N2 := N1.draw hd2 k2
    exact q _ (.par z) _ (N2.draw (hd2.same sn) (.of_same sn)) ((k1.trans k2).trans (.of_same sn)) (Lay.two upd_same (.str _) (.str _)) (N0.ok z hz) rfl
  · refine ⟨_, rfl, rfl, _, rfl, ite2 (fun _ => ?_) (fun _ => ?_)⟩
    · refine ⟨_, rfl, by show 8 ≤ sizeLine; decide, fun l hl => ?_⟩
      have sl := same_new hl (.lst [V.int 0, V.int 255, V.int 1, V.int 254, V.int 128, V.int 16, V.int 15, V.int 2])
      have N2 := N1.draw (hd1.same sl) (.of_same sl)
      refine ⟨d, c, l, _, rfl, N2.ds, (hd1.new hl).1, SqL.of upd_same, by decide, by decide, fun k y H2 hy hd2 k2 => ?_⟩
      obtain ⟨m, hm0, rfl⟩ := natAt (show (([0, 255, 1, 254, 128, 16, 15, 2] : List Nat).map vI)[k]? = some y from hy)
      have hm : m ≤ 255 := (show ∀ m ∈ ([0, 255, 1, 254, 128, 16, 15, 2] : List Nat), m ≤ 255 by decide) m (List.mem_of_getElem? hm0)
      refine ⟨(by show 2 ≤ sizeLine; decide), fun r hr => ?_⟩
      have sn := same_new hr (.tup [.str "int", vI m])
      have N3 := N2.draw hd2 k2
      exact q _ (.num m) _ (N3.draw (hd2.same sn) (.of_same sn)) (((k1.trans (.of_same sl)).trans k2).trans (.of_same sn)) (Lay.two upd_same (.str _) (.int _)) hm rfl
    · have fin : ∀ n : Int, 1 ≤ n → n ≤ 256 → spDraw [.ref d, .int n] H1 (fun x H' => (2 ≤ sizeLine) ∧ ∀ p, H' p = none → Q (.ref p) (upd H' p (.tup [.str "int", x]))) E0 := fun n n1 n2 => by
        refine ⟨d, c, n, rfl, hd1, by omega, by omega, fun m H2 m0 m1 hd2 k2 => ⟨by decide, fun p hp => ?_⟩⟩
        obtain ⟨m, rfl⟩ := Int.eq_ofNat_of_zero_le m0
        have sn := same_new hp (.tup [.str "int", vI m])
        have N3 := N1.draw hd2 k2
        exact q _ (.num m) _ (N3.draw (hd2.same sn) (.of_same sn)) ((k1.trans k2).trans (.of_same sn)) (Lay.two upd_same (.str _) (.int _)) (show m ≤ 255 by omega) rfl
      refine ⟨_, rfl, _, rfl, b, rfl, ite2 (fun _ => ?_) (fun _ => ?_)⟩
      · exact fin 8 (by decide) (by decide)
      · exact fin 256 (by decide) (by decide)
end
end Bf

set_option Elab.async false
set_option linter.all false
set_option maxRecDepth 100000
set_option maxHeartbeats 4000000
namespace Bf
open PySem PySem.Spec PyProof.Rows L2
def spShape : Sp := fun vs H Q _ => ∃ (d c l : Addr) (cs : List Cst), vs = [.ref d, .ref l] ∧ DS H d c ∧ Acc l Cst.D cs H ∧ l ≠ d ∧ (∀ a ∈ cs, a.Ok ∧ a.dep = 0) ∧ 1 ≤ cs.length ∧ cs.length ≤ 13 ∧
  ∀ (r : V) (a : Cst) (H' : Hp), DS H' d c → Keep [d] H H' → Lay H' r a.D → a.Ok → a.dep < 50 → Q r H'
/-- a sign -/
theorem signAt {k : Nat} {y : V} (h : [V.str "+", V.str "*", V.str "-", V.str "+"][k]? = some y) : ∃ g : Str, (g = "+" ∨ g = "-" ∨ g = "*") ∧ y = .str g := by
  have hm := List.mem_of_getElem? h
  simp only [List.mem_cons, List.not_mem_nil, or_false] at hm
  rcases hm with rfl | rfl | rfl | rfl
  · exact ⟨_, .inl rfl, rfl⟩
  · exact ⟨_, .inr (.inr rfl), rfl⟩
  · exact ⟨_, .inr (.inl rfl), rfl⟩
  · exact ⟨_, .inl rfl, rfl⟩
theorem LayAll.erase {H : Hp} : ∀ {vs : List V} {ds : List PyData} (k : Nat), LayAll H vs ds → LayAll H (vs.eraseIdx k) (ds.eraseIdx k)
  | _, _, _, .nil => .nil
  | _, _, 0, .cons _ b => b
  | _, _, k + 1, .cons a b => .cons a (b.erase k)
theorem LayAll.put {H : Hp} {v : V} {d : PyData} (l : Lay H v d) : ∀ {vs : List V} {ds : List PyData} (k : Nat), LayAll H vs ds → LayAll H (vs.set k v) (ds.set k d)
  | _, _, _, .nil => .nil
  | _, _, 0, .cons _ b => .cons l b
  | _, _, k + 1, .cons a b => .cons a (LayAll.put l k b)
theorem ixN_nat {n i : Nat} (h : i < n) : ixN n (i : Int) = some i := by
  have : atI (List.range n) (i : Int) = some i := atI_nat (by rw [List.getElem?_range h])
  unfold atI at this
  cases e : ixN n (i : Int) with
  | none => rw [List.length_range, e] at this; cases this
  | some j =>
    rw [List.length_range, e] at this
    have q : (List.range n)[j]? = some i := this
    have hj : j < n := by
      have := (List.getElem?_eq_some_iff.mp q).1
      simpa using this
    rw [List.getElem?_range hj] at q
    rw [Option.some.inj q]
theorem mapErase {α β : Type} (f : α → β) : ∀ (l : List α) (i : Nat), (l.map f).eraseIdx i = (l.eraseIdx i).map f
  | [], _ => rfl
  | _ :: _, 0 => rfl
  | x :: l, i + 1 => congrArg (f x :: ·) (mapErase f l i)
theorem Keep.later {S : List Addr} {H H1 : Hp} {L : Addr} {o : HO} (k : Keep S H H1) (h : H L = none) : Keep S H (L2.upd H1 L o) := fun b u n e => by
  rw [upd_ne (ne_of_none e h)]
  exact k b u n e
section
variable {P : Program} {w : World} {K : PySem.W.Frag} {mg : Str → Option Value} {base : Heap} {f : Addr} {fd : FuncData}
theorem ok_shape (F : Fun K "_law_shape" "_law_shape" s_law_shape f fd) (T : Txt mg) (D_law_draw : Dn P w K mg base "_law_draw" ["_law_d", "_law_many"] 1 spDraw) (D_law_pick : Dn P w K mg base "_law_pick" ["_law_d", "_law_row"] 2 (spPick K)) :
    FnOk P w K mg base CX0 3 f fd ["_law_d", "_law_atoms"] spShape := by
  refine F.ok sc_law_shape (fun vs H Q E h => ?_) (fun cdv A outer s H vs Q E hr h => ?_)
  · obtain ⟨d, c, l, cs, rfl, _⟩ := h
    rfl
  obtain ⟨d, c, l, cs, rfl, hd, hA, nld, hcs, h1, h13, q⟩ := h
  refine ⟨_, (pss_cons (ps_set (i := 2) sc_law_shape.nd rfl (Or.inl rfl) (pe_callTy call_list_of (by rfl) T.n_list (by decide +kernel) (pa_cons (pv 1) pa_nil)))
      (pss_cons (ps_for PassesOwn.never rfl (pi_range1 rfl T.n_range (pa_cons (pe_op op_sub (pe_callB call_len_seq (by rfl) T.n_len (by decide +kernel) (pa_cons (pv 1) pa_nil)) pe_int) pa_nil)) (pg_name (i := 3) sc_law_shape.nd rfl (Or.inl rfl)) (pss_cons (ps_set (i := 4) sc_law_shape.nd rfl (Or.inl rfl) (pe_dn D_law_draw (hr.mono (by omega)) (by rfl) (pa_cons (pv 0) (pa_cons (pe_op op_sub (pe_callB call_len_seq (by rfl) T.n_len (by decide +kernel) (pa_cons (pv 2) pa_nil)) pe_int) pa_nil))))
      (pss_cons (ps_set (i := 5) sc_law_shape.nd rfl (Or.inl rfl) (pe_dn D_law_pick (hr.mono (by omega)) (by rfl) (pa_cons (pv 0) (pa_cons (pe_lst (pa_cons pe_str (pa_cons pe_str (pa_cons pe_str (pa_cons pe_str pa_nil))))) pa_nil))))
      (pss_cons (ps_set (i := 6) sc_law_shape.nd rfl (Or.inl rfl) (pe_bm PySem.F.plainAttrs_list PySem.F.slot_list_pop PySem.F.type_list_pop mt_popAt (pv 2) (pa_cons (pe_op op_add (pv 4) pe_int) pa_nil)))
      (pss_one (ps_asg (pe_tup (pa_cons (pv 5) (pa_cons (pe_ix ix_list (pv 2) (pv 4) (fun _ _ => rfl)) (pa_cons (pv 6) pa_nil)))) (pg_sub (pv 2) (pv 4) set_list)))))))
      (pss_one (ps_ret (pe_ix ix_list (pv 2) pe_int (fun _ _ => rfl)))))), ?_⟩
  obtain ⟨vs, ev, lv⟩ := hA
  have vl : vs.length = cs.length := by rw [lv.len, List.length_map]
  refine ⟨_, rfl, l, vs, rfl, .inl (SqL.of ev), fun L hL => ?_⟩
  have sL := same_new hL (.lst vs)
  have nLd : L ≠ d := (hd.new hL).1
  have nlL : l ≠ L := ne_of_none ev hL
  refine ⟨_, rfl, l, vs, rfl, .inl (SqL.of (sL _ _ ev)), _, _, rfl, rfl, ((vs.length : Int) - 1), rfl, (by omega), (by omega), for_it walk_range (fun i σ' H' => ∃ (v3 v4 v5 v6 : Option V) (us : List V) (as : List Cst), σ' = [some (.ref d), some (.ref l), some (.ref L), v3, v4, v5, v6] ∧ DS H' d c ∧ Keep [d] H H' ∧ H' L = some (.lst us) ∧ LayAll H' us (as.map Cst.D) ∧ (∀ a ∈ as, a.Ok ∧ a.dep ≤ i) ∧ as.length + i = cs.length)
    ⟨_, _, _, _, vs, cs, rfl, hd.same sL, .of_same sL, upd_same, lv.keep' (.same sL), fun a ha => ⟨(hcs a ha).1, by rw [(hcs a ha).2]; omega⟩, rfl⟩ (fun i σ' H' _ pp => trivial) (fun i x σ' H' H2 hi pp y => ?_) (fun σ' H' pp => ?_)⟩
  · obtain ⟨v3, v4, v5, v6, us, as, rfl, hd1, k1, eL, lu, hok, hlen⟩ := pp
    obtain ⟨rfl, rfl⟩ := y
    have hi : i < vs.length - 1 := by omega
    have ul : us.length = as.length := by rw [lu.len, List.length_map]
    refine ⟨_, rfl, _, rfl, L, us, rfl, .inl (SqL.of eL), _, _, rfl, rfl, d, c, _, rfl, hd1, by omega, by omega, fun at_ H3 a0 a1 hd3 k3 => ?_⟩
    obtain ⟨x, rfl⟩ := Int.eq_ofNat_of_zero_le a0
    refine ⟨_, rfl, by show 4 ≤ sizeLine; decide, fun G hG => ?_⟩
    have sG := same_new hG (.lst [.str "+", .str "*", .str "-", .str "+"])
    refine ⟨d, c, G, _, rfl, hd3.same sG, (hd3.new hG).1, SqL.of upd_same, by decide, by decide, fun gk y H4 hy hd4 k4 => ?_⟩
    obtain ⟨g, hg, rfl⟩ := signAt hy
    have k24 : Keep [d] H2 H4 := (k3.trans (.of_same sG)).trans k4
    have kt4 := k24.tup1 hd1
    have eL4 := k24 _ _ (by simp [nLd]) eL
    have lu4 := lu.keep' kt4
    clear hG sG
    have hx : x + 1 < us.length := by omega
    refine ⟨_, rfl, .inl ⟨rfl, _, SqL.of eL4⟩, _, rfl, _, _, rfl, rfl, L, us, ((x : Int) + 1), x + 1, us[x + 1], rfl, rfl, eL4, by omega, by omega, seqIndex_of (by omega) (by omega), List.getElem?_eq_getElem hx, ?_⟩
    have eL5 := upd_same (H := H4) (a := L) (o := .lst (us.eraseIdx (x + 1)))
    have hd5 : DS (upd H4 L (.lst (us.eraseIdx (x + 1)))) d c := hd4.keep (S := [L]) Keep.at1 (by simp [nLd.symm]) (by simp [(hd.new hL).2.symm])
    have k5 : Keep [d] H (upd H4 L (.lst (us.eraseIdx (x + 1)))) := (k1.trans k24).later hL
    have lu5 := (lu4.erase (x + 1)).keep' (KeepT.lst (o := .lst (us.eraseIdx (x + 1))) eL4)
    have ex : (us.eraseIdx (x + 1))[x]? = some us[x] := by
      rw [List.getElem?_eraseIdx_of_lt (by omega)]
      exact List.getElem?_eq_getElem _
    obtain ⟨b, hb, lb⟩ := lu4.get _ (List.getElem?_eq_getElem hx)
    obtain ⟨a, ha, la⟩ := lu4.get _ (List.getElem?_eq_getElem (show x < us.length by omega))
    rw [List.getElem?_map] at ha hb
    obtain ⟨a, ha1, rfl⟩ := Option.map_eq_some_iff.mp ha
    obtain ⟨b, hb1, rfl⟩ := Option.map_eq_some_iff.mp hb
    generalize hH5 : upd H4 L (.lst (us.eraseIdx (x + 1))) = H5 at eL5 hd5 k5 lu5 ⊢
    have kt45 : KeepT H4 H5 := by rw [← hH5]; exact KeepT.lst eL4
    refine ⟨_, rfl, _, rfl, _, rfl, L, _, _, _, rfl, rfl, SqL.of eL5, atI_nat (j := x) ex, _, rfl, (by show 3 ≤ sizeLine; decide), fun p hp => ?_⟩
    have sp := same_new hp (.tup [.str g, us[x], us[x + 1]])
    refine ⟨_, rfl, _, rfl, L, _, (x : Int), x, rfl, rfl, sp _ _ eL5, ?_, ?_⟩
    · refine ixN_nat ?_
      rw [List.length_eraseIdx, if_pos hx]
      omega
    have lp : Lay (upd H5 p (.tup [.str g, us[x], us[x + 1]])) (.ref p) (Cst.op g a b).D := Lay.three upd_same (.str _) ((la.keep' kt45).keep' (.same sp)) ((lb.keep' kt45).keep' (.same sp))
    have kt6 := KeepT.lst (o := .lst ((us.eraseIdx (x + 1)).set x (.ref p))) (sp _ _ eL5)
    have lu6 := LayAll.put (lp.keep' kt6) x ((lu5.keep' (.same sp)).keep' kt6)
    rw [mapErase, ← List.map_set] at lu6
    have ma : a ∈ as := List.mem_of_getElem? ha1
    have mb : b ∈ as := List.mem_of_getElem? hb1
    refine ⟨_, _, _, _, _, _, rfl, (hd5.same sp).keep (S := [L]) Keep.at1 (by simp [nLd.symm]) (by simp [(hd.new hL).2.symm]), (k5.trans (.of_same sp)).later hL, upd_same, lu6, fun z hz => ?_, ?_⟩
    · rcases List.mem_or_eq_of_mem_set hz with hz | rfl
      · have := hok z (List.mem_of_mem_eraseIdx hz)
        exact ⟨this.1, by omega⟩
      · have h1 := hok a ma
        have h2 := hok b mb
        refine ⟨⟨hg, h1.1, h2.1⟩, ?_⟩
        show max a.dep b.dep + 1 ≤ i + 1
        omega
    · rw [List.length_set, List.length_eraseIdx, if_pos (by omega)]
      omega
  · obtain ⟨v3, v4, v5, v6, us, as, rfl, hd1, k1, eL, lu, hok, hlen⟩ := pp
    have hl1 : as.length = 1 := by omega
    obtain ⟨a, rfl⟩ : ∃ a, as = [a] := by
      match as, hl1 with
      | [a], _ => exact ⟨a, rfl⟩
    obtain ⟨r, u2, rfl, lr, lu⟩ := lu.cons_inv
    refine ⟨_, rfl, L, _, _, _, rfl, rfl, SqL.of eL, atI_nat (j := 0) rfl, ?_⟩
    have := (hok a (by simp)).2
    exact q r a H' hd1 k1 lr (hok a (by simp)).1 (by omega)
end
end Bf

set_option Elab.async false
set_option linter.all false
set_option maxRecDepth 100000
set_option maxHeartbeats 4000000
namespace Bf
open PySem PySem.Spec PyProof.Rows L2
def spDrawn : Sp := fun vs H Q _ => ∃ (d c na : Addr) (ns : List Str), vs = [.ref d, .ref na] ∧ NS H d c na ns ∧
  ∀ (r : V) (a : Cst) (H' : Hp), NS H' d c na ns → Keep [d] H H' → Lay H' r a.D → a.Ok → a.dep < 50 → Q r H'
theorem signAt3 {k : Nat} {y : V} (h : [V.str "+", V.str "-", V.str "*"][k]? = some y) : ∃ g : Str, (g = "+" ∨ g = "-" ∨ g = "*") ∧ y = .str g := by
  have hm := List.mem_of_getElem? h
  simp only [List.mem_cons, List.not_mem_nil, or_false] at hm
  rcases hm with rfl | rfl | rfl
  · exact ⟨_, .inl rfl, rfl⟩
  · exact ⟨_, .inr (.inl rfl), rfl⟩
  · exact ⟨_, .inr (.inr rfl), rfl⟩
section
variable {P : Program} {w : World} {K : PySem.W.Frag} {mg : Str → Option Value} {base : Heap} {f : Addr} {fd : FuncData}
theorem ok_chain (F : Fun K "_law_chain" "_law_chain" s_law_chain f fd) (T : Txt mg) (D_law_draw : Dn P w K mg base "_law_draw" ["_law_d", "_law_many"] 1 spDraw) (D_law_pick : Dn P w K mg base "_law_pick" ["_law_d", "_law_row"] 2 (spPick K))
    (D_law_atom : Dn P w K mg base "_law_atom" ["_law_d", "_law_names", "_law_is_small"] 3 spAtom) : FnOk P w K mg base CX0 4 f fd ["_law_d", "_law_names"] spDrawn := by
  refine F.ok sc_law_chain (fun vs H Q E h => ?_) (fun cdv A outer s H vs Q E hr h => ?_)
  · obtain ⟨d, c, na, ns, rfl, _⟩ := h
    rfl
  obtain ⟨d, c, na, ns, rfl, N0, q⟩ := h
  refine ⟨_, (pss_cons (ps_set (i := 2) sc_law_chain.nd rfl (Or.inl rfl) (pe_cmpR op_eq (pe_dn D_law_draw (hr.mono (by omega)) (by rfl) (pa_cons (pv 0) (pa_cons pe_int pa_nil))) pe_int (nomark _)))
      (C8.pss_cut (ps_set (i := 3) sc_law_chain.nd rfl (Or.inl rfl) (pe_ifExp (pt_val (pv 2)) (pe_op op_add pe_int (pe_dn D_law_draw (hr.mono (by omega)) (by rfl) (pa_cons (pv 0) (pa_cons pe_int pa_nil)))) (pe_op op_add pe_int (pe_dn D_law_draw (hr.mono (by omega)) (by rfl) (pa_cons (pv 0) (pa_cons pe_int pa_nil))))))
      (pss_cons (ps_set (i := 4) sc_law_chain.nd rfl (Or.inl rfl) (pe_dn D_law_pick (hr.mono (by omega)) (by rfl) (pa_cons (pv 0) (pa_cons (pe_lst (pa_cons pe_str (pa_cons pe_str (pa_cons pe_str pa_nil)))) pa_nil))))
      (pss_cons (ps_set (i := 5) sc_law_chain.nd rfl (Or.inl rfl) (pe_dn D_law_atom (hr.mono (by omega)) (by rfl) (pa_cons (pv 0) (pa_cons (pv 1) (pa_cons (pe_cmpR op_eq (pe_dn D_law_draw (hr.mono (by omega)) (by rfl) (pa_cons (pv 0) (pa_cons pe_int pa_nil))) pe_int (nomark _)) pa_nil)))))
      (pss_cons (ps_for PassesOwn.never rfl (pi_range1 rfl T.n_range (pa_cons (pv 3) pa_nil)) (pg_name (i := 6) sc_law_chain.nd rfl (Or.inl rfl)) (C8.pss_cut (ps_set (i := 7) sc_law_chain.nd rfl (Or.inl rfl) (pe_ifExp (PW.pt (pw_or (pt_cmpR op_eq (pv 4) pe_str (nomark _)) (pw_or1 (pt_cmpR op_gt (pe_dn D_law_draw (hr.mono (by omega)) (by rfl) (pa_cons (pv 0) (pa_cons pe_int pa_nil))) pe_int (nomark _))))) (pe_tup (pa_cons pe_str (pa_cons pe_int pa_nil))) (pe_tup (pa_cons pe_str (pa_cons (pe_dn D_law_draw (hr.mono (by omega)) (by rfl) (pa_cons (pv 0) (pa_cons pe_int pa_nil))) pa_nil)))))
      (pss_one (ps_set (i := 5) sc_law_chain.nd rfl (Or.inl rfl) (pe_ifExp (pt_val (pv 2)) (pe_tup (pa_cons (pv 4) (pa_cons (pv 5) (pa_cons (pv 7) pa_nil)))) (pe_tup (pa_cons (pv 4) (pa_cons (pv 7) (pa_cons (pv 5) pa_nil)))))))))
      (pss_one (ps_ret (pv 5)))))))), ?_⟩
  refine ⟨_, rfl, d, c, 2, rfl, N0.ds, by decide, by decide, fun t H1 r0 r1 hd1 k1 => ?_⟩
  have N1 := N0.draw hd1 k1
  refine ⟨rfl, ?_⟩
  have isl : ∃ b : Bool, V.bl (decide (V.int t = V.int 1)) = V.bl b := ⟨_, rfl⟩
  obtain ⟨b, eb⟩ := isl
  rw [eb]
  refine ⟨fun σ' H' => ∃ (m : Nat), σ' = [some (.ref d), some (.ref na), some (.bl b), some (vI m), none, none, none, none] ∧ m ≤ 40 ∧ NS H' d c na ns ∧ Keep [d] H H', ?_, ?_⟩
  · refine ⟨_, rfl, b, rfl, ite2 (fun _ => ?_) (fun _ => ?_)⟩
    · refine ⟨_, rfl, d, c, 30, rfl, hd1, by decide, by decide, fun m H2 m0 m1 hd2 k2 => ?_⟩
      obtain ⟨m, rfl⟩ := Int.eq_ofNat_of_zero_le m0
      refine ⟨_, _, rfl, rfl, 11 + m, ?_, by omega, N1.draw hd2 k2, k1.trans k2⟩
      rw [show vI (11 + m) = V.int (11 + (m : Int)) from congrArg V.int (by omega)]
      rfl
    · refine ⟨_, rfl, d, c, 16, rfl, hd1, by decide, by decide, fun m H2 m0 m1 hd2 k2 => ?_⟩
      obtain ⟨m, rfl⟩ := Int.eq_ofNat_of_zero_le m0
      refine ⟨_, _, rfl, rfl, 4 + m, ?_, by omega, N1.draw hd2 k2, k1.trans k2⟩
      rw [show vI (4 + m) = V.int (4 + (m : Int)) from congrArg V.int (by omega)]
      rfl
  rintro σ' H2 ⟨m, rfl, hm, N2, k2⟩
  refine ⟨_, rfl, by show 3 ≤ sizeLine; decide, fun G hG => ?_⟩
  have sG := same_new hG (.lst [.str "+", .str "-", .str "*"])
  refine ⟨d, c, G, _, rfl, N2.ds.same sG, (N2.ds.new hG).1, SqL.of upd_same, by decide, by decide, fun gk y H4 hy hd4 k4 => ?_⟩
  obtain ⟨g, hg, rfl⟩ := signAt3 hy
  have N4 := (N2.draw (N2.ds.same sG) (.of_same sG)).draw hd4 k4
  have k24 := (k2.trans (.of_same sG)).trans k4
  refine ⟨_, rfl, _, rfl, _, rfl, d, c, 2, rfl, hd4, by decide, by decide, fun t5 H5 a0 a1 hd5 k5 => ?_⟩
  refine ⟨rfl, d, c, na, ns, _, rfl, N4.draw hd5 k5, fun r a H6 N6 k6 la oa da => ?_⟩
  have k06 := (k24.trans k5).trans k6
  refine ⟨_, rfl, (m : Int), rfl, (by omega), (by omega), for_it walk_range (fun i σ' H' => ∃ (v6 v7 : Option V) (r : V) (a : Cst), σ' = [some (.ref d), some (.ref na), some (.bl b), some (vI m), some (.str g), some r, v6, v7] ∧ NS H' d c na ns ∧ Keep [d] H H' ∧ Lay H' r a.D ∧ a.Ok ∧ a.dep ≤ i)
    ⟨_, _, r, a, rfl, N6, k06, la, oa, by omega⟩ (fun i σ' H' _ pp => trivial) (fun i x σ' H' H7 hi pp y => ?_) (fun σ' H' pp => ?_)⟩
  · obtain ⟨v6, v7, r, a, rfl, N7, k07, la, oa, da⟩ := pp
    obtain ⟨rfl, rfl⟩ := y
    refine ⟨fun σ' H' => ∃ (po : Addr) (n : Nat), σ' = [some (.ref d), some (.ref na), some (.bl b), some (vI m), some (.str g), some r, some (.int (0 + (i : Int))), some (.ref po)] ∧ NS H' d c na ns ∧ Keep [d] H H' ∧ Lay H' r a.D ∧ n ≤ 255 ∧ H' po = some (.tup [.str "int", vI n]), ?_, ?_⟩
    · have one : ∀ (H8 : Hp), NS H8 d c na ns → Keep [d] H H8 → Lay H8 r a.D → ∀ p, H8 p = none → ∃ (po : Addr) (n : Nat), [some (.ref d), some (.ref na), some (.bl b), some (vI m), some (.str g), some r, some (.int (0 + (i : Int))), some (.ref p)] = [some (.ref d), some (.ref na), some (.bl b), some (vI m), some (.str g), some r, some (.int (0 + (i : Int))), some (.ref po)] ∧ NS (upd H8 p (.tup [.str "int", .int 1])) d c na ns ∧ Keep [d] H (upd H8 p (.tup [.str "int", .int 1])) ∧ Lay (upd H8 p (.tup [.str "int", .int 1])) r a.D ∧ n ≤ 255 ∧ (upd H8 p (.tup [.str "int", .int 1])) po = some (.tup [.str "int", vI n]) := fun H8 N8 k8 l8 p hp => by
        have sp := same_new hp (.tup [.str "int", .int 1])
        exact ⟨p, 1, rfl, N8.draw (N8.ds.same sp) (.of_same sp), k8.trans (.of_same sp), l8.keep' (.same sp), by decide, upd_same⟩
      refine ⟨_, rfl, rfl, _, rfl, ite2 (fun z => iteT ⟨by show 2 ≤ sizeLine; decide, fun p hp => one _ N7 k07 la p hp⟩) (fun z => ?_)⟩
      refine ⟨_, rfl, d, c, 3, rfl, N7.ds, by decide, by decide, fun t8 H8 a0 a1 hd8 k8 => ?_⟩
      have N8 := N7.draw hd8 k8
      have la8 := la.keep' (k8.tup1 N7.ds)
      refine ⟨_, _, rfl, rfl, _, rfl, ite2 (fun z => ⟨by show 2 ≤ sizeLine; decide, fun p hp => one _ N8 (k07.trans k8) la8 p hp⟩) (fun z => ?_)⟩
      refine ⟨_, rfl, d, c, 16, rfl, hd8, by decide, by decide, fun n H9 n0 n1 hd9 k9 => ?_⟩
      obtain ⟨n, rfl⟩ := Int.eq_ofNat_of_zero_le n0
      have N9 := N8.draw hd9 k9
      refine ⟨by show 2 ≤ sizeLine; decide, fun p hp => ?_⟩
      have sp := same_new hp (.tup [.str "int", vI n])
      exact ⟨p, n, rfl, N9.draw (N9.ds.same sp) (.of_same sp), ((k07.trans k8).trans k9).trans (.of_same sp), (la8.keep' (k9.tup1 N8.ds)).keep' (.same sp), by omega, upd_same⟩
    rintro σ' H8 ⟨po, n, rfl, N8, k08, la8, hn, epo⟩
    have ln : Lay H8 (.ref po) (Cst.num n).D := Lay.two epo (.str _) (.int _)
    refine ⟨_, rfl, b, rfl, ite2 (fun _ => ?_) (fun _ => ?_)⟩
    · refine ⟨_, rfl, _, rfl, _, rfl, (by show 3 ≤ sizeLine; decide), fun p hp => ?_⟩
      have sp := same_new hp (.tup [.str g, r, .ref po])
      refine ⟨_, _, _, .op g a (.num n), rfl, N8.draw (N8.ds.same sp) (.of_same sp), k08.trans (.of_same sp), Lay.three upd_same (.str _) (la8.keep' (.same sp)) (ln.keep' (.same sp)), ⟨hg, oa, hn⟩, ?_⟩
      show max a.dep 0 + 1 ≤ i + 1
      omega
    · refine ⟨_, rfl, _, rfl, _, rfl, (by show 3 ≤ sizeLine; decide), fun p hp => ?_⟩
      have sp := same_new hp (.tup [.str g, .ref po, r])
      refine ⟨_, _, _, .op g (.num n) a, rfl, N8.draw (N8.ds.same sp) (.of_same sp), k08.trans (.of_same sp), Lay.three upd_same (.str _) (ln.keep' (.same sp)) (la8.keep' (.same sp)), ⟨hg, hn, oa⟩, ?_⟩
      show max 0 a.dep + 1 ≤ i + 1
      omega
  · obtain ⟨v6, v7, r, a, rfl, N7, k07, la, oa, da⟩ := pp
    exact ⟨_, rfl, q r a H' N7 k07 la oa (by omega)⟩
theorem ok_drawn (F : Fun K "_law_drawn_const" "_law_drawn_const" s_law_drawn_const f fd) (T : Txt mg) (D_law_draw : Dn P w K mg base "_law_draw" ["_law_d", "_law_many"] 1 spDraw) (D_law_chain : Dn P w K mg base "_law_chain" ["_law_d", "_law_names"] 4 spDrawn)
    (D_law_shape : Dn P w K mg base "_law_shape" ["_law_d", "_law_atoms"] 3 spShape) (D_law_atom : Dn P w K mg base "_law_atom" ["_law_d", "_law_names", "_law_is_small"] 3 spAtom) : FnOk P w K mg base CX0 5 f fd ["_law_d", "_law_names"] spDrawn := by
  refine F.ok sc_law_drawn_const (fun vs H Q E h => ?_) (fun cdv A outer s H vs Q E hr h => ?_)
  · obtain ⟨d, c, na, ns, rfl, _⟩ := h
    rfl
  obtain ⟨d, c, na, ns, rfl, N0, q⟩ := h
  refine ⟨_, (pss_cons (ps_if (pt_cmpR op_eq (pe_dn D_law_draw (hr.mono (by omega)) (by rfl) (pa_cons (pv 0) (pa_cons pe_int pa_nil))) pe_int (nomark _)) (pss_one (ps_ret (pe_dn D_law_chain (hr.mono (by omega)) (by rfl) (pa_cons (pv 0) (pa_cons (pv 1) pa_nil))))) pss_nil)
      (pss_cons (ps_set (i := 2) sc_law_drawn_const.nd rfl (Or.inr rfl) (pe_cmpR op_gt (pe_dn D_law_draw (hr.mono (by omega)) (by rfl) (pa_cons (pv 0) (pa_cons pe_int pa_nil))) pe_int (nomark _)))
      (pss_cons (ps_set (i := 3) sc_law_drawn_const.nd rfl (Or.inl rfl) (pe_op op_add (pe_op op_add pe_int (pe_dn D_law_draw (hr.mono (by omega)) (by rfl) (pa_cons (pv 0) (pa_cons pe_int pa_nil)))) (pe_op op_mul (pe_dn D_law_draw (hr.mono (by omega)) (by rfl) (pa_cons (pv 0) (pa_cons pe_int pa_nil))) (pe_dn D_law_draw (hr.mono (by omega)) (by rfl) (pa_cons (pv 0) (pa_cons pe_int pa_nil))))))
      (pss_one (ps_ret (pe_dn D_law_shape (hr.mono (by omega)) (by rfl) (pa_cons (pv 0) (pa_cons (pe_lc (own := [("_law_k", 4)]) (g := (gName 4)) (tt := tYes) rfl sc_law_drawn_const.nd (pi_range1 rfl T.n_range (pa_cons (pv 3) pa_nil)) (blkOk_by (N := ["_law_d", "_law_names", "_law_is_small", "_law_many", "_law_k"]) (sc := defScope s_law_drawn_const) (by decide +kernel)) (fun _ _ _ _ _ => (pg_name (i := 4) sc_law_drawn_const.nd rfl (Or.inl rfl))) (fun _ _ _ _ _ => pts_nil) (fun _ _ _ _ _ => (pe_dn D_law_atom (hr.mono (by omega)) (by rfl) (pa_cons (pv 0) (pa_cons (pv 1) (pa_cons (pv 2) pa_nil)))))) pa_nil)))))))), ?_⟩
  refine ⟨_, rfl, d, c, 9, rfl, N0.ds, by decide, by decide, fun t H1 r0 r1 hd1 k1 => ⟨rfl, _, rfl, ite2 (fun _ => ?_) (fun _ => ?_)⟩⟩
  · exact ⟨_, rfl, _, rfl, d, c, na, ns, rfl, N0.draw hd1 k1, fun r a H2 N2 k2 => q r a H2 N2 (k1.trans k2)⟩
  have N1 := N0.draw hd1 k1
  refine ⟨_, rfl, d, c, 4, rfl, hd1, by decide, by decide, fun t2 H2 a0 a1 hd2 k2 => ⟨_, _, rfl, rfl, ?_⟩⟩
  have N2 := N1.draw hd2 k2
  refine ⟨_, rfl, d, c, 4, rfl, hd2, by decide, by decide, fun m1 H3 b0 b1 hd3 k3 => ⟨_, _, rfl, rfl, ?_⟩⟩
  have N3 := N2.draw hd3 k3
  refine ⟨_, rfl, d, c, 3, rfl, hd3, by decide, by decide, fun m2 H4 c0 c1 hd4 k4 => ?_⟩
  have N4 := N3.draw hd4 k4
  refine ⟨_, rfl, d, c, 5, rfl, hd4, by decide, by decide, fun m3 H5 e0 e1 hd5 k5 => ?_⟩
  have N5 := N4.draw hd5 k5
  obtain ⟨m1, rfl⟩ := Int.eq_ofNat_of_zero_le b0
  obtain ⟨m2, rfl⟩ := Int.eq_ofNat_of_zero_le c0
  obtain ⟨m3, rfl⟩ := Int.eq_ofNat_of_zero_le e0
  have hm : m2 * m3 ≤ 2 * 4 := Nat.mul_le_mul (by omega) (by omega)
  refine ⟨_, _, rfl, rfl, .inl ⟨by omega, by omega⟩, _, _, rfl, rfl, ?_⟩
  have em : (1 + (m1 : Int) + (m2 : Int) * (m3 : Int)) = ((1 + m1 + m2 * m3 : Nat) : Int) := by
    rw [Int.natCast_add, Int.natCast_add, Int.natCast_mul]
    rfl
  have hM : 1 ≤ 1 + m1 + m2 * m3 ∧ 1 + m1 + m2 * m3 ≤ 12 := ⟨by omega, by omega⟩
  generalize 1 + m1 + m2 * m3 = M at em hM
  dsimp only
  rw [em]
  have k05 : Keep [d] H H5 := (((k1.trans k2).trans k3).trans k4).trans k5
  refine ⟨_, rfl, _, rfl, (M : Int), rfl, by omega, by omega, fun L hL => ?_⟩
  have nLd : L ≠ d := (N5.ds.new hL).1
  have nLc : L ≠ c := (N5.ds.new hL).2
  have hL0 : H L = none := k05.free hL (by simp [nLd])
  refine lc_range (lo := 0) (n := M) (fun i H' => NS H' d c na ns ∧ Keep [d] H H' ∧ ∃ cs : List Cst, Acc L Cst.D cs H' ∧ (∀ a ∈ cs, a.Ok ∧ a.dep = 0) ∧ cs.length = i) ⟨N5.draw (N5.ds.same (same_new hL _)) (.of_same (same_new hL _)), k05.trans (.of_same (same_new hL _)), [], .nil, fun a ha => (by cases ha), rfl⟩ (fun i H6 hi pp => ?_) (fun H6 pp => ?_)
  · obtain ⟨N6, k6, cs, hA, hcs, hl⟩ := pp
    refine ⟨rfl, _, rfl, _, rfl, _, rfl, d, c, na, ns, _, rfl, N6, fun r a H7 N7 k7 la oa da => ?_⟩
    have hA7 := hA.keep k7 (k7.tup1 N6.ds) (by simp [nLd])
    obtain ⟨vs, ev, hv, hA8, kt⟩ := hA7.push la (by omega)
    refine ⟨vs, ev, hv, ⟨N7.ds.keep (S := [L]) Keep.at1 (by simp [nLd.symm]) (by simp [nLc.symm]), ?_, N7.ok, N7.l1, N7.l2, N7.nd⟩, (k6.trans k7).later hL0, _, hA8, fun z hz => ?_, by rw [List.length_append, hl]; rfl⟩
    · have nal : na ≠ L := ne_of_none N0.hn hL0
      rw [upd_ne nal]
      exact N7.hn
    · rcases List.mem_append.mp hz with hz | hz
      · exact hcs z hz
      · rw [List.mem_singleton.mp hz]; exact ⟨oa, da⟩
  · obtain ⟨N6, k6, cs, hA, hcs, hl⟩ := pp
    exact ⟨d, c, L, cs, rfl, N6.ds, hA, nLd, hcs, by omega, by omega, fun r a H7 hd7 k7 la oa da => q r a H7 (N6.draw hd7 k7) (k6.trans k7) la oa da⟩
end
end Bf

set_option Elab.async false
set_option linter.all false
set_option maxRecDepth 100000
set_option maxHeartbeats 4000000
namespace Bf
open PySem PySem.Spec PyProof.Rows L2
def spLaw (K : PySem.W.Frag) : Sp := fun vs H Q _ => ∃ (a : Addr) (ns : List Int), vs = [.ref a] ∧ SqL K H a (ns.map V.int) ∧ ns.length ≤ 63 ∧ ∀ H', Q (.bl true) H'
section
variable {P : Program} {w : World} {K : PySem.W.Frag} {mg : Str → Option Value} {base : Heap} {f : Addr} {fd : FuncData}
theorem ok_law (F : Fun K "law" "law" s_law f fd) (T : Txt mg) (D_law_begin : Dn P w K mg base "_law_begin" ["_law_script"] 1 (spBegin K)) (D_law_pool : Dn P w K mg base "_law_pool" [] 1 spPool) (D_law_draw : Dn P w K mg base "_law_draw" ["_law_d", "_law_many"] 1 spDraw)
    (D_law_pop : Dn P w K mg base "_law_pop" ["_law_d", "_law_row"] 2 spPop) (D_law_pick : Dn P w K mg base "_law_pick" ["_law_d", "_law_row"] 2 (spPick K)) (D_law_drawn_const : Dn P w K mg base "_law_drawn_const" ["_law_d", "_law_names"] 5 spDrawn)
    (D_law_agrees : Dn P w K mg base "_law_agrees" ["_law_const", "_law_numbers"] 58 spAgrees) : FnOk P w K mg base CX0 60 f fd ["_law_script"] (spLaw K) := by
  refine F.ok sc_law (fun vs H Q E h => ?_) (fun cdv A outer s H vs Q E hr h => ?_)
  · obtain ⟨a, ns, rfl, _⟩ := h
    rfl
  obtain ⟨a, ns, rfl, hS, h63, q⟩ := h
  refine ⟨_, (pss_cons (ps_set (i := 1) sc_law.nd rfl (Or.inr rfl) (pe_dn D_law_begin (hr.mono (by omega)) (by rfl) (pa_cons (pv 0) pa_nil)))
      (pss_cons (ps_set (i := 2) sc_law.nd rfl (Or.inr rfl) (pe_dn0 D_law_pool (hr.mono (by omega)) (by rfl)))
      (pss_cons (ps_set (i := 3) sc_law.nd rfl (Or.inr rfl) (pe_lc (own := [("_law_k", 10)]) (g := (gName 10)) (tt := tYes) rfl sc_law.nd (pi_range1 rfl T.n_range (pa_cons (pe_op op_add pe_int (pe_dn D_law_draw (hr.mono (by omega)) (by rfl) (pa_cons (pv 1) (pa_cons pe_int pa_nil)))) pa_nil)) (blkOk_by (N := ["_law_script", "_law_d", "_law_pool_here", "_law_names", "_law_least", "_law_pairs", "_law_const", "_law_other", "_law_more", "_law_wider", "_law_k"]) (sc := defScope s_law) (by decide +kernel)) (fun _ _ _ _ _ => (pg_name (i := 10) sc_law.nd rfl (Or.inl rfl))) (fun _ _ _ _ _ => pts_nil) (fun _ _ _ _ _ => (pe_dn D_law_pop (hr.mono (by omega)) (by rfl) (pa_cons (pv 1) (pa_cons (pv 2) pa_nil))))))
      (C8.pss_cut (ps_set (i := 4) sc_law.nd rfl (Or.inr rfl) (pe_ifExp (pt_cmpR op_gt (pe_dn D_law_draw (hr.mono (by omega)) (by rfl) (pa_cons (pv 1) (pa_cons pe_int pa_nil))) pe_int (nomark _)) pe_int pe_int))
      (pss_cons (ps_setLc (i := 5) (own := [("_law_k", 10)]) (g := (gName 10)) (tt := tYes) rfl sc_law.nd rfl rfl (sw_true rfl rfl rfl (by decide +kernel)) (pi_range1 rfl T.n_range (pa_cons (pe_dn D_law_draw (hr.mono (by omega)) (by rfl) (pa_cons (pv 1) (pa_cons pe_int pa_nil))) pa_nil)) (blkOk_by (N := ["_law_script", "_law_d", "_law_pool_here", "_law_names", "_law_least", "_law_pairs", "_law_const", "_law_other", "_law_more", "_law_wider", "_law_k"]) (sc := defScope s_law) (by decide +kernel)) (fun _ _ _ _ _ => (pg_name (i := 10) sc_law.nd rfl (Or.inl rfl))) (fun _ _ _ _ _ => pts_nil) (fun _ _ _ _ _ => (pe_tup (pa_cons (pe_dn D_law_pick (hr.mono (by omega)) (by rfl) (pa_cons (pv 1) (pa_cons (pv 3) pa_nil))) (pa_cons (pe_dn D_law_draw (hr.mono (by omega)) (by rfl) (pa_cons (pv 1) (pa_cons (pv 4) pa_nil))) pa_nil)))))
      (pss_cons (ps_set (i := 6) sc_law.nd rfl (Or.inl rfl) (pe_dn D_law_drawn_const (hr.mono (by omega)) (by rfl) (pa_cons (pv 1) (pa_cons (pv 3) pa_nil))))
      (pss_cons (ps_set (i := 7) sc_law.nd rfl (Or.inl rfl) (pe_dn D_law_drawn_const (hr.mono (by omega)) (by rfl) (pa_cons (pv 1) (pa_cons (pv 3) pa_nil))))
      (pss_cons (ps_set (i := 8) sc_law.nd rfl (Or.inl rfl) (pe_tup (pa_cons (pe_dn D_law_pick (hr.mono (by omega)) (by rfl) (pa_cons (pv 1) (pa_cons (pv 3) pa_nil))) (pa_cons (pe_dn D_law_draw (hr.mono (by omega)) (by rfl) (pa_cons (pv 1) (pa_cons pe_int pa_nil))) pa_nil))))
      (pss_cons (ps_set (i := 9) sc_law.nd rfl (Or.inl rfl) (pe_op op_cat (pe_lst (pa_cons (pv 8) pa_nil)) (pv 5)))
      (C8.pss_cut (ps_if (pt_cmpR op_eq (pe_dn D_law_draw (hr.mono (by omega)) (by rfl) (pa_cons (pv 1) (pa_cons pe_int pa_nil))) pe_int (nomark _)) (pss_one (ps_set (i := 9) sc_law.nd rfl (Or.inl rfl) (pe_op op_cat (pv 5) (pe_lst (pa_cons (pv 8) pa_nil))))) pss_nil)
      (pss_cons (ps_if (PW.pt (pw_or (pt_not (pt_val (pe_dn D_law_agrees (hr.mono (by omega)) (by rfl) (pa_cons (pv 6) (pa_cons (pe_callTy call_tuple_of (by rfl) T.n_tuple (by decide +kernel) (pa_cons (pv 5) pa_nil)) pa_nil))))) (pw_or1 (pt_not (pt_val (pe_dn D_law_agrees (hr.mono (by omega)) (by rfl) (pa_cons (pv 7) (pa_cons (pe_callTy call_tuple_of (by rfl) T.n_tuple (by decide +kernel) (pa_cons (pv 9) pa_nil)) pa_nil)))))))) (pss_one (ps_ret pe_bl)) pss_nil)
      (pss_cons (ps_if (PW.pt (pw_or (pt_not (pt_val (pe_dn D_law_agrees (hr.mono (by omega)) (by rfl) (pa_cons (pv 6) (pa_cons (pe_callTy call_tuple_of (by rfl) T.n_tuple (by decide +kernel) (pa_cons (pv 9) pa_nil)) pa_nil))))) (pw_or1 (pt_not (pt_val (pe_dn D_law_agrees (hr.mono (by omega)) (by rfl) (pa_cons (pv 7) (pa_cons (pe_callTy call_tuple_of (by rfl) T.n_tuple (by decide +kernel) (pa_cons (pv 5) pa_nil)) pa_nil)))))))) (pss_one (ps_ret pe_bl)) pss_nil)
      (pss_one (ps_ret (pe_dn D_law_agrees (hr.mono (by omega)) (by rfl) (pa_cons (pv 6) (pa_cons (pe_callTy call_tuple_of (by rfl) T.n_tuple (by decide +kernel) (pa_cons (pv 5) pa_nil)) pa_nil))))))))))))))))), ?_⟩
  refine ⟨_, rfl, a, ns, rfl, hS, h63, fun d c H1 nd nc hd1 s1 => ?_⟩
  refine ⟨rfl, fun p xs hp hxl hxs => ?_⟩
  have sp := same_new hp (.lst (xs.map V.str))
  have hd2 := hd1.same sp
  have npd : p ≠ d := (hd1.new hp).1
  have npc : p ≠ c := (hd1.new hp).2
  refine ⟨_, rfl, d, c, 3, rfl, hd2, by decide, by decide, fun m H3 m0 m1 hd3 k3 => ⟨_, _, rfl, rfl, ?_⟩⟩
  obtain ⟨m, rfl⟩ := Int.eq_ofNat_of_zero_le m0
  have ep3 := k3 _ _ (by simp [npd]) (upd_same (H := H1) (a := p) (o := .lst (xs.map V.str)))
  have pe : (2 : Int) + (m : Int) = ((2 + m : Nat) : Int) := by omega
  have hm2 : 2 + m ≤ 4 := by omega
  have hm1 : 1 ≤ 2 + m := by omega
  generalize 2 + m = M at pe hm2 hm1
  dsimp only
  rw [pe]
  refine ⟨(M : Int), rfl, by omega, by omega, fun LN hLN => ?_⟩
  have sLN := same_new hLN (.lst [])
  have nLd : LN ≠ d := (hd3.new hLN).1
  have nLc : LN ≠ c := (hd3.new hLN).2
  have nLp : LN ≠ p := (ne_of_none ep3 hLN).symm
  refine lc_range (lo := 0) (n := M) (fun i H' => DS H' d c ∧ (∃ us : List Str, H' p = some (.lst (us.map V.str)) ∧ us.length + i = 61 ∧ ∀ z ∈ us, zOk z) ∧ ∃ zs : List Str, H' LN = some (.lst (zs.map V.str)) ∧ zs.length = i ∧ ∀ z ∈ zs, zOk z)
    ⟨hd3.same sLN, ⟨xs, sLN _ _ ep3, hxl, hxs⟩, [], upd_same, rfl, fun z hz => (by cases hz)⟩ (fun i H4 hi pp => ?_) (fun H4 pp => ?_)
  · obtain ⟨hd4, ⟨us, ep4, hul, hus⟩, zs, eL4, hzl, hzs⟩ := pp
    refine ⟨rfl, _, rfl, _, rfl, d, c, p, _, rfl, hd4, ep4, npd, npc, by rw [List.length_map]; omega, by rw [List.length_map]; omega, fun k y H5 hy hd5 ep5 k5 => ?_⟩
    obtain ⟨z, hz, rfl⟩ := strAt hy
    have eL5 := k5 _ _ (by simp [nLd, nLp]) eL4
    rw [mapErase] at ep5
    have hk : k < us.length := by
      have := (List.getElem?_eq_some_iff.mp hy).1
      rwa [List.length_map] at this
    refine ⟨_, eL5, by rw [List.length_map]; exact small1000 (by omega), hd5.keep (S := [LN]) Keep.at1 (by simp [nLd.symm]) (by simp [nLc.symm]), ⟨us.eraseIdx k, by rw [upd_ne nLp.symm]; exact ep5, by rw [List.length_eraseIdx, if_pos hk]; omega, fun x hx => hus x (List.mem_of_mem_eraseIdx hx)⟩, zs ++ [z], by rw [upd_same, List.map_append]; rfl, by rw [List.length_append, hzl]; rfl, fun x hx => ?_⟩
    rcases List.mem_append.mp hx with hx | hx
    · exact hzs x hx
    · rw [List.mem_singleton.mp hx]; exact hus z hz
  obtain ⟨hd4, _, zs, eL4, hzl, hzs⟩ := pp
  have N4 : NS H4 d c LN zs := ⟨hd4, eL4, hzs, by omega, by omega, nLd⟩
  clear hd4 eL4 hzs ep3 hd3 hd2 hd1 k3 sp hp hLN sLN hS
  refine ⟨fun σ' H' => ∃ le : Nat, 1 ≤ le ∧ le ≤ 256 ∧ σ' = [some (.ref a), some (.ref d), some (.ref p), some (.ref LN), some (vI le), none, none, none, none, none, none] ∧ NS H' d c LN zs, ?_, ?_⟩
  · refine ⟨_, rfl, d, c, 3, rfl, N4.ds, by decide, by decide, fun t H5 t0 t1 hd5 k5 => ⟨_, _, rfl, rfl, _, rfl, ite2 (fun _ => ?_) (fun _ => ?_)⟩⟩
    · exact ⟨8, by decide, by decide, rfl, N4.draw hd5 k5⟩
    · exact ⟨256, by decide, by decide, rfl, N4.draw hd5 k5⟩
  clear N4
  rintro σ' H4 ⟨le, le1, le2, rfl, N4⟩
  refine ⟨_, rfl, d, c, 6, rfl, N4.ds, by decide, by decide, fun m H5 m0 m1 hd5 k5 => ?_⟩
  obtain ⟨m, rfl⟩ := Int.eq_ofNat_of_zero_le m0
  have N5 := N4.draw hd5 k5
  refine ⟨(m : Int), rfl, by omega, by omega, fun LP hLP => ?_⟩
  have sLP := same_new hLP (.lst [])
  have nPd : LP ≠ d := (hd5.new hLP).1
  have nPc : LP ≠ c := (hd5.new hLP).2
  have nPN : LN ≠ LP := ne_of_none N5.hn hLP
  refine lc_range (lo := 0) (n := m) (fun i H' => NS H' d c LN zs ∧ ∃ ps : Prs, Acc LP prD ps H' ∧ PrsOk ps ∧ ps.length = i) ⟨N5.draw (hd5.same sLP) (.of_same sLP), [], .nil, fun z hz => (by cases hz), rfl⟩ (fun i H6 hi pp => ?_) (fun H6 pp => ?_)
  · obtain ⟨N6, ps, hA, hps, hl⟩ := pp
    refine ⟨rfl, _, rfl, _, rfl, d, c, LN, _, rfl, N6.ds, N6.nd, SqL.of N6.hn, by rw [List.length_map]; exact N6.l1, by rw [List.length_map]; exact Nat.le_trans N6.l2 (by decide), fun k y H7 hy hd7 k7 => ?_⟩
    obtain ⟨z, hz, rfl⟩ := strAt hy
    have N7 := N6.draw hd7 k7
    refine ⟨_, rfl, _, rfl, d, c, (le : Int), rfl, hd7, by omega, by omega, fun n H8 n0 n1 hd8 k8 => ?_⟩
    obtain ⟨n, rfl⟩ := Int.eq_ofNat_of_zero_le n0
    have N8 := N7.draw hd8 k8
    refine ⟨by show 2 ≤ sizeLine; decide, fun r hr => ?_⟩
    have sr := same_new hr (.tup [.str z, vI n])
    have hA8 := ((hA.keep k7 (k7.tup1 N6.ds) (by simp [nPd])).keep k8 (k8.tup1 N7.ds) (by simp [nPd])).same sr
    have lr : Lay (upd H8 r (.tup [.str z, vI n])) (.ref r) (prD (z, n)) := Lay.two upd_same (.str _) (.int _)
    obtain ⟨vs, ev, hv, hA9, kt⟩ := hA8.push (x := (z, n)) lr (by omega)
    have N9 := N8.draw (N8.ds.same sr) (.of_same sr)
    refine ⟨vs, ev, hv, ⟨N9.ds.keep (S := [LP]) Keep.at1 (by simp [nPd.symm]) (by simp [nPc.symm]), by rw [upd_ne nPN]; exact N9.hn, N9.ok, N9.l1, N9.l2, N9.nd⟩, _, hA9, fun x hx => ?_, by rw [List.length_append, hl]; rfl⟩
    rcases List.mem_append.mp hx with hx | hx
    · exact hps x hx
    · rw [List.mem_singleton.mp hx]
      exact ⟨N6.ok z hz, by show n ≤ 255; omega⟩
  clear N5 N4 hLP sLP hd5 k5
  obtain ⟨N6, ps, hA, hps, hl⟩ := pp
  refine ⟨_, rfl, _, rfl, d, c, LN, zs, rfl, N6, fun r1 c1 H7 N7 k7 l1 o1 d1 => ?_⟩
  have hA7 := hA.keep k7 (k7.tup1 N6.ds) (by simp [nPd])
  refine ⟨_, rfl, _, rfl, d, c, LN, zs, rfl, N7, fun r2 c2 H8 N8 k8 l2 o2 d2 => ?_⟩
  have hA8 := hA7.keep k8 (k8.tup1 N7.ds) (by simp [nPd])
  have l18 := l1.keep' (k8.tup1 N7.ds)
  refine ⟨_, rfl, _, rfl, d, c, LN, _, rfl, N8.ds, N8.nd, SqL.of N8.hn, by rw [List.length_map]; exact N8.l1, by rw [List.length_map]; exact Nat.le_trans N8.l2 (by decide), fun k y H9 hy hd9 k9 => ?_⟩
  obtain ⟨z, hz, rfl⟩ := strAt hy
  have N9 := N8.draw hd9 k9
  refine ⟨_, rfl, d, c, 256, rfl, hd9, by decide, by decide, fun n HA n0 n1 hdA kA => ?_⟩
  obtain ⟨n, rfl⟩ := Int.eq_ofNat_of_zero_le n0
  have NA := N9.draw hdA kA
  refine ⟨by show 2 ≤ sizeLine; decide, fun pm hpm => ?_⟩
  have sm := same_new hpm (.tup [.str z, .int (n : Int)])
  have NB := NA.draw (NA.ds.same sm) (.of_same sm)
  have lm : Lay (upd HA pm (.tup [.str z, .int (n : Int)])) (.ref pm) (prD (z, n)) := Lay.two upd_same (.str _) (.int _)
  have kt8B : KeepT H8 (upd HA pm (.tup [.str z, .int (n : Int)])) := ((k9.tup1 N8.ds).trans (kA.tup1 N9.ds)).trans (.same sm)
  have hAB := ((hA8.keep k9 (k9.tup1 N8.ds) (by simp [nPd])).keep kA (kA.tup1 N9.ds) (by simp [nPd])).same sm
  have l1B := l18.keep' kt8B
  have l2B := l2.keep' kt8B
  have okm : zOk z ∧ n ≤ 255 := ⟨N8.ok z hz, by omega⟩
  clear N6 N7 N8 N9 NA hA hA7 hA8 l1 l2 l18 kt8B k7 k8 k9 kA hd9 hdA n0 n1 hy hpm sm
  generalize upd HA pm (.tup [.str z, .int (n : Int)]) = HB at NB lm hAB l1B l2B ⊢
  obtain ⟨vs, ev, lv⟩ := hAB
  have vl : vs.length = ps.length := by rw [lv.len, List.length_map]
  refine ⟨_, rfl, by show 1 ≤ sizeLine; decide, fun L1 hL1 => ?_⟩
  have sL1 := same_new hL1 (.lst [.ref pm])
  have ev1 := sL1 _ _ ev
  refine ⟨_, rfl, L1, LP, _, _, rfl, rfl, upd_same, ev1, le1000 (by show 1 + vs.length ≤ 1000; omega), fun W hW => ?_⟩
  have sW := sL1.trans (same_new hW (.lst ([.ref pm] ++ vs)))
  have eW := upd_same (H := upd HB L1 (.lst [.ref pm])) (a := W) (o := .lst ([.ref pm] ++ vs))
  have nWd : W ≠ d := ((NB.ds.same sL1).new hW).1
  generalize upd (upd HB L1 (.lst [.ref pm])) W (.lst ([.ref pm] ++ vs)) = HC at sW eW ⊢
  clear sL1 ev1 hL1 hW
  have kC := KeepT.same sW
  have NC := NB.draw (NB.ds.same sW) (.of_same sW)
  have lvC := lv.keep' kC
  have lmC := lm.keep' kC
  have l1C := l1B.keep' kC
  have l2C := l2B.keep' kC
  have evC := sW _ _ ev
  have okw : PrsOk ((z, n) :: ps) := fun x hx => by
    rcases List.mem_cons.mp hx with rfl | hx
    · exact okm
    · exact hps x hx
  have okw2 : PrsOk (ps ++ [(z, n)]) := fun x hx => by
    rcases List.mem_append.mp hx with hx | hx
    · exact hps x hx
    · rw [List.mem_singleton.mp hx]; exact okm
  refine ⟨fun σ' H' => ∃ (W : Addr) (ws : List V) (ps2 : Prs), σ' = [some (.ref a), some (.ref d), some (.ref p), some (.ref LN), some (vI le), some (.ref LP), some r1, some r2, some (.ref pm), some (.ref W), none] ∧ H' LP = some (.lst vs) ∧ LayAll H' vs (ps.map prD) ∧ H' W = some (.lst ws) ∧ LayAll H' ws (ps2.map prD) ∧ PrsOk ps2 ∧ ps2.length ≤ 20 ∧ Lay H' r1 c1.D ∧ Lay H' r2 c2.D, ?_, ?_⟩
  · refine ⟨_, rfl, d, c, 2, rfl, NC.ds, by decide, by decide, fun t HD t0 t1 hdD kD => ⟨rfl, _, rfl, ite2 (fun _ => ?_) (fun _ => ?_)⟩⟩
    · have ktD := kD.tup1 NC.ds
      have evD := kD _ _ (by simp [nPd]) evC
      refine ⟨_, rfl, _, rfl, by show 1 ≤ sizeLine; decide, fun L2 hL2 => ?_⟩
      have s2 := same_new hL2 (.lst [.ref pm])
      refine ⟨LP, L2, _, _, rfl, rfl, s2 _ _ evD, upd_same, le1000 (by show vs.length + 1 ≤ 1000; omega), fun W2 hW2 => ?_⟩
      have s3 := s2.trans (same_new hW2 (.lst (vs ++ [.ref pm])))
      have k3 := ktD.trans (.same s3)
      exact ⟨W2, _, ps ++ [(z, n)], rfl, s3 _ _ evD, lvC.keep' k3, upd_same, by rw [List.map_append]; exact (lvC.keep' k3).app (.cons (lmC.keep' k3) .nil), okw2, by rw [List.length_append]; show ps.length + 1 ≤ 20; omega, l1C.keep' k3, l2C.keep' k3⟩
    · have ktD := kD.tup1 NC.ds
      exact ⟨W, _, (z, n) :: ps, rfl, kD _ _ (by simp [nPd]) evC, lvC.keep' ktD, kD _ _ (by simp [nWd]) eW, .cons (lmC.keep' ktD) (lvC.keep' ktD), okw, by show ps.length + 1 ≤ 20; omega, l1C.keep' ktD, l2C.keep' ktD⟩
  rintro σ' HD ⟨W, ws, ps2, rfl, eP, lP, eW, lW, ok2, len2, ld1, ld2⟩
  have hl20 : ps.length ≤ 20 := by omega
  have s0 : Same HD HD := .refl HD
  refine ⟨_, rfl, _, rfl, LP, vs, rfl, .inl ⟨SqL.of (s0 _ _ eP), fun t ht => ?_⟩⟩
  have st := s0.trans (same_new ht (.tup vs))
  refine ⟨r1, .ref t, c1, ps, rfl, ld1.keep' (.same st), .tup upd_same (lP.keep' (.same st)), hl20, hps, o1, d1, fun H1 s' => ?_⟩
  have s1 := st.trans s'
  clear st s' ht
  refine ⟨true, rfl, iteF ?_⟩
  refine ⟨_, rfl, _, rfl, W, ws, rfl, .inl ⟨SqL.of (s1 _ _ eW), fun t ht => ?_⟩⟩
  have st := s1.trans (same_new ht (.tup ws))
  refine ⟨r2, .ref t, c2, ps2, rfl, ld2.keep' (.same st), .tup upd_same (lW.keep' (.same st)), len2, ok2, o2, d2, fun H2 s' => ?_⟩
  have s2 := st.trans s'
  clear st s' ht
  refine ⟨true, rfl, iteF ?_⟩
  refine ⟨_, rfl, _, rfl, W, ws, rfl, .inl ⟨SqL.of (s2 _ _ eW), fun t ht => ?_⟩⟩
  have st := s2.trans (same_new ht (.tup ws))
  refine ⟨r1, .ref t, c1, ps2, rfl, ld1.keep' (.same st), .tup upd_same (lW.keep' (.same st)), len2, ok2, o1, d1, fun H3 s' => ?_⟩
  have s3 := st.trans s'
  clear st s' ht
  refine ⟨true, rfl, iteF ?_⟩
  refine ⟨_, rfl, _, rfl, LP, vs, rfl, .inl ⟨SqL.of (s3 _ _ eP), fun t ht => ?_⟩⟩
  have st := s3.trans (same_new ht (.tup vs))
  refine ⟨r2, .ref t, c2, ps, rfl, ld2.keep' (.same st), .tup upd_same (lP.keep' (.same st)), hl20, hps, o2, d2, fun H4 s' => ?_⟩
  have s4 := st.trans s'
  clear st s' ht
  refine ⟨true, rfl, iteF ?_⟩
  refine ⟨_, rfl, _, rfl, LP, vs, rfl, .inl ⟨SqL.of (s4 _ _ eP), fun t ht => ?_⟩⟩
  have st := s4.trans (same_new ht (.tup vs))
  refine ⟨r1, .ref t, c1, ps, rfl, ld1.keep' (.same st), .tup upd_same (lP.keep' (.same st)), hl20, hps, o1, d1, fun H5 s' => ?_⟩
  exact q H5
end
end Bf

set_option Elab.async false
set_option linter.all false
set_option maxRecDepth 100000
set_option maxHeartbeats 4000000
namespace Bf
open PySem PySem.Spec PyProof.Rows L2
/-! ### what the top has written -/
theorem all_mk {l : PySem.W.OpenLaw} {w : World} {K : PySem.W.Frag} {h : Heap} {mg : Str → Option Value} {fa f__law_begin f__law_draw f__law_pool f__law_is_int f__law_pick f__law_pop f_param_value f__law_atom f__law_shape f__law_chain f__law_drawn_const f__law_due f_const_value f__law_asked f__law_by_base f__law_agrees f_law : Addr} (X : K.In h) (G : h.Ns mainGlobals mg) (hfa : mg "law" = some (.ref fa))
    {od2 an2 : Option Addr} {sl2 : Array (Option Value)} {oc2 kV2 dc2 pm2 cd2 ct2 : Value}
    {od4 an4 : Option Addr} {sl4 : Array (Option Value)} {oc4 kV4 dc4 pm4 cd4 ct4 : Value}
    {od6 an6 : Option Addr} {sl6 : Array (Option Value)} {oc6 kV6 dc6 pm6 cd6 ct6 : Value}
    {od8 an8 : Option Addr} {sl8 : Array (Option Value)} {oc8 kV8 dc8 pm8 cd8 ct8 : Value}
    {od10 an10 : Option Addr} {sl10 : Array (Option Value)} {oc10 kV10 dc10 pm10 cd10 ct10 : Value}
    {od12 an12 : Option Addr} {sl12 : Array (Option Value)} {oc12 kV12 dc12 pm12 cd12 ct12 : Value}
    {od14 an14 : Option Addr} {sl14 : Array (Option Value)} {oc14 kV14 dc14 pm14 cd14 ct14 : Value}
    {od16 an16 : Option Addr} {sl16 : Array (Option Value)} {oc16 kV16 dc16 pm16 cd16 ct16 : Value}
    {od18 an18 : Option Addr} {sl18 : Array (Option Value)} {oc18 kV18 dc18 pm18 cd18 ct18 : Value}
    {od20 an20 : Option Addr} {sl20 : Array (Option Value)} {oc20 kV20 dc20 pm20 cd20 ct20 : Value}
    {od22 an22 : Option Addr} {sl22 : Array (Option Value)} {oc22 kV22 dc22 pm22 cd22 ct22 : Value}
    {od24 an24 : Option Addr} {sl24 : Array (Option Value)} {oc24 kV24 dc24 pm24 cd24 ct24 : Value}
    {od26 an26 : Option Addr} {sl26 : Array (Option Value)} {oc26 kV26 dc26 pm26 cd26 ct26 : Value}
    {od28 an28 : Option Addr} {sl28 : Array (Option Value)} {oc28 kV28 dc28 pm28 cd28 ct28 : Value}
    {od30 an30 : Option Addr} {sl30 : Array (Option Value)} {oc30 kV30 dc30 pm30 cd30 ct30 : Value}
    {od32 an32 : Option Addr} {sl32 : Array (Option Value)} {oc32 kV32 dc32 pm32 cd32 ct32 : Value}
    {od34 an34 : Option Addr} {sl34 : Array (Option Value)} {oc34 kV34 dc34 pm34 cd34 ct34 : Value}
    {DE Fe TW BU CE LE : Addr} {CB fIB ccB cdaB : Addr} {nmB qnB : Str} {NnB : Addr} {bsB : List Value} {snB : List Str} {subB : List Value} {abB : Bool} {colB : Option Bool} {ddCB : Option Addr} {m0B m1B m2B m3B m5B : Option Value} {ocIB : Value} {odIB : Option Addr} {kVIB docIB pmIB : Value} {anIB : Option Addr} {ctIB : Value} {oslIB : Array (Option Value)} {clB : Value} {cldB : Option Addr} {cslB : Array (Option Value)} {cclB : Value} {cddB : Option Addr} {vsCB : Array Value} {ccsB : Array (Option Value)} {flB : Str} {tfB : Tok}
    {CU fIU ccU cdaU : Addr} {nmU qnU : Str} {NnU : Addr} {bsU : List Value} {snU : List Str} {subU : List Value} {abU : Bool} {colU : Option Bool} {ddCU : Option Addr} {m0U m1U m2U m3U m5U : Option Value} {ocIU : Value} {odIU : Option Addr} {kVIU docIU pmIU : Value} {anIU : Option Addr} {ctIU : Value} {oslIU : Array (Option Value)} {clU : Value} {cldU : Option Addr} {cslU : Array (Option Value)} {cclU : Value} {cddU : Option Addr} {vsCU : Array Value} {ccsU : Array (Option Value)} {flU : Str} {tfU : Tok}
    
    {tG : Tok}
    (a1 : PySem.W.nsIn K mainGlobals "_law_begin" = some (some (.ref f__law_begin)))
    (l2 : K.lookup f__law_begin = some ⟨oc2, od2, .func (PySem.W.fnOf "_law_begin" "_law_begin" (defArgs s_law_begin) (defBody s_law_begin) (defScope s_law_begin) .none kV2 dc2 pm2 an2 cd2 ct2), sl2⟩) (c2 : PySem.W.codeIn K cd2 "_law_begin" = true) (k2 : PySem.W.keepIn K (.ref f__law_begin) = true)
    (a3 : PySem.W.nsIn K mainGlobals "_law_draw" = some (some (.ref f__law_draw)))
    (l4 : K.lookup f__law_draw = some ⟨oc4, od4, .func (PySem.W.fnOf "_law_draw" "_law_draw" (defArgs s_law_draw) (defBody s_law_draw) (defScope s_law_draw) .none kV4 dc4 pm4 an4 cd4 ct4), sl4⟩) (c4 : PySem.W.codeIn K cd4 "_law_draw" = true) (k4 : PySem.W.keepIn K (.ref f__law_draw) = true)
    (a5 : PySem.W.nsIn K mainGlobals "_law_pool" = some (some (.ref f__law_pool)))
    (l6 : K.lookup f__law_pool = some ⟨oc6, od6, .func (PySem.W.fnOf "_law_pool" "_law_pool" (defArgs s_law_pool) (defBody s_law_pool) (defScope s_law_pool) .none kV6 dc6 pm6 an6 cd6 ct6), sl6⟩) (c6 : PySem.W.codeIn K cd6 "_law_pool" = true) (k6 : PySem.W.keepIn K (.ref f__law_pool) = true)
    (a7 : PySem.W.nsIn K mainGlobals "_law_is_int" = some (some (.ref f__law_is_int)))
    (l8 : K.lookup f__law_is_int = some ⟨oc8, od8, .func (PySem.W.fnOf "_law_is_int" "_law_is_int" (defArgs s_law_is_int) (defBody s_law_is_int) (defScope s_law_is_int) .none kV8 dc8 pm8 an8 cd8 ct8), sl8⟩) (c8 : PySem.W.codeIn K cd8 "_law_is_int" = true) (k8 : PySem.W.keepIn K (.ref f__law_is_int) = true)
    (a9 : PySem.W.nsIn K mainGlobals "_law_pick" = some (some (.ref f__law_pick)))
    (l10 : K.lookup f__law_pick = some ⟨oc10, od10, .func (PySem.W.fnOf "_law_pick" "_law_pick" (defArgs s_law_pick) (defBody s_law_pick) (defScope s_law_pick) .none kV10 dc10 pm10 an10 cd10 ct10), sl10⟩) (c10 : PySem.W.codeIn K cd10 "_law_pick" = true) (k10 : PySem.W.keepIn K (.ref f__law_pick) = true)
    (a11 : PySem.W.nsIn K mainGlobals "_law_pop" = some (some (.ref f__law_pop)))
    (l12 : K.lookup f__law_pop = some ⟨oc12, od12, .func (PySem.W.fnOf "_law_pop" "_law_pop" (defArgs s_law_pop) (defBody s_law_pop) (defScope s_law_pop) .none kV12 dc12 pm12 an12 cd12 ct12), sl12⟩) (c12 : PySem.W.codeIn K cd12 "_law_pop" = true) (k12 : PySem.W.keepIn K (.ref f__law_pop) = true)
    (a13 : PySem.W.nsIn K mainGlobals "param_value" = some (some (.ref f_param_value)))
    (l14 : K.lookup f_param_value = some ⟨oc14, od14, .func (PySem.W.fnOf "param_value" "param_value" (defArgs s_param_value) (defBody s_param_value) (defScope s_param_value) .none kV14 dc14 pm14 an14 cd14 ct14), sl14⟩) (c14 : PySem.W.codeIn K cd14 "param_value" = true) (k14 : PySem.W.keepIn K (.ref f_param_value) = true)
    (a15 : PySem.W.nsIn K mainGlobals "_law_atom" = some (some (.ref f__law_atom)))
    (l16 : K.lookup f__law_atom = some ⟨oc16, od16, .func (PySem.W.fnOf "_law_atom" "_law_atom" (defArgs s_law_atom) (defBody s_law_atom) (defScope s_law_atom) .none kV16 dc16 pm16 an16 cd16 ct16), sl16⟩) (c16 : PySem.W.codeIn K cd16 "_law_atom" = true) (k16 : PySem.W.keepIn K (.ref f__law_atom) = true)
    (a17 : PySem.W.nsIn K mainGlobals "_law_shape" = some (some (.ref f__law_shape)))
    (l18 : K.lookup f__law_shape = some ⟨oc18, od18, .func (PySem.W.fnOf "_law_shape" "_law_shape" (defArgs s_law_shape) (defBody s_law_shape) (defScope s_law_shape) .none kV18 dc18 pm18 an18 cd18 ct18), sl18⟩) (c18 : PySem.W.codeIn K cd18 "_law_shape" = true) (k18 : PySem.W.keepIn K (.ref f__law_shape) = true)
    (a19 : PySem.W.nsIn K mainGlobals "_law_chain" = some (some (.ref f__law_chain)))
    (l20 : K.lookup f__law_chain = some ⟨oc20, od20, .func (PySem.W.fnOf "_law_chain" "_law_chain" (defArgs s_law_chain) (defBody s_law_chain) (defScope s_law_chain) .none kV20 dc20 pm20 an20 cd20 ct20), sl20⟩) (c20 : PySem.W.codeIn K cd20 "_law_chain" = true) (k20 : PySem.W.keepIn K (.ref f__law_chain) = true)
    (a21 : PySem.W.nsIn K mainGlobals "_law_drawn_const" = some (some (.ref f__law_drawn_const)))
    (l22 : K.lookup f__law_drawn_const = some ⟨oc22, od22, .func (PySem.W.fnOf "_law_drawn_const" "_law_drawn_const" (defArgs s_law_drawn_const) (defBody s_law_drawn_const) (defScope s_law_drawn_const) .none kV22 dc22 pm22 an22 cd22 ct22), sl22⟩) (c22 : PySem.W.codeIn K cd22 "_law_drawn_const" = true) (k22 : PySem.W.keepIn K (.ref f__law_drawn_const) = true)
    (a23 : PySem.W.nsIn K mainGlobals "_law_due" = some (some (.ref f__law_due)))
    (l24 : K.lookup f__law_due = some ⟨oc24, od24, .func (PySem.W.fnOf "_law_due" "_law_due" (defArgs s_law_due) (defBody s_law_due) (defScope s_law_due) .none kV24 dc24 pm24 an24 cd24 ct24), sl24⟩) (c24 : PySem.W.codeIn K cd24 "_law_due" = true) (k24 : PySem.W.keepIn K (.ref f__law_due) = true)
    (a25 : PySem.W.nsIn K mainGlobals "const_value" = some (some (.ref f_const_value)))
    (l26 : K.lookup f_const_value = some ⟨oc26, od26, .func (PySem.W.fnOf "const_value" "const_value" (defArgs s_const_value) (defBody s_const_value) (defScope s_const_value) .none kV26 dc26 pm26 an26 cd26 ct26), sl26⟩) (c26 : PySem.W.codeIn K cd26 "const_value" = true) (k26 : PySem.W.keepIn K (.ref f_const_value) = true)
    (a27 : PySem.W.nsIn K mainGlobals "_law_asked" = some (some (.ref f__law_asked)))
    (l28 : K.lookup f__law_asked = some ⟨oc28, od28, .func (PySem.W.fnOf "_law_asked" "_law_asked" (defArgs s_law_asked) (defBody s_law_asked) (defScope s_law_asked) .none kV28 dc28 pm28 an28 cd28 ct28), sl28⟩) (c28 : PySem.W.codeIn K cd28 "_law_asked" = true) (k28 : PySem.W.keepIn K (.ref f__law_asked) = true)
    (a29 : PySem.W.nsIn K mainGlobals "_law_by_base" = some (some (.ref f__law_by_base)))
    (l30 : K.lookup f__law_by_base = some ⟨oc30, od30, .func (PySem.W.fnOf "_law_by_base" "_law_by_base" (defArgs s_law_by_base) (defBody s_law_by_base) (defScope s_law_by_base) .none kV30 dc30 pm30 an30 cd30 ct30), sl30⟩) (c30 : PySem.W.codeIn K cd30 "_law_by_base" = true) (k30 : PySem.W.keepIn K (.ref f__law_by_base) = true)
    (a31 : PySem.W.nsIn K mainGlobals "_law_agrees" = some (some (.ref f__law_agrees)))
    (l32 : K.lookup f__law_agrees = some ⟨oc32, od32, .func (PySem.W.fnOf "_law_agrees" "_law_agrees" (defArgs s_law_agrees) (defBody s_law_agrees) (defScope s_law_agrees) .none kV32 dc32 pm32 an32 cd32 ct32), sl32⟩) (c32 : PySem.W.codeIn K cd32 "_law_agrees" = true) (k32 : PySem.W.keepIn K (.ref f__law_agrees) = true)
    (a33 : PySem.W.nsIn K mainGlobals "law" = some (some (.ref f_law)))
    (l34 : K.lookup f_law = some ⟨oc34, od34, .func (PySem.W.fnOf "law" "law" (defArgs s_law) (defBody s_law) (defScope s_law) .none kV34 dc34 pm34 an34 cd34 ct34), sl34⟩) (c34 : PySem.W.codeIn K cd34 "law" = true) (k34 : PySem.W.keepIn K (.ref f_law) = true)
    (x35 : PySem.W.nsIn K mainGlobals "GREATEST" = some (some (.int 255 tG)))
    (x36 : PySem.W.nsIn K cStatics "thirdparty.any" = some none)
    (x37 : (l.prog.main.scope.names.lookup ("super" : Str)).isSome = false)
    (x38 : PySem.W.specialIn K (.builtin "object.__class__") "__get__" = some (some (.builtin "getset_descriptor.__get__")))
    (x39 : PySem.W.takesIn K (.builtin "object.__class__") = some true)
    (x40 : PySem.W.nsIn K mainGlobals "DesignError" = some (some (.ref DE)))
    (x41 : PySem.W.nsIn K mainGlobals "FabricError" = some (some (.ref Fe)))
    (x42 : PySem.W.nsIn K mainGlobals "Twice" = some (some (.ref TW)))
    (x43 : PySem.W.nsIn K mainGlobals "BadUse" = some (some (.ref BU)))
    (x44 : PySem.W.nsIn K mainGlobals "CheckError" = some (some (.ref CE)))
    (x45 : PySem.W.nsIn K mainGlobals "LimitError" = some (some (.ref LE)))
    (x46 : PySem.W.nsIn K mainGlobals "BadNumber" = some (some (.ref CB)))
    (x47 : K.lookup CB = some (excClassObj nmB qnB CB NnB bsB [.ref DE, .ref Fe, .type "ValueError", .type "Exception", .type "BaseException", .type "object"] true snB subB abB colB ddCB m0B m1B m2B m3B m5B "ValueError.__new__"))
    (x48 : PySem.W.findIn K (.ref CB) "__setattr__" = some (some (.builtin "object.__setattr__")))
    (x49 : PySem.W.subIn K (.ref CB) (.type "BaseException") = some true)
    (x50 : PySem.W.typeIn K (.ref CB) = some (.type "type"))
    (x51 : PySem.W.keepIn K (.ref CB) = true)
    (x52 : PySem.W.ks_superIn K CB CB "__init__" = some (some (.builtin "ValueError.__init__")))
    (x53 : PySem.W.mroIn K CB (.ref CB) = some true)
    (x54 : PySem.W.subIn K (.ref CB) (.type "ValueError") = some true)
    (x55 : PySem.W.findIn K (.ref CB) "__init__" = some (some (.ref fIB)))
    (x56 : PySem.W.typeIn K (.ref fIB) = some (.type "function"))
    (x57 : PySem.W.findIn K (.ref CB) "value" = some none)
    (x58 : K.lookup fIB = some ⟨ocIB, odIB, .func (PySem.W.ksFn "__init__" "BadNumber.__init__" (defArgs s_binit) (defBody s_binit) (defScope s_binit) .none kVIB docIB pmIB anIB (.ref cdaB) ctIB ccB), oslIB⟩)
    (x59 : PySem.W.codeIn K (.ref cdaB) "BadNumber.__init__" = true)
    (x60 : K.lookup ccB = some ⟨clB, cldB, .cell (some (.ref CB)), cslB⟩)
    (x61 : K.lookup cdaB = some ⟨cclB, cddB, .fields vsCB, ccsB⟩)
    (x62 : vsCB[2]? = some (.str flB tfB))
    (x63 : ((l.prog.main.file : Str) == flB) = true)
    (x64 : PySem.W.isClsIn K CB = true)
    (x65 : PySem.W.findIn K (.ref CB) "__getattribute__" = some (some (.builtin "BaseException.__getattribute__")))
    (x66 : PySem.W.findIn K (.ref CB) "__getattr__" = some none)
    (x67 : PySem.W.findIn K (.ref CB) "__class__" = some (some (.builtin "object.__class__")))
    (x68 : PySem.W.mroIn K CB (.type "object") = some true)
    (x69 : PySem.W.hasDictIn K CB = true)
    (x70 : PySem.W.exmOne K (.ref CB) (.ref DE) = some true)
    (x71 : PySem.W.exmOne K (.ref CB) (.ref CB) = some true)
    (x72 : PySem.W.kitOne K (.ref CB) (.ref TW) = some false)
    (x73 : PySem.W.kitOne K (.ref CB) (.ref BU) = some false)
    (x74 : PySem.W.kitOne K (.ref CB) (.ref CE) = some false)
    (x75 : PySem.W.kitOne K (.ref CB) (.ref LE) = some false)
    (x76 : PySem.W.kitOne K (.ref CB) (.ref Fe) = some true)
    (x77 : PySem.W.kitOne K (.ref CB) (.type "ValueError") = some true)
    (x78 : PySem.W.nsIn K mainGlobals "Unknown" = some (some (.ref CU)))
    (x79 : K.lookup CU = some (excClassObj nmU qnU CU NnU bsU [.ref DE, .ref Fe, .type "ValueError", .type "Exception", .type "BaseException", .type "object"] true snU subU abU colU ddCU m0U m1U m2U m3U m5U "ValueError.__new__"))
    (x80 : PySem.W.findIn K (.ref CU) "__setattr__" = some (some (.builtin "object.__setattr__")))
    (x81 : PySem.W.subIn K (.ref CU) (.type "BaseException") = some true)
    (x82 : PySem.W.typeIn K (.ref CU) = some (.type "type"))
    (x83 : PySem.W.keepIn K (.ref CU) = true)
    (x84 : PySem.W.ks_superIn K CU CU "__init__" = some (some (.builtin "ValueError.__init__")))
    (x85 : PySem.W.mroIn K CU (.ref CU) = some true)
    (x86 : PySem.W.subIn K (.ref CU) (.type "ValueError") = some true)
    (x87 : PySem.W.findIn K (.ref CU) "__init__" = some (some (.ref fIU)))
    (x88 : PySem.W.typeIn K (.ref fIU) = some (.type "function"))
    (x89 : PySem.W.findIn K (.ref CU) "name" = some none)
    (x90 : K.lookup fIU = some ⟨ocIU, odIU, .func (PySem.W.ksFn "__init__" "Unknown.__init__" (defArgs s_uinit) (defBody s_uinit) (defScope s_uinit) .none kVIU docIU pmIU anIU (.ref cdaU) ctIU ccU), oslIU⟩)
    (x91 : PySem.W.codeIn K (.ref cdaU) "Unknown.__init__" = true)
    (x92 : K.lookup ccU = some ⟨clU, cldU, .cell (some (.ref CU)), cslU⟩)
    (x93 : K.lookup cdaU = some ⟨cclU, cddU, .fields vsCU, ccsU⟩)
    (x94 : vsCU[2]? = some (.str flU tfU))
    (x95 : ((l.prog.main.file : Str) == flU) = true)
    (x96 : PySem.W.isClsIn K CU = true)
    (x97 : PySem.W.findIn K (.ref CU) "__getattribute__" = some (some (.builtin "BaseException.__getattribute__")))
    (x98 : PySem.W.findIn K (.ref CU) "__getattr__" = some none)
    (x99 : PySem.W.findIn K (.ref CU) "__class__" = some (some (.builtin "object.__class__")))
    (x100 : PySem.W.mroIn K CU (.type "object") = some true)
    (x101 : PySem.W.hasDictIn K CU = true)
    (x102 : PySem.W.exmOne K (.ref CU) (.ref DE) = some true)
    (x103 : PySem.W.exmOne K (.ref CU) (.ref CB) = some false)
    (x104 : PySem.W.exmOne K (.ref CU) (.ref CU) = some true)
    (x105 : PySem.W.kitOne K (.ref CU) (.ref TW) = some false)
    (x106 : PySem.W.kitOne K (.ref CU) (.ref BU) = some false)
    (x107 : PySem.W.kitOne K (.ref CU) (.ref CE) = some false)
    (x108 : PySem.W.kitOne K (.ref CU) (.ref LE) = some false)
    (x109 : PySem.W.kitOne K (.ref CU) (.ref Fe) = some true)
    (x110 : PySem.W.kitOne K (.ref CU) (.type "ValueError") = some true)
    (x111 : PySem.W.kitOne K (.ref CB) (.ref CU) = some false)
    (z112 : PySem.W.nsIn K mainGlobals "int" = some none)
    (z113 : PySem.W.nsIn K mainGlobals "len" = some none)
    (z114 : PySem.W.nsIn K mainGlobals "abs" = some none)
    (z115 : PySem.W.nsIn K mainGlobals "isinstance" = some none)
    (z116 : PySem.W.nsIn K mainGlobals "range" = some none)
    (z117 : PySem.W.nsIn K mainGlobals "tuple" = some none)
    (z118 : PySem.W.nsIn K mainGlobals "list" = some none)
    (z119 : PySem.W.nsIn K mainGlobals "reversed" = some none)
    (z120 : PySem.W.nsIn K mainGlobals "bool" = some none)
    (z121 : PySem.W.nsIn K mainGlobals "str" = some none)
    (z122 : PySem.W.nsIn K mainGlobals "super" = some none)
    (z123 : PySem.W.nsIn K mainGlobals "ValueError" = some none) :
    ∃ fd : FuncData, (∀ (s : Shared) (v : Value), BindsTo s fd ⟨[v], []⟩ [("_law_script", v)]) ∧ ∀ base : Heap, K.In base → base.Ns mainGlobals mg → FnOk l.prog w K mg base CX0 60 fa fd ["_law_script"] (spLaw K) := by
  have e := hfa.symm.trans (PySem.W.mg_of X G a33)
  cases e
  have T : Txt mg := ⟨PySem.W.mg_none_of X G z112, PySem.W.mg_none_of X G z113, PySem.W.mg_none_of X G z114, PySem.W.mg_none_of X G z115, PySem.W.mg_none_of X G z116, PySem.W.mg_none_of X G z117, PySem.W.mg_none_of X G z118, PySem.W.mg_none_of X G z119, PySem.W.mg_none_of X G z120, PySem.W.mg_none_of X G z121, PySem.W.mg_none_of X G z122, PySem.W.mg_none_of X G z123⟩
  have TP : TxtP mg tG := ⟨T, PySem.W.mg_of X G x35⟩
  have XB : BadX l.prog K mg CB fIB :=
    { sup := { oex := { cls := ⟨nmB, qnB, NnB, bsB, _, snB, subB, abB, colB, ddCB, m0B, m1B, m2B, m3B, m5B, x47, rfl⟩, sa := x48, exC := x49, tyC := x50, kC := x51 }, cls := Option.isSome_iff_exists.mp x64, ini := x52, mro := x53, ve := x54, stat := x36 }
      ini := ⟨ccB, cdaB, _, { ex := ⟨ocIB, odIB, kVIB, docIB, pmIB, anIB, ctIB, oslIB, rfl, x58⟩, code := x59, cell := ⟨clB, cldB, cslB, x60⟩, file := ⟨cclB, cddB, vsCB, ccsB, flB, tfB, x61, x62, x63⟩, top := x37, sup := T.n_super }, .all fun us hl => match us, hl with | [_, _], _ => rfl⟩
      gC := PySem.W.mg_of X G x46, iC := x55, tI := x56, noN := x57
      exT := { cl := x64, ga := x65, gg := x66, exC := x49, ha := x67, hn := x38, ht := x39, hm := x68, hdC := x69 } }
  have XU : UnkX l.prog K mg CU fIU :=
    { sup := { oex := { cls := ⟨nmU, qnU, NnU, bsU, _, snU, subU, abU, colU, ddCU, m0U, m1U, m2U, m3U, m5U, x79, rfl⟩, sa := x80, exC := x81, tyC := x82, kC := x83 }, cls := Option.isSome_iff_exists.mp x96, ini := x84, mro := x85, ve := x86, stat := x36 }
      ini := ⟨ccU, cdaU, _, { ex := ⟨ocIU, odIU, kVIU, docIU, pmIU, anIU, ctIU, oslIU, rfl, x90⟩, code := x91, cell := ⟨clU, cldU, cslU, x92⟩, file := ⟨cclU, cddU, vsCU, ccsU, flU, tfU, x93, x94, x95⟩, top := x37, sup := T.n_super }, .all fun us hl => match us, hl with | [_, _], _ => rfl⟩
      gC := PySem.W.mg_of X G x78, iC := x87, tI := x88, noN := x89
      exT := { cl := x96, ga := x97, gg := x98, exC := x81, ha := x99, hn := x38, ht := x39, hm := x100, hdC := x101 } }
  have KX : K11X K mg CB CU Fe DE TW BU CE LE :=
    { gF := PySem.W.mg_of X G x41, gD := PySem.W.mg_of X G x40, gT := PySem.W.mg_of X G x42, gU := PySem.W.mg_of X G x43, gC := PySem.W.mg_of X G x44, gL := PySem.W.mg_of X G x45
      eBB := x71, eUB := x103, eUU := x104, eBD := x70, eUD := x102, kBU := x111
      kT := fun C h => by rcases h with rfl | rfl <;> assumption
      kU := fun C h => by rcases h with rfl | rfl <;> assumption
      kC := fun C h => by rcases h with rfl | rfl <;> assumption
      kL := fun C h => by rcases h with rfl | rfl <;> assumption
      kF := fun C h => by rcases h with rfl | rfl <;> assumption
      kV := fun C h => by rcases h with rfl | rfl <;> assumption }
  have F_law_begin := fun_mk (st := s_law_begin) l2 c2 k2
  have F_law_draw := fun_mk (st := s_law_draw) l4 c4 k4
  have F_law_pool := fun_mk (st := s_law_pool) l6 c6 k6
  have F_law_is_int := fun_mk (st := s_law_is_int) l8 c8 k8
  have F_law_pick := fun_mk (st := s_law_pick) l10 c10 k10
  have F_law_pop := fun_mk (st := s_law_pop) l12 c12 k12
  have F_param_value := fun_mk (st := s_param_value) l14 c14 k14
  have F_law_atom := fun_mk (st := s_law_atom) l16 c16 k16
  have F_law_shape := fun_mk (st := s_law_shape) l18 c18 k18
  have F_law_chain := fun_mk (st := s_law_chain) l20 c20 k20
  have F_law_drawn_const := fun_mk (st := s_law_drawn_const) l22 c22 k22
  have F_law_due := fun_mk (st := s_law_due) l24 c24 k24
  have F_const_value := fun_mk (st := s_const_value) l26 c26 k26
  have F_law_asked := fun_mk (st := s_law_asked) l28 c28 k28
  have F_law_by_base := fun_mk (st := s_law_by_base) l30 c30 k30
  have F_law_agrees := fun_mk (st := s_law_agrees) l32 c32 k32
  have F_law := fun_mk (st := s_law) l34 c34 k34
  refine ⟨PySem.W.fnOf "law" "law" (defArgs s_law) (defBody s_law) (defScope s_law) .none kV34 dc34 pm34 an34 cd34 ct34, fun s v => .of_eq rfl, fun base _ _ => ?_⟩
  have D_law_begin : Dn l.prog w K mg base "_law_begin" ["_law_script"] 1 (spBegin K) := ⟨f__law_begin, _, ok_begin F_law_begin T, PySem.W.mg_of X G a1, k2, (F_law_begin.binds (ps := ["_law_script"]) fun _ _ _ _ _ _ us hl => match us, hl with | [_], _ => rfl)⟩
  have D_law_draw : Dn l.prog w K mg base "_law_draw" ["_law_d", "_law_many"] 1 spDraw := ⟨f__law_draw, _, ok_draw F_law_draw T, PySem.W.mg_of X G a3, k4, (F_law_draw.binds (ps := ["_law_d", "_law_many"]) fun _ _ _ _ _ _ us hl => match us, hl with | [_, _], _ => rfl)⟩
  have D_law_pool : Dn l.prog w K mg base "_law_pool" [] 1 spPool := ⟨f__law_pool, _, ok_pool F_law_pool , PySem.W.mg_of X G a5, k6, (F_law_pool.binds (ps := []) fun _ _ _ _ _ _ us hl => match us, hl with | [], _ => rfl)⟩
  have D_law_is_int : Dn l.prog w K mg base "_law_is_int" ["_law_thing"] 1 spIsInt := ⟨f__law_is_int, _, ok_isInt F_law_is_int T, PySem.W.mg_of X G a7, k8, (F_law_is_int.binds (ps := ["_law_thing"]) fun _ _ _ _ _ _ us hl => match us, hl with | [_], _ => rfl)⟩
  have DH_law_is_int : DnH l.prog w K mg base "_law_is_int" ["_law_thing"] 1 spIsInt := ⟨f__law_is_int, _, ok_isIntH F_law_is_int T, PySem.W.mg_of X G a7, k8, (F_law_is_int.binds (ps := ["_law_thing"]) fun _ _ _ _ _ _ us hl => match us, hl with | [_], _ => rfl)⟩
  have D_law_pick : Dn l.prog w K mg base "_law_pick" ["_law_d", "_law_row"] 2 (spPick K) := ⟨f__law_pick, _, ok_pick F_law_pick T D_law_draw, PySem.W.mg_of X G a9, k10, (F_law_pick.binds (ps := ["_law_d", "_law_row"]) fun _ _ _ _ _ _ us hl => match us, hl with | [_, _], _ => rfl)⟩
  have D_law_pop : Dn l.prog w K mg base "_law_pop" ["_law_d", "_law_row"] 2 spPop := ⟨f__law_pop, _, ok_pop F_law_pop T D_law_draw, PySem.W.mg_of X G a11, k12, (F_law_pop.binds (ps := ["_law_d", "_law_row"]) fun _ _ _ _ _ _ us hl => match us, hl with | [_, _], _ => rfl)⟩
  have D_param_value : DnN l.prog w K mg base "param_value" ["name", "numbers"] 3 (spParam CU) := ⟨f_param_value, _, ok_param F_param_value T XU, PySem.W.mg_of X G a13, k14, (F_param_value.binds (ps := ["name", "numbers"]) fun _ _ _ _ _ _ us hl => match us, hl with | [_, _], _ => rfl)⟩
  have D_law_atom : Dn l.prog w K mg base "_law_atom" ["_law_d", "_law_names", "_law_is_small"] 3 spAtom := ⟨f__law_atom, _, ok_atom F_law_atom T D_law_draw D_law_pick, PySem.W.mg_of X G a15, k16, (F_law_atom.binds (ps := ["_law_d", "_law_names", "_law_is_small"]) fun _ _ _ _ _ _ us hl => match us, hl with | [_, _, _], _ => rfl)⟩
  have D_law_shape : Dn l.prog w K mg base "_law_shape" ["_law_d", "_law_atoms"] 3 spShape := ⟨f__law_shape, _, ok_shape F_law_shape T D_law_draw D_law_pick, PySem.W.mg_of X G a17, k18, (F_law_shape.binds (ps := ["_law_d", "_law_atoms"]) fun _ _ _ _ _ _ us hl => match us, hl with | [_, _], _ => rfl)⟩
  have D_law_chain : Dn l.prog w K mg base "_law_chain" ["_law_d", "_law_names"] 4 spDrawn := ⟨f__law_chain, _, ok_chain F_law_chain T D_law_draw D_law_pick D_law_atom, PySem.W.mg_of X G a19, k20, (F_law_chain.binds (ps := ["_law_d", "_law_names"]) fun _ _ _ _ _ _ us hl => match us, hl with | [_, _], _ => rfl)⟩
  have D_law_drawn_const : Dn l.prog w K mg base "_law_drawn_const" ["_law_d", "_law_names"] 5 spDrawn := ⟨f__law_drawn_const, _, ok_drawn F_law_drawn_const T D_law_draw D_law_chain D_law_shape D_law_atom, PySem.W.mg_of X G a21, k22, (F_law_drawn_const.binds (ps := ["_law_d", "_law_names"]) fun _ _ _ _ _ _ us hl => match us, hl with | [_, _], _ => rfl)⟩
  have D_law_due : Dn l.prog w K mg base "_law_due" ["_law_const", "_law_numbers"] 51 (spDue 50) := ⟨f__law_due, _, ok_due F_law_due T (PySem.W.mg_of X G a23) k24 (F_law_due.binds (ps := ["_law_const", "_law_numbers"]) fun _ _ _ _ _ _ us hl => match us, hl with | [_, _], _ => rfl) 50, PySem.W.mg_of X G a23, k24, (F_law_due.binds (ps := ["_law_const", "_law_numbers"]) fun _ _ _ _ _ _ us hl => match us, hl with | [_, _], _ => rfl)⟩
  have D_const_value : DnN l.prog w K mg base "const_value" ["const", "numbers"] 54 (spConst CB CU 50) := ⟨f_const_value, _, ok_const F_const_value TP XB D_param_value (PySem.W.mg_of X G a25) k26 (F_const_value.binds (ps := ["const", "numbers"]) fun _ _ _ _ _ _ us hl => match us, hl with | [_, _], _ => rfl) 50, PySem.W.mg_of X G a25, k26, (F_const_value.binds (ps := ["const", "numbers"]) fun _ _ _ _ _ _ us hl => match us, hl with | [_, _], _ => rfl)⟩
  have D_law_asked : Dn l.prog w K mg base "_law_asked" ["_law_const", "_law_numbers"] 56 spAsked := ⟨f__law_asked, _, ok_asked F_law_asked T XB XU KX D_const_value D_law_is_int DH_law_is_int, PySem.W.mg_of X G a27, k28, (F_law_asked.binds (ps := ["_law_const", "_law_numbers"]) fun _ _ _ _ _ _ us hl => match us, hl with | [_, _], _ => rfl)⟩
  have D_law_by_base : Dn l.prog w K mg base "_law_by_base" ["_law_const", "_law_numbers"] 56 spByBase := ⟨f__law_by_base, _, ok_byBase F_law_by_base T XB XU KX D_const_value, PySem.W.mg_of X G a29, k30, (F_law_by_base.binds (ps := ["_law_const", "_law_numbers"]) fun _ _ _ _ _ _ us hl => match us, hl with | [_, _], _ => rfl)⟩
  have D_law_agrees : Dn l.prog w K mg base "_law_agrees" ["_law_const", "_law_numbers"] 58 spAgrees := ⟨f__law_agrees, _, ok_agrees F_law_agrees T D_law_due D_law_asked D_law_by_base, PySem.W.mg_of X G a31, k32, (F_law_agrees.binds (ps := ["_law_const", "_law_numbers"]) fun _ _ _ _ _ _ us hl => match us, hl with | [_, _], _ => rfl)⟩
  exact ok_law F_law T D_law_begin D_law_pool D_law_draw D_law_pop D_law_pick D_law_drawn_const D_law_agrees
end Bf
open PySem PySem.W PyProof.Rows
set_option maxRecDepth 100000 in
set_option maxHeartbeats 0 in
theorem PySem.Challenge.cw_beatfabric_k11_consts_holds : PySem.Challenge.rw_beatfabric_k11_consts.Holds := by
  w_on; o_law; k_head; (case hw => w_witness2)
  k_fill
  refine L2.walk_of (l := PySem.Challenge.rw_beatfabric_k11_consts) (n := 63) (k := 60) (x := "_law_script") (CX := fun _ => L2.CX0) (sp := fun w => Bf.spLaw _) rfl (by decide) rfl ⟨rfl, by decide, by decide⟩ (fun w h Y => PySem.W.kIn_of Y) ?F (fun _ _ a ns hl _ hS => ⟨a, ns, rfl, hS, hl, fun _ => rfl⟩) (fun _ _ _ _ _ h => h)
  case F =>
    intro w mg fa h KX G hmg
    refine' Bf.all_mk KX G hmg ?a1 ?l2 ?c2 ?k2 ?a3 ?l4 ?c4 ?k4 ?a5 ?l6 ?c6 ?k6 ?a7 ?l8 ?c8 ?k8 ?a9 ?l10 ?c10 ?k10 ?a11 ?l12 ?c12 ?k12 ?a13 ?l14 ?c14 ?k14 ?a15 ?l16 ?c16 ?k16 ?a17 ?l18 ?c18 ?k18 ?a19 ?l20 ?c20 ?k20 ?a21 ?l22 ?c22 ?k22 ?a23 ?l24 ?c24 ?k24 ?a25 ?l26 ?c26 ?k26 ?a27 ?l28 ?c28 ?k28 ?a29 ?l30 ?c30 ?k30 ?a31 ?l32 ?c32 ?k32 ?a33 ?l34 ?c34 ?k34 ?x35 ?x36 ?x37 ?x38 ?x39 ?x40 ?x41 ?x42 ?x43 ?x44 ?x45 ?x46 ?x47 ?x48 ?x49 ?x50 ?x51 ?x52 ?x53 ?x54 ?x55 ?x56 ?x57 ?x58 ?x59 ?x60 ?x61 ?x62 ?x63 ?x64 ?x65 ?x66 ?x67 ?x68 ?x69 ?x70 ?x71 ?x72 ?x73 ?x74 ?x75 ?x76 ?x77 ?x78 ?x79 ?x80 ?x81 ?x82 ?x83 ?x84 ?x85 ?x86 ?x87 ?x88 ?x89 ?x90 ?x91 ?x92 ?x93 ?x94 ?x95 ?x96 ?x97 ?x98 ?x99 ?x100 ?x101 ?x102 ?x103 ?x104 ?x105 ?x106 ?x107 ?x108 ?x109 ?x110 ?x111 ?z112 ?z113 ?z114 ?z115 ?z116 ?z117 ?z118 ?z119 ?z120 ?z121 ?z122 ?z123
    (case a1 => k_is)
    (case l2 => k_is)
    (case c2 => k_is)
    (case k2 => k_is)
    (case a3 => k_is)
    (case l4 => k_is)
    (case c4 => k_is)
    (case k4 => k_is)
    (case a5 => k_is)
    (case l6 => k_is)
    (case c6 => k_is)
    (case k6 => k_is)
    (case a7 => k_is)
    (case l8 => k_is)
    (case c8 => k_is)
    (case k8 => k_is)
    (case a9 => k_is)
    (case l10 => k_is)
    (case c10 => k_is)
    (case k10 => k_is)
    (case a11 => k_is)
    (case l12 => k_is)
    (case c12 => k_is)
    (case k12 => k_is)
    (case a13 => k_is)
    (case l14 => k_is)
    (case c14 => k_is)
    (case k14 => k_is)
    (case a15 => k_is)
    (case l16 => k_is)
    (case c16 => k_is)
    (case k16 => k_is)
    (case a17 => k_is)
    (case l18 => k_is)
    (case c18 => k_is)
    (case k18 => k_is)
    (case a19 => k_is)
    (case l20 => k_is)
    (case c20 => k_is)
    (case k20 => k_is)
    (case a21 => k_is)
    (case l22 => k_is)
    (case c22 => k_is)
    (case k22 => k_is)
    (case a23 => k_is)
    (case l24 => k_is)
    (case c24 => k_is)
    (case k24 => k_is)
    (case a25 => k_is)
    (case l26 => k_is)
    (case c26 => k_is)
    (case k26 => k_is)
    (case a27 => k_is)
    (case l28 => k_is)
    (case c28 => k_is)
    (case k28 => k_is)
    (case a29 => k_is)
    (case l30 => k_is)
    (case c30 => k_is)
    (case k30 => k_is)
    (case a31 => k_is)
    (case l32 => k_is)
    (case c32 => k_is)
    (case k32 => k_is)
    (case a33 => k_is)
    (case l34 => k_is)
    (case c34 => k_is)
    (case k34 => k_is)
    (case x35 => k_is)
    (case x36 => k_is)
    (case x37 => rfl)
    (case x38 => k_is)
    (case x39 => k_is)
    (case x40 => k_is)
    (case x41 => k_is)
    (case x42 => k_is)
    (case x43 => k_is)
    (case x44 => k_is)
    (case x45 => k_is)
    (case x46 => k_is)
    (case x47 => k_is)
    (case x48 => k_is)
    (case x49 => k_is)
    (case x50 => k_is)
    (case x51 => k_is)
    (case x52 => kernel_rfl)
    (case x53 => k_is)
    (case x54 => k_is)
    (case x55 => k_is)
    (case x56 => k_is)
    (case x57 => k_is)
    (case x58 => k_is)
    (case x59 => k_is)
    (case x60 => k_is)
    (case x61 => k_is)
    (case x62 => rfl)
    (case x63 => rfl)
    (case x64 => k_is)
    (case x65 => k_is)
    (case x66 => k_is)
    (case x67 => k_is)
    (case x68 => k_is)
    (case x69 => k_is)
    (case x70 => kernel_rfl)
    (case x71 => kernel_rfl)
    (case x72 => kernel_rfl)
    (case x73 => kernel_rfl)
    (case x74 => kernel_rfl)
    (case x75 => kernel_rfl)
    (case x76 => kernel_rfl)
    (case x77 => kernel_rfl)
    (case x78 => k_is)
    (case x79 => k_is)
    (case x80 => k_is)
    (case x81 => k_is)
    (case x82 => k_is)
    (case x83 => k_is)
    (case x84 => kernel_rfl)
    (case x85 => k_is)
    (case x86 => k_is)
    (case x87 => k_is)
    (case x88 => k_is)
    (case x89 => k_is)
    (case x90 => k_is)
    (case x91 => k_is)
    (case x92 => k_is)
    (case x93 => k_is)
    (case x94 => rfl)
    (case x95 => rfl)
    (case x96 => k_is)
    (case x97 => k_is)
    (case x98 => k_is)
    (case x99 => k_is)
    (case x100 => k_is)
    (case x101 => k_is)
    (case x102 => kernel_rfl)
    (case x103 => kernel_rfl)
    (case x104 => kernel_rfl)
    (case x105 => kernel_rfl)
    (case x106 => kernel_rfl)
    (case x107 => kernel_rfl)
    (case x108 => kernel_rfl)
    (case x109 => kernel_rfl)
    (case x110 => kernel_rfl)
    (case x111 => kernel_rfl)
    (case z112 => k_is)
    (case z113 => k_is)
    (case z114 => k_is)
    (case z115 => k_is)
    (case z116 => k_is)
    (case z117 => k_is)
    (case z118 => k_is)
    (case z119 => k_is)
    (case z120 => k_is)
    (case z121 => k_is)
    (case z122 => k_is)
    (case z123 => k_is)
