import PyProof.Rows.All
import Wide.All
import OpenK.AllK
import Wide.FinOn
import HandS.Base
import HandS.Call
import HandS.List
import HandS.Comp
import HandS.Ends
import HandS.Words
import HandS.Wide
import HandS.WideBits
import HandS.More
import HandS.IsInst
import HandS.CallLocal
import HandS.Text
import HandS.Iter
import HandS.Dict
import HandS.Defaults
import HandS.DeepEq
import HandS.Codes
import HandS.Zip
import HandS.Walk
import HandS.TupAny
import KE.GoesEnum
import KE.GoesMore
import HandS.Style
import HandS.Conv
import PySem.Challenge.RW_beatfabric_k77_wrong_bits
set_option Elab.async false
set_option linter.all false
set_option maxRecDepth 100000
set_option maxHeartbeats 4000000
namespace Bf
open PySem PySem.Spec PyProof.Rows L2

/-! ### rules that the layer lacks -/
section
variable {X : Cx}
def rGetL : V → V → Hp → VK → Prop := fun o i H Q => ∃ p xs k v, o = .ref p ∧ i = .int k ∧ H p = some (.lst xs) ∧ atI xs k = some v ∧ Q v H
theorem get_list : PGet X rGetL := by
  intro pins s σ H o i ov iv Q I ro ri h
  obtain ⟨p, xs, k, z, rfl, rfl, hp, he, q⟩ := h
  cases ro
  obtain ⟨t, rfl⟩ := ri
  obtain ⟨its, r, pl, hz⟩ := I.list (SqL.of hp)
  obtain ⟨j, h1, h2, h3, h4, h5⟩ := atI_get he
  obtain ⟨w, ew, rw'⟩ := r.get h2
  have hl := r.length
  have hn := line63
  have fin : EP X pins σ Q w s := ⟨z, H, I, rw', q⟩
  by_cases h0 : 0 ≤ k
  · have hj : k.toNat = j := by
      rw [seqIndex_of h0 h5] at h1
      exact Option.some.inj h1
    refine PySem.wpAny_getItem_list pl.isList h0 (by omega) (by rw [hj]; simpa using ew) fin
  · have hj : (k + (its.toArray.size : Int)).toNat = j := by
      rw [seqIndex_neg (by omega) h4] at h1
      rw [List.size_toArray, ← hl]
      exact Option.some.inj h1
    exact wpAny_getItem_list_neg pl.isList (by omega) (by rw [List.size_toArray] <;> omega) (by omega) (by rw [hj]; simpa using ew) fin

/-- max, min of two numbers that are not negative -/
theorem cr_maxN (hc : X.calm = true) : CallR X (.builtin "max") (fun xs H Q => ∃ i j : Nat, xs = [V.int i, V.int j] ∧ Q (V.int ((max i j : Nat) : Int)) H) := by
  intro pins s σ H vs us Q I r h
  obtain ⟨i, j, rfl, q⟩ := h
  refine call_max2 hc pins s σ H _ us Q I r ⟨i, j, rfl, ?_⟩
  have e : (if (j : Int) > (i : Int) then (j : Int) else (i : Int)) = ((max i j : Nat) : Int) := by
    by_cases h : (j : Int) > i
    · rw [if_pos h, Nat.max_eq_right (by omega)]
    · rw [if_neg h, Nat.max_eq_left (by omega)]
  rw [e]
  exact q
theorem cr_minN (hc : X.calm = true) : CallR X (.builtin "min") (fun xs H Q => ∃ i j : Nat, xs = [V.int i, V.int j] ∧ Q (V.int ((min i j : Nat) : Int)) H) := by
  intro pins s σ H vs us Q I r h
  obtain ⟨i, j, rfl, q⟩ := h
  refine call_min2 hc pins s σ H _ us Q I r ⟨i, j, rfl, ?_⟩
  have e : (if (j : Int) < (i : Int) then (j : Int) else (i : Int)) = ((min i j : Nat) : Int) := by
    by_cases h : (j : Int) < i
    · rw [if_pos h, Nat.min_eq_right (by omega)]
    · rw [if_neg h, Nat.min_eq_left (by omega)]
  rw [e]
  exact q
/-- sum of a tuple of ints -/
def rSumT (K : PySem.W.Frag) : List V → Hp → VK → Prop := fun vs H Q => ∃ (a : Addr) (ns : List Int), vs = [V.ref a] ∧ SqT K H a (ns.map V.int) ∧ Q (.int ns.sum) H
theorem cr_sumT (hc : X.calm = true) : CallR X (.builtin "sum") (rSumT X.K) := by
  intro pins s σ H vs us Q I r h
  obtain ⟨a, ns, rfl, hs, q⟩ := h
  obtain ⟨its, rv, hl, _⟩ := I.tuple hs
  rw [Vals.ref1 r]
  obtain ⟨xs, e⟩ := rv.ints.allInts.items
  have hn : numsOf (intItems xs).toList = ns := by rw [← e]; exact rv.ints.numsOf
  rw [nums_intItems] at hn
  have hl' : s.heap.IsTuple a (intItems xs) := by
    rw [← e]
    exact hl
  refine PySem.W.ktm_sumG (I.ok.hd hc) hl' fun h' tk t' hk => ?_
  rw [preSum_eq, List.take_of_length_le (by simp), hn]
  exact ⟨.int _, H, I.kept hk, ⟨_, rfl⟩, q⟩
end

/-- a def that stands, with its promise -/
def vI (n : Nat) : V := .int (n : Int)
structure Dn (P : Program) (w : World) (K : PySem.W.Frag) (mg : Str → Option Value) (base : Heap) (x : Str) (ps : List Str) (k : Nat) (sp : Sp) : Prop where
  ex : ∃ (f : Addr) (fd : FuncData), FnOk P w K mg base CX0 k f fd ps sp ∧ mg x = some (.ref f) ∧ PySem.W.keepIn K (.ref f) = true ∧ Binds K fd ps []
def tCallD (sp : Sp) (t : TA) : TE := fun σ H Q => t σ H fun vs H1 => sp vs H1 Q E0
section
variable {X : Cx} {x : Str} {ps : List Str} {k : Nat} {sp : Sp} {e : Expr} {es : List Expr} {t : TA} {p pos : Pos}
theorem pe_dn (D : Dn X.prog X.w X.K X.mg X.base x ps k sp) (hr : Room k X.A) (hg : Gl X x) (ha : PA X (e :: es) t) (hdb : (x == ("__debug__" : Str)) = false := by decide)
    (he : starEach (e :: es) X.env = (false, eval e X.env) :: starEach es X.env := by rfl) (hpl : (backTo pos (starEach es X.env)).any (·.1) = false := by rfl) :
    PE X (.Call (.Name x p) (e :: es) [] pos) (tCallD sp t) := by
  obtain ⟨f, fd, F, hm, hk, hb⟩ := D.ex
  refine ⟨fun pins s σ H Q I h => (pe_call (E := E0) F hr hg hm hk hb .nil pass0 ha hdb he hpl).run pins s σ H Q I ?_⟩
  have e0 : (fun (vs : List V) (H1 : Hp) => sp (vs ++ []) H1 Q E0) = fun vs H1 => sp vs H1 Q E0 := by
    funext vs H1
    rw [List.append_nil]
  show t σ H (fun vs H1 => sp (vs ++ []) H1 Q E0)
  rw [e0]
  exact h
theorem pe_dn0 (D : Dn X.prog X.w X.K X.mg X.base x ps k sp) (hr : Room k X.A) (hg : Gl X x) (hdb : (x == ("__debug__" : Str)) = false := by decide) :
    PE X (.Call (.Name x p) [] [] pos) (tCallD sp tNil) := by
  obtain ⟨f, fd, F, hm, hk, hb⟩ := D.ex
  exact ⟨fun pins s σ H Q I h => (pe_call0 (E := E0) F hr hg hm hk hb .nil pass0 hdb).run pins s σ H Q I h⟩
end
/-- the same where the last arguments are defaults -/
structure DnD (P : Program) (w : World) (K : PySem.W.Frag) (mg : Str → Option Value) (base : Heap) (x : Str) (ps : List Str) (dvs : List V) (k : Nat) (sp : Sp) : Prop where
  ex : ∃ (f : Addr) (fd : FuncData) (ds : List Value), FnOk P w K mg base CX0 k f fd ps sp ∧ mg x = some (.ref f) ∧ PySem.W.keepIn K (.ref f) = true ∧ Binds K fd ps ds ∧ Vals dvs ds
theorem pe_dnD {X : Cx} {x : Str} {ps : List Str} {dvs : List V} {k : Nat} {sp : Sp} {e : Expr} {es : List Expr} {t : TA} {p pos : Pos} (D : DnD X.prog X.w X.K X.mg X.base x ps dvs k sp) (hr : Room k X.A) (hg : Gl X x) (ha : PA X (e :: es) t) (hdb : (x == ("__debug__" : Str)) = false := by decide)
    (he : starEach (e :: es) X.env = (false, eval e X.env) :: starEach es X.env := by rfl) (hpl : (backTo pos (starEach es X.env)).any (·.1) = false := by rfl) :
    PE X (.Call (.Name x p) (e :: es) [] pos) (tCall sp dvs E0 t) := by
  obtain ⟨f, fd, ds, F, hm, hk, hb, hv⟩ := D.ex
  exact pe_call (E := E0) F hr hg hm hk hb hv pass0 ha hdb he hpl
/-- a def of the text, its promise: the level a letter -/
theorem Dn.mk' {P : Program} {w : World} {K : PySem.W.Frag} {mg : Str → Option Value} {base : Heap} {x : Str} {st : Stmt} {ps : List Str} {k : Nat} {sp : Sp} {f : Addr} {fd : FuncData}
    (F : Fun K x x st f fd) (hm : mg x = some (.ref f)) (hb : Binds K fd ps []) (ok : FnOk P w K mg base CX0 k f fd ps sp) : Dn P w K mg base x ps k sp :=
  ⟨f, fd, ok, hm, F.kp, hb⟩
end Bf
namespace Bf
open PySem PySem.Spec PyProof.Rows L2
section
variable {X : Cx} {d : Addr} {es : Array DictEntry} {n : Nat}
/-- d[k], d a dict of the module with text keys -/
theorem ix_kd (D : KDict X.K X.w d es n) : IxR X (fun x y H Q => ∃ (z : Str) (u0 : Value) (v0 : V), x = .ref d ∧ y = .str z ∧ PySem.W.nsIn X.K d z = some (some u0) ∧ RelV v0 u0 ∧ Q v0 H) := by
  intro value slice pins s σ H x y v u Q I rx ry h hs
  have h0 := h
  obtain ⟨z, u0, v0, rfl, rfl, e, r, q⟩ := h
  cases rx
  exact tail_any (kd_type D I) PySem.slot_dict_getitem.lookup (op_item_kd D pins s σ H (V.ref d) (V.str z) _ u Q I (show RelV (V.ref d) (Value.ref d) from rfl) ry h0) hs
/-- of several defs that the slot may hold: the def and its promise are told in the reading -/
def tCallH (P : Program) (w : World) (K : PySem.W.Frag) (mg : Str → Option Value) (base : Heap) (k i : Nat) (t : TA) : TE := fun σ H Q => ∃ f sp fd ps, σ[i]? = some (some (.ref f)) ∧ FnOk P w K mg base CX0 k f fd ps sp ∧ PySem.W.keepIn K (.ref f) = true ∧ Binds K fd ps [] ∧ t σ H fun vs H1 => sp vs H1 Q E0
theorem pe_held {i k : Nat} {x : Str} {p pos : Pos} {e : Expr} {es : List Expr} {t : TA} (hr : Room k X.A) (hN : X.N[i]? = some x) (hv : Vis X.env.scope x) (ha : PA X (e :: es) t)
    (hdb : (x == ("__debug__" : Str)) = false := by decide) (hcd : (x == ("__classdict__" : Str)) = false := by decide)
    (he : starEach (e :: es) X.env = (false, eval e X.env) :: starEach es X.env := by rfl) (hpl : (backTo pos (starEach es X.env)).any (·.1) = false := by rfl) : PE X (.Call (.Name x p) (e :: es) [] pos) (tCallH X.prog X.w X.K X.mg X.base k i t) := by
  refine ⟨fun pins s σ H Q I h => ?_⟩
  obtain ⟨f, sp, fd, ps, hs, F, hk, hb, ht⟩ := h
  refine (pe_callL (i := i) (f := f) (sp := sp) (dvs := []) (E := E0) F hr hN hv hk hb .nil pass0 ha hdb hcd he hpl).run pins s σ H Q I ⟨hs, ?_⟩
  have e0 : (fun (vs : List V) (H1 : Hp) => sp (vs ++ []) H1 Q E0) = fun vs H1 => sp vs H1 Q E0 := by
    funext vs H1
    rw [List.append_nil]
  show t σ H (fun vs H1 => sp (vs ++ []) H1 Q E0)
  rw [e0]
  exact ht
end
end Bf

set_option Elab.async false
set_option linter.all false
set_option maxRecDepth 100000
set_option maxHeartbeats 4000000
namespace Bf
open PySem PySem.Spec PyProof.Rows L2
/-! ### small steps of a reading -/
theorem ifY {c : Bool} {A B : Prop} (e : c = true) (h : A) : if c = true then A else B := by
  rw [if_pos e]
  exact h
theorem ifN {c : Bool} {A B : Prop} (e : c = false) (h : B) : if c = true then A else B := by
  rw [e]
  exact iteF h
theorem rdL {K : PySem.W.Frag} {H : Hp} {a : Addr} {xs : List V} {i : Int} {v : V} {Q : VK} (h : SqL K H a xs) (e : atI xs i = some v) (k : Q v H) : rIxL K (.ref a) (.int i) H Q := ⟨a, xs, _, v, rfl, rfl, h, e, k⟩
theorem rdC {v : V} {σ : L2.St} {H : Hp} {Q : VK} (k : Q v H) : tC v σ H Q := k
theorem seqNew {K : PySem.W.Frag} {H : Hp} {a p : Addr} {o : HO} {xs : List V} (hp : H p = none) (h : SqL K H a xs) : SqL K (upd H p o) a xs := by
  rcases h with (h | ⟨u, h⟩) | h
  · exact .inl (.inl (by rw [upd_ne (ne_of_none h hp)]; exact h))
  · exact .inl (.inr ⟨u, by rw [upd_ne (ne_of_none h hp)]; exact h⟩)
  · exact .inr h
theorem le1000 {n : Nat} (h : n ≤ 1000) : n ≤ sizeLine := Nat.le_of_lt (small1000 h)
end Bf

set_option Elab.async false
set_option linter.all false
set_option maxRecDepth 100000
set_option maxHeartbeats 4000000
namespace Bf
open PySem PySem.Spec PyProof.Rows L2

/-! ### what enumerate and zip walk: a list or a tuple -/
structure Src where
  sq : PySem.W.Frag → Hp → Addr → List V → Prop
  itr : Heap → Addr → Addr → Nat → Prop
  isS : Heap → Addr → Array Value → Prop
  ob : Addr → Obj
  inv : ∀ {X : Cx} {pins : List (Addr × Obj)} {σ : L2.St} {H : Hp} {s : Shared} {a : Addr} {xs : List V}, Inv X pins σ H s → sq X.K H a xs → ∃ its : List Value, Vals xs its ∧ isS s.heap a its.toArray
  inj : ∀ {X : Cx} {pins : List (Addr × Obj)} {σ : L2.St} {H : Hp} {s : Shared} {a : Addr} {xs ys : List V}, Inv X pins σ H s → sq X.K H a xs → sq X.K H a ys → xs = ys
  draws : ∀ {prog : Program} {w : World} {A : Around}, A.handled = none → ∀ (it l : Addr), l ≠ it → ∀ (items : Array Value), Draws prog w A it [it, l] items.size (fun i v => items[i]? = some v) (fun i h => itr h it l i ∧ isS h l items)
  obj : ∀ {h : Heap} {it a : Addr} {i : Nat}, itr h it a i → ∃ o, h.get? it = some o ∧ ∀ v, o.data ≠ .cell v
  at_ : ∀ {h h' : Heap} {it a : Addr} {i : Nat}, itr h it a i → (∀ o, h.get? it = some o → h'.get? it = some o) → itr h' it a i
  beg : ∀ (a : Addr) (items : Array Value), Begins (.ref a) (ob a) (fun h => isS h a items)
  start : ∀ {h : Heap} {it a : Addr}, h.get? it = some (ob a) → itr h it a 0
  lt : ∀ {h : Heap} {a : Addr} {items : Array Value}, isS h a items → a < h.objs.size
  keep : ∀ {K : PySem.W.Frag} {H H' : Hp} {a : Addr} {xs : List V}, Same H H' → sq K H a xs → sq K H' a xs
theorem seqT_same {K : PySem.W.Frag} {H H' : Hp} {a : Addr} {xs : List V} (k : Same H H') (h : SqT K H a xs) : SqT K H' a xs := by
  rcases h with (h | ⟨u, h⟩) | h
  · exact .inl (.inl (k _ _ h))
  · exact .inl (.inr ⟨u, k _ _ h⟩)
  · exact .inr h

def srcL : Src where
  sq := fun K H a xs => SqL K H a xs
  itr := fun h it a i => h.IsListIter it a i
  isS := fun h a items => h.IsList a items
  ob := fun a => { cls := .type "list_iterator", data := .fields #[.ref a, .int 0 0] }
  inv := fun I h => let ⟨its, r, p, _⟩ := I.list h; ⟨its, r, p.isList⟩
  inj := fun I h h' => I.list_inj h h'
  draws := fun hh it l hne items => Draws.list hh it l hne items
  obj := fun ⟨o, e, c, d⟩ => ⟨o, e, fun v z => by rw [d] at z; cases z⟩
  at_ := fun x k => x.at k
  beg := fun a items => begins_list a items
  start := fun e => ⟨_, e, rfl, rfl⟩
  lt := fun ⟨o, e, _⟩ => Heap.lt_size e
  keep := fun k h => k.seq h

def srcT : Src where
  sq := fun K H a xs => SqT K H a xs
  itr := fun h it a i => h.IsTupleIter it a i
  isS := fun h a items => h.IsTuple a items
  ob := fun a => { cls := .type "tuple_iterator", data := .fields #[.ref a, .int 0 0] }
  inv := fun I h => let ⟨its, r, p, _⟩ := I.tuple h; ⟨its, r, p⟩
  inj := fun I h h' => I.tuple_inj h h'
  draws := fun hh it l hne items => Draws.tuple hh it l hne items
  obj := fun ⟨o, e, c, d⟩ => ⟨o, e, fun v z => by rw [d] at z; cases z⟩
  at_ := fun x k => x.at k
  beg := fun a items => begins_tuple a items
  start := fun e => ⟨_, e, rfl, rfl⟩
  lt := fun ⟨o, e, _⟩ => Heap.lt_size e
  keep := fun k h => seqT_same k h

/-! ### enumerate -/
def ItE (S : Src) (K : PySem.W.Frag) (a : Addr) : It :=
  ⟨fun i H => ∃ (xs : List V) (x : V), S.sq K H a xs ∧ xs[i]? = some x, fun i H v H' => ∃ T x, v = .ref T ∧ H T = none ∧ H' = upd H T (.tup [.int (i : Nat), x]) ∧ ∀ xs, S.sq K H a xs → xs[i]? = some x, fun i H => ∃ xs : List V, S.sq K H a xs ∧ xs.length = i⟩

theorem turn_enumG (S : Src) {P : Program} {w : World} {K : PySem.W.Frag} {elts : List Expr} {kk : Nat} {tpos : Pos} (a e it : Addr) :
    Turn P w K (.Tuple elts kk tpos) (ItE S K a) [e, it] e (fun i h => (∃ old, IsEnum h e it ((i : Nat) : Int) old) ∧ S.itr h it a i ∧ e ≠ it ∧ e ≠ a ∧ a ≠ it) where
  mem := by simp
  obj := fun i h st b hb => by
    obtain ⟨⟨old, he⟩, hi, _⟩ := st
    have e' : b = e ∨ b = it := by simpa using hb
    rcases e' with z | z
    · rw [z]; exact ⟨_, he, fun v q => nomatch q⟩
    · rw [z]; exact S.obj hi
  keep := fun i h h' st k => let ⟨⟨old, he⟩, hi, r⟩ := st; ⟨⟨old, k e (by simp) _ he⟩, S.at_ hi fun o q => k it (by simp) o q, r⟩
  item := by
    intro X hP hw hK hc i pins s σ H E I hf st hg
    subst hP hw hK
    obtain ⟨⟨old, he⟩, hit, hne, hea, hai⟩ := st
    obtain ⟨xs, x, hq, hx⟩ := hg
    obtain ⟨its, rv, p⟩ := S.inv I hq
    obtain ⟨u, hu, ru⟩ := rv.get hx
    have hel : e < s.heap.objs.size := Heap.lt_size he
    have hil : it < s.heap.objs.size := by obtain ⟨_, q, _⟩ := S.obj hit; exact Heap.lt_size q
    have hlt : i < its.toArray.size := by
      have q := (List.getElem?_eq_some_iff.mp hu).1
      simpa using q
    refine wpAny_pyNext_enum_itemD (S.draws (show X.A.in1.handled = none from I.ok.hd hc) it a hai its.toArray) he ⟨hit, p⟩ hlt hne (by simp [hne, hea]) fun v h' tk hv ho hst hT hsz hk => ?_
    have ev : u = v := by
      have q : its[i]? = some v := by simpa using hv
      rw [hu] at q; cases q; rfl
    subst ev
    refine ⟨_, rfl, wpAny_letOwnedTupleGo_enum (s := { s with heap := h', toks := tk + 1 }) ho fun h'' he' sb => ?_⟩
    have hT2 : h''.get? s.heap.objs.size = some { cls := .type "tuple", data := .seq #[.int i tk, u] } := (sb.2 _ (Nat.ne_of_gt hel)).trans hT
    have new : ObjOk X.prog X.w (upd H s.heap.objs.size (.tup [.int (i : Nat), x])) h'' s.heap.objs.size (.tup [.int (i : Nat), x]) :=
      ⟨by show 2 ≤ sizeLine; decide, [.int i tk, u], .cons ⟨_, rfl⟩ (.cons ru .nil), ⟨_, hT2, rfl, _, rfl⟩⟩
    have I1 : Inv X pins σ (upd H s.heap.objs.size (.tup [.int (i : Nat), x])) { s with heap := h'', toks := tk + 1 } :=
      I.turnedNew (ch := [e, it]) (fun b ob hb q => (sb.2 b (fun z => hb (by simp [z]))).trans (hk b ob (fun z => hb (by simp [z])) (fun z => hb (by simp [z])) q)) hf (Nat.le_refl _) new
    refine ⟨.ref s.heap.objs.size, _, I1, rfl, ⟨_, x, rfl, I.hok.fresh (Nat.le_refl _), rfl, fun ys hy => by rw [S.inj I hy hq]; exact hx⟩, ⟨⟨u, ?_⟩, S.at_ hst.1 fun o q => (sb.2 it (Ne.symm hne)).trans q, hne, hea, hai⟩, fun b hb => ?_⟩
    · have e1 : ((i + 1 : Nat) : Int) = (i : Int) + 1 := by omega
      rw [e1]; exact he'
    · have hb' : b < s.heap.objs.size := by
        have e' : b = e ∨ b = it := by simpa using hb
        rcases e' with z | z
        · rw [z]; exact hel
        · rw [z]; exact hil
      rw [upd_ne (Nat.ne_of_lt hb')]
      exact (hf b hb).1
  done := by
    intro X hP hw hK hc i pins s σ H E I hf st hg
    subst hP hw hK
    obtain ⟨⟨old, he⟩, hit, hne, hea, hai⟩ := st
    obtain ⟨xs, hq, hx⟩ := hg
    obtain ⟨its, rv, p⟩ := S.inv I hq
    obtain ⟨f0, f1, f2, f3, f4, f5⟩ := hf it (by simp)
    have hl := rv.length
    have hn : its.toArray.size = i := by rw [List.size_toArray]; omega
    subst hn
    exact wpAny_pyNext_enum_endD (S.draws (show X.A.in1.handled = none from I.ok.hd hc) it a hai its.toArray) he ⟨hit, p⟩ fun h' eb => ⟨rfl, I.turned (t' := s.toks) (fun b o hb q => eb b o hb q) f0 f1 f3 f4 f5⟩
  self := fun A i s Q E st h => let ⟨⟨_, he⟩, _⟩ := st; wpAny_pyIter_enum he h

theorem meets_enum_new0 {v : Value} {o : Obj} {H : Heap → Prop} (B : Begins v o H) :
    Meets (Builtin.«enumerate.__new__» ⟨[.type "enumerate", v], []⟩) (fun _ R s => H s.heap ∧
      R (.ok (.ret (.ref (s.heap.push o).objs.size))) { s with heap := (s.heap.push o).push { cls := .type "enumerate", data := .fields #[.none, .bool false, .ref s.heap.objs.size, rawInt 0, .none, .none] } }) :=
  .of_wp fun prog w A R s h => by
    obtain ⟨hp, g, d, tk, os⟩ := s; obtain ⟨h1, h⟩ := h
    have hsub := sub_enumerate
    have q1 : ∀ {A' : Around} {E : Value → Shared → Prop} {Q : Value → Shared → Prop}, Q (.ref hp.objs.size) ⟨hp.push o, g, d, tk, os⟩ → wpAny (model prog w) A' (pyIter v) Q E ⟨hp, g, d, tk, os⟩ :=
      fun q => B.iter prog w _ _ ⟨hp, g, d, tk, os⟩ _ h1 q
    wp_walk using q1
    refine wpAny_stack_any fun st => wpAny_pure ?_
    split
    · rename_i c _ _ _ _ _
      cases (c == Value.type "enumerate")
      · wp_walk using q1
        exact ⟨_, rfl, h⟩
      · wp_walk using q1
        exact ⟨_, rfl, h⟩
    · wp_walk using q1
      exact ⟨_, rfl, h⟩
section
variable {prog : Program} {w : World} {A : Around} {E : Value → Shared → Prop} {s : Shared}
theorem enum_begins0 {v : Value} {o : Obj} {H : Heap → Prop} {Q : Value → Shared → Prop} (B : Begins v o H) (h1 : H s.heap)
    (h : ∀ h', IsEnum h' (s.heap.objs.size + 1) s.heap.objs.size 0 .none → h'.get? s.heap.objs.size = some o → h'.objs.size = s.heap.objs.size + 2 →
      (∀ b o, s.heap.get? b = some o → h'.get? b = some o) → Q (.ref (s.heap.objs.size + 1)) { s with heap := h' }) :
    wpAny (model prog w) A (call (.type "enumerate") [v]) Q E s := by
  refine callType_new F.called_enumerate (by decide) (F.typeCall_enumerate_1 _) (F.newCall_enumerate_1 _) (fun obj => F.args_object_init_2 obj _) F.entry_enumerate_new
    (meets_enum_new0 B) ⟨h1, ?_⟩
  have hz : (s.heap.push o).objs.size = s.heap.objs.size + 1 := Heap.size_push ..
  show _ ∧ _
  rw [hz]
  have he : IsEnum ((s.heap.push o).push { cls := .type "enumerate", data := .fields #[.none, .bool false, .ref s.heap.objs.size, rawInt 0, .none, .none] }) (s.heap.objs.size + 1) s.heap.objs.size 0 .none := by
    have := Heap.get?_push_size (s.heap.push o) (o := { cls := .type "enumerate", data := .fields #[.none, .bool false, .ref s.heap.objs.size, rawInt 0, .none, .none] }) rfl
    rw [hz] at this; exact this
  exact ⟨⟨_, he, rfl⟩, h _ he (Heap.get?_push_of_some _ (Heap.get?_push_size _ B.free)) (by rw [Heap.size_push, hz]) fun b o x => Heap.get?_push_of_some _ (Heap.get?_push_of_some _ x)⟩
end
def iEnG (S : Src) (K : PySem.W.Frag) (ta : TA) : TI := fun σ H R => ta σ H fun vs H1 => ∃ a xs, vs = [.ref a] ∧ S.sq K H1 a xs ∧ R (ItE S K a) H1
theorem enumG_run (S : Src) {X : Cx} {pins : List (Addr × Obj)} {σ : L2.St} {H1 : Hp} {s1 : Shared} {us : List Value} {vs : List V} {elts : List Expr} {kk : Nat} {tpos : Pos} {R : It → Hp → Prop} (I1 : Inv X pins σ H1 s1) (r1 : Vals vs us)
    (q1 : ∃ (a : Addr) (xs : List V), vs = [.ref a] ∧ S.sq X.K H1 a xs ∧ R (ItE S X.K a) H1) :
    wpAny (model X.prog X.w) X.A (call (.type "enumerate") us) (fun v s1 => wpAny (model X.prog X.w) X.A (pyIter v) (PIE X pins σ (.Tuple elts kk tpos) R) X.xe s1) X.xe s1 := by
  obtain ⟨a, xs, ex, hq, q⟩ := q1
  subst ex
  cases r1 with
  | cons r rr =>
    cases rr
    cases r
    obtain ⟨its, rv, p'⟩ := S.inv I1 hq
    have la := S.lt p'
    refine enum_begins0 (S.beg a its.toArray) p' fun h' he hit hsz hk => wpAny_pyIter_enum he ?_
    have I2 : Inv X pins σ H1 { s1 with heap := h' } := I1.kept (t' := s1.toks) hk
    refine ⟨s1.heap.objs.size + 1, [s1.heap.objs.size + 1, s1.heap.objs.size], _, _, H1, rfl, I2, turn_enumG S a (s1.heap.objs.size + 1) s1.heap.objs.size, ⟨⟨.none, he⟩, S.start hit, Nat.succ_ne_self _, Nat.ne_of_gt (Nat.lt_succ_of_lt la), Nat.ne_of_lt la⟩, fun b hb => ?_, q⟩
    have e' : b = s1.heap.objs.size + 1 ∨ b = s1.heap.objs.size := by simpa using hb
    have hle : s1.heap.objs.size ≤ b := by
      rcases e' with z | z
      · rw [z]; exact Nat.le_add_right _ _
      · rw [z]; exact Nat.le_refl _
    exact I1.fpOk hle (I1.hok.fresh hle)

/-! ### zip of two -/
def ItZ (S1 S2 : Src) (K : PySem.W.Frag) (a b : Addr) : It :=
  ⟨fun i H => ∃ (xs ys : List V) (x y : V), S1.sq K H a xs ∧ S2.sq K H b ys ∧ xs[i]? = some x ∧ ys[i]? = some y,
    fun i H v H' => ∃ T x y, v = .ref T ∧ H T = none ∧ H' = upd H T (.tup [x, y]) ∧ (∀ xs, S1.sq K H a xs → xs[i]? = some x) ∧ ∀ ys, S2.sq K H b ys → ys[i]? = some y,
    fun i H => ∃ xs ys : List V, S1.sq K H a xs ∧ S2.sq K H b ys ∧ i ≤ xs.length ∧ i ≤ ys.length ∧ (i = xs.length ∨ i = ys.length)⟩
theorem turn_zipG (S1 S2 : Src) {P : Program} {w : World} {K : PySem.W.Frag} {elts : List Expr} {kk : Nat} {tpos : Pos} {a b z TI TO i1 i2 : Addr} (D : ZipSep2 z TI TO i1 i2 [i1, a] [i2, b]) (ha1 : a ≠ i1) (hb2 : b ≠ i2) :
    Turn P w K (.Tuple elts kk tpos) (ItZ S1 S2 K a b) [z, TI, TO, i1, i2] z (fun i h => IsZip h z TI TO .none ∧ IsTupOf2 h TI (.ref i1) (.ref i2) ∧ (∃ x y, IsTupOf2 h TO x y) ∧ S1.itr h i1 a i ∧ S2.itr h i2 b i) where
  mem := by simp
  obj := fun i h st c hc => by
    obtain ⟨hz, hTI, ⟨x, y, hTO⟩, h1, h2⟩ := st
    have e' : c = z ∨ c = TI ∨ c = TO ∨ c = i1 ∨ c = i2 := by simpa using hc
    rcases e' with q | q | q | q | q
    · rw [q]; exact ⟨_, hz, fun v q => nomatch q⟩
    · rw [q]; exact ⟨_, hTI, fun v q => nomatch q⟩
    · rw [q]; exact ⟨_, hTO, fun v q => nomatch q⟩
    · rw [q]; exact S1.obj h1
    · rw [q]; exact S2.obj h2
  keep := fun i h h' st k => by
    obtain ⟨hz, hTI, ⟨x, y, hTO⟩, h1, h2⟩ := st
    exact ⟨k z (by simp) _ hz, k TI (by simp) _ hTI, ⟨x, y, k TO (by simp) _ hTO⟩, S1.at_ h1 fun o q => k i1 (by simp) o q, S2.at_ h2 fun o q => k i2 (by simp) o q⟩
  item := by
    intro X hP hw hK hc i pins s σ H E I hf st hg
    subst hP hw hK
    obtain ⟨hz, hTI, ⟨x0, y0, hTO⟩, h1, h2⟩ := st
    obtain ⟨xs, ys, x, y, hqx, hqy, hx, hy⟩ := hg
    obtain ⟨its, rv, p⟩ := S1.inv I hqx
    obtain ⟨its2, rv2, p2⟩ := S2.inv I hqy
    obtain ⟨u, hu, ru⟩ := rv.get hx
    obtain ⟨u2, hu2, ru2⟩ := rv2.get hy
    have hzl : z < s.heap.objs.size := Heap.lt_size hz
    have hlt : i < its.toArray.size := by
      have q := (List.getElem?_eq_some_iff.mp hu).1
      simpa using q
    have hlt2 : i < its2.toArray.size := by
      have q := (List.getElem?_eq_some_iff.mp hu2).1
      simpa using q
    have hh : X.A.in1.handled = none := I.ok.hd hc
    refine wpAny_pyNext_zipD2_item D (S1.draws hh i1 a ha1 its.toArray) (S2.draws hh i2 b hb2 its2.toArray) hz hTI hTO ⟨h1, p⟩ ⟨h2, p2⟩ hlt hlt2 fun v v2 h' tk hv hv2 z' TO' st1 st2 hT hsz hk => ?_
    have ev : u = v := by
      have q : its[i]? = some v := by simpa using hv
      rw [hu] at q; cases q; rfl
    have ev2 : u2 = v2 := by
      have q : its2[i]? = some v2 := by simpa using hv2
      rw [hu2] at q; cases q; rfl
    subst ev ev2
    refine ⟨_, rfl, wpAny_letOwnedTupleGo_zip (s := { s with heap := h', toks := tk }) z' fun h'' z'' sb => ?_⟩
    have hT2 : h''.get? s.heap.objs.size = some { cls := .type "tuple", data := .seq #[u, u2] } := (sb.2 _ (Nat.ne_of_gt hzl)).trans hT
    have new : ObjOk X.prog X.w (upd H s.heap.objs.size (.tup [x, y])) h'' s.heap.objs.size (.tup [x, y]) :=
      ⟨by show 2 ≤ sizeLine; decide, [u, u2], .cons ru (.cons ru2 .nil), ⟨_, hT2, rfl, _, rfl⟩⟩
    have I1 : Inv X pins σ (upd H s.heap.objs.size (.tup [x, y])) { s with heap := h'', toks := tk } :=
      I.turnedNew (ch := [z, TI, TO, i1, i2]) (fun c o hb q => (sb.2 c (fun q' => hb (by simp [q']))).trans (hk c o (fun q' => hb (by simp [q'])) (fun q' => hb (by simp [q'])) (fun q' => hb (by simp [q'])) (fun q' => hb (by simp [q'])) q)) hf (Nat.le_refl _) new
    have zi1 : i1 ≠ z := fun q => D.zf1 (by simp [q])
    have zi2 : i2 ≠ z := fun q => D.zf2 (by simp [q])
    refine ⟨.ref s.heap.objs.size, _, I1, rfl, ⟨_, x, y, rfl, I.hok.fresh (Nat.le_refl _), rfl, fun l hl => by rw [S1.inj I hl hqx]; exact hx, fun l hl => by rw [S2.inj I hl hqy]; exact hy⟩, ⟨z'', ?_, ⟨u, u2, ?_⟩, ?_, ?_⟩, fun c hcm => ?_⟩
    · exact (sb.2 _ D.TIz).trans (hk _ _ D.TIz D.TITO D.TIi1 D.TIi2 hTI)
    · exact (sb.2 _ D.TOz).trans TO'
    · exact S1.at_ st1.1 fun o q => (sb.2 _ zi1).trans q
    · exact S2.at_ st2.1 fun o q => (sb.2 _ zi2).trans q
    · have hlt : c < s.heap.objs.size := by
        have e' : c = z ∨ c = TI ∨ c = TO ∨ c = i1 ∨ c = i2 := by simpa using hcm
        rcases e' with q | q | q | q | q
        · rw [q]; exact hzl
        · rw [q]; exact Heap.lt_size hTI
        · rw [q]; exact Heap.lt_size hTO
        · rw [q]; obtain ⟨_, e1, _⟩ := S1.obj h1; exact Heap.lt_size e1
        · rw [q]; obtain ⟨_, e2, _⟩ := S2.obj h2; exact Heap.lt_size e2
      rw [upd_ne (Nat.ne_of_lt hlt)]
      exact (hf c hcm).1
  done := by
    intro X hP hw hK hc i pins s σ H E I hf st hg
    subst hP hw hK
    obtain ⟨hz, hTI, ⟨x0, y0, hTO⟩, h1, h2⟩ := st
    obtain ⟨xs, ys, hqx, hqy, le1, le2, hend⟩ := hg
    obtain ⟨its, rv, p⟩ := S1.inv I hqx
    obtain ⟨its2, rv2, p2⟩ := S2.inv I hqy
    have l1 := rv.length
    have l2 := rv2.length
    have hh : X.A.in1.handled = none := I.ok.hd hc
    exact wpAny_pyNext_zipD2_end D (S1.draws hh i1 a ha1 its.toArray) (S2.draws hh i2 b hb2 its2.toArray) hz hTI hTO ⟨h1, p⟩ ⟨h2, p2⟩ (by rw [List.size_toArray]; omega) (by rw [List.size_toArray]; omega)
      (by rw [List.size_toArray, List.size_toArray]; omega) fun h' tk hk => ⟨rfl, I.turnedL (t' := tk) (ch := [z, TI, TO, i1, i2]) (fun c o hb q =>
      hk c o (fun q' => hb (by simp [q'])) (fun q' => hb (by simp [q'])) (fun q' => hb (by simp [q'])) (fun q' => hb (by simp [q'])) q) hf⟩
  self := fun A i s Q E st h => wpAny_pyIter_zip st.1 h
def iZpG (S1 S2 : Src) (K : PySem.W.Frag) (ta : TA) : TI := fun σ H R => ta σ H fun vs H1 => ∃ a b xs ys, vs = [.ref a, .ref b] ∧ S1.sq K H1 a xs ∧ S2.sq K H1 b ys ∧ R (ItZ S1 S2 K a b) H1
theorem zipG_run (S1 S2 : Src) {X : Cx} {pins : List (Addr × Obj)} {σ : L2.St} {H1 : Hp} {s1 : Shared} {us : List Value} {vs : List V} {elts : List Expr} {kk : Nat} {tpos : Pos} {R : It → Hp → Prop} (I1 : Inv X pins σ H1 s1) (r1 : Vals vs us)
    (q1 : ∃ (a b : Addr) (xs ys : List V), vs = [.ref a, .ref b] ∧ S1.sq X.K H1 a xs ∧ S2.sq X.K H1 b ys ∧ R (ItZ S1 S2 X.K a b) H1) :
    wpAny (model X.prog X.w) X.A (call (.type "zip") us) (fun v s1 => wpAny (model X.prog X.w) X.A (pyIter v) (PIE X pins σ (.Tuple elts kk tpos) R) X.xe s1) X.xe s1 := by
  obtain ⟨a, b, xs, ys, ex, hqx, hqy, q⟩ := q1
  subst ex
  cases r1 with
  | cons r rr =>
    cases rr with
    | cons r' rr =>
      cases rr
      cases r
      cases r'
      obtain ⟨its, rv, p1⟩ := S1.inv I1 hqx
      obtain ⟨its2, rv2, p2⟩ := S2.inv I1 hqy
      have la := S1.lt p1
      have lb := S2.lt p2
      refine zip_begins2 (S1.beg a its.toArray) (S2.beg b its2.toArray) p1 p2 fun h' hz hTI hTO h1 h2 hsz hk => wpAny_pyIter_zip hz ?_
      have I2 : Inv X pins σ H1 { s1 with heap := h' } := I1.kept (t' := s1.toks) hk
      refine ⟨s1.heap.objs.size + 4, [s1.heap.objs.size + 4, s1.heap.objs.size + 2, s1.heap.objs.size + 3, s1.heap.objs.size, s1.heap.objs.size + 1], _, _, H1, rfl, I2,
        turn_zipG S1 S2 (zip_sep2 (fp1 := [a]) (fp2 := [b]) (by intro c hc; rw [List.mem_singleton.mp hc]; exact la) (by intro c hc; rw [List.mem_singleton.mp hc]; exact lb)) (Nat.ne_of_lt la) (Nat.ne_of_lt (Nat.lt_succ_of_lt lb)),
        ⟨hz, hTI, ⟨_, _, hTO⟩, S1.start h1, S2.start h2⟩, fun c hcm => ?_, q⟩
      have e' : c = s1.heap.objs.size + 4 ∨ c = s1.heap.objs.size + 2 ∨ c = s1.heap.objs.size + 3 ∨ c = s1.heap.objs.size ∨ c = s1.heap.objs.size + 1 := by simpa using hcm
      have hle : s1.heap.objs.size ≤ c := by
        rcases e' with z | z | z | z | z
        · rw [z]; exact Nat.le_add_right _ _
        · rw [z]; exact Nat.le_add_right _ _
        · rw [z]; exact Nat.le_add_right _ _
        · rw [z]; exact Nat.le_refl _
        · rw [z]; exact Nat.le_add_right _ _
      exact I1.fpOk hle (I1.hok.fresh hle)

/-! ### for over them -/
theorem for_enumG (S : Src) {K : PySem.W.Frag} {a : Addr} {xs : List V} {g : TG} {tb : TS} {D : Ends} {σ : L2.St} {H : Hp} (Pv : Nat → L2.St → Hp → Prop) (h0 : Pv 0 σ H) (hq : ∀ i σ H, Pv i σ H → S.sq K H a xs)
    (hs : ∀ (i : Nat) (x : V) (T : Addr) (σ : L2.St) (H : Hp), xs[i]? = some x → Pv i σ H → H T = none → g (.ref T) σ (upd H T (.tup [.int (i : Nat), x])) fun σ2 H2 => tb { D with nx := Pv (i + 1), ct := Pv (i + 1), bk := D.nx } σ2 H2) (hd : ∀ σ H, Pv xs.length σ H → D.nx σ H) :
    ∃ W : Nat → Nat → L2.St → Hp → Prop, (∃ m, W 0 m σ H) ∧ ∀ i m σ H, W i m σ H →
      ((ItE S K a).stop i H ∧ D.nx σ H) ∨ ((ItE S K a).go i H ∧ ∃ N : L2.St → Hp → Prop, (∀ σ' H', N σ' H' → ∃ m', m' < m ∧ W (i + 1) m' σ' H') ∧ ∀ v H', (ItE S K a).yld i H v H' → g v σ H' fun σ2 H2 => tb { D with nx := N, ct := N, bk := D.nx } σ2 H2) := by
  refine ⟨fun i m σ H => m = xs.length - i ∧ i ≤ xs.length ∧ Pv i σ H, ⟨xs.length, rfl, Nat.zero_le _, h0⟩, ?_⟩
  rintro i m σ H ⟨rfl, hi, p⟩
  have qx := hq i σ H p
  by_cases hlt : i < xs.length
  · have hx : xs[i]? = some xs[i] := List.getElem?_eq_getElem hlt
    refine .inr ⟨⟨xs, _, qx, hx⟩, Pv (i + 1), fun σ' H' p' => ⟨xs.length - (i + 1), by omega, rfl, hlt, p'⟩, fun v H' y => ?_⟩
    obtain ⟨T, x', rfl, hT, rfl, f1⟩ := y
    exact hs i x' T σ H (f1 xs qx) p hT
  · have e : i = xs.length := by omega
    subst e
    exact .inl ⟨⟨xs, qx, rfl⟩, hd σ H p⟩
theorem for_zipG (S1 S2 : Src) {K : PySem.W.Frag} {a b : Addr} {xs ys : List V} {g : TG} {tb : TS} {D : Ends} {σ : L2.St} {H : Hp} (hl : xs.length = ys.length) (Pv : Nat → L2.St → Hp → Prop) (h0 : Pv 0 σ H) (hq : ∀ i σ H, Pv i σ H → S1.sq K H a xs ∧ S2.sq K H b ys)
    (hs : ∀ (i : Nat) (x y : V) (T : Addr) (σ : L2.St) (H : Hp), xs[i]? = some x → ys[i]? = some y → Pv i σ H → H T = none → g (.ref T) σ (upd H T (.tup [x, y])) fun σ2 H2 => tb { D with nx := Pv (i + 1), ct := Pv (i + 1), bk := D.nx } σ2 H2) (hd : ∀ σ H, Pv xs.length σ H → D.nx σ H) :
    ∃ W : Nat → Nat → L2.St → Hp → Prop, (∃ m, W 0 m σ H) ∧ ∀ i m σ H, W i m σ H →
      ((ItZ S1 S2 K a b).stop i H ∧ D.nx σ H) ∨ ((ItZ S1 S2 K a b).go i H ∧ ∃ N : L2.St → Hp → Prop, (∀ σ' H', N σ' H' → ∃ m', m' < m ∧ W (i + 1) m' σ' H') ∧ ∀ v H', (ItZ S1 S2 K a b).yld i H v H' → g v σ H' fun σ2 H2 => tb { D with nx := N, ct := N, bk := D.nx } σ2 H2) := by
  refine ⟨fun i m σ H => m = xs.length - i ∧ i ≤ xs.length ∧ Pv i σ H, ⟨xs.length, rfl, Nat.zero_le _, h0⟩, ?_⟩
  rintro i m σ H ⟨rfl, hi, p⟩
  obtain ⟨qx, qy⟩ := hq i σ H p
  by_cases hlt : i < xs.length
  · have hx : xs[i]? = some xs[i] := List.getElem?_eq_getElem hlt
    have hlt2 : i < ys.length := by omega
    have hy : ys[i]? = some ys[i] := List.getElem?_eq_getElem hlt2
    refine .inr ⟨⟨xs, ys, _, _, qx, qy, hx, hy⟩, Pv (i + 1), fun σ' H' p' => ⟨xs.length - (i + 1), by omega, rfl, hlt, p'⟩, fun v H' y => ?_⟩
    obtain ⟨T, x', y', rfl, hT, rfl, f1, f2⟩ := y
    exact hs i x' y' T σ H (f1 xs qx) (f2 ys qy) p hT
  · have e : i = xs.length := by omega
    subst e
    exact .inl ⟨⟨xs, ys, qx, qy, Nat.le_refl _, by omega, .inl rfl⟩, hd σ H p⟩

theorem for_zipLe (S1 S2 : Src) {K : PySem.W.Frag} {a b : Addr} {xs ys : List V} {g : TG} {tb : TS} {D : Ends} {σ : L2.St} {H : Hp} (hl : xs.length ≤ ys.length) (Pv : Nat → L2.St → Hp → Prop) (h0 : Pv 0 σ H) (hq : ∀ i σ H, Pv i σ H → S1.sq K H a xs ∧ S2.sq K H b ys)
    (hs : ∀ (i : Nat) (x y : V) (T : Addr) (σ : L2.St) (H : Hp), xs[i]? = some x → ys[i]? = some y → Pv i σ H → H T = none → g (.ref T) σ (upd H T (.tup [x, y])) fun σ2 H2 => tb { D with nx := Pv (i + 1), ct := Pv (i + 1), bk := D.nx } σ2 H2) (hd : ∀ σ H, Pv xs.length σ H → D.nx σ H) :
    ∃ W : Nat → Nat → L2.St → Hp → Prop, (∃ m, W 0 m σ H) ∧ ∀ i m σ H, W i m σ H →
      ((ItZ S1 S2 K a b).stop i H ∧ D.nx σ H) ∨ ((ItZ S1 S2 K a b).go i H ∧ ∃ N : L2.St → Hp → Prop, (∀ σ' H', N σ' H' → ∃ m', m' < m ∧ W (i + 1) m' σ' H') ∧ ∀ v H', (ItZ S1 S2 K a b).yld i H v H' → g v σ H' fun σ2 H2 => tb { D with nx := N, ct := N, bk := D.nx } σ2 H2) := by
  refine ⟨fun i m σ H => m = xs.length - i ∧ i ≤ xs.length ∧ Pv i σ H, ⟨xs.length, rfl, Nat.zero_le _, h0⟩, ?_⟩
  rintro i m σ H ⟨rfl, hi, p⟩
  obtain ⟨qx, qy⟩ := hq i σ H p
  by_cases hlt : i < xs.length
  · have hx : xs[i]? = some xs[i] := List.getElem?_eq_getElem hlt
    have hlt2 : i < ys.length := by omega
    have hy : ys[i]? = some ys[i] := List.getElem?_eq_getElem hlt2
    refine .inr ⟨⟨xs, ys, _, _, qx, qy, hx, hy⟩, Pv (i + 1), fun σ' H' p' => ⟨xs.length - (i + 1), by omega, rfl, hlt, p'⟩, fun v H' y => ?_⟩
    obtain ⟨T, x', y', rfl, hT, rfl, f1, f2⟩ := y
    exact hs i x' y' T σ H (f1 xs qx) (f2 ys qy) p hT
  · have e : i = xs.length := by omega
    subst e
    exact .inl ⟨⟨xs, ys, qx, qy, Nat.le_refl _, by omega, .inl rfl⟩, hd σ H p⟩

/-! ### two tuples of the same numbers -/
theorem canLay_ints : ∀ ns : List Nat, PyData.canLayAll0 (ns.map fun n : Nat => PyData.int (n : Int)) = true
  | [] => by simp [PyData.canLayAll0]
  | n :: r => by
    rw [List.map_cons, PyData.canLayAll0, canLay_ints r]
    simp [PyData.canLay0]
theorem depth_ints : ∀ ns : List Nat, PyData.depthAll (ns.map fun n : Nat => PyData.int (n : Int)) ≤ 1
  | [] => by simp [PyData.depthAll]
  | n :: r => by
    have := depth_ints r
    rw [List.map_cons, PyData.depthAll]
    simp [PyData.depth] <;> omega
theorem dp_ints {K : PySem.W.Frag} {H : Hp} : ∀ ns : List Nat, DpAll K H (ns.map vI) (ns.map fun n : Nat => PyData.int (n : Int))
  | [] => .nil
  | n :: r => .cons (.int _) (dp_ints r)
theorem shaped_ints (ns : List Nat) : SeqAt.shaped (.tuple (ns.map fun n : Nat => PyData.int (n : Int))) = true := by
  have h := depth_ints ns
  unfold SeqAt.shaped
  rw [PyData.canLay0, canLay_ints, Bool.true_and]
  refine decide_eq_true ?_
  rw [PyData.depth]
  omega
def rNeI (K : PySem.W.Frag) : R2 := fun x y H Q => ∃ (a b : Addr) (ns : List Nat), x = .ref a ∧ y = .ref b ∧ SqT K H a (ns.map vI) ∧ SqT K H b (ns.map vI) ∧ Q (.bl false) H
theorem op_neI {X : Cx} (hu : X.A.units + 64 < cLine) : OpR X (compareOp .NotEq) (rNeI X.K) := by
  intro pins s σ H x y v u Q I rx ry h
  obtain ⟨a, b, ns, rfl, rfl, ha, hb, q⟩ := h
  refine op_neD hu pins s σ H _ _ v u Q I rx ry ⟨_, _, .tup ha (dp_ints ns), .tup hb (dp_ints ns), shaped_ints ns, shaped_ints ns, ?_⟩
  rw [SeqAt.eqv_refl _ (SeqAt.canLay_of_shaped (shaped_ints ns))]
  exact q
def rEqI (K : PySem.W.Frag) : R2 := fun x y H Q => ∃ (a b : Addr) (ns : List Nat), x = .ref a ∧ y = .ref b ∧ SqT K H a (ns.map vI) ∧ SqT K H b (ns.map vI) ∧ Q (.bl true) H
theorem op_eqI {X : Cx} (hu : X.A.units + 64 < cLine) : OpR X (compareOp .Eq) (rEqI X.K) := by
  intro pins s σ H x y v u Q I rx ry h
  obtain ⟨a, b, ns, rfl, rfl, ha, hb, q⟩ := h
  refine op_eqD hu pins s σ H _ _ v u Q I rx ry ⟨_, _, .tup ha (dp_ints ns), .tup hb (dp_ints ns), shaped_ints ns, shaped_ints ns, ?_⟩
  rw [SeqAt.eqv_refl _ (SeqAt.canLay_of_shaped (shaped_ints ns))]
  exact q

/-! ### list.extend(tuple) -/
theorem ext_tupA (l : Addr) (items : Array Value) (n : Nat) (b : Addr) (items2 : Array Value) (n2 : Nat) (dd : Option Addr) (sl : Array (Option Value)) (hs0 : ¬(!items.isEmpty && Builtin.List.listTooLong (items.size + items2.size)) = true) (hs1 : items.size ≤ sizeLine) (hs2 : items.size + items2.size ≤ sizeLine + 1) :
    Meets (Builtin.«list.extend» ⟨[.ref l, .ref b], []⟩) (fun _ R s => s.heap.get? l = some { cls := .type "list", dict := none, data := .seq items n, slots := #[] } ∧ s.heap.get? b = some { cls := .type "tuple", dict := dd, data := .seq items2 n2, slots := sl } ∧ R (.ok (.ret Value.none)) { s with heap := s.heap.update l (Obj.mapSeq fun x => x ++ items2), toks := s.toks }) :=
  .of_wp fun prog w A R s h => by
    obtain ⟨hp, g, d, tk, os⟩ := s; obtain ⟨hl, hb, h⟩ := h; have f2 := sub_tuple_tuple; have f3 := sub_list_list; have f4 := sub_tuple_list; have f5 := sub_list_tuple
    have hz' : (items ++ items2).size ≤ sizeLine + 1 := by rw [Array.size_append]; exact hs2
    wp_walk using (wpAny_updateSeq hl rfl (hz := hs1) (_hz' := hz')), wpAny_loadPart' hl, wpAny_loadPart' hb
    exact ⟨_, rfl, h⟩
def rExtT (K : PySem.W.Frag) : V → List V → Hp → VK → Prop := fun x vs H Q => ∃ l b xs zs, x = .ref l ∧ vs = [.ref b] ∧ H l = some (.lst xs) ∧ SqT K H b zs ∧ xs.length + zs.length ≤ sizeLine ∧ Q .non (upd H l (.lst (xs ++ zs)))
theorem mt_extT {X : Cx} : MtM X "list.extend" (rExtT X.K) := by
  intro pins s σ H x vs v us Q I rx rv h
  obtain ⟨l, b, xs, zs, rfl, rfl, hH, hB, hz, q⟩ := h
  cases rx
  obtain ⟨u, rfl, ru⟩ := rv.one
  cases ru
  obtain ⟨z, its, n, r, hl, e⟩ := I.lstM hH
  obtain ⟨its2, r2, p2, hl2⟩ := I.tuple hB
  obtain ⟨⟨cls, dd, data, sl⟩, ho, hc, n2, hd⟩ := id p2
  simp only at hc hd
  subst hc hd
  have len2 := r2.length
  have hsz : its.toArray.size + its2.toArray.size ≤ sizeLine := by rw [List.size_toArray, List.size_toArray]; omega
  have hlong : ¬ (!its.toArray.isEmpty && Builtin.List.listTooLong (its.toArray.size + its2.toArray.size)) = true := by
    rw [notLongL hsz, Bool.and_false]
    exact Bool.false_ne_true
  refine call_meets F.slot_list_extend ⟨_, e, rfl⟩ F.entry_list_extend (F.args_list_extend_2 _ _)
    (ext_tupA l its.toArray n b its2.toArray n2 dd sl hlong (by rw [List.size_toArray]; omega) (by omega)) ⟨e, ho, ?_⟩
  refine ⟨.non, _, I.lset (its' := its ++ its2) hH e (by simp) (r.append r2) ?_, rfl, q⟩
  rw [List.length_append]
  omega

/-! ### the source as it comes -/
def iEnX (K : PySem.W.Frag) (ta : TA) : TI := fun σ H R => ta σ H fun vs H1 => ∃ (S : Src) (a : Addr) (xs : List V), vs = [.ref a] ∧ S.sq K H1 a xs ∧ R (ItE S K a) H1
theorem pi_enumX {X : Cx} {e : Expr} {ta : TA} {p pos tpos : Pos} {elts : List Expr} {kk : Nat} (hg : Gl X "enumerate") (hm : X.mg "enumerate" = none) (ha : PA X [e] ta) (hs : starEach [e] X.env = [(false, eval e X.env)] := by rfl) :
    PI X (.Tuple elts kk tpos) (.Call (.Name "enumerate" p) [e] [] pos) (iEnX X.K ta) := by
  refine ⟨fun pins s σ H R I h => ?_⟩
  have h' : ta σ H fun vs H1 => ∃ S : Src, ∃ (a : Addr) (xs : List V), vs = [.ref a] ∧ S.sq X.K H1 a xs ∧ R (ItE S X.K a) H1 := h
  refine Call_ (ld_blt I hg hm boot_enumerate (PyProof.Rows.callWith_type1 (thn (ha.run pos pins s σ H _ I h') fun us s1 ⟨vs, H1, I1, r1, q1⟩ => ?_) hs rfl))
  obtain ⟨S, a, xs, ex, hq, q⟩ := q1
  exact enumG_run S I1 r1 ⟨a, xs, ex, hq, q⟩
def iZpX (K : PySem.W.Frag) (ta : TA) : TI := fun σ H R => ta σ H fun vs H1 => ∃ (S1 S2 : Src) (a b : Addr) (xs ys : List V), vs = [.ref a, .ref b] ∧ S1.sq K H1 a xs ∧ S2.sq K H1 b ys ∧ R (ItZ S1 S2 K a b) H1
theorem pi_zipX {X : Cx} {e e2 : Expr} {ta : TA} {p pos tpos : Pos} {elts : List Expr} {kk : Nat} (hg : Gl X "zip") (hm : X.mg "zip" = none) (ha : PA X [e, e2] ta)
    (hs : starEach [e, e2] X.env = (false, eval e X.env) :: starEach [e2] X.env := by rfl) (hpl : (backTo pos (starEach [e2] X.env)).any (·.1) = false := by rfl) :
    PI X (.Tuple elts kk tpos) (.Call (.Name "zip" p) [e, e2] [] pos) (iZpX X.K ta) := by
  refine ⟨fun pins s σ H R I h => ?_⟩
  have h' : ta σ H fun vs H1 => ∃ S1 S2 : Src, ∃ (a b : Addr) (xs ys : List V), vs = [.ref a, .ref b] ∧ S1.sq X.K H1 a xs ∧ S2.sq X.K H1 b ys ∧ R (ItZ S1 S2 X.K a b) H1 := h
  refine Call_ (ld_blt I hg hm PyProof.Rows.boot_zip (PyProof.Rows.callWith_type1 (thn (ha.run pos pins s σ H _ I h') fun us s1 ⟨vs, H1, I1, r1, q1⟩ => ?_) hs hpl))
  obtain ⟨S1, S2, a, b, xs, ys, ex, hqx, hqy, q⟩ := q1
  exact zipG_run S1 S2 I1 r1 ⟨a, b, xs, ys, ex, hqx, hqy, q⟩
end Bf

set_option Elab.async false
set_option linter.all false
set_option maxRecDepth 100000
set_option maxHeartbeats 4000000
namespace Bf
open PySem PySem.Spec PyProof.Rows L2
/-! ### data of tuples, ints and texts, as they lie -/
mutual
inductive Lay (H : Hp) : V → PyData → Prop
  | non : Lay H .non .none
  | bl (b : Bool) : Lay H (.bl b) (.bool b)
  | int (i : Int) : Lay H (.int i) (.int i)
  | str (x : Str) : Lay H (.str x) (.str x)
  | tup {a : Addr} {xs : List V} {ds : List PyData} : H a = some (.tup xs) → LayAll H xs ds → Lay H (.ref a) (.tuple ds)
inductive LayAll (H : Hp) : List V → List PyData → Prop
  | nil : LayAll H [] []
  | cons {v : V} {vs : List V} {d : PyData} {ds : List PyData} : Lay H v d → LayAll H vs ds → LayAll H (v :: vs) (d :: ds)
end
/-- what is tracked as a tuple in H is so in H' -/
def KeepT (H H' : Hp) : Prop := ∀ b xs, H b = some (.tup xs) → H' b = some (.tup xs)
theorem KeepT.refl (H : Hp) : KeepT H H := fun _ _ h => h
theorem KeepT.same {H H' : Hp} (k : Same H H') : KeepT H H' := fun b xs h => k _ _ h
theorem KeepT.trans {H H1 H2 : Hp} (a : KeepT H H1) (b : KeepT H1 H2) : KeepT H H2 := fun c o h => b c o (a c o h)
theorem KeepT.new {H : Hp} {p : Addr} {o : HO} (h : H p = none) : KeepT H (upd H p o) := fun b u q => by rw [upd_ne (ne_of_none q h)]; exact q
theorem KeepT.lst {H : Hp} {p : Addr} {o : HO} {l : List V} (h : H p = some (.lst l)) : KeepT H (upd H p o) := fun b u q => by
  rw [upd_ne (fun e => by rw [e, h] at q; cases q)]
  exact q
mutual
theorem Lay.keep {H H' : Hp} (k : KeepT H H') : ∀ (d : PyData) (v : V), Lay H v d → Lay H' v d
  | .none, _, h => by cases h; exact .non
  | .bool b, _, h => by cases h; exact .bl b
  | .int i, _, h => by cases h; exact .int i
  | .str x, _, h => by cases h; exact .str x
  | .list ds, _, h => by cases h
  | .tuple ds, _, h => by
    cases h with
    | tup e a => exact .tup (k _ _ e) (LayAll.keep k ds _ a)
  | .dict _, _, h => by cases h
theorem LayAll.keep {H H' : Hp} (k : KeepT H H') : ∀ (ds : List PyData) (vs : List V), LayAll H vs ds → LayAll H' vs ds
  | [], _, h => by cases h; exact .nil
  | d :: ds, _, h => by
    cases h with
    | cons a b => exact .cons (Lay.keep k d _ a) (LayAll.keep k ds _ b)
end
mutual
theorem Lay.dp {K : PySem.W.Frag} {H : Hp} : ∀ (d : PyData) (v : V), Lay H v d → Dp K H v d
  | .none, _, h => by cases h; exact .non
  | .bool b, _, h => by cases h; exact .bl b
  | .int i, _, h => by cases h; exact .int i
  | .str x, _, h => by cases h; exact .str x
  | .list ds, _, h => by cases h
  | .tuple ds, _, h => by
    cases h with
    | tup e a => exact .tup (SqT.of e) (LayAll.dp ds _ a)
  | .dict _, _, h => by cases h
theorem LayAll.dp {K : PySem.W.Frag} {H : Hp} : ∀ (ds : List PyData) (vs : List V), LayAll H vs ds → DpAll K H vs ds
  | [], _, h => by cases h; exact .nil
  | d :: ds, _, h => by
    cases h with
    | cons a b => exact .cons (Lay.dp d _ a) (LayAll.dp ds _ b)
end
theorem Lay.keep' {H H' : Hp} {d : PyData} {v : V} (h : Lay H v d) (k : KeepT H H') : Lay H' v d := Lay.keep k d v h
theorem LayAll.keep' {H H' : Hp} {ds : List PyData} {vs : List V} (h : LayAll H vs ds) (k : KeepT H H') : LayAll H' vs ds := LayAll.keep k ds vs h
theorem Lay.dp' {K : PySem.W.Frag} {H : Hp} {d : PyData} {v : V} (h : Lay H v d) : Dp K H v d := Lay.dp d v h
theorem LayAll.len {H : Hp} : ∀ {vs : List V} {ds : List PyData}, LayAll H vs ds → vs.length = ds.length
  | _, _, .nil => rfl
  | _, _, .cons _ h => by rw [List.length_cons, List.length_cons, h.len]
theorem LayAll.get {H : Hp} {v : V} : ∀ {vs : List V} {ds : List PyData} (i : Nat), LayAll H vs ds → vs[i]? = some v → ∃ d, ds[i]? = some d ∧ Lay H v d
  | [], _, _, _, e => by simp at e
  | _ :: _, _, 0, h, e => by
    cases h with
    | cons a b => cases e; exact ⟨_, rfl, a⟩
  | x :: vs, ds, i + 1, h, e => by
    cases h with
    | cons a b =>
      obtain ⟨d, q, l⟩ := LayAll.get (vs := vs) i b (by simpa using e)
      exact ⟨d, by simpa using q, l⟩
theorem LayAll.at_ {H : Hp} {d : PyData} : ∀ {vs : List V} {ds : List PyData} (i : Nat), LayAll H vs ds → ds[i]? = some d → ∃ v, vs[i]? = some v ∧ Lay H v d
  | _, [], _, _, e => by simp at e
  | _, _ :: _, 0, h, e => by
    cases h with
    | cons a b => cases e; exact ⟨_, rfl, a⟩
  | vs, x :: ds, i + 1, h, e => by
    cases h with
    | cons a b =>
      obtain ⟨d, q, l⟩ := LayAll.at_ (ds := ds) i b (by simpa using e)
      exact ⟨d, by simpa using q, l⟩
theorem LayAll.app {H : Hp} : ∀ {vs us : List V} {ds es : List PyData}, LayAll H vs ds → LayAll H us es → LayAll H (vs ++ us) (ds ++ es)
  | _, _, _, _, .nil, h => h
  | _, _, _, _, .cons a b, h => .cons a (b.app h)
theorem LayAll.snoc {H : Hp} {vs : List V} {ds : List PyData} {v : V} {d : PyData} (h : LayAll H vs ds) (a : Lay H v d) : LayAll H (vs ++ [v]) (ds ++ [d]) := h.app (.cons a .nil)
theorem LayAll.ints {H : Hp} : ∀ ns : List Nat, LayAll H (ns.map vI) (ns.map fun n : Nat => PyData.int (n : Int))
  | [] => .nil
  | n :: ns => .cons (.int _) (LayAll.ints ns)
theorem LayAll.ints_inv {H : Hp} : ∀ {ns : List Nat} {vs : List V}, LayAll H vs (ns.map fun n : Nat => PyData.int (n : Int)) → vs = ns.map vI
  | [], _, .nil => rfl
  | n :: ns, _, .cons (.int _) h => by rw [LayAll.ints_inv h]; rfl
theorem LayAll.strs_inv {H : Hp} : ∀ {ns : List Str} {vs : List V}, LayAll H vs (ns.map PyData.str) → vs = ns.map V.str
  | [], _, .nil => rfl
  | n :: ns, _, .cons (.str _) h => by rw [LayAll.strs_inv h]; rfl
theorem LayAll.strs {H : Hp} : ∀ ns : List Str, LayAll H (ns.map V.str) (ns.map PyData.str)
  | [] => .nil
  | n :: ns => .cons (.str _) (LayAll.strs ns)
theorem Lay.tup_inv {H : Hp} {v : V} {ds : List PyData} (h : Lay H v (.tuple ds)) : ∃ p vs, v = .ref p ∧ H p = some (.tup vs) ∧ LayAll H vs ds := by
  cases h with
  | tup e a => exact ⟨_, _, rfl, e, a⟩
theorem Lay.int_inv {H : Hp} {v : V} {i : Int} (h : Lay H v (.int i)) : v = .int i := by cases h; rfl
theorem Lay.str_inv {H : Hp} {v : V} {z : Str} (h : Lay H v (.str z)) : v = .str z := by cases h; rfl
theorem LayAll.nil_inv {H : Hp} {vs : List V} (h : LayAll H vs []) : vs = [] := by cases h; rfl
theorem LayAll.cons_inv {H : Hp} {vs : List V} {d : PyData} {ds : List PyData} (h : LayAll H vs (d :: ds)) : ∃ v us, vs = v :: us ∧ Lay H v d ∧ LayAll H us ds := by
  cases h with
  | cons a b => exact ⟨_, _, rfl, a, b⟩
/-! ### the shapes that == serves -/
def Sh (k : Nat) (d : PyData) : Prop := d.canLay0 = true ∧ d.depth ≤ k
theorem Sh.int (k : Nat) (i : Int) : Sh k (.int i) := ⟨by simp only [PyData.canLay0], by simp only [PyData.depth]; omega⟩
theorem Sh.all {k : Nat} : ∀ {ds : List PyData}, (∀ d ∈ ds, Sh k d) → PyData.canLayAll0 ds = true ∧ PyData.depthAll ds ≤ k
  | [], _ => ⟨by simp only [PyData.canLayAll0], by simp only [PyData.depthAll]; omega⟩
  | d :: ds, h => by
    have a := h d (by simp)
    have b := Sh.all (ds := ds) fun e he => h e (by simp [he])
    refine ⟨?_, ?_⟩
    · simp only [PyData.canLayAll0]
      rw [a.1, b.1]
      rfl
    · simp only [PyData.depthAll]
      have := a.2
      have := b.2
      omega
theorem Sh.tup {k : Nat} {ds : List PyData} (h : ∀ d ∈ ds, Sh k d) : Sh (k + 1) (.tuple ds) := by
  have q := Sh.all h
  exact ⟨by simp only [PyData.canLay0]; exact q.1, by simp only [PyData.depth]; omega⟩
theorem Sh.lst {k : Nat} {ds : List PyData} (h : ∀ d ∈ ds, Sh k d) : Sh (k + 1) (.list ds) := by
  have q := Sh.all h
  exact ⟨by simp only [PyData.canLay0]; exact q.1, by simp only [PyData.depth]; omega⟩
theorem Sh.shaped {k : Nat} {d : PyData} (h : Sh k d) (hk : k ≤ 64) : SeqAt.shaped d = true := by
  show (d.canLay0 && decide (d.depth ≤ 64)) = true
  rw [Bool.and_eq_true]
  exact ⟨h.1, decide_eq_true (by have := h.2; omega)⟩
mutual
theorem eqv_self : ∀ d : PyData, d.canLay0 = true → PyData.eqv d d = true
  | .none, _ => by simp [PyData.eqv]
  | .bool b, _ => by simp [PyData.eqv]
  | .int i, _ => by simp [PyData.eqv]
  | .str x, _ => by simp [PyData.eqv]
  | .list ds, h => by
    simp only [PyData.canLay0] at h
    simp only [PyData.eqv]
    exact eqvAll_self ds h
  | .tuple ds, h => by
    simp only [PyData.canLay0] at h
    simp only [PyData.eqv]
    exact eqvAll_self ds h
  | .dict _, h => by simp [PyData.canLay0] at h
theorem eqvAll_self : ∀ ds : List PyData, PyData.canLayAll0 ds = true → PyData.eqvAll ds ds = true
  | [], _ => by simp [PyData.eqvAll]
  | d :: ds, h => by
    simp only [PyData.canLayAll0, Bool.and_eq_true] at h
    simp only [PyData.eqvAll, Bool.and_eq_true]
    exact ⟨eqv_self d h.1, eqvAll_self ds h.2⟩
end
/-! ### bits of numbers that are not negative -/
section
variable {X : Cx}
theorem op_xorB : OpR X (binaryOp .BitXor) (fun x y H Q => ∃ n m : Nat, x = .int (n : Int) ∧ y = .int (m : Int) ∧ Q (vI (n ^^^ m)) H) := by
  intro pins s σ H x y v u Q I rx ry h
  obtain ⟨n, m, rfl, rfl, q⟩ := h
  refine op_xor pins s σ H _ _ v u Q I rx ry ⟨_, _, rfl, rfl, ?_⟩
  show Q (V.int (Builtin.bitXor (n : Int) (m : Int))) H
  rw [Bits.bitXor_pp (Int.natCast_nonneg _) (Int.natCast_nonneg _)]
  exact q
theorem op_andB : OpR X (binaryOp .BitAnd) (fun x y H Q => ∃ n m : Nat, x = .int (n : Int) ∧ y = .int (m : Int) ∧ Q (vI (n &&& m)) H) := by
  intro pins s σ H x y v u Q I rx ry h
  obtain ⟨n, m, rfl, rfl, q⟩ := h
  refine op_and pins s σ H _ _ v u Q I rx ry ⟨_, _, rfl, rfl, ?_⟩
  show Q (V.int (Builtin.bitAnd (n : Int) (m : Int))) H
  rw [bitAnd_pp (Int.natCast_nonneg _) (Int.natCast_nonneg _)]
  exact q
theorem op_orB : OpR X (binaryOp .BitOr) (fun x y H Q => ∃ n m : Nat, x = .int (n : Int) ∧ y = .int (m : Int) ∧ Q (vI (n ||| m)) H) := by
  intro pins s σ H x y v u Q I rx ry h
  obtain ⟨n, m, rfl, rfl, q⟩ := h
  refine op_or pins s σ H _ _ v u Q I rx ry ⟨_, _, rfl, rfl, ?_⟩
  show Q (V.int (Builtin.bitOr (n : Int) (m : Int))) H
  rw [Bits.bitOr_pp (Int.natCast_nonneg _) (Int.natCast_nonneg _)]
  exact q
end
/-! ### wide numbers that are not negative -/
theorem natAbs_cast (n : Nat) : ((n : Int)).natAbs = n := rfl
section
variable {X : Cx}
theorem op_fdivNW : OpR X (binaryOp .FloorDiv) (fun x y H Q => ∃ n m : Nat, x = .int (n : Int) ∧ y = .int (m : Int) ∧ (1 ≤ m ∧ m < 2 ^ 9000) ∧ Q (vI (n / m)) H) := by
  intro pins s σ H x y v u Q I rx ry h
  obtain ⟨n, m, rfl, rfl, ⟨h1, h2⟩, q⟩ := h
  exact op_fdivW pins s σ H _ _ v u Q I rx ry ⟨_, _, rfl, rfl, wide_div (b := 9000) (by omega) h2 (by omega) (by omega), q⟩
theorem op_mulNW : OpR X (binaryOp .Mult) (fun x y H Q => ∃ n m : Nat, x = .int (n : Int) ∧ y = .int (m : Int) ∧ (n < 2 ^ 100000 ∧ m < 2 ^ 100000) ∧ Q (vI (n * m)) H) := by
  intro pins s σ H x y v u Q I rx ry h
  obtain ⟨n, m, rfl, rfl, ⟨h1, h2⟩, q⟩ := h
  refine op_mulW pins s σ H _ _ v u Q I rx ry ⟨_, _, rfl, rfl, wide_mul (a := 100000) (b := 100000) h1 h2 (by omega) (by omega) (by omega), ?_⟩
  show Q (V.int ((n : Int) * (m : Int))) H
  rw [← Int.natCast_mul]
  exact q
theorem op_shlNN : OpR X (binaryOp .LShift) (fun x y H Q => ∃ n k : Nat, x = .int (n : Int) ∧ y = .int (k : Int) ∧ (n < 2 ^ 100000 ∧ k ≤ 100000) ∧ Q (vI (n * 2 ^ k)) H) := by
  intro pins s σ H x y v u Q I rx ry h
  obtain ⟨n, k, rfl, rfl, ⟨h1, h2⟩, q⟩ := h
  refine op_shlN pins s σ H _ _ v u Q I rx ry ⟨_, k, rfl, rfl, shl_ok (n := 100000) h1 (by omega), ?_⟩
  have e : ((n : Int) * 2 ^ k) = ((n * 2 ^ k : Nat) : Int) := by simp
  rw [e]
  exact q
theorem op_oneShlN : OpR X (binaryOp .LShift) (fun x y H Q => ∃ k : Nat, x = .int 1 ∧ y = .int (k : Int) ∧ k ≤ 134217727 ∧ Q (vI (2 ^ k)) H) := by
  intro pins s σ H x y v u Q I rx ry h
  obtain ⟨k, rfl, rfl, h1, q⟩ := h
  refine op_oneShl pins s σ H _ _ v u Q I rx ry ⟨k, rfl, rfl, h1, ?_⟩
  have e : ((2 : Int) ^ k) = ((2 ^ k : Nat) : Int) := by simp
  rw [e]
  exact q
end
/-! ### walks -/
theorem walk_enumG (S : Src) {K : PySem.W.Frag} {a : Addr} {xs : List V} : Walk (ItE S K a) xs.length (fun H => S.sq K H a xs) (YPair (fun i => some (.int (i : Nat))) (fun i => xs[i]?)) := by
  refine ⟨fun i _ hi q => ⟨xs, xs[i], q, by simp [hi]⟩, fun _ q => ⟨xs, q, rfl⟩, fun i H v H' _ q y => ?_⟩
  obtain ⟨T, x, h1, h2, h3, h4⟩ := y
  exact ⟨T, .int (i : Nat), x, h1, h2, h3, rfl, h4 xs q⟩
def rLenK (K : PySem.W.Frag) (xs : List V) (H : Hp) (Q : V → Hp → Prop) : Prop := ∃ p ys, xs = [.ref p] ∧ (SqL K H p ys ∨ SqT K H p ys) ∧ Q (.int ys.length) H
theorem call_lenK {X : Cx} : CallR X (.builtin "len") (rLenK X.K) := call_len_seq
/-! ### small facts -/
theorem refAt {ts : List Addr} {i : Nat} {x : V} (h : (ts.map V.ref)[i]? = some x) : ∃ t, ts[i]? = some t ∧ x = .ref t := by
  rw [List.getElem?_map] at h
  cases e : ts[i]? with
  | none => rw [e] at h; cases h
  | some k => rw [e] at h; exact ⟨k, rfl, (Option.some.inj h).symm⟩
theorem natAt {xs : List Nat} {i : Nat} {x : V} (h : (xs.map vI)[i]? = some x) : ∃ k, xs[i]? = some k ∧ x = vI k := by
  rw [List.getElem?_map] at h
  cases e : xs[i]? with
  | none => rw [e] at h; cases h
  | some k => rw [e] at h; exact ⟨k, rfl, (Option.some.inj h).symm⟩
theorem mapAt {α : Type} {f : α → V} {xs : List α} {i : Nat} {x : V} (h : (xs.map f)[i]? = some x) : ∃ k, xs[i]? = some k ∧ x = f k := by
  rw [List.getElem?_map] at h
  cases e : xs[i]? with
  | none => rw [e] at h; cases h
  | some k => rw [e] at h; exact ⟨k, rfl, (Option.some.inj h).symm⟩
theorem mapAtD {α : Type} {f : α → PyData} {xs : List α} {i : Nat} {x : PyData} (h : (xs.map f)[i]? = some x) : ∃ k, xs[i]? = some k ∧ x = f k := by
  rw [List.getElem?_map] at h
  cases e : xs[i]? with
  | none => rw [e] at h; cases h
  | some k => rw [e] at h; exact ⟨k, rfl, (Option.some.inj h).symm⟩
theorem take_snoc {α : Type} {l : List α} {i : Nat} {x : α} (h : l[i]? = some x) : l.take (i + 1) = l.take i ++ [x] := by
  rw [List.take_add_one, h]
  rfl
theorem same_two {H H' : Hp} {p : Addr} {o : HO} (k : Same H H') (hp : H p = none) : Same H (upd H' p o) := fun b u q => by
  rw [upd_ne (ne_of_none q hp)]
  exact k _ _ q
theorem i62 {n : Nat} (h : n ≤ 1000) : -(2 ^ 62) ≤ (n : Int) ∧ (n : Int) < 2 ^ 62 := by
  have a : (-(2 ^ 62) : Int) ≤ 0 := by decide
  have b : (1001 : Int) ≤ 2 ^ 62 := by decide
  exact ⟨Int.le_trans a (Int.natCast_nonneg _), Int.lt_of_lt_of_le (by omega) b⟩
theorem vInt {i : Int} {n : Nat} (h : i = (n : Int)) : V.int i = vI n := by rw [h]; rfl
theorem all_true : ∀ n : Nat, (List.replicate n true).all id = true
  | 0 => rfl
  | n + 1 => by
    rw [List.replicate_succ, List.all_cons, all_true n]
    rfl
theorem len1000 {n : Nat} (h : n ≤ 1000) : n < sizeLine := small1000 h
end Bf

set_option Elab.async false
set_option linter.all false
set_option maxRecDepth 100000
set_option maxHeartbeats 4000000
namespace Bf
open PySem PySem.Spec PyProof.Rows L2
/-! ### ints in sequences; slices of tuples -/
theorem eqV_int (a b : Nat) : eqV (vI a) (vI b) = decide (a = b) := by
  show (((a : Int)) == (b : Int)) = _
  by_cases h : a = b
  · subst h; simp
  · rw [decide_eq_false h]
    simp
    omega
theorem inV_int (x : Nat) (xs : List Nat) : inV (vI x) (xs.map vI) = decide (x ∈ xs) := by
  induction xs with
  | nil => rfl
  | cons a r ih =>
    show (eqV (vI a) (vI x) || inV (vI x) (r.map vI)) = decide (x ∈ a :: r)
    rw [ih, eqV_int]
    by_cases h : a = x
    · subst h; simp
    · by_cases h2 : x ∈ r
      · simp [h2]
      · have : x ≠ a := fun e => h e.symm
        simp [h, h2, this]
theorem flat_ints : ∀ xs : List Nat, (xs.map vI).all flatV = true
  | [] => rfl
  | a :: r => by
    rw [List.map_cons, List.all_cons, flat_ints r]
    rfl
theorem rdIndex {xs : List Nat} {f j : Nat} (hj : xs[j]? = some f) (hn : ∀ m, m < j → xs[m]? ≠ some f) :
    ∃ z : V, (xs.map vI)[j]? = some z ∧ eqV z (vI f) = true ∧ ∀ (m : Nat) (z' : V), m < j → (xs.map vI)[m]? = some z' → eqV z' (vI f) = false := by
  refine ⟨vI f, by rw [List.getElem?_map, hj]; rfl, by rw [eqV_int]; simp, fun m z' hm hz => ?_⟩
  obtain ⟨k, hk, rfl⟩ := natAt hz
  rw [eqV_int]
  exact decide_eq_false fun e => hn m hm (by rw [hk, e])
theorem cut_map {xs : List Nat} {lo hi : Option Int} {i j : Nat} (h1 : HT.sIx xs.length 0 lo = i) (h2 : HT.sIx xs.length xs.length hi = j) : cutV (xs.map vI) lo hi = ((xs.drop i).take (j - i)).map vI := by
  unfold cutV
  rw [List.length_map, h1, h2, ← List.map_drop, ← List.map_take]
theorem rdCut {K : PySem.W.Frag} {H : Hp} {b : Addr} {xs : List Nat} {lo hi : Option Int} {i j : Nat} {Q : VK} (hb : SqT K H b (xs.map vI)) (h1 : HT.sIx xs.length 0 lo = i) (h2 : HT.sIx xs.length xs.length hi = j)
    (k : ∀ (t : Addr) (H' : Hp), Same H H' → SqT K H' t (((xs.drop i).take (j - i)).map vI) → Q (.ref t) H') : rSlA K (.ref b) lo hi H Q := by
  refine ⟨b, xs.map vI, rfl, hb, fun hw => ?_, fun hw p hp => ?_⟩
  · rw [List.length_map, h1, h2] at hw
    obtain ⟨w1, w2⟩ := hw
    subst w1 w2
    refine k b H (Same.refl _) ?_
    rw [List.drop_zero, Nat.sub_zero, List.take_length]
    exact hb
  · refine k p _ (fun b u q => by rw [upd_ne (ne_of_none q hp)]; exact q) ?_
    rw [← cut_map h1 h2]
    exact SqT.of upd_same
theorem sIx_neg {n d k : Nat} (h : 1 ≤ k) : HT.sIx n d (some (-(k : Int))) = n - k := by
  show (if (-(k : Int)) < 0 then ((-(k : Int)) + (n : Int)).toNat else min (-(k : Int)).toNat n) = n - k
  rw [if_pos (by omega)]
  omega
theorem qI {Q : VK} {H : Hp} {i : Int} {n : Nat} (h : i = (n : Int)) (q : Q (vI n) H) : Q (V.int i) H := by
  rw [h]
  exact q
end Bf

set_option Elab.async false
set_option linter.all false
set_option maxRecDepth 100000
set_option maxHeartbeats 4000000
namespace Bf
/-! ### ports: their words as bits -/
def bitsN (n w : Nat) : List Nat := (List.range n).map fun k => w / 2 ^ k % 2
def valN : List Nat → Nat
  | [] => 0
  | b :: r => b + 2 * valN r
def splN : List Nat → List Nat → List Nat
  | w :: ws, x :: xs => bitsN w x ++ splN ws xs
  | _, _ => []
def joiN : List Nat → List Nat → List Nat
  | [], _ => []
  | w :: ws, bs => valN (bs.take w) :: joiN ws (bs.drop w)
theorem bitsN_succ (n w : Nat) : bitsN (n + 1) w = bitsN n w ++ [w / 2 ^ n % 2] := by
  unfold bitsN
  rw [List.range_succ, List.map_append]
  rfl
theorem bitsN_len (n w : Nat) : (bitsN n w).length = n := by
  unfold bitsN
  simp
theorem bitsN_cons (n w : Nat) : bitsN (n + 1) w = (w % 2) :: bitsN n (w / 2) := by
  unfold bitsN
  rw [List.range_succ_eq_map, List.map_cons, List.map_map]
  congr 1
  · simp
  · apply List.map_congr_left
    intro k _
    show w / 2 ^ (k + 1) % 2 = w / 2 / 2 ^ k % 2
    rw [Nat.div_div_eq_div_mul, Nat.pow_succ, Nat.mul_comm]
theorem bitsN_lt {n w b : Nat} (h : b ∈ bitsN n w) : b < 2 := by
  unfold bitsN at h
  obtain ⟨k, _, e⟩ := List.mem_map.mp h
  rw [← e]
  exact Nat.mod_lt _ (by decide)
theorem valN_snoc : ∀ (l : List Nat) (b : Nat), valN (l ++ [b]) = valN l + b * 2 ^ l.length
  | [], b => by simp [valN]
  | a :: l, b => by
    rw [List.cons_append, valN, valN_snoc l b, valN, List.length_cons, Nat.pow_succ, Nat.mul_add]
    rw [show b * (2 ^ l.length * 2) = 2 * (b * 2 ^ l.length) by rw [← Nat.mul_assoc]; exact Nat.mul_comm _ _]
    omega
theorem val_bits : ∀ (n w : Nat), w < 2 ^ n → valN (bitsN n w) = w
  | 0, w, h => by
    have : w = 0 := by simpa using h
    rw [this]
    rfl
  | n + 1, w, h => by
    have h2 : w / 2 < 2 ^ n := by
      rw [Nat.pow_succ] at h
      omega
    rw [bitsN_cons, valN, val_bits n (w / 2) h2]
    omega
theorem bits_val : ∀ (l : List Nat), (∀ b ∈ l, b < 2) → bitsN l.length (valN l) = l
  | [], _ => rfl
  | a :: l, h => by
    have ha : a < 2 := h a (by simp)
    rw [List.length_cons, bitsN_cons, valN]
    have e1 : (a + 2 * valN l) % 2 = a := by omega
    have e2 : (a + 2 * valN l) / 2 = valN l := by omega
    rw [e1, e2, bits_val l fun b hb => h b (by simp [hb])]
theorem valN_lt : ∀ (l : List Nat), (∀ b ∈ l, b < 2) → valN l < 2 ^ l.length
  | [], _ => by simp [valN]
  | a :: l, h => by
    have ha : a < 2 := h a (by simp)
    have := valN_lt l fun b hb => h b (by simp [hb])
    rw [List.length_cons, Nat.pow_succ, valN]
    omega
theorem splN_snoc : ∀ (a b : List Nat) (w x : Nat), a.length = b.length → splN (a ++ [w]) (b ++ [x]) = splN a b ++ bitsN w x
  | [], [], w, x, _ => by simp [splN]
  | [], _ :: _, _, _, h => by cases h
  | _ :: _, [], _, _, h => by cases h
  | u :: a, y :: b, w, x, h => by
    rw [List.cons_append, List.cons_append, splN, splN_snoc a b w x (by simpa using h), splN, List.append_assoc]
theorem splN_len : ∀ (a b : List Nat), a.length = b.length → (splN a b).length = a.sum
  | [], [], _ => rfl
  | [], _ :: _, h => by cases h
  | _ :: _, [], h => by cases h
  | u :: a, y :: b, h => by
    rw [splN, List.length_append, bitsN_len, splN_len a b (by simpa using h), List.sum_cons]
theorem splN_lt : ∀ (a b : List Nat) (z : Nat), z ∈ splN a b → z < 2
  | [], [], z, h => by cases h
  | [], _ :: _, z, h => by cases h
  | _ :: _, [], z, h => by cases h
  | u :: a, y :: b, z, h => by
    rw [splN] at h
    rcases List.mem_append.mp h with h | h
    · exact bitsN_lt h
    · exact splN_lt a b z h
theorem joiN_len : ∀ (ws bs : List Nat), (joiN ws bs).length = ws.length
  | [], _ => rfl
  | w :: ws, bs => by rw [joiN, List.length_cons, joiN_len ws, List.length_cons]
theorem joiN_snoc : ∀ (a bs : List Nat) (w : Nat), joiN (a ++ [w]) bs = joiN a bs ++ [valN ((bs.drop a.sum).take w)]
  | [], bs, w => by simp [joiN]
  | u :: a, bs, w => by
    rw [List.cons_append, joiN, joiN_snoc a (bs.drop u) w, joiN, List.drop_drop, List.sum_cons]
    rfl
theorem join_split : ∀ (ws xs : List Nat), ws.length = xs.length → (∀ (i w x : Nat), ws[i]? = some w → xs[i]? = some x → x < 2 ^ w) → joiN ws (splN ws xs) = xs
  | [], [], _, _ => rfl
  | [], _ :: _, h, _ => by cases h
  | _ :: _, [], h, _ => by cases h
  | w :: ws, x :: xs, h, k => by
    have e1 : (bitsN w x ++ splN ws xs).take w = bitsN w x := by rw [List.take_append_of_le_length (by rw [bitsN_len]; omega), List.take_of_length_le (by rw [bitsN_len]; omega)]
    have e2 : (bitsN w x ++ splN ws xs).drop w = splN ws xs := by
      have := List.drop_left (l₁ := bitsN w x) (l₂ := splN ws xs)
      rwa [bitsN_len] at this
    rw [splN, joiN, e1, e2, val_bits w x (k 0 w x rfl rfl), join_split ws xs (by simpa using h) fun i u y a b => k (i + 1) u y (by simpa using a) (by simpa using b)]
theorem split_join : ∀ (ws bs : List Nat), bs.length = ws.sum → (∀ b ∈ bs, b < 2) → splN ws (joiN ws bs) = bs
  | [], bs, h, _ => by
    have : bs = [] := List.eq_nil_of_length_eq_zero h
    rw [this]
    rfl
  | w :: ws, bs, h, k => by
    rw [List.sum_cons] at h
    have l1 : (bs.take w).length = w := by rw [List.length_take]; omega
    have e := bits_val (bs.take w) fun b hb => k b (List.mem_of_mem_take hb)
    rw [l1] at e
    rw [joiN, splN, e, split_join ws (bs.drop w) (by rw [List.length_drop]; omega) fun b hb => k b (List.mem_of_mem_drop hb), List.take_append_drop]
end Bf

set_option Elab.async false
set_option linter.all false
set_option maxRecDepth 100000
set_option maxHeartbeats 4000000
namespace Bf
open PySem PySem.Spec PyProof.Rows L2
/-! ### frames: numbers of data bits, check words -/
def np (n : Nat) : Bool := n &&& (n - 1) != 0
def numsTo (t : Nat) : List Nat := (List.range' 3 t).filter np
theorem numsTo_succ (t : Nat) : numsTo (t + 1) = numsTo t ++ (if np (3 + t) then [3 + t] else []) := by
  unfold numsTo
  rw [List.range'_concat, List.filter_append, Nat.one_mul]
  congr 1
  cases h : np (3 + t) <;> simp [List.filter, h]
theorem numsTo_pre {s : Nat} : ∀ d : Nat, ∃ r, numsTo (s + d) = numsTo s ++ r
  | 0 => ⟨[], by simp⟩
  | d + 1 => by
    obtain ⟨r, e⟩ := numsTo_pre (s := s) d
    exact ⟨r ++ (if np (3 + (s + d)) then [3 + (s + d)] else []), by rw [← Nat.add_assoc, numsTo_succ, e, List.append_assoc]⟩
def numsOf (many : Nat) : List Nat := (numsTo (2 * many + 1)).take many
theorem numsOf_of {t many : Nat} (h : t ≤ 2 * many) (hl : (numsTo t).length = many) : numsTo t = numsOf many := by
  obtain ⟨r, e⟩ := numsTo_pre (s := t) (2 * many + 1 - t)
  rw [show t + (2 * many + 1 - t) = 2 * many + 1 by omega] at e
  unfold numsOf
  rw [e, ← hl, List.take_left]
theorem np_next {n : Nat} (h : 3 ≤ n) (e : np n = false) : np (n + 1) = true := by
  have e0 : n &&& (n - 1) = 0 := by
    unfold np at e
    simpa using e
  have d1 : (n &&& (n - 1)) / 2 = n / 2 &&& (n - 1) / 2 := Nat.and_div_two
  have d2 : (n + 1 &&& n) / 2 = (n + 1) / 2 &&& n / 2 := Nat.and_div_two
  rcases Nat.mod_two_eq_zero_or_one n with p | p
  · have q : (n + 1) / 2 = n / 2 := by omega
    rw [q, Nat.and_self] at d2
    unfold np
    rw [Nat.add_sub_cancel]
    have : n + 1 &&& n ≠ 0 := by
      intro z
      rw [z] at d2
      omega
    simpa using this
  · have q : (n - 1) / 2 = n / 2 := by omega
    rw [q, Nat.and_self, e0] at d1
    omega
theorem numsTo_lt {t x : Nat} (h : x ∈ numsTo t) : x < 3 + t := by
  have := (List.mem_filter.mp h).1
  have := List.mem_range'_1.mp this
  omega
theorem numsOf_lt {many x : Nat} (h : x ∈ numsOf many) : x ≤ 2 * many + 3 := by
  have := numsTo_lt (List.mem_of_mem_take h)
  omega
def xwTo (ns bs : List Nat) : Nat → Nat
  | 0 => 0
  | i + 1 => if bs.getD i 0 = 1 then xwTo ns bs i ^^^ ns.getD i 0 else xwTo ns bs i
def sizeN (n : Nat) : Nat := PySem.Builtin.Int.intBits (n : Int)
theorem sizeN_le {n : Nat} (h : n < 2 ^ 20) : sizeN n ≤ 20 := PyProof.Rows.intBits_le (by simpa using h)
def checkN (bs : List Nat) : Nat := xwTo (numsOf bs.length) bs bs.length
def widthN (many : Nat) : Nat := sizeN ((numsOf many).getLastD 0)
theorem widthN_le {many : Nat} (h : many ≤ 1000) : widthN many ≤ 20 := by
  refine sizeN_le ?_
  have w : 2 * 1000 + 3 < 2 ^ 20 := by decide
  rcases List.eq_nil_or_concat (numsOf many) with e | ⟨r, x, e⟩
  · rw [e]
    decide
  · rw [List.concat_eq_append] at e
    have := numsOf_lt (many := many) (x := x) (by rw [e]; simp)
    rw [e, List.getLastD_concat]
    omega
def bodyN (bs : List Nat) : List Nat := bs ++ bitsN (widthN bs.length) (checkN bs)
def frameN (bs : List Nat) : List Nat := bodyN bs ++ [(bodyN bs).sum % 2]
theorem sum_cast : ∀ l : List Nat, (l.map fun n : Nat => (n : Int)).sum = ((l.sum : Nat) : Int)
  | [] => rfl
  | a :: l => by
    rw [List.map_cons, List.sum_cons, List.sum_cons, sum_cast l]
    omega
theorem map_int (l : List Nat) : l.map vI = (l.map fun n : Nat => (n : Int)).map V.int := by
  rw [List.map_map]
  rfl
theorem numsOf_last {many : Nat} (hl : (numsOf many).length = many) (h1 : 1 ≤ many) : ∃ r x, numsOf many = r ++ [x] ∧ widthN many = sizeN x := by
  rcases List.eq_nil_or_concat (numsOf many) with e | ⟨r, x, e⟩
  · rw [e] at hl
    simp at hl
    omega
  · rw [List.concat_eq_append] at e
    refine ⟨r, x, e, ?_⟩
    unfold widthN
    rw [e, List.getLastD_concat]
theorem widthN_pos {many : Nat} (hl : (numsOf many).length = many) (h1 : 1 ≤ many) : 1 ≤ widthN many := by
  obtain ⟨r, x, e, ew⟩ := numsOf_last hl h1
  have hx : x ∈ numsOf many := by rw [e]; simp
  have h3 := (List.mem_range'_1.mp (List.mem_filter.mp (List.mem_of_mem_take hx)).1).1
  rw [ew]
  unfold sizeN PySem.Builtin.Int.intBits
  rw [if_neg (by simp; omega)]
  omega
theorem one_of {b : Nat} (h : decide (vI b = V.int 1) = true) : b = 1 := by
  have := V.int.inj (of_decide_eq_true h)
  omega
theorem not_one {b : Nat} (h : decide (vI b = V.int 1) = false) : b ≠ 1 := fun e => by
  subst e
  exact of_decide_eq_false h rfl
theorem xwTo_yes {ns bs : List Nat} {i n b : Nat} (hn : ns[i]? = some n) (hb : bs[i]? = some b) (h : b = 1) : xwTo ns bs (i + 1) = xwTo ns bs i ^^^ n := by
  rw [xwTo, List.getD_eq_getElem?_getD, List.getD_eq_getElem?_getD, hn, hb]
  exact if_pos h
theorem xwTo_no {ns bs : List Nat} {i b : Nat} (hb : bs[i]? = some b) (h : b ≠ 1) : xwTo ns bs (i + 1) = xwTo ns bs i := by
  rw [xwTo, List.getD_eq_getElem?_getD, hb]
  exact if_neg h
end Bf

set_option Elab.async false
set_option linter.all false
set_option maxRecDepth 100000
set_option maxHeartbeats 4000000
namespace Bf
open PySem PySem.Spec PyProof.Rows L2
/-! ### frames read: the xor of the numbers of the bits that are 1 -/
def XF (f : Nat → Nat) (bs : List Nat) : Nat → Nat
  | 0 => 0
  | i + 1 => if bs.getD i 0 = 1 then XF f bs i ^^^ f i else XF f bs i
theorem xw_XF (ns bs : List Nat) : ∀ n, xwTo ns bs n = XF (fun i => ns.getD i 0) bs n
  | 0 => rfl
  | n + 1 => by rw [xwTo, XF, xw_XF ns bs n]
theorem XF_congr {f : Nat → Nat} {bs cs : List Nat} : ∀ n : Nat, (∀ i, i < n → bs.getD i 0 = cs.getD i 0) → XF f bs n = XF f cs n
  | 0, _ => rfl
  | n + 1, h => by rw [XF, XF, XF_congr n (fun i hi => h i (by omega)), h n (by omega)]
theorem XF_lt {f : Nat → Nat} {bs : List Nat} {k : Nat} : ∀ n : Nat, (∀ i, i < n → f i < 2 ^ k) → XF f bs n < 2 ^ k
  | 0, _ => Nat.pow_pos (by decide)
  | n + 1, h => by
    rw [XF]
    have a := XF_lt (bs := bs) n (fun i hi => h i (by omega))
    split
    · exact Nat.xor_lt_two_pow a (h n (by omega))
    · exact a
/-- bits with some inverted -/
def spoil (bs ps : List Nat) : List Nat := bs.mapIdx fun i b => b ^^^ (if i ∈ ps then 1 else 0)
theorem spoil_len (bs ps : List Nat) : (spoil bs ps).length = bs.length := by simp [spoil]
theorem spoil_get {bs ps : List Nat} {i b : Nat} (h : bs[i]? = some b) : (spoil bs ps)[i]? = some (b ^^^ (if i ∈ ps then 1 else 0)) := by
  rw [spoil, List.getElem?_mapIdx, h]
  rfl
theorem bit_cases {b : Nat} (h : b < 2) : b = 0 ∨ b = 1 := by omega
theorem spoil_lt {bs ps : List Nat} (h : ∀ b ∈ bs, b < 2) : ∀ b ∈ spoil bs ps, b < 2 := by
  intro b hb
  obtain ⟨i, hi⟩ := List.mem_iff_getElem?.mp hb
  have hl := (List.getElem?_eq_some_iff.mp hi).1
  rw [spoil_len] at hl
  have e := spoil_get (ps := ps) (List.getElem?_eq_getElem hl)
  rw [hi] at e
  rw [Option.some.inj e]
  refine Nat.xor_lt_two_pow (n := 1) (h _ (List.getElem_mem hl)) ?_
  split <;> decide
theorem spoil_getD {bs ps : List Nat} {i : Nat} (hi : i < bs.length) : (spoil bs ps).getD i 0 = bs.getD i 0 ^^^ (if i ∈ ps then 1 else 0) := by
  have e := spoil_get (ps := ps) (List.getElem?_eq_getElem hi)
  rw [List.getD_eq_getElem?_getD, e, List.getD_eq_getElem?_getD, List.getElem?_eq_getElem hi]
  rfl
theorem spoil_two {bs : List Nat} {p q : Nat} (h : p ≠ q) : spoil bs [p, q] = spoil (spoil bs [p]) [q] := by
  refine List.ext_getElem (by rw [spoil_len, spoil_len, spoil_len]) fun i h1 h2 => ?_
  rw [spoil_len] at h1
  have e := spoil_get (ps := [p, q]) (List.getElem?_eq_getElem h1)
  have e1 := spoil_get (ps := [q]) (spoil_get (ps := [p]) (List.getElem?_eq_getElem h1))
  rw [List.getElem?_eq_getElem (by rw [spoil_len]; exact h1)] at e
  rw [List.getElem?_eq_getElem h2] at e1
  rw [Option.some.inj e, Option.some.inj e1]
  by_cases a : i = p
  · by_cases b : i = q
    · exact absurd (a.symm.trans b) h
    · simp [a, b]
      rw [if_neg (fun z => b (a.trans z))]
      simp
  · by_cases b : i = q
    · subst b
      simp [a]
    · simp [a, b]
theorem XF_spoil {f : Nat → Nat} {bs : List Nat} {p : Nat} (hb : ∀ b ∈ bs, b < 2) : ∀ n, n ≤ bs.length → XF f (spoil bs [p]) n = XF f bs n ^^^ (if p < n then f p else 0)
  | 0, _ => by simp [XF]
  | n + 1, h => by
    have ih := XF_spoil (f := f) (p := p) hb n (by omega)
    rw [XF, XF, ih, spoil_getD (by omega)]
    have hx : bs.getD n 0 < 2 := by
      rw [List.getD_eq_getElem?_getD, List.getElem?_eq_getElem (by omega)]
      exact hb _ (List.getElem_mem _)
    by_cases e : n = p
    · subst e
      rw [if_pos (show n ∈ [n] by simp), if_neg (show ¬n < n by omega), if_pos (show n < n + 1 by omega), Nat.xor_zero]
      rcases bit_cases hx with z | z
      · rw [z]; simp
      · rw [z]; simp [Nat.xor_assoc, Nat.xor_self]
    · rw [if_neg (show n ∉ [p] by simp [e]), Nat.xor_zero]
      by_cases l : p < n
      · rw [if_pos l, if_pos (show p < n + 1 by omega)]
        split
        · rw [Nat.xor_assoc, Nat.xor_assoc, Nat.xor_comm (f p)]
        · rfl
      · rw [if_neg l, if_neg (show ¬p < n + 1 by omega), Nat.xor_zero, Nat.xor_zero]
theorem sum_spoil : ∀ (bs : List Nat) (p : Nat), (∀ b ∈ bs, b < 2) → p < bs.length → (spoil bs [p]).sum % 2 = (bs.sum + 1) % 2 := by
  intro bs
  induction bs with
  | nil => intro p _ h; simp at h
  | cons a l ih =>
    intro p hb hp
    have ha := hb a (by simp)
    cases p with
    | zero =>
      have e : spoil (a :: l) [0] = (a ^^^ 1) :: l := by
        unfold spoil
        rw [List.mapIdx_cons]
        simp
        refine List.ext_getElem (by simp) fun i h1 h2 => ?_
        simp
      rw [e, List.sum_cons, List.sum_cons]
      rcases bit_cases ha with z | z
      · rw [z]; simp; omega
      · rw [z]; simp; omega
    | succ p =>
      have e : spoil (a :: l) [p + 1] = a :: spoil l [p] := by
        unfold spoil
        rw [List.mapIdx_cons]
        simp
      have := ih p (fun b h => hb b (by simp [h])) (by simpa using hp)
      rw [e, List.sum_cons, List.sum_cons]
      omega
theorem spoil_drop {bs : List Nat} {p m : Nat} (h : m ≤ p) : (spoil bs [p]).drop m = spoil (bs.drop m) [p - m] := by
  refine List.ext_getElem (by simp [spoil_len]) fun i h1 h2 => ?_
  simp only [spoil, List.getElem_drop, List.getElem_mapIdx, List.mem_singleton]
  congr 1
  by_cases e : m + i = p
  · rw [if_pos e, if_pos (by omega)]
  · rw [if_neg e, if_neg (by omega)]
theorem spoil_drop_same {bs : List Nat} {p m : Nat} (h : p < m) : (spoil bs [p]).drop m = bs.drop m := by
  refine List.ext_getElem (by simp [spoil_len]) fun i h1 h2 => ?_
  simp only [spoil, List.getElem_drop, List.getElem_mapIdx, List.mem_singleton]
  rw [if_neg (by omega), Nat.xor_zero]
theorem xor_pow {x n : Nat} (h : x < 2 ^ n) : x ^^^ 2 ^ n = x + 2 ^ n := by
  refine Nat.eq_of_testBit_eq fun j => ?_
  rw [Nat.testBit_xor, Nat.testBit_two_pow, Nat.add_comm x]
  rcases Nat.lt_trichotomy j n with l | l | l
  · rw [Nat.testBit_two_pow_add_gt l, decide_eq_false (by omega)]
    simp
  · subst l
    rw [Nat.testBit_two_pow_add_eq, Nat.testBit_lt_two_pow h]
    simp
  · have a : x < 2 ^ j := Nat.lt_of_lt_of_le h (Nat.pow_le_pow_right (by decide) (by omega))
    have b : 2 ^ n + x < 2 ^ j := Nat.lt_of_lt_of_le (show 2 ^ n + x < 2 ^ (n + 1) by rw [Nat.pow_succ]; omega) (Nat.pow_le_pow_right (by decide) l)
    rw [Nat.testBit_lt_two_pow a, Nat.testBit_lt_two_pow b, decide_eq_false (by omega)]
    rfl
theorem XF_val {l : List Nat} (hb : ∀ b ∈ l, b < 2) : ∀ n, n ≤ l.length → XF (fun k => 2 ^ k) l n = valN (l.take n)
  | 0, _ => by simp [XF, valN]
  | n + 1, h => by
    have hg : l[n]? = some l[n] := List.getElem?_eq_getElem (by omega)
    have hv := valN_lt (l.take n) fun b hb' => hb b (List.mem_of_mem_take hb')
    rw [List.length_take, Nat.min_eq_left (by omega)] at hv
    have hx := hb l[n] (List.getElem_mem _)
    rw [XF, XF_val hb n (by omega), take_snoc hg, valN_snoc, List.length_take, Nat.min_eq_left (by omega), List.getD_eq_getElem?_getD, hg]
    show (if l[n] = 1 then _ else _) = _
    rcases bit_cases hx with z | z
    · rw [z]; simp
    · rw [z, if_pos rfl, xor_pow hv]
      omega
/-! ### the numbers -/
theorem numsTo_pw (t : Nat) : (numsTo t).Pairwise (· < ·) := List.Pairwise.filter np List.pairwise_lt_range'
theorem numsOf_pw (m : Nat) : (numsOf m).Pairwise (· < ·) := (numsTo_pw _).sublist (List.take_sublist _ _)
theorem numsOf_np {m x : Nat} (h : x ∈ numsOf m) : np x = true ∧ 3 ≤ x := by
  have q := List.mem_filter.mp (List.mem_of_mem_take h)
  exact ⟨q.2, (List.mem_range'_1.mp q.1).1⟩
theorem numsOf_nodup (m : Nat) : (numsOf m).Nodup := (numsOf_pw m).imp fun h => Nat.ne_of_lt h
theorem numsOf_lt_width {m x : Nat} (hl : (numsOf m).length = m) (h1 : 1 ≤ m) (h : x ∈ numsOf m) : x < 2 ^ widthN m := by
  obtain ⟨r, y, e, ew⟩ := numsOf_last hl h1
  have hy : x ≤ y := by
    have pw := numsOf_pw m
    rw [e] at pw h
    rcases List.mem_append.mp h with q | q
    · exact Nat.le_of_lt ((List.pairwise_append.mp pw).2.2 x q y (by simp))
    · rw [List.mem_singleton.mp q]
      exact Nat.le_refl _
  rw [ew]
  unfold sizeN PySem.Builtin.Int.intBits
  have h3 : 3 ≤ y := (numsOf_np (m := m) (by rw [e]; simp)).2
  rw [if_neg (by simp; omega)]
  exact Nat.lt_of_le_of_lt hy Nat.lt_log2_self
theorem get_nums {m i : Nat} (hl : (numsOf m).length = m) (hi : i < m) : ∃ x, (numsOf m)[i]? = some x ∧ (numsOf m).getD i 0 = x ∧ x ∈ numsOf m := by
  have e : (numsOf m)[i]? = some (numsOf m)[i] := List.getElem?_eq_getElem (by omega)
  exact ⟨_, e, by rw [List.getD_eq_getElem?_getD, e]; rfl, List.getElem_mem _⟩
theorem numsTo_two (t : Nat) : (numsTo t).length + 1 ≤ (numsTo (t + 2)).length := by
  rw [show t + 2 = t + 1 + 1 from rfl, numsTo_succ, numsTo_succ, List.length_append, List.length_append]
  cases h : np (3 + t)
  · have := np_next (by omega) h
    rw [show 3 + (t + 1) = 3 + t + 1 from rfl, this]
    simp
  · simp
theorem numsTo_many : ∀ m : Nat, m ≤ (numsTo (2 * m + 1)).length
  | 0 => Nat.zero_le _
  | m + 1 => by
    have := numsTo_many m
    have := numsTo_two (2 * m + 1)
    rw [show 2 * (m + 1) + 1 = 2 * m + 1 + 2 by omega]
    omega
theorem nums_len (m : Nat) : (numsOf m).length = m := by
  rw [numsOf, List.length_take, Nat.min_eq_left (numsTo_many m)]
/-! ### powers of 2 -/
theorem np_pow (j : Nat) : np (2 ^ j) = false := by
  unfold np
  rw [Nat.and_two_pow_sub_one_eq_mod, Nat.mod_self]
  rfl
theorem pow_of_np : ∀ f : Nat, f ≠ 0 → np f = false → f = 2 ^ f.log2 := by
  intro f
  induction f using Nat.strongRecOn with
  | _ f ih =>
    intro h e
    have e0 : f &&& (f - 1) = 0 := by
      unfold np at e
      simpa using e
    have d : (f &&& (f - 1)) / 2 = f / 2 &&& (f - 1) / 2 := Nat.and_div_two
    rw [e0] at d
    rcases Nat.mod_two_eq_zero_or_one f with p | p
    · have h2 : f / 2 ≠ 0 := by omega
      have q : (f - 1) / 2 = f / 2 - 1 := by omega
      rw [q] at d
      have := ih (f / 2) (by omega) h2 (by unfold np; rw [← d]; rfl)
      have lg : f.log2 = (f / 2).log2 + 1 := by
        rw [Nat.log2_def, if_pos (by omega)]
      rw [lg, Nat.pow_succ, ← this]
      omega
    · have q : (f - 1) / 2 = f / 2 := by omega
      rw [q, Nat.and_self] at d
      have : f = 1 := by omega
      subst this
      rfl
theorem size_pow (j : Nat) : sizeN (2 ^ j) = j + 1 := by
  unfold sizeN PySem.Builtin.Int.intBits
  have h0 : 0 < 2 ^ j := Nat.pow_pos (by decide)
  have h1 : ((2 ^ j : Nat) : Int) ≠ 0 := by omega
  rw [if_neg (by simpa using h1)]
  show (2 ^ j : Nat).log2 + 1 = _
  rw [Nat.log2_two_pow]
/-! ### what is wrong with a frame -/
def faultN (many : Nat) (fr : List Nat) : Nat := XF (fun i => (numsOf many).getD i 0) fr many ^^^ XF (fun k => 2 ^ k) (fr.drop many) (widthN many)
def synN (many p : Nat) : Nat := if p < many then (numsOf many).getD p 0 else if p < many + widthN many then 2 ^ (p - many) else 0
def placeN (many f : Nat) : Option Nat := if f = 0 then some (many + widthN many) else if np f = false then some (many + sizeN f - 1) else if f ∈ numsOf many then some ((numsOf many).idxOf f) else none
inductive Rd where
  | clean
  | more
  | bit (p : Nat)
def rdD : Rd → PyData
  | .clean => .tuple [.str "clean"]
  | .more => .tuple [.str "more"]
  | .bit p => .tuple [.str "bit", .int (p : Int)]
def readN (many : Nat) (fr : List Nat) : Rd := if fr.sum % 2 = 1 then (match placeN many (faultN many fr) with | none => .more | some p => .bit p) else if faultN many fr = 0 then .clean else .more
theorem fault_spoil {many p : Nat} {fr : List Nat} (hb : ∀ b ∈ fr, b < 2) (hl : fr.length = many + widthN many + 1) (hp : p < fr.length) : faultN many (spoil fr [p]) = faultN many fr ^^^ synN many p := by
  unfold faultN synN
  rw [XF_spoil hb many (by omega)]
  by_cases h : p < many
  · rw [if_pos h, if_pos h, spoil_drop_same h, Nat.xor_assoc, Nat.xor_assoc, Nat.xor_comm ((numsOf many).getD p 0)]
  · rw [if_neg h, if_neg h, Nat.xor_zero, spoil_drop (by omega), XF_spoil (fun b hb' => hb b (List.mem_of_mem_drop hb')) (widthN many) (by rw [List.length_drop]; omega), Nat.xor_assoc]
    by_cases h2 : p < many + widthN many
    · rw [if_pos (by omega), if_pos h2]
    · rw [if_neg (by omega), if_neg h2]
theorem fault_lt {many : Nat} {fr : List Nat} (hl : (numsOf many).length = many) (h1 : 1 ≤ many) : faultN many fr < 2 ^ widthN many := by
  unfold faultN
  refine Nat.xor_lt_two_pow (XF_lt _ fun i hi => ?_) (XF_lt _ fun i hi => Nat.pow_lt_pow_right (by decide) hi)
  obtain ⟨x, _, e, m⟩ := get_nums hl hi
  rw [e]
  exact numsOf_lt_width hl h1 m
theorem frame_lt {bs : List Nat} (hb : ∀ b ∈ bs, b < 2) : ∀ b ∈ frameN bs, b < 2 := by
  intro b h
  rw [frameN, bodyN] at h
  rcases List.mem_append.mp h with q | q
  · rcases List.mem_append.mp q with q | q
    · exact hb b q
    · exact bitsN_lt q
  · rw [List.mem_singleton.mp q]
    exact Nat.mod_lt _ (by decide)
theorem frame_size (bs : List Nat) : (frameN bs).length = bs.length + widthN bs.length + 1 := by
  rw [frameN, bodyN, List.length_append, List.length_append, bitsN_len]
  rfl
theorem frame_fault {bs : List Nat} (hl : (numsOf bs.length).length = bs.length) (h1 : 1 ≤ bs.length) (hb : ∀ b ∈ bs, b < 2) : faultN bs.length (frameN bs) = 0 := by
  unfold faultN
  have e1 : XF (fun i => (numsOf bs.length).getD i 0) (frameN bs) bs.length = checkN bs := by
    unfold checkN
    rw [xw_XF]
    refine XF_congr _ fun i hi => ?_
    rw [frameN, bodyN, List.append_assoc, List.getD_eq_getElem?_getD, List.getElem?_append_left hi, List.getD_eq_getElem?_getD]
  have hc : checkN bs < 2 ^ widthN bs.length := by
    rw [← e1]
    refine XF_lt _ fun i hi => ?_
    obtain ⟨x, _, e, m⟩ := get_nums hl hi
    rw [e]
    exact numsOf_lt_width hl h1 m
  have e2 : (frameN bs).drop bs.length = bitsN (widthN bs.length) (checkN bs) ++ [(bodyN bs).sum % 2] := by
    rw [frameN, bodyN, List.append_assoc, List.drop_left]
  have e3 : XF (fun k => 2 ^ k) ((frameN bs).drop bs.length) (widthN bs.length) = checkN bs := by
    rw [XF_val (fun b h => frame_lt hb b (List.mem_of_mem_drop h)) _ (by rw [List.length_drop, frame_size]; omega), e2, List.take_append_of_le_length (by rw [bitsN_len]; exact Nat.le_refl _), List.take_of_length_le (by rw [bitsN_len]; exact Nat.le_refl _), val_bits _ _ hc]
  rw [e1, e3, Nat.xor_self]
theorem frame_even (bs : List Nat) : (frameN bs).sum % 2 = 0 := by
  rw [frameN, List.sum_append]
  simp
  omega
theorem read_clean {bs : List Nat} (hl : (numsOf bs.length).length = bs.length) (h1 : 1 ≤ bs.length) (hb : ∀ b ∈ bs, b < 2) : readN bs.length (frameN bs) = .clean := by
  unfold readN
  rw [frame_even, if_neg (by decide), if_pos (frame_fault hl h1 hb)]
theorem syn_inj {many p q : Nat} (hl : (numsOf many).length = many) (hp : p < many + widthN many + 1) (hq : q < many + widthN many + 1) (h : synN many p = synN many q) : p = q := by
  have key : ∀ {p : Nat}, p < many → ∃ x, (numsOf many)[p]? = some x ∧ synN many p = x ∧ np x = true ∧ 3 ≤ x := fun {p} hp => by
    obtain ⟨x, e1, e2, m⟩ := get_nums hl hp
    exact ⟨x, e1, by rw [synN, if_pos hp, e2], numsOf_np m⟩
  have key2 : ∀ {p : Nat}, ¬ p < many → p < many + widthN many → synN many p = 2 ^ (p - many) := fun {p} h1 h2 => by rw [synN, if_neg h1, if_pos h2]
  have key3 : ∀ {p : Nat}, ¬ p < many → ¬ p < many + widthN many → synN many p = 0 := fun {p} h1 h2 => by rw [synN, if_neg h1, if_neg h2]
  have pos : ∀ j : Nat, 2 ^ j ≠ 0 := fun j => Nat.ne_of_gt (Nat.pow_pos (by decide))
  by_cases a : p < many
  · obtain ⟨x, e1, e2, n1, n3⟩ := key a
    by_cases b : q < many
    · obtain ⟨y, f1, f2, _, _⟩ := key b
      rw [e2, f2] at h
      subst h
      exact (List.getElem?_inj (by rw [hl]; exact a) (numsOf_nodup many)).mp (e1.trans f1.symm)
    · by_cases c : q < many + widthN many
      · rw [e2, key2 b c] at h
        rw [h, np_pow] at n1
        cases n1
      · rw [e2, key3 b c] at h
        omega
  · by_cases b : q < many
    · obtain ⟨y, f1, f2, n1, n3⟩ := key b
      by_cases c : p < many + widthN many
      · rw [f2, key2 a c] at h
        rw [← h, np_pow] at n1
        cases n1
      · rw [f2, key3 a c] at h
        omega
    · by_cases c : p < many + widthN many
      · by_cases d : q < many + widthN many
        · rw [key2 a c, key2 b d] at h
          have := congrArg Nat.log2 h
          rw [Nat.log2_two_pow, Nat.log2_two_pow] at this
          omega
        · rw [key2 a c, key3 b d] at h
          exact absurd h (pos _)
      · by_cases d : q < many + widthN many
        · rw [key3 a c, key2 b d] at h
          exact absurd h.symm (pos _)
        · omega
theorem place_syn {many p : Nat} (hl : (numsOf many).length = many) (hp : p < many + widthN many + 1) : placeN many (synN many p) = some p := by
  unfold placeN
  by_cases a : p < many
  · obtain ⟨x, e1, e2, m⟩ := get_nums hl a
    have e : synN many p = x := by rw [synN, if_pos a, e2]
    obtain ⟨n1, n3⟩ := numsOf_np m
    rw [e, if_neg (by omega), if_neg (by rw [n1]; decide), if_pos m]
    congr 1
    have hi : (numsOf many)[p]? = some x := e1
    obtain ⟨h1, h2⟩ := List.getElem?_eq_some_iff.mp hi
    rw [← h2]
    exact (numsOf_nodup many).idxOf_getElem p h1
  · by_cases c : p < many + widthN many
    · have e : synN many p = 2 ^ (p - many) := by rw [synN, if_neg a, if_pos c]
      rw [e, if_neg (Nat.ne_of_gt (Nat.pow_pos (by decide))), if_pos (np_pow _), size_pow]
      congr 1
      omega
    · have e : synN many p = 0 := by rw [synN, if_neg a, if_neg c]
      rw [e, if_pos rfl]
      congr 1
      omega
theorem read_one {bs : List Nat} {p : Nat} (hl : (numsOf bs.length).length = bs.length) (h1 : 1 ≤ bs.length) (hb : ∀ b ∈ bs, b < 2) (hp : p < (frameN bs).length) : readN bs.length (spoil (frameN bs) [p]) = .bit p := by
  have hf := frame_lt hb
  have e := frame_even bs
  unfold readN
  rw [if_pos (by rw [sum_spoil _ _ hf hp]; omega), fault_spoil hf (frame_size bs) hp, frame_fault hl h1 hb, Nat.zero_xor, place_syn hl (by rw [frame_size] at hp; exact hp)]
theorem read_two {bs : List Nat} {p q : Nat} (hl : (numsOf bs.length).length = bs.length) (h1 : 1 ≤ bs.length) (hb : ∀ b ∈ bs, b < 2) (hp : p < (frameN bs).length) (hq : q < (frameN bs).length) (n : p ≠ q) : readN bs.length (spoil (frameN bs) [p, q]) = .more := by
  have hf := frame_lt hb
  have e := frame_even bs
  have hf2 := spoil_lt (ps := [p]) hf
  have l2 := spoil_len (frameN bs) [p]
  unfold readN
  rw [spoil_two n, if_neg (by rw [sum_spoil _ _ hf2 (by rw [l2]; exact hq), Nat.add_mod, sum_spoil _ _ hf hp]; omega), fault_spoil hf2 (by rw [l2]; exact frame_size bs) (by rw [l2]; exact hq), fault_spoil hf (frame_size bs) hp, frame_fault hl h1 hb, Nat.zero_xor, if_neg fun z => n ?_]
  have z' : synN bs.length p = synN bs.length q := by
    have := congrArg (· ^^^ synN bs.length q) z
    simpa [Nat.xor_assoc, Nat.xor_self] using this
  exact syn_inj hl (by rw [frame_size] at hp; exact hp) (by rw [frame_size] at hq; exact hq) z'
theorem place_zero (many : Nat) : placeN many 0 = some (many + widthN many) := if_pos rfl
theorem place_pow {many j f : Nat} (h : f = 2 ^ j) : placeN many f = some (many + j) := by
  subst h
  unfold placeN
  rw [if_neg (Nat.ne_of_gt (Nat.pow_pos (by decide))), if_pos (np_pow _), size_pow]
  rfl
theorem place_low {many f : Nat} (h0 : f ≠ 0) (h : np f = false) : placeN many f = some (many + sizeN f - 1) := by
  unfold placeN
  rw [if_neg h0, if_pos h]
theorem place_num {many j f : Nat} (h0 : f ≠ 0) (h : np f = true) (hj : (numsOf many)[j]? = some f) : placeN many f = some j := by
  unfold placeN
  rw [if_neg h0, if_neg (by rw [h]; decide), if_pos (List.mem_of_getElem? hj)]
  obtain ⟨h1, h2⟩ := List.getElem?_eq_some_iff.mp hj
  rw [← h2, (numsOf_nodup many).idxOf_getElem j h1]
theorem place_none {many f : Nat} (h0 : f ≠ 0) (h : np f = true) (hn : f ∉ numsOf many) : placeN many f = none := by
  unfold placeN
  rw [if_neg h0, if_neg (by rw [h]; decide), if_neg hn]
theorem np_of_no {f n : Nat} (h0 : f ≠ 0) (hl : f < 2 ^ n) (h : ∀ j, j < n → f ≠ 2 ^ j) : np f = true := by
  cases e : np f with
  | true => rfl
  | false =>
    have q := pow_of_np f h0 e
    exact absurd q (h _ ((Nat.log2_lt h0).mpr hl))
theorem idx_first {xs : List Nat} {f : Nat} (nd : xs.Nodup) (h : f ∈ xs) : ∃ j : Nat, xs[j]? = some f ∧ ∀ m : Nat, m < j → xs[m]? ≠ some f := by
  obtain ⟨j, hj⟩ := List.mem_iff_getElem?.mp h
  have hlt : j < xs.length := (List.getElem?_eq_some_iff.mp hj).1
  refine ⟨j, hj, fun m hm e => ?_⟩
  have hm2 : m < xs.length := by omega
  have := (List.getElem?_inj hm2 nd).mp (e.trans hj.symm)
  omega
end Bf

set_option Elab.async false
set_option linter.all false
set_option maxRecDepth 100000
set_option maxHeartbeats 4000000
namespace Bf
open PySem PySem.Spec PyProof.Rows L2
def topS (i : Nat) : Stmt := PySem.Challenge.pw_beatfabric_k77_wrong_bits.main.body.getD i (.Pass ⟨0, 0, 0, 0⟩)
abbrev s_from_bits : Stmt := topS 1
abbrev s_data_numbers : Stmt := topS 3
abbrev s_check_width : Stmt := topS 4
abbrev s_frame_size : Stmt := topS 5
abbrev s_check_word : Stmt := topS 6
abbrev s_wrong_place : Stmt := topS 7
abbrev s_read_frame : Stmt := topS 8
abbrev s_law_begin : Stmt := topS 10
abbrev s_law_draw : Stmt := topS 11
abbrev s_law_pick : Stmt := topS 12
abbrev s_law_pop : Stmt := topS 13
abbrev s_law_rare : Stmt := topS 14
abbrev s_law_is_int : Stmt := topS 15
abbrev s_law_numbers : Stmt := topS 16
abbrev s_law_frame : Stmt := topS 17
abbrev s_law_word_of : Stmt := topS 18
abbrev s_law_size_of_data : Stmt := topS 19
abbrev s_law_reading : Stmt := topS 20
abbrev s_law_spoilt : Stmt := topS 21
abbrev s_law_singles : Stmt := topS 22
abbrev s_law_several : Stmt := topS 23
abbrev s_law_is_told : Stmt := topS 24
abbrev s_law_frame_read : Stmt := topS 25
abbrev s_law : Stmt := topS 26
theorem sc_from_bits : FnScope ["bits", "word", "at", "bit"] ["bits"] (defScope s_from_bits) := ⟨rfl, rfl, rfl, by decide +kernel, rfl, by decide +kernel, by decide +kernel⟩
theorem sc_data_numbers : FnScope ["many", "numbers", "number"] ["many"] (defScope s_data_numbers) := ⟨rfl, rfl, rfl, by decide +kernel, rfl, by decide +kernel, by decide +kernel⟩
theorem sc_check_width : FnScope ["many"] ["many"] (defScope s_check_width) := ⟨rfl, rfl, rfl, by decide +kernel, rfl, by decide +kernel, by decide +kernel⟩
theorem sc_frame_size : FnScope ["many"] ["many"] (defScope s_frame_size) := ⟨rfl, rfl, rfl, by decide +kernel, rfl, by decide +kernel, by decide +kernel⟩
theorem sc_check_word : FnScope ["data", "word", "number", "bit"] ["data"] (defScope s_check_word) := ⟨rfl, rfl, rfl, by decide +kernel, rfl, by decide +kernel, by decide +kernel⟩
theorem sc_wrong_place : FnScope ["many", "fault", "numbers"] ["many", "fault"] (defScope s_wrong_place) := ⟨rfl, rfl, rfl, by decide +kernel, rfl, by decide +kernel, by decide +kernel⟩
theorem sc_read_frame : FnScope ["many", "frame", "fault", "is_odd", "place"] ["many", "frame"] (defScope s_read_frame) := ⟨rfl, rfl, rfl, by decide +kernel, rfl, by decide +kernel, by decide +kernel⟩
theorem sc_law_begin : FnScope ["_law_script", "_law_cell"] ["_law_script"] (defScope s_law_begin) := ⟨rfl, rfl, rfl, by decide +kernel, rfl, by decide +kernel, by decide +kernel⟩
theorem sc_law_draw : FnScope ["_law_d", "_law_many", "_law_found", "_law_size", "_law_cell"] ["_law_d", "_law_many"] (defScope s_law_draw) := ⟨rfl, rfl, rfl, by decide +kernel, rfl, by decide +kernel, by decide +kernel⟩
theorem sc_law_pick : FnScope ["_law_d", "_law_row"] ["_law_d", "_law_row"] (defScope s_law_pick) := ⟨rfl, rfl, rfl, by decide +kernel, rfl, by decide +kernel, by decide +kernel⟩
theorem sc_law_pop : FnScope ["_law_d", "_law_row"] ["_law_d", "_law_row"] (defScope s_law_pop) := ⟨rfl, rfl, rfl, by decide +kernel, rfl, by decide +kernel, by decide +kernel⟩
theorem sc_law_rare : FnScope ["_law_d", "_law_many"] ["_law_d", "_law_many"] (defScope s_law_rare) := ⟨rfl, rfl, rfl, by decide +kernel, rfl, by decide +kernel, by decide +kernel⟩
theorem sc_law_is_int : FnScope ["_law_thing"] ["_law_thing"] (defScope s_law_is_int) := ⟨rfl, rfl, rfl, by decide +kernel, rfl, by decide +kernel, by decide +kernel⟩
theorem sc_law_numbers : FnScope ["_law_many", "_law_found", "_law_at"] ["_law_many"] (defScope s_law_numbers) := ⟨rfl, rfl, rfl, by decide +kernel, rfl, by decide +kernel, by decide +kernel⟩
theorem sc_law_frame : FnScope ["_law_data", "_law_numbers_here", "_law_word", "_law_number", "_law_bit", "_law_size", "_law_body", "_law_k"] ["_law_data"] (defScope s_law_frame) := ⟨rfl, rfl, rfl, by decide +kernel, rfl, by decide +kernel, by decide +kernel⟩
theorem sc_law_word_of : FnScope ["_law_bits", "_law_k", "_law_bit"] ["_law_bits"] (defScope s_law_word_of) := ⟨rfl, rfl, rfl, by decide +kernel, rfl, by decide +kernel, by decide +kernel⟩
theorem sc_law_size_of_data : FnScope ["_law_d", "_law_turn"] ["_law_d"] (defScope s_law_size_of_data) := ⟨rfl, rfl, rfl, by decide +kernel, rfl, by decide +kernel, by decide +kernel⟩
theorem sc_law_reading : FnScope ["_law_numbers_here", "_law_frame_here", "_law_many", "_law_size", "_law_fault", "_law_number", "_law_bit", "_law_j", "_law_at"] ["_law_numbers_here", "_law_frame_here"] (defScope s_law_reading) := ⟨rfl, rfl, rfl, by decide +kernel, rfl, by decide +kernel, by decide +kernel⟩
theorem sc_law_spoilt : FnScope ["_law_frame_here", "_law_places", "_law_at", "_law_bit"] ["_law_frame_here", "_law_places"] (defScope s_law_spoilt) := ⟨rfl, rfl, rfl, by decide +kernel, rfl, by decide +kernel, by decide +kernel⟩
theorem sc_law_singles : FnScope ["_law_d", "_law_many", "_law_size", "_law_found", "_law_k", "_law_at"] ["_law_d", "_law_many", "_law_size"] (defScope s_law_singles) := ⟨rfl, rfl, rfl, by decide +kernel, rfl, by decide +kernel, by decide +kernel⟩
theorem sc_law_several : FnScope ["_law_d", "_law_many", "_law_size", "_law_found", "_law_at", "_law_one", "_law_k", "_law_left", "_law_other"] ["_law_d", "_law_many", "_law_size"] (defScope s_law_several) := ⟨rfl, rfl, rfl, by decide +kernel, rfl, by decide +kernel, by decide +kernel⟩
theorem sc_law_is_told : FnScope ["_law_told", "_law_due", "_law_part"] ["_law_told", "_law_due"] (defScope s_law_is_told) := ⟨rfl, rfl, rfl, by decide +kernel, rfl, by decide +kernel, by decide +kernel⟩
theorem sc_law_frame_read : FnScope ["_law_d", "_law_many", "_law_numbers_here", "_law_k", "_law_frame_here", "_law_size", "_law_places", "_law_bits", "_law_due", "_law_at"] ["_law_d", "_law_many"] (defScope s_law_frame_read) := ⟨rfl, rfl, rfl, by decide +kernel, rfl, by decide +kernel, by decide +kernel⟩
theorem sc_law : FnScope ["_law_script", "_law_d", "_law_many"] ["_law_script"] (defScope s_law) := ⟨rfl, rfl, rfl, by decide +kernel, rfl, by decide +kernel, by decide +kernel⟩
structure Txt (mg : Str → Option Value) : Prop where
  n_bool : mg "bool" = none
  n_abs : mg "abs" = none
  n_isinstance : mg "isinstance" = none
  n_str : mg "str" = none
  n_len : mg "len" = none
  n_list : mg "list" = none
  n_enumerate : mg "enumerate" = none
  n_all : mg "all" = none
  n_int : mg "int" = none
  n_range : mg "range" = none
  n_zip : mg "zip" = none
  n_tuple : mg "tuple" = none
  n_sum : mg "sum" = none
/-! ### the draws -/
/-- what stood elsewhere stands -/
def Keep (S : List Addr) (H H' : Hp) : Prop := ∀ b o, b ∉ S → H b = some o → H' b = some o
theorem Keep.refl (S : List Addr) (H : Hp) : Keep S H H := fun _ _ _ h => h
theorem Keep.trans {S : List Addr} {H H1 H2 : Hp} (a : Keep S H H1) (b : Keep S H1 H2) : Keep S H H2 := fun c o n h => b c o n (a c o n h)
theorem Keep.of_same {S : List Addr} {H H1 : Hp} (a : Same H H1) : Keep S H H1 := fun c o _ h => a c o h
theorem Keep.wide {S S' : List Addr} {H H1 : Hp} (a : Keep S H H1) (h : ∀ b, b ∈ S → b ∈ S') : Keep S' H H1 := fun c o n e => a c o (fun q => n (h c q)) e
theorem Keep.upd {S : List Addr} {H : Hp} {a : Addr} {o : HO} (h : a ∈ S) : Keep S H (upd H a o) := fun b u n e => by
  rw [upd_ne (fun q => n (by rw [q]; exact h))]
  exact e
theorem Keep.new {S : List Addr} {H : Hp} {a : Addr} {o : HO} (h : H a = none) : Keep S H (L2.upd H a o) := fun b u n e => by
  rw [upd_ne (ne_of_none e h)]
  exact e
/-- the state of the draws -/
def DS (H : Hp) (a c : Addr) : Prop := ∃ (at_ left st : Int) (cells : List Int), H a = some (.lst [.ref c, .int at_, .int left, .int st, .int 3]) ∧ 0 ≤ at_ ∧ H c = some (.lst (cells.map V.int))
theorem DS.ne {H : Hp} {a c : Addr} {x : V} {xs : List V} {cells : List Int} (h : H a = some (.lst (.ref c :: xs))) (hc : H c = some (.lst (cells.map V.int))) : c ≠ a := by
  intro e
  rw [e, h] at hc
  have q := HO.lst.inj (Option.some.inj hc)
  cases cells with
  | nil => cases q
  | cons x r => cases (List.cons.inj q).1
theorem DS.keep {S : List Addr} {H H' : Hp} {a c : Addr} (h : DS H a c) (k : Keep S H H') (ha : a ∉ S) (hc : c ∉ S) : DS H' a c := by
  obtain ⟨at_, left, st, cells, h1, h2, h3⟩ := h
  exact ⟨at_, left, st, cells, k _ _ ha h1, h2, k _ _ hc h3⟩
theorem DS.same {H H' : Hp} {a c : Addr} (h : DS H a c) (k : Same H H') : DS H' a c := h.keep (S := []) (Keep.of_same k) (by simp) (by simp)
theorem DS.new {H : Hp} {a c l : Addr} (h : DS H a c) (hl : H l = none) : l ≠ a ∧ l ≠ c := by
  obtain ⟨at_, left, st, cells, h1, h2, h3⟩ := h
  exact ⟨(ne_of_none h1 hl).symm, (ne_of_none h3 hl).symm⟩
theorem pow6000 : (0 : Int) < 1 * 2 ^ (6000 : Int).toNat := by
  rw [Int.one_mul]
  exact Int.pow_pos (by decide)
def spDraw : Sp := fun vs H Q _ => ∃ (a c : Addr) (m : Int), vs = [.ref a, .int m] ∧ DS H a c ∧ 1 ≤ m ∧ m < 1073741824 ∧ ∀ (r : Int) (H' : Hp), 0 ≤ r → r < m → DS H' a c → Keep [a] H H' → Q (.int r) H'
section
variable {P : Program} {w : World} {K : PySem.W.Frag} {mg : Str → Option Value} {base : Heap}
theorem ok_draw {f : Addr} {fd : FuncData} (F : Fun K "_law_draw" "_law_draw" s_law_draw f fd) (T : Txt mg) : FnOk P w K mg base CX0 1 f fd ["_law_d", "_law_many"] spDraw := by
  refine F.ok sc_law_draw (fun vs H Q E h => ?_) (fun cdv A outer s H vs Q E hr h => ?_)
  · obtain ⟨a, c, m, rfl, _⟩ := h
    rfl
  obtain ⟨a, c, m, rfl, ⟨at_, left, st, cells, ha, h0, hc⟩, m1, m2, q⟩ := h
  have hca : c ≠ a := DS.ne (x := .non) ha hc
  refine ⟨_, (pss_cons (ps_if (pt_cmpR op_gt (pe_ix ix_list (pv 0) pe_int (fun _ _ => rfl)) pe_int (nomark _)) (pss_cons (ps_set (i := 2) sc_law_draw.nd rfl (Or.inl rfl) (pe_ix ix_list (pv 0) pe_int (fun _ _ => rfl)))
      (pss_cons (ps_asg (pe_op op_fdiv (pv 2) (pv 1)) (pg_sub (pv 0) pe_int set_list))
      (pss_one (ps_ret (pe_op op_mod (pe_callTy call_int1 (by rfl) T.n_int (by decide +kernel) (pa_cons (pv 2) pa_nil)) (pv 1)))))) pss_nil)
      (pss_cons (ps_set (i := 3) sc_law_draw.nd rfl (Or.inl rfl) pe_int)
      (C8.pss_cut (ps_if (pt_cmpR op_lt (pe_ix ix_list (pv 0) pe_int (fun _ _ => rfl)) (pe_callB call_len_seq (by rfl) T.n_len (by decide +kernel) (pa_cons (pe_ix ix_list (pv 0) pe_int (fun _ _ => rfl)) pa_nil)) (nomark _)) (pss_cons (ps_set (i := 4) sc_law_draw.nd rfl (Or.inl rfl) (pe_ix ix_list (pe_ix ix_list (pv 0) pe_int (fun _ _ => rfl)) (pe_ix ix_list (pv 0) pe_int (fun _ _ => rfl)) (fun _ _ => rfl)))
      (pss_one (ps_set (i := 3) sc_law_draw.nd rfl (Or.inl rfl) (pe_op op_add (pe_op op_mul pe_int (pe_callB call_abs (by rfl) T.n_abs (by decide +kernel) (pa_cons (pv 4) pa_nil))) (pe_callTy call_int1 (by rfl) T.n_int (by decide +kernel) (pa_cons (pe_cmpR op_lt (pv 4) pe_int (nomark _)) pa_nil)))))) pss_nil)
      (C8.pss_cut (ps_augS (pv 0) pe_int get_list pe_int ip_add set_list)
      (pss_cons (ps_if (pt_cmpR op_ge (pv 3) (pe_op op_mul pe_int (pe_op op_pow pe_int pe_int)) (nomark _)) (pss_cons (ps_set (i := 2) sc_law_draw.nd rfl (Or.inl rfl) (pe_op op_mod (pe_callTy call_int1 (by rfl) T.n_int (by decide +kernel) (pa_cons (pe_op op_fdiv (pv 3) pe_int) pa_nil)) (pe_op op_shl pe_int pe_int)))
      (pss_cons (ps_asg (pe_op op_fdiv (pv 2) (pv 1)) (pg_sub (pv 0) pe_int set_list))
      (pss_one (ps_ret (pe_op op_mod (pe_callTy call_int1 (by rfl) T.n_int (by decide +kernel) (pa_cons (pv 2) pa_nil)) (pv 1)))))) pss_nil)
      (pss_cons (ps_asg (pe_op op_mod (pe_callTy call_int1 (by rfl) T.n_int (by decide +kernel) (pa_cons (pe_op op_add (pe_op op_add (pe_op op_add (pe_op op_mul (pe_ix ix_list (pv 0) pe_int (fun _ _ => rfl)) pe_int) (pe_op op_mul (pe_op op_mod (pe_callTy call_int1 (by rfl) T.n_int (by decide +kernel) (pa_cons (pv 3) pa_nil)) pe_int) pe_int)) (pe_op op_mul (pe_ix ix_list (pv 0) pe_int (fun _ _ => rfl)) pe_int)) pe_int) pa_nil)) pe_int) (pg_sub (pv 0) pe_int set_list))
      (pss_one (ps_ret (pe_op op_mod (pe_callTy call_int1 (by rfl) T.n_int (by decide +kernel) (pa_cons (pe_op op_fdiv (pe_ix ix_list (pv 0) pe_int (fun _ _ => rfl)) pe_int) pa_nil)) (pv 1)))))))))), ?_⟩
  refine ⟨_, rfl, a, _, _, _, rfl, rfl, SqL.of ha, atI_nat (j := 2) rfl, _, _, rfl, rfl, _, rfl, ?_⟩
  refine ite2 (fun e => ?_) (fun e => ?_)
  · refine ⟨_, rfl, a, _, _, _, rfl, rfl, SqL.of ha, atI_nat (j := 2) rfl, ?_⟩
    refine ⟨_, rfl, _, rfl, left, m, rfl, rfl, ⟨by omega, by omega⟩, _, rfl, a, _, 2, 2, rfl, rfl, ha, rfl, ?_⟩
    refine ⟨_, rfl, .inl ⟨_, rfl, _, rfl, _, _, rfl, rfl, (by omega), ?_⟩⟩
    exact q _ _ (Int.emod_nonneg _ (by omega)) (Int.emod_lt_of_pos _ (by omega)) ⟨at_, left / m, st, cells, upd_same, h0, by rw [upd_ne hca]; exact hc⟩ (Keep.upd (by simp))
  · refine ⟨fun σ' H' => ∃ (z : Int) (v4 : Option V), σ' = [some (.ref a), some (.int m), none, some (.int z), v4] ∧ H' = H, ?_, ?_⟩
    · refine ⟨_, rfl, a, _, _, _, rfl, rfl, SqL.of ha, atI_nat (j := 1) rfl, _, rfl, a, _, _, _, rfl, rfl, SqL.of ha, atI_nat (j := 0) rfl, c, _, rfl, .inl (SqL.of hc), _, _, rfl, rfl, _, rfl, ?_⟩
      refine ite2 (fun e1 => ?_) (fun e1 => ?_)
      · have e2 : at_ < ((cells.map V.int).length : Nat) := of_decide_eq_true e1
        rw [List.length_map] at e2
        have hk : at_.toNat < cells.length := by omega
        have ek : ((at_.toNat : Nat) : Int) = at_ := by omega
        have q1 : atI (cells.map V.int) ((at_.toNat : Nat) : Int) = some (.int cells[at_.toNat]) := atI_nat (by rw [List.getElem?_map, List.getElem?_eq_getElem hk] <;> rfl)
        rw [ek] at q1
        refine ⟨_, rfl, a, _, _, _, rfl, rfl, SqL.of ha, atI_nat (j := 0) rfl, _, rfl, a, _, _, _, rfl, rfl, SqL.of ha, atI_nat (j := 1) rfl, c, _, _, _, rfl, rfl, SqL.of hc, q1, ?_⟩
        refine ⟨_, rfl, _, rfl, _, _, rfl, rfl, .inl ⟨by decide, by decide⟩, _, rfl, _, _, rfl, rfl, .inr ⟨_, rfl, _, _, rfl, rfl, ?_⟩⟩
        exact ⟨_, _, rfl, rfl⟩
      · exact ⟨_, _, rfl, rfl⟩
    · rintro σ' H' ⟨z, v4, rfl, rfl⟩
      refine ⟨fun σ' H1 => σ' = [some (.ref a), some (.int m), none, some (.int z), v4] ∧ H1 a = some (.lst [.ref c, .int (at_ + 1), .int left, .int st, .int 3]) ∧ H1 c = some (.lst (cells.map V.int)) ∧ Keep [a] H' H1, ?_, ?_⟩
      · exact ⟨_, rfl, a, _, 1, .int at_, rfl, rfl, ha, atI_nat (j := 1) rfl, at_, 1, rfl, rfl, a, _, 1, 1, rfl, rfl, ha, rfl, rfl, upd_same, by rw [upd_ne hca]; exact hc, Keep.upd (by simp)⟩
      rintro σ' H1 ⟨rfl, h1, h2, k1⟩
      refine ⟨_, rfl, _, _, rfl, rfl, ⟨by decide, by decide, by decide⟩, _, _, rfl, rfl, .inl ⟨by decide, by decide⟩, _, _, rfl, rfl, _, rfl, ?_⟩
      refine ite2 (fun e3 => ?_) (fun e3 => ?_)
      · refine ⟨_, rfl, z, 2, rfl, rfl, ⟨by decide, by decide⟩, .inl ⟨_, rfl, 1, 6000, rfl, rfl, ⟨by decide, by decide, by decide⟩, _, _, rfl, rfl, pow6000, ?_⟩⟩
        refine ⟨_, rfl, _, rfl, _, m, rfl, rfl, ⟨by omega, by omega⟩, _, rfl, a, _, 2, 2, rfl, rfl, h1, rfl, ?_⟩
        refine ⟨_, rfl, .inl ⟨_, rfl, _, rfl, _, _, rfl, rfl, (by omega), ?_⟩⟩
        refine q _ _ (Int.emod_nonneg _ (by omega)) (Int.emod_lt_of_pos _ (by omega)) ⟨at_ + 1, _, st, cells, upd_same, by omega, by rw [upd_ne hca]; exact h2⟩ (k1.trans (Keep.upd (by simp)))
      · refine ⟨_, rfl, a, _, _, _, rfl, rfl, SqL.of h1, atI_nat (j := 3) rfl, _, _, rfl, rfl, .inr ⟨by decide, by decide⟩, ?_⟩
        refine ⟨_, rfl, .inl ⟨_, rfl, _, _, rfl, rfl, (by show (0 : Int) < 2147483629; decide), _, _, rfl, rfl, .inr ⟨by decide, by decide⟩, _, _, rfl, rfl, ?_⟩⟩
        refine ⟨_, rfl, a, _, _, _, rfl, rfl, SqL.of h1, atI_nat (j := 1) rfl, _, _, rfl, rfl, .inr ⟨by decide, by decide⟩, _, _, rfl, rfl, _, _, rfl, rfl, .inl ⟨_, rfl, _, _, rfl, rfl, (by show (0 : Int) < 2147483647; decide), ?_⟩⟩
        refine ⟨_, rfl, a, _, 3, 3, rfl, rfl, h1, rfl, ?_⟩
        refine ⟨_, rfl, a, _, _, _, rfl, rfl, SqL.of upd_same, atI_nat (j := 3) rfl, _, _, rfl, rfl, ⟨by decide, by decide⟩, .inl ⟨_, rfl, _, rfl, _, _, rfl, rfl, (by omega), ?_⟩⟩
        exact q _ _ (Int.emod_nonneg _ (by omega)) (Int.emod_lt_of_pos _ (by omega)) ⟨at_ + 1, left, _, cells, upd_same, by omega, by rw [upd_ne hca]; exact h2⟩ (k1.trans (Keep.upd (by simp)))
end

/-! ### the beginning of the draws; a draw out of a list; is it an int -/
theorem same_new {H : Hp} {p : Addr} (h : H p = none) (o : HO) : Same H (upd H p o) := fun b u q => by rw [upd_ne (ne_of_none q h)]; exact q
theorem intAt {xs : List Int} {i : Nat} {x : V} (h : (xs.map V.int)[i]? = some x) : ∃ k, xs[i]? = some k ∧ x = V.int k := by
  rw [List.getElem?_map] at h
  cases e : xs[i]? with
  | none => rw [e] at h; cases h
  | some k => rw [e] at h; exact ⟨k, rfl, (Option.some.inj h).symm⟩
def spBegin (K : PySem.W.Frag) : Sp := fun vs H Q _ => ∃ (a : Addr) (ns : List Int), vs = [.ref a] ∧ SqL K H a (ns.map V.int) ∧ ns.length ≤ 63 ∧ ∀ (d c : Addr) (H' : Hp), H d = none → H c = none → DS H' d c → Same H H' → Q (.ref d) H'
section
variable {P : Program} {w : World} {K : PySem.W.Frag} {mg : Str → Option Value} {base : Heap}
theorem ok_begin {f : Addr} {fd : FuncData} (F : Fun K "_law_begin" "_law_begin" s_law_begin f fd) (T : Txt mg) : FnOk P w K mg base CX0 1 f fd ["_law_script"] (spBegin K) := by
  refine F.ok sc_law_begin (fun vs H Q E h => ?_) (fun cdv A outer s H vs Q E hr h => ?_)
  · obtain ⟨a, ns, rfl, _⟩ := h
    rfl
  obtain ⟨a, ns, rfl, hS, h63, q⟩ := h
  refine ⟨_, (pss_one (ps_ret (pe_lst (pa_cons (pe_lc (own := [("_law_cell", 1)]) (g := gName 1) (tt := tYes) rfl sc_law_begin.nd (pi_list (pv 0)) (blkOk_by (N := ["_law_script", "_law_cell"]) (sc := defScope s_law_begin) (by decide +kernel)) (fun _ _ _ _ _ => (pg_name (i := 1) sc_law_begin.nd rfl (Or.inl rfl))) (fun _ _ _ _ _ => pts_nil) (fun _ _ _ _ _ => (pe_callTy call_int1 (by rfl) T.n_int (by decide +kernel) (pa_cons (pv 1) pa_nil)))) (pa_cons pe_int (pa_cons pe_int (pa_cons pe_int (pa_cons pe_int pa_nil)))))))), ?_⟩
  refine ⟨_, rfl, a, rfl, ⟨_, hS⟩, fun D hD => lc_list (K := K) (a := a) (xs := ns.map V.int) (fun i H' => Same H H' ∧ H' D = some (.lst ((ns.take i).map V.int)))
    ⟨same_new hD _, upd_same⟩ (fun i H' _ p => p.1.seq hS) (fun i x H' hx p => ?_) (fun H' p => ?_)⟩
  · obtain ⟨k, hk, rfl⟩ := intAt hx
    refine ⟨rfl, _, rfl, .inl ⟨_, rfl, _, p.2, ?_, ?_, ?_⟩⟩
    · rw [List.length_map, List.length_take]
      exact small1000 (by omega)
    · intro b o e
      rw [upd_ne (ne_of_none e hD)]
      exact p.1 b o e
    · rw [upd_same, List.take_add_one, hk, List.map_append]
      rfl
  · rw [List.length_map, List.take_length] at p
    refine ⟨(by show 5 ≤ sizeLine; decide), fun l hl => ?_⟩
    have nDl : D ≠ l := ne_of_none p.2 hl
    refine q l D _ (p.1.free hl) hD ⟨0, 0, 7, ns, upd_same, Int.le_refl 0, by rw [upd_ne nDl]; exact p.2⟩ (p.1.trans (same_new hl _))
end

def spIsInt : Sp := fun vs H Q _ => ∃ i : Int, vs = [.int i] ∧ Q (.bl true) H
section
variable {P : Program} {w : World} {K : PySem.W.Frag} {mg : Str → Option Value} {base : Heap}
theorem ok_isInt {f : Addr} {fd : FuncData} (F : Fun K "_law_is_int" "_law_is_int" s_law_is_int f fd) (T : Txt mg) : FnOk P w K mg base CX0 1 f fd ["_law_thing"] spIsInt := by
  refine F.ok sc_law_is_int (fun vs H Q E h => ?_) (fun cdv A outer s H vs Q E hr h => ?_)
  · obtain ⟨i, rfl, _⟩ := h
    rfl
  obtain ⟨i, rfl, q⟩ := h
  refine ⟨_, (pss_one (ps_ret (pe_and (pe_callB (call_isi : CallR _ _ (rIsi K)) (by rfl) T.n_isinstance (by decide +kernel) (pa_cons (pv 0) (pa_cons (pe_bltn rfl T.n_int (by decide +kernel) (v := .ty "int") rfl) pa_nil))) (pe_one (pe_not (pe_callB (call_isi : CallR _ _ (rIsi K)) (by rfl) T.n_isinstance (by decide +kernel) (pa_cons (pv 0) (pa_cons (pe_bltn rfl T.n_bool (by decide +kernel) (v := .ty "bool") rfl) pa_nil)))))))), ?_⟩
  refine ⟨_, rfl, _, _, .type "int", .type "int", true, rfl, .ty "int", .base (.int i), kit_ty (by decide +kernel), true, rfl, ?_⟩
  refine iteT ?_
  refine ⟨_, rfl, _, _, .type "int", .type "bool", false, rfl, .ty "bool", .base (.int i), kit_ty (by decide +kernel), false, rfl, ?_⟩
  exact q
end

/-! ### an item of a list by draws; a list in a drawn order -/
def spPick (K : PySem.W.Frag) : Sp := fun vs H Q _ => ∃ (d c l : Addr) (xs : List V), vs = [.ref d, .ref l] ∧ DS H d c ∧ l ≠ d ∧ SqL K H l xs ∧ 1 ≤ xs.length ∧ xs.length ≤ 1000 ∧
  ∀ (k : Nat) (y : V) (H' : Hp), xs[k]? = some y → DS H' d c → Keep [d] H H' → Q y H'
theorem Keep.seqL {S : List Addr} {K : PySem.W.Frag} {H H' : Hp} {a : Addr} {xs : List V} (k : Keep S H H') (n : a ∉ S) (h : SqL K H a xs) : SqL K H' a xs := by
  rcases h with (h | ⟨u, h⟩) | h
  · exact .inl (.inl (k _ _ n h))
  · exact .inl (.inr ⟨u, k _ _ n h⟩)
  · exact .inr h
section
variable {P : Program} {w : World} {K : PySem.W.Frag} {mg : Str → Option Value} {base : Heap} {f : Addr} {fd : FuncData}
theorem ok_pick (F : Fun K "_law_pick" "_law_pick" s_law_pick f fd) (T : Txt mg) (D_law_draw : Dn P w K mg base "_law_draw" ["_law_d", "_law_many"] 1 spDraw) : FnOk P w K mg base CX0 2 f fd ["_law_d", "_law_row"] (spPick K) := by
  refine F.ok sc_law_pick (fun vs H Q E h => ?_) (fun cdv A outer s H vs Q E hr h => ?_)
  · obtain ⟨d, c, l, xs, rfl, _⟩ := h
    rfl
  obtain ⟨d, c, l, xs, rfl, hd, nld, hl, h1, h2, q⟩ := h
  refine ⟨_, (pss_one (ps_ret (pe_ix ix_list (pv 1) (pe_dn D_law_draw (hr.mono (by decide)) (by rfl) (pa_cons (pv 0) (pa_cons (pe_callB call_len_seq (by rfl) T.n_len (by decide +kernel) (pa_cons (pv 1) pa_nil)) pa_nil))) (fun _ _ => rfl)))), ?_⟩
  refine ⟨_, rfl, _, rfl, _, rfl, l, _, rfl, .inl hl, d, c, _, rfl, hd, by omega, by omega, fun r H' r0 r1 hd' k1 => ?_⟩
  obtain ⟨x, rfl⟩ := Int.eq_ofNat_of_zero_le r0
  have hx : x < xs.length := by omega
  exact ⟨l, xs, _, _, rfl, rfl, k1.seqL (by simp [nld]) hl, atI_nat (List.getElem?_eq_getElem hx), q _ _ _ (List.getElem?_eq_getElem hx) hd' k1⟩
end

/-- a draw of an item of a list, which is taken out -/
def spPop : Sp := fun vs H Q _ => ∃ (d c l : Addr) (xs : List V), vs = [.ref d, .ref l] ∧ DS H d c ∧ H l = some (.lst xs) ∧ l ≠ d ∧ l ≠ c ∧ 1 ≤ xs.length ∧ xs.length ≤ 1000 ∧
  ∀ (k : Nat) (y : V) (H' : Hp), xs[k]? = some y → DS H' d c → H' l = some (.lst (xs.eraseIdx k)) → Keep [d, l] H H' → Q y H'
section
variable {P : Program} {w : World} {K : PySem.W.Frag} {mg : Str → Option Value} {base : Heap}
theorem ok_pop {f : Addr} {fd : FuncData} (F : Fun K "_law_pop" "_law_pop" s_law_pop f fd) (T : Txt mg) (D_law_draw : Dn P w K mg base "_law_draw" ["_law_d", "_law_many"] 1 spDraw) :
    FnOk P w K mg base CX0 2 f fd ["_law_d", "_law_row"] spPop := by
  refine F.ok sc_law_pop (fun vs H Q E h => ?_) (fun cdv A outer s H vs Q E hr h => ?_)
  · obtain ⟨d, c, l, xs, rfl, _⟩ := h
    rfl
  obtain ⟨d, c, l, xs, rfl, hd, hl, nld, nlc, h1, h2, q⟩ := h
  refine ⟨_, (pss_one (ps_ret (pe_bm PySem.F.plainAttrs_list PySem.F.slot_list_pop PySem.F.type_list_pop mt_popAt (pv 1) (pa_cons (pe_dn D_law_draw (hr.mono (by decide)) (by rfl) (pa_cons (pv 0) (pa_cons (pe_callB call_len_seq (by rfl) T.n_len (by decide +kernel) (pa_cons (pv 1) pa_nil)) pa_nil))) pa_nil)))), ?_⟩
  refine ⟨_, rfl, .inl ⟨rfl, _, SqL.of hl⟩, _, rfl, _, rfl, l, _, rfl, .inl (SqL.of hl), d, c, _, rfl, hd, (by omega), (by omega), fun r H' r0 r1 hd' k1 => ?_⟩
  have hl' : H' l = some (.lst xs) := k1 _ _ (by simp [nld]) hl
  have hk : r.toNat < xs.length := by omega
  refine ⟨l, xs, r, r.toNat, xs[r.toNat], rfl, rfl, hl', by omega, by omega, seqIndex_of r0 (by omega), List.getElem?_eq_getElem hk, ?_⟩
  refine q _ _ _ (List.getElem?_eq_getElem hk) (hd'.keep (S := [l]) (Keep.upd (by simp)) (by simp [nld.symm]) (by simp [nlc.symm])) upd_same ((k1.wide (by simp)).trans (Keep.upd (by simp)))
end

/-! ### what stands -/
theorem DS.at_ {H : Hp} {d c : Addr} (h : DS H d c) : ∃ l, H d = some (.lst l) := let ⟨_, _, _, _, e, _⟩ := h; ⟨_, e⟩
theorem Keep.tups {S : List Addr} {H H' : Hp} (k : Keep S H H') (n : ∀ b ∈ S, ∃ l, H b = some (.lst l)) : KeepT H H' := fun b xs h => k _ _ (fun m => by
  obtain ⟨l, q⟩ := n b m
  rw [q] at h
  cases h) h
theorem Keep.tup1 {H H' : Hp} {d c : Addr} (k : Keep [d] H H') (h : DS H d c) : KeepT H H' := k.tups fun b hb => by rw [List.mem_singleton.mp hb]; exact h.at_
theorem Keep.tup2 {H H' : Hp} {d c l : Addr} {xs : List V} (k : Keep [d, l] H H') (h : DS H d c) (hl : H l = some (.lst xs)) : KeepT H H' := k.tups fun b hb => by
  rcases List.mem_cons.mp hb with e | hb
  · rw [e]; exact h.at_
  · rw [List.mem_singleton.mp hb]; exact ⟨_, hl⟩
/-- the names that are left -/
def Nms (H : Hp) (l : Addr) (n : Nat) : Prop := ∃ names : List V, H l = some (.lst names) ∧ (∀ v ∈ names, ∃ z : Str, v = .str z) ∧ names.length = n
theorem Nms.keep {S : List Addr} {H H' : Hp} {l : Addr} {n : Nat} (h : Nms H l n) (k : Keep S H H') (hl : l ∉ S) : Nms H' l n := let ⟨x, a, b, e⟩ := h; ⟨x, k _ _ hl a, b, e⟩
theorem Nms.same {H H' : Hp} {l : Addr} {n : Nat} (h : Nms H l n) (k : Same H H') : Nms H' l n := let ⟨x, a, b, e⟩ := h; ⟨x, k _ _ a, b, e⟩
theorem Nms.cast {H : Hp} {l : Addr} {n m : Nat} (h : Nms H l n) (e : n = m) : Nms H l m := e ▸ h
theorem Keep.thin {S S' : List Addr} {H H' : Hp} (k : Keep S' H H') (h : ∀ b ∈ S', b ∈ S ∨ H b = none) : Keep S H H' := fun b o n e => k b o (fun m => by
  rcases h b m with q | q
  · exact n q
  · rw [q] at e; cases e) e
theorem Keep.cat {S S' : List Addr} {H H1 H2 : Hp} (a : Keep S H H1) (b : Keep S' H1 H2) : Keep (S ++ S') H H2 := fun c o n h => b c o (fun m => n (List.mem_append_right _ m)) (a c o (fun m => n (List.mem_append_left _ m)) h)
theorem Keep.free {S : List Addr} {H H' : Hp} {l : Addr} (k : Keep S H H') (h : H' l = none) (n : l ∉ S) : H l = none := by
  cases e : H l with
  | none => rfl
  | some o => rw [k l o n e] at h; cases h
theorem Keep.sm {H H' : Hp} (k : Same H H') : Keep [] H H' := .of_same k
theorem Keep.at1 {H : Hp} {a : Addr} {o : HO} : Keep [a] H (L2.upd H a o) := .upd (by simp)
/-- the list at D: data of acc -/
def Acc {α : Type} (D : Addr) (f : α → PyData) (acc : List α) (H : Hp) : Prop := ∃ vs : List V, H D = some (.lst vs) ∧ LayAll H vs (acc.map f)
theorem Acc.nil {α : Type} {D : Addr} {f : α → PyData} {H : Hp} : Acc D f [] (upd H D (.lst [])) := ⟨[], upd_same, .nil⟩
theorem Acc.keep {α : Type} {D : Addr} {f : α → PyData} {acc : List α} {S : List Addr} {H H' : Hp} (h : Acc D f acc H) (k : Keep S H H') (t : KeepT H H') (n : D ∉ S) : Acc D f acc H' := let ⟨vs, a, b⟩ := h; ⟨vs, k _ _ n a, b.keep' t⟩
theorem Acc.same {α : Type} {D : Addr} {f : α → PyData} {acc : List α} {H H' : Hp} (h : Acc D f acc H) (k : Same H H') : Acc D f acc H' := let ⟨vs, a, b⟩ := h; ⟨vs, k _ _ a, b.keep' (.same k)⟩
theorem Acc.push {α : Type} {D : Addr} {f : α → PyData} {acc : List α} {H : Hp} {y : V} {x : α} (h : Acc D f acc H) (l : Lay H y (f x)) (n : acc.length ≤ 1000) :
    ∃ vs, H D = some (.lst vs) ∧ vs.length < sizeLine ∧ Acc D f (acc ++ [x]) (upd H D (.lst (vs ++ [y]))) ∧ KeepT H (upd H D (.lst (vs ++ [y]))) := by
  obtain ⟨vs, a, b⟩ := h
  have e := b.len
  rw [List.length_map] at e
  have kt : KeepT H (upd H D (.lst (vs ++ [y]))) := .lst a
  refine ⟨vs, a, by rw [e]; exact small1000 n, ⟨_, upd_same, ?_⟩, kt⟩
  rw [List.map_append]
  exact (b.snoc l).keep' kt
theorem Acc.at_ {α : Type} {D : Addr} {f : α → PyData} {acc : List α} {H : Hp} (h : Acc D f acc H) : ∃ l, H D = some (.lst l) := let ⟨vs, a, _⟩ := h; ⟨vs, a⟩

/-! ### a rare case by a draw -/
def spRare : Sp := fun vs H Q _ => ∃ (d c : Addr) (m : Int), vs = [.ref d, .int m] ∧ DS H d c ∧ 1 ≤ m ∧ m < 1000 ∧ ∀ (b : Bool) (H' : Hp), DS H' d c → Keep [d] H H' → Q (.bl b) H'
section
variable {P : Program} {w : World} {K : PySem.W.Frag} {mg : Str → Option Value} {base : Heap} {f : Addr} {fd : FuncData}
theorem ok_rare (F : Fun K "_law_rare" "_law_rare" s_law_rare f fd) (T : Txt mg) (D_law_draw : Dn P w K mg base "_law_draw" ["_law_d", "_law_many"] 1 spDraw) : FnOk P w K mg base CX0 2 f fd ["_law_d", "_law_many"] spRare := by
  refine F.ok sc_law_rare (fun vs H Q E h => ?_) (fun cdv A outer s H vs Q E hr h => ?_)
  · obtain ⟨d, c, m, rfl, _⟩ := h
    rfl
  obtain ⟨d, c, m, rfl, hd, h1, h2, q⟩ := h
  refine ⟨_, (pss_one (ps_ret (pe_cmpR op_eq (pe_dn D_law_draw (hr.mono (by decide)) (by rfl) (pa_cons (pv 0) (pa_cons (pv 1) pa_nil))) (pe_op op_fdiv (pv 1) pe_int) (nomark _)))), ?_⟩
  refine ⟨_, rfl, _, rfl, d, c, m, rfl, hd, h1, by omega, fun r H' r0 r1 hd' k1 => ?_⟩
  exact ⟨_, rfl, m, 2, rfl, rfl, ⟨by decide, by decide⟩, rfl, q _ _ hd' k1⟩
end

/-! ### drawn bits -/
theorem kfree {S : List Addr} {H H' : Hp} {l : Addr} (k : Keep S H H') (h : H' l = none) (n : l ∉ S) : H l = none := by
  cases e : H l with
  | none => rfl
  | some o => rw [k l o n e] at h; cases h
theorem keep_two {S : List Addr} {H H' : Hp} {p : Addr} {o : HO} (k : Keep S H H') (hp : H p = none) : Keep S H (upd H' p o) := fun b u n q => by
  rw [upd_ne (ne_of_none q hp)]
  exact k _ _ n q
def BI (d c D : Addr) (H0 : Hp) (i : Nat) (H' : Hp) : Prop := ∃ bs : List Nat, bs.length = i ∧ (∀ b ∈ bs, b < 2) ∧ H' D = some (.lst (bs.map vI)) ∧ DS H' d c ∧ Keep [d] H0 H'
theorem BI.push {d c D : Addr} {H0 H' : Hp} {i b : Nat} (h : BI d c D H0 i H') (hD : H0 D = none) (nd : D ≠ d) (nc : D ≠ c) (hi : i < 1000) (hb : b < 2) : ∃ acc, H' D = some (.lst acc) ∧ acc.length < sizeLine ∧ BI d c D H0 (i + 1) (upd H' D (.lst (acc ++ [vI b]))) := by
  obtain ⟨bs, l, z, e, ds, k⟩ := h
  refine ⟨_, e, by rw [List.length_map, l]; exact small1000 (by omega), bs ++ [b], by rw [List.length_append, l]; rfl, fun x hx => ?_, ?_, ds.keep (S := [D]) (Keep.upd (by simp)) (by simp [nd.symm]) (by simp [nc.symm]), keep_two k hD⟩
  · rcases List.mem_append.mp hx with q | q
    · exact z x q
    · rw [List.mem_singleton.mp q]; exact hb
  · rw [upd_same, List.map_append]
    rfl
theorem BI.start {d c D : Addr} {H0 H : Hp} (ds : DS H d c) (k : Keep [d] H0 H) (hD : H D = none) (hD0 : H0 D = none) : BI d c D H0 0 (upd H D (.lst [])) :=
  ⟨[], rfl, fun _ h => by simp at h, upd_same, ds.same (same_new hD _), keep_two k hD0⟩
theorem xor_lt2 {x y : Nat} (hx : x < 2) (hy : y < 2) : x ^^^ y < 2 := Nat.xor_lt_two_pow (n := 1) hx hy
theorem pick_nat {ms : List Nat} {k : Nat} {y : V} (h : (ms.map vI)[k]? = some y) (b : ∀ m ∈ ms, 1 ≤ m ∧ m ≤ 500) : ∃ m : Nat, y = vI m ∧ 1 ≤ m ∧ m ≤ 500 := by
  obtain ⟨m, hm, rfl⟩ := natAt h
  exact ⟨m, rfl, b m (List.mem_of_getElem? hm)⟩

/-! ### a word from its bits -/
theorem shl_okB {k : Nat} (h : k < 2) : (k : Int).natAbs < 2 ^ 64 := by
  have q : 2 ≤ 2 ^ 64 := by decide
  rw [Int.natAbs_natCast]
  exact Nat.lt_of_lt_of_le h q
theorem val_cast (v k i : Nat) : vI (v + k * 2 ^ i) = V.int ((v : Int) + (k : Int) * 2 ^ ((i : Int)).toNat) := by
  show V.int (((v + k * 2 ^ i : Nat)) : Int) = _
  rw [Int.toNat_natCast]
  congr 1
def spFrom (K : PySem.W.Frag) : Sp := fun vs H Q _ => ∃ (a : Addr) (bs : List Nat), vs = [.ref a] ∧ SqT K H a (bs.map vI) ∧ (∀ b ∈ bs, b < 2) ∧ bs.length ≤ 1000 ∧ ∀ H' : Hp, Same H H' → Q (vI (valN bs)) H'
section
variable {P : Program} {w : World} {K : PySem.W.Frag} {mg : Str → Option Value} {base : Heap} {f : Addr} {fd : FuncData}
theorem ok_from (F : Fun K "from_bits" "from_bits" s_from_bits f fd) (T : Txt mg) : FnOk P w K mg base CX0 1 f fd ["bits"] (spFrom K) := by
  refine F.ok sc_from_bits (fun vs H Q E h => ?_) (fun cdv A outer s H vs Q E hr h => ?_)
  · obtain ⟨a, bs, rfl, _⟩ := h
    rfl
  obtain ⟨a, bs, rfl, ha, hb, hl, q⟩ := h
  refine ⟨_, (pss_cons (ps_set (i := 1) sc_from_bits.nd rfl (Or.inl rfl) pe_int)
      (pss_cons (ps_for PassesOwn.never rfl (pi_enumX (by rfl) T.n_enumerate (pa_cons (pv 0) pa_nil)) (pg_tup rfl (pgs_cons (pg_name (i := 2) sc_from_bits.nd rfl (Or.inl rfl)) (pgs_cons (pg_name (i := 3) sc_from_bits.nd rfl (Or.inl rfl)) pgs_nil))) (pss_one (ps_set (i := 1) sc_from_bits.nd rfl (Or.inl rfl) (pe_op op_add (pv 1) (pe_op op_shl (pv 3) (pv 2))))))
      (pss_one (ps_ret (pv 1))))), ?_⟩
  refine ⟨_, rfl, srcT, a, bs.map vI, rfl, ha, for_enumG srcT (xs := bs.map vI) (fun i σ' H' => ∃ s2 s3 : Option V, σ' = [some (.ref a), some (vI (valN (bs.take i))), s2, s3] ∧ Same H H') ⟨none, none, rfl, Same.refl _⟩ (fun i σ' H' p => ?_) (fun i x T' σ' H' hx p hT => ?_) (fun σ' H' p => ?_)⟩
  · obtain ⟨_, _, _, sm⟩ := p
    exact seqT_same sm ha
  · obtain ⟨s2, s3, rfl, sm⟩ := p
    obtain ⟨k, hk, rfl⟩ := natAt hx
    have hi := (List.getElem?_eq_some_iff.mp hk).1
    have k2 : k < 2 := hb k (List.mem_of_getElem? hk)
    refine ⟨T', _, rfl, SqT.of upd_same, rfl, _, _, rfl, _, _, rfl, rfl, _, rfl, _, rfl, _, rfl, (k : Int), (i : Int), rfl, rfl, ⟨Int.natCast_nonneg _, (by omega), shl_okB k2⟩, _, _, rfl, rfl, some (.int (i : Nat)), some (vI k), ?_, sm.trans (same_new hT _)⟩
    rw [take_snoc hk, valN_snoc, List.length_take, Nat.min_eq_left (Nat.le_of_lt hi)]
    show _ = [some (V.ref a), some (vI (valN (List.take i bs) + k * 2 ^ i)), _, _]
    rw [val_cast]
    rfl
  · obtain ⟨s2, s3, rfl, sm⟩ := p
    rw [List.length_map, List.take_length]
    exact ⟨_, rfl, q _ sm⟩
end

end Bf

set_option Elab.async false
set_option linter.all false
set_option maxRecDepth 100000
set_option maxHeartbeats 4000000
namespace Bf
open PySem PySem.Spec PyProof.Rows L2
/-! ### numbers, width, check word -/
def spNums : Sp := fun vs H Q _ => ∃ many : Nat, vs = [vI many] ∧ many ≤ 1000 ∧ ∀ (p : Addr) (H' : Hp), Same H H' → H p = none → H' p = some (.lst ((numsOf many).map vI)) → (numsOf many).length = many → Q (.ref p) H'
def spWidth : Sp := fun vs H Q _ => ∃ many : Nat, vs = [vI many] ∧ 1 ≤ many ∧ many ≤ 1000 ∧ ∀ H' : Hp, Same H H' → 1 ≤ widthN many → Q (vI (widthN many)) H'
def spWord (K : PySem.W.Frag) : Sp := fun vs H Q _ => ∃ (a : Addr) (bs : List Nat), vs = [.ref a] ∧ SqT K H a (bs.map vI) ∧ bs.length ≤ 1000 ∧ ∀ H' : Hp, Same H H' → Q (vI (checkN bs)) H'
def spFrame (K : PySem.W.Frag) : Sp := fun vs H Q _ => ∃ (a : Addr) (bs : List Nat), vs = [.ref a] ∧ SqT K H a (bs.map vI) ∧ 1 ≤ bs.length ∧ bs.length ≤ 500 ∧ ∀ (p : Addr) (H' : Hp), Same H H' → H p = none → H' p = some (.tup ((frameN bs).map vI)) → Q (.ref p) H'
section
variable {P : Program} {w : World} {K : PySem.W.Frag} {mg : Str → Option Value} {base : Heap} {f : Addr} {fd : FuncData}
theorem ok_nums (F : Fun K "data_numbers" "data_numbers" s_data_numbers f fd) (T : Txt mg) : FnOk P w K mg base CX0 1 f fd ["many"] spNums := by
  refine F.ok sc_data_numbers (fun vs H Q E h => ?_) (fun cdv A outer s H vs Q E hr h => ?_)
  · obtain ⟨many, rfl, _⟩ := h
    rfl
  obtain ⟨many, rfl, hm, q⟩ := h
  refine ⟨_, (pss_cons (ps_set (i := 1) sc_data_numbers.nd rfl (Or.inl rfl) (pe_lst pa_nil))
      (pss_cons (ps_set (i := 2) sc_data_numbers.nd rfl (Or.inl rfl) pe_int)
      (pss_cons (ps_while PassesOwn.never (pt_cmpR op_lt (pe_callB call_len_seq (by rfl) T.n_len (by decide +kernel) (pa_cons (pv 1) pa_nil)) (pv 0) (nomark _)) (pss_cons (ps_if (pt_cmpR op_ne (pe_op op_andB (pv 2) (pe_op op_sub (pv 2) pe_int)) pe_int (nomark _)) (pss_one (ps_expr (pe_bm PySem.F.plainAttrs_list PySem.F.slot_list_append PySem.F.type_list_append mt_append (pv 1) (pa_cons (pv 2) pa_nil)))) pss_nil)
      (pss_one (ps_aug (i := 2) sc_data_numbers.nd rfl (Or.inl rfl) pe_int ip_add))))
      (pss_one (ps_ret (pv 1)))))), ?_⟩
  refine ⟨Nat.zero_le _, fun p hp => ?_⟩
  refine ⟨fun m σ' H' => ∃ t : Nat, σ' = [some (vI many), some (.ref p), some (vI (3 + t))] ∧ Same H H' ∧ H' p = some (.lst ((numsTo t).map vI)) ∧ t + m ≤ 2 * many ∧ (numsTo t).length ≤ many ∧ m = 2 * (many - (numsTo t).length) + (if np (3 + t) then 0 else 1),
    ⟨2 * many, 0, rfl, same_new hp _, upd_same, by omega, Nat.zero_le _, rfl⟩, fun m σ' H' pv => ?_⟩
  obtain ⟨t, rfl, sm, hf, b1, b2, bm⟩ := pv
  refine ⟨_, rfl, p, _, rfl, .inl (SqL.of hf), _, rfl, _, _, rfl, rfl, _, rfl, ?_⟩
  by_cases hc : (numsTo t).length < many
  · refine ifY (by rw [List.length_map]; simpa using hc) ⟨_, fun _ _ h => h, ?_⟩
    have hl : ((numsTo t).map vI).length < sizeLine := by rw [List.length_map]; exact small1000 (by omega)
    refine ⟨_, rfl, _, rfl, _, _, rfl, rfl, _, _, rfl, congrArg V.int (show (((3 + t : Nat) : Int) - 1) = ((3 + t - 1 : Nat) : Int) by omega), ?_⟩
    refine ⟨rfl, _, rfl, ?_⟩
    cases hn : np (3 + t)
    · have e0 : 3 + t &&& (3 + t - 1) = 0 := by unfold np at hn; simpa using hn
      refine ifN (by rw [e0]; rfl) ?_
      have h1 := np_next (by omega) hn
      have es : numsTo (t + 1) = numsTo t := by rw [numsTo_succ, hn]; simp
      refine ⟨_, rfl, _, _, rfl, rfl, 2 * (many - (numsTo t).length), ?_, t + 1, ?_, sm, ?_, ?_, ?_, ?_⟩
      · rw [bm, hn]; simp
      · show _ = [_, _, some (vI (3 + t + 1))]
        rfl
      · rw [es]; exact hf
      · rw [bm, hn] at b1; simp at b1; omega
      · rw [es]; exact b2
      · rw [es, show 3 + (t + 1) = 3 + t + 1 from rfl, h1]; simp
    · have e0 : 3 + t &&& (3 + t - 1) ≠ 0 := by unfold np at hn; simpa using hn
      refine ifY (by show (!decide (vI _ = vI 0)) = true; rw [decide_eq_false (fun z => e0 (by have := V.int.inj z; omega))]; rfl) ?_
      refine ⟨_, rfl, .inl ⟨rfl, _, SqL.of hf⟩, _, rfl, p, _, _, rfl, rfl, hf, hl, ?_⟩
      have es : numsTo (t + 1) = numsTo t ++ [3 + t] := by rw [numsTo_succ, hn]; simp
      have el : (numsTo (t + 1)).length = (numsTo t).length + 1 := by rw [es]; simp
      refine ⟨_, rfl, _, _, rfl, rfl, 2 * (many - (numsTo (t + 1)).length) + (if np (3 + (t + 1)) then 0 else 1), ?_, t + 1, ?_, same_two sm hp, ?_, ?_, ?_, rfl⟩
      · rw [bm, hn, el]; split <;> simp <;> omega
      · show _ = [_, _, some (vI (3 + t + 1))]
        rfl
      · rw [upd_same, es, List.map_append]
        rfl
      · rw [bm, hn, ] at b1
        rw [el]
        simp at b1
        split <;> omega
      · rw [el]; omega
  · refine ifN (by rw [List.length_map]; simpa using hc) ?_
    have e : (numsTo t).length = many := by omega
    have e2 := numsOf_of (show t ≤ 2 * many by omega) e
    rw [e2] at e hf
    exact ⟨_, rfl, q p _ sm hp hf e⟩
theorem ok_cwidth (F : Fun K "check_width" "check_width" s_check_width f fd) (T : Txt mg) (D_data_numbers : Dn P w K mg base "data_numbers" ["many"] 1 spNums) : FnOk P w K mg base CX0 2 f fd ["many"] spWidth := by
  refine F.ok sc_check_width (fun vs H Q E h => ?_) (fun cdv A outer s H vs Q E hr h => ?_)
  · obtain ⟨many, rfl, _⟩ := h
    rfl
  obtain ⟨many, rfl, h1, hm, q⟩ := h
  refine ⟨_, (pss_one (ps_ret (pe_bits (pe_ix ix_list (pe_dn D_data_numbers (hr.mono (by decide)) (by rfl) (pa_cons (pv 0) pa_nil)) (pe_un un_neg pe_int) (fun _ _ => rfl))))), ?_⟩
  refine ⟨_, rfl, many, rfl, hm, fun p H' sm hp hf hl => ?_⟩
  obtain ⟨r, x, e, ew⟩ := numsOf_last hl h1
  rw [e, List.map_append] at hf
  refine ⟨_, rfl, p, _, _, _, rfl, rfl, SqL.of hf, atI_last _ _, _, rfl, ?_⟩
  have := q H' sm (widthN_pos hl h1)
  rw [ew] at this
  exact this
theorem ok_cword (F : Fun K "check_word" "check_word" s_check_word f fd) (T : Txt mg) (D_data_numbers : Dn P w K mg base "data_numbers" ["many"] 1 spNums) : FnOk P w K mg base CX0 2 f fd ["data"] (spWord K) := by
  refine F.ok sc_check_word (fun vs H Q E h => ?_) (fun cdv A outer s H vs Q E hr h => ?_)
  · obtain ⟨a, bs, rfl, _⟩ := h
    rfl
  obtain ⟨a, bs, rfl, ha, hm, q⟩ := h
  refine ⟨_, (pss_cons (ps_set (i := 1) sc_check_word.nd rfl (Or.inl rfl) pe_int)
      (pss_cons (ps_for PassesOwn.never rfl (pi_zipX (by rfl) T.n_zip (pa_cons (pe_dn D_data_numbers (hr.mono (by decide)) (by rfl) (pa_cons (pe_callB call_len_seq (by rfl) T.n_len (by decide +kernel) (pa_cons (pv 0) pa_nil)) pa_nil)) (pa_cons (pv 0) pa_nil))) (pg_tup rfl (pgs_cons (pg_name (i := 2) sc_check_word.nd rfl (Or.inl rfl)) (pgs_cons (pg_name (i := 3) sc_check_word.nd rfl (Or.inl rfl)) pgs_nil))) (pss_one (ps_if (pt_cmpR op_eq (pv 3) pe_int (nomark _)) (pss_one (ps_set (i := 1) sc_check_word.nd rfl (Or.inl rfl) (pe_op op_xorB (pv 1) (pv 2)))) pss_nil)))
      (pss_one (ps_ret (pv 1))))), ?_⟩
  refine ⟨_, rfl, a, _, rfl, .inr ha, bs.length, by rw [List.length_map]; rfl, hm, fun p H1 sm hp hf hl => ?_⟩
  refine ⟨_, rfl, srcL, srcT, p, a, (numsOf bs.length).map vI, bs.map vI, rfl, SqL.of hf, seqT_same sm ha, for_zipG srcL srcT (xs := (numsOf bs.length).map vI) (ys := bs.map vI) (by rw [List.length_map, List.length_map, hl]) (fun (i : Nat) (σ' : L2.St) (H' : Hp) => ∃ v2 v3 : Option V, σ' = [some (.ref a), some (vI (xwTo (numsOf bs.length) bs i)), v2, v3] ∧ Same H1 H')
    ⟨none, none, rfl, Same.refl _⟩ (fun i σ' H' pv => ?_) (fun i x y T' σ' H' hx hy pv hT => ?_) (fun σ' H' pv => ?_)⟩
  · obtain ⟨_, _, _, s2⟩ := pv
    exact ⟨SqL.of (s2 _ _ hf), seqT_same (sm.trans s2) ha⟩
  · obtain ⟨v2, v3, rfl, s2⟩ := pv
    obtain ⟨n, hn, rfl⟩ := natAt hx
    obtain ⟨b, hb, rfl⟩ := natAt hy
    refine ⟨T', _, rfl, SqT.of upd_same, rfl, _, _, rfl, _, _, rfl, rfl, ?_⟩
    refine ⟨_, rfl, rfl, _, rfl, ite2 (fun z => ?_) (fun z => ?_)⟩
    · have eb : b = 1 := one_of z
      refine ⟨_, rfl, _, rfl, _, _, rfl, rfl, some (vI n), some (vI b), ?_, s2.trans (same_new hT _)⟩
      rw [xwTo_yes hn hb eb]
      rfl
    · have eb : b ≠ 1 := not_one (Bool.eq_false_iff.mpr z)
      refine ⟨some (vI n), some (vI b), ?_, s2.trans (same_new hT _)⟩
      rw [xwTo_no hb eb]
      rfl
  · obtain ⟨v2, v3, rfl, s2⟩ := pv
    refine ⟨_, rfl, ?_⟩
    rw [List.length_map, hl]
    exact q _ (sm.trans s2)
end

/-! ### the law's numbers and frames -/
theorem frame_len {bs : List Nat} (h : bs.length ≤ 500) : (frameN bs).length ≤ 1000 := by
  have := widthN_le (show bs.length ≤ 1000 by omega)
  rw [frameN, bodyN, List.length_append, List.length_append, bitsN_len]
  show _ + _ + 1 ≤ _
  omega
section
variable {P : Program} {w : World} {K : PySem.W.Frag} {mg : Str → Option Value} {base : Heap} {f : Addr} {fd : FuncData}
theorem ok_lnums (F : Fun K "_law_numbers" "_law_numbers" s_law_numbers f fd) (T : Txt mg) : FnOk P w K mg base CX0 1 f fd ["_law_many"] spNums := by
  refine F.ok sc_law_numbers (fun vs H Q E h => ?_) (fun cdv A outer s H vs Q E hr h => ?_)
  · obtain ⟨many, rfl, _⟩ := h
    rfl
  obtain ⟨many, rfl, hm, q⟩ := h
  refine ⟨_, (pss_cons (ps_set (i := 1) sc_law_numbers.nd rfl (Or.inl rfl) (pe_lst pa_nil))
      (pss_cons (ps_set (i := 2) sc_law_numbers.nd rfl (Or.inl rfl) pe_int)
      (pss_cons (ps_while PassesOwn.never (pt_cmpR op_lt (pe_callB call_len_seq (by rfl) T.n_len (by decide +kernel) (pa_cons (pv 1) pa_nil)) (pv 0) (nomark _)) (pss_cons (ps_if (pt_cmpR op_ne (pe_op op_andB (pv 2) (pe_op op_sub (pv 2) pe_int)) pe_int (nomark _)) (pss_one (ps_expr (pe_bm PySem.F.plainAttrs_list PySem.F.slot_list_append PySem.F.type_list_append mt_append (pv 1) (pa_cons (pv 2) pa_nil)))) pss_nil)
      (pss_one (ps_aug (i := 2) sc_law_numbers.nd rfl (Or.inl rfl) pe_int ip_add))))
      (pss_one (ps_ret (pv 1)))))), ?_⟩
  refine ⟨Nat.zero_le _, fun p hp => ?_⟩
  refine ⟨fun m σ' H' => ∃ t : Nat, σ' = [some (vI many), some (.ref p), some (vI (3 + t))] ∧ Same H H' ∧ H' p = some (.lst ((numsTo t).map vI)) ∧ t + m ≤ 2 * many ∧ (numsTo t).length ≤ many ∧ m = 2 * (many - (numsTo t).length) + (if np (3 + t) then 0 else 1),
    ⟨2 * many, 0, rfl, same_new hp _, upd_same, by omega, Nat.zero_le _, rfl⟩, fun m σ' H' pv => ?_⟩
  obtain ⟨t, rfl, sm, hf, b1, b2, bm⟩ := pv
  refine ⟨_, rfl, p, _, rfl, .inl (SqL.of hf), _, rfl, _, _, rfl, rfl, _, rfl, ?_⟩
  by_cases hc : (numsTo t).length < many
  · refine ifY (by rw [List.length_map]; simpa using hc) ⟨_, fun _ _ h => h, ?_⟩
    have hl : ((numsTo t).map vI).length < sizeLine := by rw [List.length_map]; exact small1000 (by omega)
    refine ⟨_, rfl, _, rfl, _, _, rfl, rfl, _, _, rfl, congrArg V.int (show (((3 + t : Nat) : Int) - 1) = ((3 + t - 1 : Nat) : Int) by omega), ?_⟩
    refine ⟨rfl, _, rfl, ?_⟩
    cases hn : np (3 + t)
    · have e0 : 3 + t &&& (3 + t - 1) = 0 := by unfold np at hn; simpa using hn
      refine ifN (by rw [e0]; rfl) ?_
      have h1 := np_next (by omega) hn
      have es : numsTo (t + 1) = numsTo t := by rw [numsTo_succ, hn]; simp
      refine ⟨_, rfl, _, _, rfl, rfl, 2 * (many - (numsTo t).length), ?_, t + 1, ?_, sm, ?_, ?_, ?_, ?_⟩
      · rw [bm, hn]; simp
      · show _ = [_, _, some (vI (3 + t + 1))]
        rfl
      · rw [es]; exact hf
      · rw [bm, hn] at b1; simp at b1; omega
      · rw [es]; exact b2
      · rw [es, show 3 + (t + 1) = 3 + t + 1 from rfl, h1]; simp
    · have e0 : 3 + t &&& (3 + t - 1) ≠ 0 := by unfold np at hn; simpa using hn
      refine ifY (by show (!decide (vI _ = vI 0)) = true; rw [decide_eq_false (fun z => e0 (by have := V.int.inj z; omega))]; rfl) ?_
      refine ⟨_, rfl, .inl ⟨rfl, _, SqL.of hf⟩, _, rfl, p, _, _, rfl, rfl, hf, hl, ?_⟩
      have es : numsTo (t + 1) = numsTo t ++ [3 + t] := by rw [numsTo_succ, hn]; simp
      have el : (numsTo (t + 1)).length = (numsTo t).length + 1 := by rw [es]; simp
      refine ⟨_, rfl, _, _, rfl, rfl, 2 * (many - (numsTo (t + 1)).length) + (if np (3 + (t + 1)) then 0 else 1), ?_, t + 1, ?_, same_two sm hp, ?_, ?_, ?_, rfl⟩
      · rw [bm, hn, el]; split <;> simp <;> omega
      · show _ = [_, _, some (vI (3 + t + 1))]
        rfl
      · rw [upd_same, es, List.map_append]
        rfl
      · rw [bm, hn, ] at b1
        rw [el]
        simp at b1
        split <;> omega
      · rw [el]; omega
  · refine ifN (by rw [List.length_map]; simpa using hc) ?_
    have e : (numsTo t).length = many := by omega
    have e2 := numsOf_of (show t ≤ 2 * many by omega) e
    rw [e2] at e hf
    exact ⟨_, rfl, q p _ sm hp hf e⟩
theorem ok_lframe (F : Fun K "_law_frame" "_law_frame" s_law_frame f fd) (T : Txt mg) (D_law_numbers : Dn P w K mg base "_law_numbers" ["_law_many"] 1 spNums) : FnOk P w K mg base CX0 2 f fd ["_law_data"] (spFrame K) := by
  refine F.ok sc_law_frame (fun vs H Q E h => ?_) (fun cdv A outer s H vs Q E hr h => ?_)
  · obtain ⟨a, bs, rfl, _⟩ := h
    rfl
  obtain ⟨a, bs, rfl, ha, h1, hm, q⟩ := h
  refine ⟨_, (pss_cons (ps_set (i := 1) sc_law_frame.nd rfl (Or.inl rfl) (pe_dn D_law_numbers (hr.mono (by decide)) (by rfl) (pa_cons (pe_callB call_len_seq (by rfl) T.n_len (by decide +kernel) (pa_cons (pv 0) pa_nil)) pa_nil)))
      (pss_cons (ps_set (i := 2) sc_law_frame.nd rfl (Or.inr rfl) pe_int)
      (pss_cons (ps_for PassesOwn.never rfl (pi_zipX (by rfl) T.n_zip (pa_cons (pv 1) (pa_cons (pv 0) pa_nil))) (pg_tup rfl (pgs_cons (pg_name (i := 3) sc_law_frame.nd rfl (Or.inl rfl)) (pgs_cons (pg_name (i := 4) sc_law_frame.nd rfl (Or.inl rfl)) pgs_nil))) (pss_one (ps_if (pt_cmpR op_eq (pv 4) pe_int (nomark _)) (pss_one (ps_set (i := 2) sc_law_frame.nd rfl (Or.inr rfl) (pe_op op_xorB (pv 2) (pv 3)))) pss_nil)))
      (pss_cons (ps_set (i := 5) sc_law_frame.nd rfl (Or.inl rfl) (pe_bits (pe_ix ix_list (pv 1) (pe_un un_neg pe_int) (fun _ _ => rfl))))
      (pss_cons (ps_set (i := 6) sc_law_frame.nd rfl (Or.inl rfl) (pe_op op_cat (pe_callTy call_list_of (by rfl) T.n_list (by decide +kernel) (pa_cons (pv 0) pa_nil)) (pe_lc (own := [("_law_k", 7)]) (g := gName 7) (tt := tYes) rfl sc_law_frame.nd (pi_range1 rfl T.n_range (pa_cons (pv 5) pa_nil)) (blkOk_by (N := ["_law_data", "_law_numbers_here", "_law_word", "_law_number", "_law_bit", "_law_size", "_law_body", "_law_k"]) (sc := defScope s_law_frame) (by decide +kernel)) (fun _ _ _ _ _ => (pg_name (i := 7) sc_law_frame.nd rfl (Or.inl rfl))) (fun _ _ _ _ _ => pts_nil) (fun _ _ _ _ _ => (pe_op op_odd (pe_op op_shrN (pv 2) (pv 7)) pe_int)))))
      (pss_one (ps_ret (pe_callTy call_tuple_of (by rfl) T.n_tuple (by decide +kernel) (pa_cons (pe_op op_cat (pv 6) (pe_lst (pa_cons (pe_op op_odd (pe_callB (cr_sum rfl) (by rfl) T.n_sum (by decide +kernel) (pa_cons (pv 6) pa_nil)) pe_int) pa_nil))) pa_nil))))))))), ?_⟩
  have w20 := widthN_le (show bs.length ≤ 1000 by omega)
  refine ⟨_, rfl, a, _, rfl, .inr ha, bs.length, by rw [List.length_map]; rfl, by omega, fun p H1 sm hp hf hl => ?_⟩
  refine ⟨_, rfl, _, rfl, srcL, srcT, p, a, (numsOf bs.length).map vI, bs.map vI, rfl, SqL.of hf, seqT_same sm ha, for_zipG srcL srcT (xs := (numsOf bs.length).map vI) (ys := bs.map vI) (by rw [List.length_map, List.length_map, hl]) (fun (i : Nat) (σ' : L2.St) (H' : Hp) => ∃ v3 v4 : Option V, σ' = [some (.ref a), some (.ref p), some (vI (xwTo (numsOf bs.length) bs i)), v3, v4, none, none, none] ∧ Same H1 H')
    ⟨none, none, rfl, Same.refl _⟩ (fun i σ' H' pv => ?_) (fun i x y T' σ' H' hx hy pv hT => ?_) (fun σ' H' pv => ?_)⟩
  · obtain ⟨_, _, _, s2⟩ := pv
    exact ⟨SqL.of (s2 _ _ hf), seqT_same (sm.trans s2) ha⟩
  · obtain ⟨v3, v4, rfl, s2⟩ := pv
    obtain ⟨n, hn, rfl⟩ := natAt hx
    obtain ⟨b, hb, rfl⟩ := natAt hy
    refine ⟨T', _, rfl, SqT.of upd_same, rfl, _, _, rfl, _, _, rfl, rfl, ?_⟩
    refine ⟨_, rfl, rfl, _, rfl, ite2 (fun z => ?_) (fun z => ?_)⟩
    · have eb : b = 1 := one_of z
      refine ⟨_, rfl, _, rfl, _, _, rfl, rfl, some (vI n), some (vI b), ?_, s2.trans (same_new hT _)⟩
      rw [xwTo_yes hn hb eb]
      rfl
    · have eb : b ≠ 1 := not_one (Bool.eq_false_iff.mpr z)
      refine ⟨some (vI n), some (vI b), ?_, s2.trans (same_new hT _)⟩
      rw [xwTo_no hb eb]
      rfl
  · obtain ⟨v3, v4, rfl, s2⟩ := pv
    rw [List.length_map, hl]
    obtain ⟨r, x, e, ew⟩ := numsOf_last hl h1
    have hf2 := s2 _ _ hf
    rw [e, List.map_append] at hf2
    refine ⟨_, rfl, _, rfl, p, _, _, _, rfl, rfl, SqL.of hf2, atI_last _ _, _, rfl, ?_⟩
    have s02 := sm.trans s2
    refine ⟨_, rfl, a, _, rfl, .inr (seqT_same s02 ha), fun L hL => ?_⟩
    have s3 := s02.trans (same_new hL (.lst (bs.map vI)))
    have eS : sizeN x = widthN bs.length := ew.symm
    have b62 := i62 (show sizeN x ≤ 1000 by omega)
    refine ⟨_, rfl, (sizeN x : Int), rfl, b62.1, b62.2, fun D hD => ?_⟩
    have nLD : L ≠ D := ne_of_none upd_same hD
    refine lc_range (lo := 0) (n := sizeN x) (fun i H3 => Same (upd H' L (.lst (bs.map vI))) H3 ∧ H3 D = some (.lst ((bitsN i (checkN bs)).map vI))) ⟨same_new hD _, upd_same⟩ (fun i H3 hi pv => ?_) (fun H3 pv => ?_)
    · refine ⟨rfl, _, rfl, _, rfl, (checkN bs : Int), i, rfl, congrArg V.int (by omega), checkN bs / 2 ^ i, congrArg V.int (by simp), rfl, _, pv.2, ?_, same_two pv.1 hD, ?_⟩
      · rw [List.length_map, bitsN_len]
        exact small1000 (by omega)
      · rw [upd_same, bitsN_succ, List.map_append]
        rfl
    obtain ⟨s4, eD⟩ := pv
    rw [eS] at eD
    have eL := s4 _ _ (upd_same (a := L) (o := .lst (bs.map vI)))
    refine ⟨L, D, _, _, rfl, rfl, eL, eD, ?_, fun B hB => ?_⟩
    · rw [List.length_map, List.length_map, bitsN_len]
      exact le1000 (by omega)
    have eB : bs.map vI ++ (bitsN (widthN bs.length) (checkN bs)).map vI = (bodyN bs).map vI := by rw [← List.map_append]; rfl
    rw [eB]
    have lB : (bodyN bs).length = bs.length + widthN bs.length := by rw [bodyN, List.length_append, bitsN_len]
    have s5 := (s3.trans s4).trans (same_new hB (.lst ((bodyN bs).map vI)))
    refine ⟨_, rfl, _, rfl, B, _, rfl, by rw [← map_int]; exact SqL.of upd_same, (bodyN bs).sum, by rw [sum_cast], rfl, ?_⟩
    refine ⟨by show 1 ≤ sizeLine; decide, fun u hu => ?_⟩
    have s6 := same_new hu (.lst [V.int (((bodyN bs).sum % 2 : Nat) : Int)])
    refine ⟨B, u, (bodyN bs).map vI, [V.int (((bodyN bs).sum % 2 : Nat) : Int)], rfl, rfl, s6 _ _ upd_same, upd_same, ?_, fun z hz => ?_⟩
    · rw [List.length_map, lB]
      exact le1000 (by show _ + 1 ≤ _; omega)
    refine ⟨z, _, rfl, .inl ⟨SqL.of upd_same, fun t ht => ?_⟩⟩
    have s8 := ((s5.trans s6).trans (same_new hz (.lst ((bodyN bs).map vI ++ [V.int (((bodyN bs).sum % 2 : Nat) : Int)]))))
    refine q t _ (s8.trans (same_new ht _)) (s8.free ht) ?_
    rw [upd_same]
    show some (HO.tup (_ ++ [vI ((bodyN bs).sum % 2)])) = _
    rw [frameN, List.map_append]
    rfl
end

/-! ### what is wrong with a frame -/
def spFSize : Sp := fun vs H Q _ => ∃ many : Nat, vs = [vI many] ∧ 1 ≤ many ∧ many ≤ 1000 ∧ ∀ H' : Hp, Same H H' → Q (vI (many + widthN many + 1)) H'
def optV : Option Nat → V
  | none => .non
  | some p => vI p
def spPlace : Sp := fun vs H Q _ => ∃ many x : Nat, vs = [vI many, vI x] ∧ 1 ≤ many ∧ many ≤ 1000 ∧ ∀ H' : Hp, Same H H' → Q (optV (placeN many x)) H'
def spRead (K : PySem.W.Frag) : Sp := fun vs H Q _ => ∃ (a : Addr) (many : Nat) (fr : List Nat), vs = [vI many, .ref a] ∧ SqT K H a (fr.map vI) ∧ 1 ≤ many ∧ many ≤ 500 ∧ fr.length = many + widthN many + 1 ∧ (∀ b ∈ fr, b < 2) ∧
  ∀ (t : Addr) (H' : Hp), Same H H' → Lay H' (.ref t) (rdD (readN many fr)) → Q (.ref t) H'
section
variable {P : Program} {w : World} {K : PySem.W.Frag} {mg : Str → Option Value} {base : Heap} {f : Addr} {fd : FuncData}
theorem ok_fsize (F : Fun K "frame_size" "frame_size" s_frame_size f fd) (T : Txt mg) (D_check_width : Dn P w K mg base "check_width" ["many"] 2 spWidth) : FnOk P w K mg base CX0 3 f fd ["many"] spFSize := by
  refine F.ok sc_frame_size (fun vs H Q E h => ?_) (fun cdv A outer s H vs Q E hr h => ?_)
  · obtain ⟨many, rfl, _⟩ := h
    rfl
  obtain ⟨many, rfl, h1, hm, q⟩ := h
  refine ⟨_, (pss_one (ps_ret (pe_op op_add (pe_op op_add (pv 0) (pe_dn D_check_width (hr.mono (by decide)) (by rfl) (pa_cons (pv 0) pa_nil))) pe_int))), ?_⟩
  refine ⟨_, rfl, _, rfl, many, rfl, h1, hm, fun H' sm _ => ?_⟩
  exact ⟨_, _, rfl, rfl, _, _, rfl, rfl, q H' sm⟩
theorem ok_place (F : Fun K "wrong_place" "wrong_place" s_wrong_place f fd) (T : Txt mg) (D_frame_size : Dn P w K mg base "frame_size" ["many"] 3 spFSize)
    (D_data_numbers : Dn P w K mg base "data_numbers" ["many"] 1 spNums) : FnOk P w K mg base CX0 4 f fd ["many", "fault"] spPlace := by
  refine F.ok sc_wrong_place (fun vs H Q E h => ?_) (fun cdv A outer s H vs Q E hr h => ?_)
  · obtain ⟨many, x, rfl, _⟩ := h
    rfl
  obtain ⟨many, x, rfl, h1, hm, q⟩ := h
  refine ⟨_, (pss_cons (ps_if (pt_cmpR op_eq (pv 1) pe_int (nomark _)) (pss_one (ps_ret (pe_op op_sub (pe_dn D_frame_size (hr.mono (by decide)) (by rfl) (pa_cons (pv 0) pa_nil)) pe_int))) pss_nil)
      (pss_cons (ps_if (pt_cmpR op_eq (pe_op op_andB (pv 1) (pe_op op_sub (pv 1) pe_int)) pe_int (nomark _)) (pss_one (ps_ret (pe_op op_sub (pe_op op_add (pv 0) (pe_bits (pv 1))) pe_int))) pss_nil)
      (pss_cons (ps_set (i := 2) sc_wrong_place.nd rfl (Or.inl rfl) (pe_dn D_data_numbers (hr.mono (by decide)) (by rfl) (pa_cons (pv 0) pa_nil)))
      (pss_one (ps_ret (pe_ifExp (pt_cmpR op_in_seq (pv 1) (pv 2) (by rfl)) (pe_bm PySem.F.plainAttrs_list PySem.F.slot_list_index PySem.F.type_list_index mt_index (pv 2) (pa_cons (pv 1) pa_nil)) pe_non)))))), ?_⟩
  refine ⟨_, rfl, rfl, _, rfl, ite2 (fun z => ?_) (fun z => ?_)⟩
  · have e : x = 0 := by have := V.int.inj (of_decide_eq_true z); omega
    subst e
    refine ⟨_, rfl, many, rfl, h1, hm, fun H' sm => ?_⟩
    refine ⟨_, _, rfl, rfl, ?_⟩
    have := q H' sm
    rw [place_zero] at this
    exact qI (Q := Q) (by omega) this
  have x0 : x ≠ 0 := fun e => of_decide_eq_false (Bool.eq_false_iff.mpr z) (by rw [e]; rfl)
  refine ⟨_, rfl, _, rfl, _, _, rfl, rfl, x, x - 1, rfl, congrArg V.int (by omega), ?_⟩
  refine ⟨rfl, _, rfl, ite2 (fun z2 => ?_) (fun z2 => ?_)⟩
  · have e : np x = false := by
      have : x &&& (x - 1) = 0 := by have := V.int.inj (of_decide_eq_true z2); omega
      unfold np
      rw [this]
      rfl
    refine ⟨_, rfl, _, rfl, _, rfl, _, _, rfl, rfl, _, _, rfl, rfl, ?_⟩
    have := q H (.refl _)
    rw [place_low x0 e] at this
    have s1 : 1 ≤ sizeN x := by
      unfold sizeN Builtin.Int.intBits
      rw [if_neg (by simp; omega)]
      omega
    exact qI (Q := Q) (show (many : Int) + ((sizeN x : Nat) : Int) - 1 = ((many + sizeN x - 1 : Nat) : Int) by omega) this
  have nx : np x = true := by
    cases e : np x with
    | true => rfl
    | false =>
      have : x &&& (x - 1) = 0 := by unfold np at e; simpa using e
      exact absurd (by rw [this]; rfl) (of_decide_eq_false (Bool.eq_false_iff.mpr z2))
  refine ⟨_, rfl, many, rfl, hm, fun p H1 sm hp hf hl => ?_⟩
  refine ⟨_, rfl, _, rfl, p, _, rfl, .inl (SqL.of hf), rfl, flat_ints _, _, rfl, ?_⟩
  show if (inV (vI x) ((numsOf many).map vI)) = true then _ else _
  rw [inV_int]
  have qq := q H1 sm
  by_cases hx : x ∈ numsOf many
  · refine ifY (decide_eq_true hx) ?_
    obtain ⟨j, hj, hn⟩ := idx_first (numsOf_nodup many) hx
    obtain ⟨z, g1, g2, g3⟩ := rdIndex hj hn
    rw [place_num x0 nx hj] at qq
    exact ⟨_, rfl, .inl ⟨rfl, _, SqL.of hf⟩, _, rfl, p, _, _, j, z, rfl, rfl, SqL.of hf, rfl, flat_ints _, g1, g2, g3, qq⟩
  · refine ifN (decide_eq_false hx) ?_
    rw [place_none x0 nx hx] at qq
    exact qq
theorem ok_read (F : Fun K "read_frame" "read_frame" s_read_frame f fd) (T : Txt mg) (D_check_word : Dn P w K mg base "check_word" ["data"] 2 (spWord K))
    (D_from_bits : Dn P w K mg base "from_bits" ["bits"] 1 (spFrom K)) (D_wrong_place : Dn P w K mg base "wrong_place" ["many", "fault"] 4 spPlace) : FnOk P w K mg base CX0 5 f fd ["many", "frame"] (spRead K) := by
  refine F.ok sc_read_frame (fun vs H Q E h => ?_) (fun cdv A outer s H vs Q E hr h => ?_)
  · obtain ⟨a, many, fr, rfl, _⟩ := h
    rfl
  obtain ⟨a, many, fr, rfl, ha, h1, hm, hl, hb, q⟩ := h
  refine ⟨_, (pss_cons (ps_set (i := 2) sc_read_frame.nd rfl (Or.inl rfl) (pe_op op_xorB (pe_dn D_check_word (hr.mono (by decide)) (by rfl) (pa_cons (pe_slice sl_tupA (pv 1) po_none (po_some (pv 0))) pa_nil)) (pe_dn D_from_bits (hr.mono (by decide)) (by rfl) (pa_cons (pe_slice sl_tupA (pv 1) (po_some (pv 0)) (po_some (pe_un un_neg pe_int))) pa_nil))))
      (pss_cons (ps_set (i := 3) sc_read_frame.nd rfl (Or.inl rfl) (pe_cmpR op_eq (pe_op op_odd (pe_callB (cr_sumT rfl) (by rfl) T.n_sum (by decide +kernel) (pa_cons (pv 1) pa_nil)) pe_int) pe_int (nomark _)))
      (pss_cons (ps_if (pt_not (pt_val (pv 3))) (pss_one (ps_ret (pe_ifExp (pt_cmpR op_eq (pv 2) pe_int (nomark _)) (pe_tup (pa_cons pe_str pa_nil)) (pe_tup (pa_cons pe_str pa_nil))))) pss_nil)
      (pss_cons (ps_set (i := 4) sc_read_frame.nd rfl (Or.inl rfl) (pe_dn D_wrong_place (hr.mono (by decide)) (by rfl) (pa_cons (pv 0) (pa_cons (pv 2) pa_nil))))
      (pss_one (ps_ret (pe_ifExp (pt_cmpR op_isN (pv 4) pe_non (nomark _)) (pe_tup (pa_cons pe_str pa_nil)) (pe_tup (pa_cons pe_str (pa_cons (pv 4) pa_nil)))))))))), ?_⟩
  have w20 := widthN_le (show many ≤ 1000 by omega)
  have nl := nums_len many
  refine ⟨_, rfl, _, rfl, _, rfl, rdCut (i := 0) (j := many) ha rfl (by rw [HT.sIx_nat]; omega) fun t1 H1 s1 et1 => ?_⟩
  rw [List.drop_zero, Nat.sub_zero] at et1
  have l1 : (fr.take many).length = many := by rw [List.length_take]; omega
  refine ⟨t1, fr.take many, rfl, et1, by omega, fun H2 s2 => ?_⟩
  have s12 := s1.trans s2
  refine ⟨_, rfl, _, rfl, _, rfl, _, rfl, _, rfl, rdCut (i := many) (j := fr.length - 1) (seqT_same s12 ha) (by rw [HT.sIx_nat]; omega) (sIx_neg (k := 1) (by decide)) fun t2 H3 s3 et2 => ?_⟩
  have l2 : ((fr.drop many).take (fr.length - 1 - many)).length = widthN many := by rw [List.length_take, List.length_drop]; omega
  refine ⟨t2, _, rfl, et2, fun b hb' => hb b (List.mem_of_mem_drop (List.mem_of_mem_take hb')), by omega, fun H4 s4 => ?_⟩
  have s14 := (s12.trans s3).trans s4
  have eF : checkN (fr.take many) ^^^ valN ((fr.drop many).take (fr.length - 1 - many)) = faultN many fr := by
    unfold faultN checkN
    rw [l1, xw_XF, XF_val (fun b h => hb b (List.mem_of_mem_drop h)) _ (by rw [List.length_drop]; omega), show fr.length - 1 - many = widthN many by omega]
    congr 1
    refine XF_congr _ fun i hi => ?_
    rw [List.getD_eq_getElem?_getD, List.getD_eq_getElem?_getD, List.getElem?_take, if_pos hi]
  refine ⟨_, _, rfl, rfl, ?_⟩
  rw [eF]
  refine ⟨_, rfl, a, _, rfl, by rw [← map_int]; exact seqT_same s14 ha, fr.sum, by rw [sum_cast], rfl, rfl, ?_⟩
  have eO : decide (V.int ((fr.sum % 2 : Nat) : Int) = V.int 1) = decide (fr.sum % 2 = 1) := by
    by_cases h : fr.sum % 2 = 1
    · rw [decide_eq_true h, h]; rfl
    · rw [decide_eq_false h]
      exact decide_eq_false fun e => h (by have := V.int.inj e; omega)
  rw [eO]
  by_cases ho : fr.sum % 2 = 1
  · rw [decide_eq_true ho]
    refine ⟨_, rfl, _, rfl, iteF ?_⟩
    refine ⟨_, rfl, _, rfl, many, _, rfl, h1, by omega, fun H5 s5 => ?_⟩
    have s15 := s14.trans s5
    have er : readN many fr = (match placeN many (faultN many fr) with | none => .more | some p => .bit p) := if_pos ho
    rw [er] at q
    cases e : placeN many (faultN many fr) with
    | none =>
      rw [e] at q
      refine ⟨_, rfl, rfl, _, rfl, iteT ?_⟩
      refine ⟨by show 1 ≤ sizeLine; decide, fun t ht => q t _ (s15.trans (same_new ht _)) (.tup upd_same (.cons (.str _) .nil))⟩
    | some p =>
      rw [e] at q
      refine ⟨_, rfl, rfl, _, rfl, iteF ?_⟩
      refine ⟨_, rfl, by show 2 ≤ sizeLine; decide, fun t ht => q t _ (s15.trans (same_new ht _)) (.tup upd_same (.cons (.str _) (.cons (.int _) .nil)))⟩
  · rw [decide_eq_false ho]
    refine ⟨_, rfl, _, rfl, iteT ?_⟩
    have er : readN many fr = if faultN many fr = 0 then .clean else .more := by rw [readN, if_neg ho]
    rw [er] at q
    refine ⟨_, rfl, rfl, _, rfl, ite2 (fun z => ?_) (fun z => ?_)⟩
    · have e : faultN many fr = 0 := by have := V.int.inj (of_decide_eq_true z); omega
      rw [if_pos e] at q
      exact ⟨by show 1 ≤ sizeLine; decide, fun t ht => q t _ (s14.trans (same_new ht _)) (.tup upd_same (.cons (.str _) .nil))⟩
    · have e : faultN many fr ≠ 0 := fun e => of_decide_eq_false (Bool.eq_false_iff.mpr z) (by rw [e]; rfl)
      rw [if_neg e] at q
      exact ⟨by show 1 ≤ sizeLine; decide, fun t ht => q t _ (s14.trans (same_new ht _)) (.tup upd_same (.cons (.str _) .nil))⟩
end
end Bf

set_option Elab.async false
set_option linter.all false
set_option maxRecDepth 100000
set_option maxHeartbeats 4000000
namespace Bf
open PySem PySem.Spec PyProof.Rows L2
/-! ### the law's defs -/
def spSize : Sp := fun vs H Q _ => ∃ d c : Addr, vs = [.ref d] ∧ DS H d c ∧ ∀ (m : Nat) (H' : Hp), 1 ≤ m → m ≤ 500 → DS H' d c → Keep [d] H H' → Q (vI m) H'
/-- objects in a row -/
def Objs (H : Hp) (rs : List Addr) (os : List HO) : Prop := rs.map H = os.map some
theorem Objs.get {H : Hp} {rs : List Addr} {os : List HO} (h : Objs H rs os) {i : Nat} {r : Addr} (hr : rs[i]? = some r) : ∃ o, os[i]? = some o ∧ H r = some o := by
  have e := congrArg (fun l => l[i]?) h
  simp only [List.getElem?_map, hr, Option.map_some] at e
  cases q : os[i]? with
  | none => rw [q] at e; cases e
  | some o => rw [q] at e; exact ⟨o, rfl, Option.some.inj e⟩
theorem Objs.len {H : Hp} {rs : List Addr} {os : List HO} (h : Objs H rs os) : rs.length = os.length := by
  have := congrArg List.length h
  simpa using this
theorem Objs.keep {H H' : Hp} {rs : List Addr} {os : List HO} (h : Objs H rs os) (k : ∀ r ∈ rs, ∀ o, H r = some o → H' r = some o) : Objs H' rs os := by
  refine List.ext_getElem? fun i => ?_
  rw [List.getElem?_map, List.getElem?_map]
  cases e : rs[i]? with
  | none =>
    have := h.len
    have q := List.getElem?_eq_none_iff.mp e
    rw [List.getElem?_eq_none (by omega)]
    rfl
  | some r =>
    obtain ⟨o, ho, hr⟩ := h.get e
    rw [ho, Option.map_some, Option.map_some, k r (List.mem_of_getElem? e) o hr]
theorem Objs.same {H H' : Hp} {rs : List Addr} {os : List HO} (h : Objs H rs os) (k : Same H H') : Objs H' rs os := h.keep fun r _ o e => k r o e
theorem Objs.app {H : Hp} {rs rs' : List Addr} {os os' : List HO} (h : Objs H rs os) (h' : Objs H rs' os') : Objs H (rs ++ rs') (os ++ os') := by
  unfold Objs at *
  rw [List.map_append, List.map_append, h, h']
theorem Objs.one {H : Hp} {r : Addr} {o : HO} (h : H r = some o) : Objs H [r] [o] := by
  unfold Objs
  rw [List.map_cons, h]
  rfl
theorem Objs.some_ {H : Hp} {rs : List Addr} {os : List HO} (h : Objs H rs os) {r : Addr} (hr : r ∈ rs) : ∃ o, o ∈ os ∧ H r = some o := by
  obtain ⟨i, hi⟩ := List.mem_iff_getElem?.mp hr
  obtain ⟨o, ho, e⟩ := h.get hi
  exact ⟨o, List.mem_of_getElem? ho, e⟩
def LI (ps : List Nat) : HO := .lst (ps.map vI)
theorem DS.ne_ints {H : Hp} {d c r : Addr} {ps : List Nat} (h : DS H d c) (e : H r = some (LI ps)) : r ≠ d := by
  rintro rfl
  obtain ⟨_, _, _, _, e1, _⟩ := h
  rw [e] at e1
  have q := HO.lst.inj (Option.some.inj e1)
  cases ps with
  | nil => cases q
  | cons a l => cases (List.cons.inj q).1
theorem Objs.draw {H H' : Hp} {rs : List Addr} {pls : List (List Nat)} {d c : Addr} (h : Objs H rs (pls.map LI)) (ds : DS H d c) (k : Keep [d] H H') : Objs H' rs (pls.map LI) := h.keep fun r hr o e => by
  obtain ⟨o', m, e'⟩ := h.some_ hr
  obtain ⟨ps, _, rfl⟩ := List.mem_map.mp m
  exact k r o (by simp [ds.ne_ints e']) e
/-- lists of places -/
def PL (H : Hp) (L : Addr) (ok : List Nat → Prop) : Prop := ∃ (rs : List Addr) (pls : List (List Nat)), H L = some (.lst (rs.map V.ref)) ∧ Objs H rs (pls.map LI) ∧ L ∉ rs ∧ rs.length ≤ 300 ∧ ∀ ps ∈ pls, ok ps
theorem big2 : 2 ≤ 2 ^ 100000 := Nat.pow_le_pow_right (n := 2) (i := 1) (j := 100000) (by decide) (by decide)
def spWordOf (K : PySem.W.Frag) : Sp := fun vs H Q _ => ∃ (a : Addr) (bs : List Nat), vs = [.ref a] ∧ SqT K H a (bs.map vI) ∧ (∀ b ∈ bs, b < 2) ∧ bs.length ≤ 1000 ∧ ∀ H' : Hp, Same H H' → Q (vI (valN bs)) H'
def spReading (K : PySem.W.Frag) : Sp := fun vs H Q _ => ∃ (n a : Addr) (many : Nat) (fr : List Nat), vs = [.ref n, .ref a] ∧ H n = some (.lst ((numsOf many).map vI)) ∧ SqT K H a (fr.map vI) ∧ 1 ≤ many ∧ many ≤ 500 ∧ fr.length = many + widthN many + 1 ∧ (∀ b ∈ fr, b < 2) ∧
  ∀ (t : Addr) (H' : Hp), Same H H' → Lay H' (.ref t) (rdD (readN many fr)) → Q (.ref t) H'
def spSpoilt (K : PySem.W.Frag) : Sp := fun vs H Q _ => ∃ (a l : Addr) (fr ps : List Nat), vs = [.ref a, .ref l] ∧ SqT K H a (fr.map vI) ∧ fr.length ≤ 1000 ∧ (∀ b ∈ fr, b < 2) ∧ H l = some (LI ps) ∧ ∀ (t : Addr) (H' : Hp), Same H H' → H' t = some (.tup ((spoil fr ps).map vI)) → Q (.ref t) H'
def One (size : Nat) (ps : List Nat) : Prop := ∃ p, ps = [p] ∧ p < size
def More (size : Nat) (ps : List Nat) : Prop := (∃ p q, ps = [p, q] ∧ p ≠ q ∧ p < size ∧ q < size) ∨ ∃ p q r, ps = [p, q, r] ∧ p < size ∧ q < size ∧ r < size
def spLists (ok : Nat → List Nat → Prop) : Sp := fun vs H Q _ => ∃ (d c : Addr) (many size : Nat), vs = [.ref d, vI many, vI size] ∧ DS H d c ∧ 1 ≤ many ∧ many + 2 ≤ size ∧ size ≤ 1000 ∧ ∀ (L : Addr) (H' : Hp), PL H' L (ok size) → DS H' d c → Keep [d] H H' → Q (.ref L) H'
def spTold : Sp := fun vs H Q _ => ∃ (a b : Addr) (r : Rd), vs = [.ref a, .ref b] ∧ Lay H (.ref a) (rdD r) ∧ Lay H (.ref b) (rdD r) ∧ ∀ H' : Hp, Same H H' → Q (.bl true) H'
theorem bl_list (f : Nat → Nat) : ∀ n : Nat, ((List.range n).map f).map vI = (((List.range n).map f).map fun n : Nat => (n : Int)).map V.int := fun n => map_int _
def tm (bs : List Nat) (i : Nat) : List Nat := (List.range i).map fun k => bs.getD k 0 * 2 ^ k
theorem tm_succ {bs : List Nat} {i b : Nat} (h : bs[i]? = some b) : tm bs (i + 1) = tm bs i ++ [b * 2 ^ i] := by
  unfold tm
  rw [List.range_succ, List.map_append, List.map_singleton, List.getD_eq_getElem?_getD, h]
  rfl
theorem tm_sum (bs : List Nat) : ∀ i, i ≤ bs.length → (tm bs i).sum = valN (bs.take i)
  | 0, _ => by simp [tm, valN]
  | i + 1, h => by
    have e : bs[i]? = some bs[i] := List.getElem?_eq_getElem (by omega)
    rw [tm_succ e, List.sum_append, tm_sum bs i (by omega), take_snoc e, valN_snoc, List.length_take, Nat.min_eq_left (by omega)]
    simp
theorem tm_len (bs : List Nat) (i : Nat) : (tm bs i).length = i := by simp [tm]
section
variable {P : Program} {w : World} {K : PySem.W.Frag} {mg : Str → Option Value} {base : Heap} {f : Addr} {fd : FuncData}
theorem ok_size (F : Fun K "_law_size_of_data" "_law_size_of_data" s_law_size_of_data f fd) (T : Txt mg) (D_law_draw : Dn P w K mg base "_law_draw" ["_law_d", "_law_many"] 1 spDraw)
    (D_law_pick : Dn P w K mg base "_law_pick" ["_law_d", "_law_row"] 2 (spPick K)) (D_law_rare : Dn P w K mg base "_law_rare" ["_law_d", "_law_many"] 2 spRare) :
    FnOk P w K mg base CX0 3 f fd ["_law_d"] spSize := by
  refine F.ok sc_law_size_of_data (fun vs H Q E h => ?_) (fun cdv A outer s H vs Q E hr h => ?_)
  · obtain ⟨d, c, rfl, _⟩ := h
    rfl
  obtain ⟨d, c, rfl, hd, q⟩ := h
  refine ⟨_, (pss_cons (ps_set (i := 1) sc_law_size_of_data.nd rfl (Or.inl rfl) (pe_dn D_law_draw (hr.mono (by decide)) (by rfl) (pa_cons (pv 0) (pa_cons pe_int pa_nil))))
      (pss_cons (ps_if (pt_cmpR op_eq (pv 1) pe_int (nomark _)) (pss_one (ps_ret (pe_dn D_law_pick (hr.mono (by decide)) (by rfl) (pa_cons (pv 0) (pa_cons (pe_lst (pa_cons pe_int (pa_cons pe_int (pa_cons pe_int (pa_cons pe_int (pa_cons pe_int (pa_cons pe_int (pa_cons pe_int (pa_cons pe_int pa_nil))))))))) pa_nil))))) pss_nil)
      (C8.pss_cut (ps_if (PW.pt (pw_and (pt_cmpR op_eq (pv 1) pe_int (nomark _)) (pw_and1 (pt_val (pe_dn D_law_rare (hr.mono (by decide)) (by rfl) (pa_cons (pv 0) (pa_cons pe_int pa_nil))))))) (pss_one (ps_ret (pe_dn D_law_pick (hr.mono (by decide)) (by rfl) (pa_cons (pv 0) (pa_cons (pe_lst (pa_cons (pe_op op_add pe_int (pe_dn D_law_draw (hr.mono (by decide)) (by rfl) (pa_cons (pv 0) (pa_cons pe_int pa_nil)))) (pa_cons pe_int (pa_cons pe_int (pa_cons pe_int (pa_cons pe_int (pa_cons pe_int pa_nil))))))) pa_nil))))) pss_nil)
      (pss_one (ps_ret (pe_op op_add pe_int (pe_dn D_law_draw (hr.mono (by decide)) (by rfl) (pa_cons (pv 0) (pa_cons pe_int pa_nil))))))))), ?_⟩
  refine ⟨_, rfl, d, c, 5, rfl, hd, by decide, by decide, fun r H1 r0 r1 hd1 k1 => ?_⟩
  refine ⟨_, rfl, rfl, _, rfl, ite2 (fun z => ?_) (fun z => ?_)⟩
  · refine ⟨_, rfl, by show 8 ≤ sizeLine; decide, fun l hl => ?_⟩
    have nl := hd1.new hl
    refine ⟨d, c, l, _, rfl, hd1.same (same_new hl _), nl.1, SqL.of upd_same, by decide, by decide, fun k y H2 hy hd2 k2 => ?_⟩
    obtain ⟨m, rfl, m1, m2⟩ := pick_nat (ms := [1, 2, 4, 5, 11, 12, 26, 27]) hy (by decide)
    exact q m H2 m1 m2 hd2 (k1.trans ((Keep.of_same (same_new hl _)).trans k2))
  refine ⟨fun σ' H' => ∃ v : Option V, σ' = [some (.ref d), v] ∧ DS H' d c ∧ Keep [d] H H', ?_, ?_⟩
  · refine ⟨_, rfl, rfl, _, rfl, ite2 (fun z => ?_) (fun z => ?_)⟩
    · refine ⟨_, rfl, d, c, 5, rfl, hd1, by decide, by decide, fun b H2 hd2 k2 => ⟨b, rfl, ?_⟩⟩
      have k12 := k1.trans k2
      cases b with
      | false => exact iteF ⟨_, rfl, hd2, k12⟩
      | true =>
        refine iteT ?_
        refine ⟨_, rfl, _, rfl, d, c, 500, rfl, hd2, by decide, by decide, fun r H3 r0 r1 hd3 k3 => ?_⟩
        obtain ⟨x, rfl⟩ := Int.eq_ofNat_of_zero_le r0
        refine ⟨_, _, rfl, rfl, by show 6 ≤ sizeLine; decide, fun l hl => ?_⟩
        have nl := hd3.new hl
        refine ⟨d, c, l, _, rfl, hd3.same (same_new hl _), nl.1, SqL.of upd_same, by simp, by simp, fun k y H4 hy hd4 k4 => ?_⟩
        obtain ⟨m, rfl, m1, m2⟩ := pick_nat (k := k) (ms := [1 + x, 57, 58, 120, 329, 500]) (by rw [← hy]; simp [vI]) (by simp; omega)
        exact q m H4 m1 m2 hd4 ((k12.trans k3).trans ((Keep.of_same (same_new hl _)).trans k4))
    · exact iteF ⟨_, rfl, hd1, k1⟩
  rintro σ' H' ⟨v, rfl, hd2, k2⟩
  refine ⟨_, rfl, d, c, 16, rfl, hd2, by decide, by decide, fun r H3 r0 r1 hd3 k3 => ?_⟩
  obtain ⟨x, rfl⟩ := Int.eq_ofNat_of_zero_le r0
  refine ⟨_, _, rfl, rfl, ?_⟩
  have := q (1 + x) H3 (by omega) (by omega) hd3 (k2.trans k3)
  rwa [show vI (1 + x) = V.int (1 + (x : Int)) from congrArg V.int (by omega)] at this
theorem ok_wordOf (F : Fun K "_law_word_of" "_law_word_of" s_law_word_of f fd) (T : Txt mg) : FnOk P w K mg base CX0 1 f fd ["_law_bits"] (spWordOf K) := by
  refine F.ok sc_law_word_of (fun vs H Q E h => ?_) (fun cdv A outer s H vs Q E hr h => ?_)
  · obtain ⟨a, bs, rfl, _⟩ := h
    rfl
  obtain ⟨a, bs, rfl, ha, hb, hl, q⟩ := h
  refine ⟨_, (pss_one (ps_ret (pe_callB (cr_sum rfl) (by rfl) T.n_sum (by decide +kernel) (pa_cons (pe_lc (own := [("_law_k", 1), ("_law_bit", 2)]) (g := (gTup K 2 (gCons (gName 1) (gCons (gName 2) gNil)))) (tt := tYes) rfl sc_law_word_of.nd (pi_enumX (by rfl) T.n_enumerate (pa_cons (pv 0) pa_nil)) (blkOk_by (N := ["_law_bits", "_law_k", "_law_bit"]) (sc := defScope s_law_word_of) (by decide +kernel)) (fun _ _ _ _ _ => (pg_tup rfl (pgs_cons (pg_name (i := 1) sc_law_word_of.nd rfl (Or.inl rfl)) (pgs_cons (pg_name (i := 2) sc_law_word_of.nd rfl (Or.inl rfl)) pgs_nil)))) (fun _ _ _ _ _ => pts_nil) (fun _ _ _ _ _ => (pe_op op_shlNN (pv 2) (pv 1)))) pa_nil)))), ?_⟩
  refine ⟨_, rfl, srcT, a, bs.map vI, rfl, ha, fun D hD => ?_⟩
  refine lc_it (walk_enumG srcT (xs := bs.map vI)) (fun i H' => Same H H' ∧ H' D = some (.lst ((tm bs i).map vI))) ⟨same_new hD _, upd_same⟩ (fun i H' _ p => seqT_same p.1 ha) (fun i x H2 H' hi p y => ?_) (fun H' p => ?_)
  · obtain ⟨sm, eD⟩ := p
    obtain ⟨t, x1, y1, rfl, ht, rfl, ea, eb⟩ := y
    obtain rfl := Option.some.inj ea
    obtain ⟨b, hb', rfl⟩ := natAt eb
    have hi' : i < bs.length := by simpa using hi
    have st := same_new ht (.tup [.int (i : Nat), vI b])
    have b2 := hb b (List.mem_of_getElem? hb')
    have bb : b < 2 ^ 100000 := Nat.lt_of_lt_of_le b2 big2
    refine ⟨t, _, rfl, SqT.of upd_same, rfl, _, _, rfl, _, _, rfl, rfl, rfl, _, rfl, _, rfl, b, i, rfl, rfl, ⟨bb, by omega⟩, _, st _ _ eD, ?_, same_two (sm.trans st) hD, ?_⟩
    · rw [List.length_map, tm_len]
      exact small1000 (by omega)
    · rw [upd_same, tm_succ hb', List.map_append]
      rfl
  · obtain ⟨sm, eD⟩ := p
    rw [List.length_map] at eD
    refine ⟨D, _, rfl, by rw [← map_int]; exact SqL.of eD, ?_⟩
    have := q H' sm
    rw [sum_cast, tm_sum bs _ (Nat.le_refl _), List.take_length]
    exact this
theorem ok_spoilt (F : Fun K "_law_spoilt" "_law_spoilt" s_law_spoilt f fd) (T : Txt mg) : FnOk P w K mg base CX0 1 f fd ["_law_frame_here", "_law_places"] (spSpoilt K) := by
  refine F.ok sc_law_spoilt (fun vs H Q E h => ?_) (fun cdv A outer s H vs Q E hr h => ?_)
  · obtain ⟨a, l, fr, ps, rfl, _⟩ := h
    rfl
  obtain ⟨a, l, fr, ps, rfl, ha, hl, hb, el, q⟩ := h
  refine ⟨_, (pss_one (ps_ret (pe_callTy call_tuple_of (by rfl) T.n_tuple (by decide +kernel) (pa_cons (pe_lc (own := [("_law_at", 2), ("_law_bit", 3)]) (g := (gTup K 2 (gCons (gName 2) (gCons (gName 3) gNil)))) (tt := tYes) rfl sc_law_spoilt.nd (pi_enumX (by rfl) T.n_enumerate (pa_cons (pv 0) pa_nil)) (blkOk_by (N := ["_law_frame_here", "_law_places", "_law_at", "_law_bit"]) (sc := defScope s_law_spoilt) (by decide +kernel)) (fun _ _ _ _ _ => (pg_tup rfl (pgs_cons (pg_name (i := 2) sc_law_spoilt.nd rfl (Or.inl rfl)) (pgs_cons (pg_name (i := 3) sc_law_spoilt.nd rfl (Or.inl rfl)) pgs_nil)))) (fun _ _ _ _ _ => pts_nil) (fun _ _ _ _ _ => (pe_op op_xorB (pv 3) (pe_callTy call_int1 (by rfl) T.n_int (by decide +kernel) (pa_cons (pe_cmpR (op_in_seq : OpR _ _ (rIn K false)) (pv 2) (pv 1) (by rfl)) pa_nil))))) pa_nil)))), ?_⟩
  refine ⟨_, rfl, srcT, a, fr.map vI, rfl, ha, fun D hD => ?_⟩
  refine lc_it (walk_enumG srcT (xs := fr.map vI)) (fun i H' => Same H H' ∧ H' D = some (.lst (((spoil fr ps).take i).map vI))) ⟨same_new hD _, upd_same⟩ (fun i H' _ p => seqT_same p.1 ha) (fun i x H2 H' hi p y => ?_) (fun H' p => ?_)
  · obtain ⟨sm, eD⟩ := p
    obtain ⟨t, x1, y1, rfl, ht, rfl, ea, eb⟩ := y
    obtain rfl := Option.some.inj ea
    obtain ⟨b, hb', rfl⟩ := natAt eb
    have hi' : i < fr.length := by simpa using hi
    have st := same_new ht (.tup [.int (i : Nat), vI b])
    refine ⟨t, _, rfl, SqT.of upd_same, rfl, _, _, rfl, _, _, rfl, rfl, rfl, _, rfl, _, rfl, _, rfl, l, _, rfl, .inl (SqL.of (st _ _ (sm _ _ el))), rfl, flat_ints _, ?_⟩
    refine .inr ⟨_, rfl, ?_⟩
    show ∃ n m : Nat, _ ∧ V.int (b2i (inV (vI i) (ps.map vI))) = _ ∧ _
    rw [inV_int]
    have e : V.int (b2i (decide (i ∈ ps))) = vI (if i ∈ ps then 1 else 0) := by
      by_cases h : i ∈ ps
      · rw [decide_eq_true h, if_pos h]; rfl
      · rw [decide_eq_false h, if_neg h]; rfl
    refine ⟨b, _, rfl, e, _, st _ _ eD, ?_, same_two (sm.trans st) hD, ?_⟩
    · rw [List.length_map, List.length_take, spoil_len]
      exact small1000 (by omega)
    · rw [upd_same, take_snoc (spoil_get hb'), List.map_append]
      rfl
  · obtain ⟨sm, eD⟩ := p
    rw [List.length_map, ← spoil_len fr ps, List.take_length] at eD
    exact ⟨D, _, rfl, .inl ⟨SqL.of eD, fun u hu => q u _ (sm.trans (same_new hu _)) upd_same⟩⟩
end
end Bf

set_option Elab.async false
set_option linter.all false
set_option maxRecDepth 100000
set_option maxHeartbeats 4000000
namespace Bf
open PySem PySem.Spec PyProof.Rows L2
def rdT : Rd → Str × List Nat
  | .clean => ("clean", [])
  | .more => ("more", [])
  | .bit p => ("bit", [p])
theorem rdD_eq (r : Rd) : rdD r = .tuple (.str (rdT r).1 :: (rdT r).2.map fun n : Nat => .int (n : Int)) := by
  cases r <;> rfl
theorem rdT_len (r : Rd) : (rdT r).2.length ≤ 1 := by cases r <;> simp [rdT]
theorem rd_inv {H : Hp} {a : Addr} {r : Rd} (h : Lay H (.ref a) (rdD r)) : H a = some (.tup (.str (rdT r).1 :: (rdT r).2.map vI)) := by
  rw [rdD_eq] at h
  obtain ⟨p, vs, e, hp, l⟩ := h.tup_inv
  cases e
  obtain ⟨v, us, rfl, l1, l2⟩ := l.cons_inv
  rw [l1.str_inv.symm, l2.ints_inv.symm]
  exact hp
theorem rd_sh (r : Rd) : Sh 1 (rdD r) := by
  rw [rdD_eq]
  refine Sh.tup fun d hd => ?_
  rcases List.mem_cons.mp hd with rfl | hd
  · exact ⟨by simp only [PyData.canLay0]; cases r <;> first | exact (by decide +kernel : PyData.strOk "clean" = true) | exact (by decide +kernel : PyData.strOk "more" = true) | exact (by decide +kernel : PyData.strOk "bit" = true), by simp only [PyData.depth]; omega⟩
  · obtain ⟨n, _, rfl⟩ := List.mem_map.mp hd
    exact Sh.int _ _
section
variable {P : Program} {w : World} {K : PySem.W.Frag} {mg : Str → Option Value} {base : Heap} {f : Addr} {fd : FuncData}
theorem ok_told (F : Fun K "_law_is_told" "_law_is_told" s_law_is_told f fd) (T : Txt mg) (D_law_is_int : Dn P w K mg base "_law_is_int" ["_law_thing"] 1 spIsInt) : FnOk P w K mg base CX0 2 f fd ["_law_told", "_law_due"] spTold := by
  refine F.ok sc_law_is_told (fun vs H Q E h => ?_) (fun cdv A outer s H vs Q E hr h => ?_)
  · obtain ⟨a, b, r, rfl, _⟩ := h
    rfl
  obtain ⟨a, b, r, rfl, la, lb, q⟩ := h
  have ea := rd_inv la
  have eb := rd_inv lb
  have l1 := rdT_len r
  refine ⟨_, (pss_cons (ps_if (PW.pt (pw_or (pt_not (pt_val (pe_callB (call_isi : CallR _ _ (rIsi K)) (by rfl) T.n_isinstance (by decide +kernel) (pa_cons (pv 0) (pa_cons (pe_bltn rfl T.n_tuple (by decide +kernel) (v := .ty "tuple") rfl) pa_nil))))) (pw_or (pt_cmpR op_ne (pe_callB call_len_seq (by rfl) T.n_len (by decide +kernel) (pa_cons (pv 0) pa_nil)) (pe_callB call_len_seq (by rfl) T.n_len (by decide +kernel) (pa_cons (pv 1) pa_nil)) (nomark _)) (pw_or1 (pt_not (pt_val (pe_callB (call_isi : CallR _ _ (rIsi K)) (by rfl) T.n_isinstance (by decide +kernel) (pa_cons (pe_ix ix_tup (pv 0) pe_int (fun _ _ => rfl)) (pa_cons (pe_bltn rfl T.n_str (by decide +kernel) (v := .ty "str") rfl) pa_nil))))))))) (pss_one (ps_ret pe_bl)) pss_nil)
      (pss_one (ps_ret (pe_and (pe_cmpR (op_eqD hr.units) (pv 0) (pv 1) (nomark _)) (pe_one (pe_callB (cr_all rfl) (by rfl) T.n_all (by decide +kernel) (pa_cons (pe_lc (own := [("_law_part", 2)]) (g := gName 2) (tt := tYes) rfl sc_law_is_told.nd (pi_tup (pe_slice sl_tupA (pv 0) (po_some pe_int) po_none)) (blkOk_by (N := ["_law_told", "_law_due", "_law_part"]) (sc := defScope s_law_is_told) (by decide +kernel)) (fun _ _ _ _ _ => (pg_name (i := 2) sc_law_is_told.nd rfl (Or.inl rfl))) (fun _ _ _ _ _ => pts_nil) (fun _ _ _ _ _ => (pe_dn D_law_is_int (hr.mono (by decide)) (by rfl) (pa_cons (pv 2) pa_nil)))) pa_nil))))))), ?_⟩
  refine ⟨_, rfl, _, _, .type "tuple", .type "tuple", true, rfl, .ty "tuple", .base (.tup ea), kit_ty (by decide +kernel), true, rfl, iteF ?_⟩
  refine ⟨_, rfl, a, _, rfl, .inr (SqT.of ea), _, rfl, b, _, rfl, .inr (SqT.of eb), rfl, _, rfl, ifN (by rw [decide_eq_true rfl]; rfl) ?_⟩
  refine ⟨_, rfl, a, _, _, _, rfl, rfl, SqT.of ea, atI_nat (j := 0) rfl, _, _, .type "str", .type "str", true, rfl, .ty "str", .base (.str _), kit_ty (by decide +kernel), true, rfl, iteF ?_⟩
  refine ⟨_, rfl, _, rfl, rdD r, rdD r, la.dp', lb.dp', (rd_sh r).shaped (by decide), (rd_sh r).shaped (by decide), ?_⟩
  rw [eqv_self _ (rd_sh r).1]
  refine ⟨true, rfl, iteT ?_⟩
  have hs : cutV (V.str (rdT r).1 :: (rdT r).2.map vI) (some 1) none = (rdT r).2.map vI := by
    unfold cutV
    rw [show (1 : Int) = ((1 : Nat) : Int) from rfl, HT.sIx_nat, HT.sIx_none, List.length_cons, Nat.min_eq_left (by omega)]
    simp [List.take_of_length_le]
  refine ⟨_, rfl, _, rfl, a, _, rfl, SqT.of ea, fun hw => ?_, fun hw t ht => ?_⟩
  · exfalso
    have h0 := hw.1
    rw [show (1 : Int) = ((1 : Nat) : Int) from rfl, HT.sIx_nat, List.length_cons] at h0
    omega
  rw [hs]
  have st := same_new ht (.tup ((rdT r).2.map vI))
  have et : upd H t (.tup ((rdT r).2.map vI)) t = some (.tup ((rdT r).2.map vI)) := upd_same
  refine ⟨t, rfl, ⟨_, SqT.of et⟩, fun D hD => lc_tup (K := K) (a := t) (xs := (rdT r).2.map vI) (fun i H' => Same (upd H t (.tup ((rdT r).2.map vI))) H' ∧ H' D = some (.lst ((List.replicate i true).map V.bl)))
    ⟨same_new hD _, upd_same⟩ (fun i H' _ p => SqT.of (p.1 _ _ et)) (fun i x H' hx p => ?_) (fun H' p => ?_)⟩
  · obtain ⟨k, hk, rfl⟩ := natAt hx
    have hi := (List.getElem?_eq_some_iff.mp hk).1
    refine ⟨rfl, _, rfl, (k : Int), rfl, _, p.2, ?_, same_two p.1 hD, ?_⟩
    · rw [List.length_map, List.length_replicate]
      exact small1000 (by omega)
    · rw [upd_same, List.replicate_succ', List.map_append]
      rfl
  · refine ⟨D, _, rfl, SqL.of p.2, ?_⟩
    rw [all_true]
    exact q _ (st.trans p.1)
theorem ok_reading (F : Fun K "_law_reading" "_law_reading" s_law_reading f fd) (T : Txt mg) (D_law_word_of : Dn P w K mg base "_law_word_of" ["_law_bits"] 1 (spWordOf K)) :
    FnOk P w K mg base CX0 2 f fd ["_law_numbers_here", "_law_frame_here"] (spReading K) := by
  refine F.ok sc_law_reading (fun vs H Q E h => ?_) (fun cdv A outer s H vs Q E hr h => ?_)
  · obtain ⟨n, a, many, fr, rfl, _⟩ := h
    rfl
  obtain ⟨n, a, many, fr, rfl, hn, ha, h1, hm, hl, hb, q⟩ := h
  refine ⟨_, (pss_cons (ps_set (i := 2) sc_law_reading.nd rfl (Or.inl rfl) (pe_callB call_len_seq (by rfl) T.n_len (by decide +kernel) (pa_cons (pv 0) pa_nil)))
      (pss_cons (ps_set (i := 3) sc_law_reading.nd rfl (Or.inl rfl) (pe_op op_subN (pe_op op_subN (pe_callB call_len_seq (by rfl) T.n_len (by decide +kernel) (pa_cons (pv 1) pa_nil)) (pv 2)) pe_int))
      (pss_cons (ps_set (i := 4) sc_law_reading.nd rfl (Or.inl rfl) (pe_dn D_law_word_of (hr.mono (by decide)) (by rfl) (pa_cons (pe_slice sl_tupA (pv 1) (po_some (pv 2)) (po_some (pe_op op_addN (pv 2) (pv 3)))) pa_nil)))
      (pss_cons (ps_for PassesOwn.never rfl (pi_zipX (by rfl) T.n_zip (pa_cons (pv 0) (pa_cons (pv 1) pa_nil))) (pg_tup rfl (pgs_cons (pg_name (i := 5) sc_law_reading.nd rfl (Or.inl rfl)) (pgs_cons (pg_name (i := 6) sc_law_reading.nd rfl (Or.inl rfl)) pgs_nil))) (pss_one (ps_if (pt_cmpR op_eq (pv 6) pe_int (nomark _)) (pss_one (ps_set (i := 4) sc_law_reading.nd rfl (Or.inl rfl) (pe_op op_xorB (pv 4) (pv 5)))) pss_nil)))
      (pss_cons (ps_if (pt_cmpR op_eq (pe_op op_odd (pe_callB (cr_sumT rfl) (by rfl) T.n_sum (by decide +kernel) (pa_cons (pv 1) pa_nil)) pe_int) pe_int (nomark _)) (pss_cons (ps_if (pt_cmpR op_eq (pv 4) pe_int (nomark _)) (pss_one (ps_ret (pe_tup (pa_cons pe_str pa_nil)))) pss_nil)
      (pss_one (ps_ret (pe_tup (pa_cons pe_str pa_nil))))) pss_nil)
      (pss_cons (ps_if (pt_cmpR op_eq (pv 4) pe_int (nomark _)) (pss_one (ps_ret (pe_tup (pa_cons pe_str (pa_cons (pe_op op_subN (pe_callB call_len_seq (by rfl) T.n_len (by decide +kernel) (pa_cons (pv 1) pa_nil)) pe_int) pa_nil))))) pss_nil)
      (pss_cons (ps_for PassesOwn.never rfl (pi_range1 rfl T.n_range (pa_cons (pv 3) pa_nil)) (pg_name (i := 7) sc_law_reading.nd rfl (Or.inl rfl)) (pss_one (ps_if (pt_cmpR op_eq (pv 4) (pe_op op_oneShlN pe_int (pv 7)) (nomark _)) (pss_one (ps_ret (pe_tup (pa_cons pe_str (pa_cons (pe_op op_addN (pv 2) (pv 7)) pa_nil))))) pss_nil)))
      (pss_cons (ps_for PassesOwn.never rfl (pi_range1 rfl T.n_range (pa_cons (pv 2) pa_nil)) (pg_name (i := 8) sc_law_reading.nd rfl (Or.inl rfl)) (pss_one (ps_if (pt_cmpR op_eq (pv 4) (pe_ix ix_list (pv 0) (pv 8) (fun _ _ => rfl)) (nomark _)) (pss_one (ps_ret (pe_tup (pa_cons pe_str (pa_cons (pv 8) pa_nil))))) pss_nil)))
      (pss_one (ps_ret (pe_tup (pa_cons pe_str pa_nil)))))))))))), ?_⟩
  have w20 := widthN_le (show many ≤ 1000 by omega)
  have nl := nums_len many
  refine ⟨_, rfl, n, _, rfl, .inl (SqL.of hn), ?_⟩
  rw [List.length_map, nl]
  refine ⟨_, rfl, a, _, rfl, .inr ha, _, rfl, _, _, rfl, rfl, by rw [List.length_map]; omega, _, 1, rfl, rfl, by rw [List.length_map]; omega, ?_⟩
  rw [show (fr.map vI).length - many - 1 = widthN many by rw [List.length_map]; omega]
  refine ⟨_, rfl, _, rfl, _, rfl, _, rfl, _, rfl, _, _, rfl, rfl, _, rfl, rdCut (i := many) (j := many + widthN many) ha (by rw [HT.sIx_nat]; omega) (by rw [HT.sIx_nat]; omega) fun t1 H1 s1 et1 => ?_⟩
  have l2 : ((fr.drop many).take (many + widthN many - many)).length = widthN many := by rw [List.length_take, List.length_drop]; omega
  refine ⟨t1, _, rfl, et1, fun b hb' => hb b (List.mem_of_mem_drop (List.mem_of_mem_take hb')), by omega, fun H2 s2 => ?_⟩
  have s12 := s1.trans s2
  have eW : valN ((fr.drop many).take (many + widthN many - many)) = XF (fun k => 2 ^ k) (fr.drop many) (widthN many) := by
    rw [XF_val (fun b h => hb b (List.mem_of_mem_drop h)) _ (by rw [List.length_drop]; omega), Nat.add_sub_cancel_left]
  rw [eW]
  generalize eG : XF (fun k => 2 ^ k) (fr.drop many) (widthN many) = G
  have hn2 := s12 _ _ hn
  have ha2 := seqT_same s12 ha
  refine ⟨_, rfl, _, rfl, srcL, srcT, n, a, (numsOf many).map vI, fr.map vI, rfl, SqL.of hn2, ha2, for_zipLe srcL srcT (xs := (numsOf many).map vI) (ys := fr.map vI) (by rw [List.length_map, List.length_map, nl]; omega) (fun (i : Nat) (σ' : L2.St) (H' : Hp) => ∃ v5 v6 : Option V, σ' = [some (.ref n), some (.ref a), some (vI many), some (vI (widthN many)), some (vI (G ^^^ XF (fun i => (numsOf many).getD i 0) fr i)), v5, v6, none, none] ∧ Same H2 H')
    ⟨none, none, ?_, Same.refl _⟩ (fun i σ' H' pv => ?_) (fun i x y T' σ' H' hx hy pv hT => ?_) (fun σ' H' pv => ?_)⟩
  · rw [XF, Nat.xor_zero]
    rfl
  · obtain ⟨_, _, _, s3⟩ := pv
    exact ⟨SqL.of (s3 _ _ hn2), seqT_same s3 ha2⟩
  · obtain ⟨v5, v6, rfl, s3⟩ := pv
    obtain ⟨m, hm', rfl⟩ := natAt hx
    obtain ⟨b, hb', rfl⟩ := natAt hy
    refine ⟨T', _, rfl, SqT.of upd_same, rfl, _, _, rfl, _, _, rfl, rfl, ?_⟩
    have eB : fr.getD i 0 = b := by rw [List.getD_eq_getElem?_getD, hb']; rfl
    have eM : (numsOf many).getD i 0 = m := by rw [List.getD_eq_getElem?_getD, hm']; rfl
    refine ⟨_, rfl, rfl, _, rfl, ite2 (fun z => ?_) (fun z => ?_)⟩
    · have e1 : b = 1 := one_of z
      refine ⟨_, rfl, _, rfl, _, _, rfl, rfl, some (vI m), some (vI b), ?_, s3.trans (same_new hT _)⟩
      rw [XF, eB, if_pos e1, eM, ← Nat.xor_assoc]
      rfl
    · have e1 : b ≠ 1 := not_one (Bool.eq_false_iff.mpr z)
      refine ⟨some (vI m), some (vI b), ?_, s3.trans (same_new hT _)⟩
      rw [XF, eB, if_neg e1]
      rfl
  obtain ⟨v5, v6, rfl, s3⟩ := pv
  rw [List.length_map, nl]
  have eF : G ^^^ XF (fun i => (numsOf many).getD i 0) fr many = faultN many fr := by
    unfold faultN
    rw [eG, Nat.xor_comm]
  rw [eF]
  clear eF eG
  have s13 := s12.trans s3
  have ha3 := seqT_same s3 ha2
  have hn3 := s3 _ _ hn2
  refine ⟨_, rfl, a, _, rfl, by rw [← map_int]; exact ha3, fr.sum, by rw [sum_cast], rfl, rfl, _, rfl, ite2 (fun z => ?_) (fun z => ?_)⟩
  · have ho : ¬ fr.sum % 2 = 1 := by have := V.int.inj (of_decide_eq_true z); omega
    have er : readN many fr = if faultN many fr = 0 then .clean else .more := by rw [readN, if_neg ho]
    rw [er] at q
    refine ⟨_, rfl, rfl, _, rfl, ite2 (fun z => ?_) (fun z => ?_)⟩
    · have e : faultN many fr = 0 := by have := V.int.inj (of_decide_eq_true z); omega
      rw [if_pos e] at q
      exact ⟨by show 1 ≤ sizeLine; decide, fun t ht => q t _ (s13.trans (same_new ht _)) (.tup upd_same (.cons (.str _) .nil))⟩
    · have e : faultN many fr ≠ 0 := fun e => of_decide_eq_false (Bool.eq_false_iff.mpr z) (by rw [e]; rfl)
      rw [if_neg e] at q
      exact ⟨by show 1 ≤ sizeLine; decide, fun t ht => q t _ (s13.trans (same_new ht _)) (.tup upd_same (.cons (.str _) .nil))⟩
  have ho : fr.sum % 2 = 1 := by
    have : ¬ fr.sum % 2 = 0 := fun e => of_decide_eq_false (Bool.eq_false_iff.mpr z) (by rw [e]; rfl)
    omega
  have er : readN many fr = (match placeN many (faultN many fr) with | none => .more | some p => .bit p) := if_pos ho
  rw [er] at q
  have flt := fault_lt (many := many) (fr := fr) nl h1
  generalize faultN many fr = x at *
  refine ⟨_, rfl, rfl, _, rfl, ite2 (fun z => ?_) (fun z => ?_)⟩
  · have e : x = 0 := by have := V.int.inj (of_decide_eq_true z); omega
    subst e
    rw [place_zero] at q
    refine ⟨_, rfl, a, _, rfl, .inr ha3, _, 1, rfl, rfl, by rw [List.length_map]; omega, by show 2 ≤ sizeLine; decide, fun t ht => q t _ (s13.trans (same_new ht _)) (.tup upd_same (.cons (.str _) (.cons ?_ .nil)))⟩
    rw [show (fr.map vI).length - 1 = many + widthN many by rw [List.length_map]; omega]
    exact .int _
  have x0 : x ≠ 0 := fun e => of_decide_eq_false (Bool.eq_false_iff.mpr z) (by rw [e]; rfl)
  have b62 := i62 (show widthN many ≤ 1000 by omega)
  have m62 := i62 (show many ≤ 1000 by omega)
  refine ⟨_, rfl, (widthN many : Int), rfl, b62.1, b62.2, for_it walk_range (fun i σ' H'' => ∃ v7 : Option V, σ' = [some (.ref n), some (.ref a), some (vI many), some (vI (widthN many)), some (vI x), v5, v6, v7, none] ∧ H'' = H' ∧ ∀ j, j < i → x ≠ 2 ^ j)
    ⟨_, rfl, rfl, fun j hj => by omega⟩ (fun _ _ _ _ _ => trivial) (fun i y σ' H'' H3 hi p y => ?_) (fun σ' H'' p => ?_)⟩
  · obtain ⟨v7, rfl, rfl, no⟩ := p
    obtain ⟨rfl, rfl⟩ := y
    have hi' : i < widthN many := by simpa using hi
    refine ⟨_, rfl, _, rfl, i, rfl, congrArg V.int (by omega), by omega, rfl, _, rfl, ite2 (fun z => ?_) (fun z => ?_)⟩
    · have e : x = 2 ^ i := by
        exact Int.ofNat_inj.mp (V.int.inj (of_decide_eq_true z))
      rw [place_pow e] at q
      refine ⟨_, rfl, _, rfl, many, i, rfl, congrArg V.int (by omega), by show 2 ≤ sizeLine; decide, fun t ht => q t _ (s13.trans (same_new ht _)) (.tup upd_same (.cons (.str _) (.cons (.int _) .nil)))⟩
    · have e : x ≠ 2 ^ i := fun e => of_decide_eq_false (Bool.eq_false_iff.mpr z) (by rw [e])
      refine ⟨_, rfl, rfl, fun j hj => ?_⟩
      by_cases hji : j = i
      · rw [hji]; exact e
      · exact no j (by omega)
  obtain ⟨v7, rfl, rfl, no⟩ := p
  have nx : np x = true := np_of_no x0 flt (fun j hj => no j (by simpa using hj))
  refine ⟨_, rfl, (many : Int), rfl, m62.1, m62.2, for_it walk_range (fun i σ' H3 => ∃ v8 : Option V, σ' = [some (.ref n), some (.ref a), some (vI many), some (vI (widthN many)), some (vI x), v5, v6, v7, v8] ∧ H3 = H'' ∧ ∀ j, j < i → (numsOf many)[j]? ≠ some x)
    ⟨_, rfl, rfl, fun j hj => by omega⟩ (fun _ _ _ _ _ => trivial) (fun i y σ' H'' H3 hi p y => ?_) (fun σ' H'' p => ?_)⟩
  · obtain ⟨v8, rfl, rfl, no2⟩ := p
    obtain ⟨rfl, rfl⟩ := y
    have hi' : i < many := by simpa using hi
    have eg : (numsOf many)[i]? = some (numsOf many)[i] := List.getElem?_eq_getElem (by omega)
    have hat : atI ((numsOf many).map vI) (0 + (i : Int)) = some (vI (numsOf many)[i]) := by
      rw [show (0 + (i : Int)) = ((i : Nat) : Int) by omega]
      exact atI_nat (by rw [List.getElem?_map, eg]; rfl)
    refine ⟨_, rfl, _, rfl, _, rfl, n, _, _, _, rfl, rfl, SqL.of hn3, hat, rfl, _, rfl, ite2 (fun z => ?_) (fun z => ?_)⟩
    · have e : x = (numsOf many)[i] := by have := V.int.inj (of_decide_eq_true z); omega
      rw [place_num x0 nx (by rw [eg, e])] at q
      refine ⟨_, rfl, by show 2 ≤ sizeLine; decide, fun t ht => q t _ (s13.trans (same_new ht _)) (.tup upd_same (.cons (.str _) (.cons ?_ .nil)))⟩
      show Lay _ (V.int (0 + (i : Int))) _
      rw [Int.zero_add]
      exact .int _
    · have e : (numsOf many)[i] ≠ x := fun e => of_decide_eq_false (Bool.eq_false_iff.mpr z) (by rw [e])
      refine ⟨_, rfl, rfl, fun j hj => ?_⟩
      by_cases hji : j = i
      · rw [hji, eg]
        exact fun z => e (Option.some.inj z)
      · exact no2 j (by omega)
  obtain ⟨v8, rfl, rfl, no2⟩ := p
  have hno : x ∉ numsOf many := fun hx => by
    obtain ⟨j, hj⟩ := List.mem_iff_getElem?.mp hx
    have := (List.getElem?_eq_some_iff.mp hj).1
    exact no2 j (by simp; omega) hj
  rw [place_none x0 nx hno] at q
  exact ⟨by show 1 ≤ sizeLine; decide, fun t ht => q t _ (s13.trans (same_new ht _)) (.tup upd_same (.cons (.str _) .nil))⟩
end
end Bf

set_option Elab.async false
set_option linter.all false
set_option maxRecDepth 100000
set_option maxHeartbeats 4000000
namespace Bf
open PySem PySem.Spec PyProof.Rows L2
theorem Keep.many {H H' : Hp} {d c : Addr} {rs : List Addr} {pls : List (List Nat)} (k : Keep [d] H H') (ds : DS H d c) (o : Objs H rs (pls.map LI)) : Objs H' rs (pls.map LI) := o.draw ds k
theorem range_vI (n : Nat) : rgV 0 (n : Int) = (List.range n).map vI := by
  unfold rgV
  rw [show ((n : Int) - 0).toNat = n by omega]
  refine List.map_congr_left fun i _ => ?_
  show V.int _ = V.int _
  congr 1
  omega
theorem pop_left {ms : List Nat} {k m : Nat} (nd : ms.Nodup) (h : ms[k]? = some m) : (ms.eraseIdx k).Nodup ∧ m ∉ ms.eraseIdx k ∧ (∀ x ∈ ms.eraseIdx k, x ∈ ms) ∧ (ms.eraseIdx k).length + 1 = ms.length := by
  have hk : k < ms.length := (List.getElem?_eq_some_iff.mp h).1
  refine ⟨nd.sublist (List.eraseIdx_sublist ms k), fun hm => ?_, fun x hx => (List.eraseIdx_sublist ms k).subset hx, ?_⟩
  · obtain ⟨j, hj, e⟩ := List.mem_eraseIdx_iff_getElem?.mp hm
    have hjl : j < ms.length := (List.getElem?_eq_some_iff.mp e).1
    exact hj ((List.getElem?_inj hjl nd).mp (e.trans h.symm))
  · rw [List.length_eraseIdx_of_lt hk]
    omega
theorem map_erase : ∀ (ms : List Nat) (k : Nat), (ms.map vI).eraseIdx k = (ms.eraseIdx k).map vI
  | [], _ => by simp
  | _ :: _, 0 => by simp
  | a :: r, k + 1 => by
    rw [List.map_cons, List.eraseIdx_cons_succ, map_erase r k, List.eraseIdx_cons_succ, List.map_cons]
def PLn (H : Hp) (L : Addr) (ok : List Nat → Prop) (n : Nat) : Prop := ∃ (rs : List Addr) (pls : List (List Nat)), H L = some (.lst (rs.map V.ref)) ∧ Objs H rs (pls.map LI) ∧ L ∉ rs ∧ rs.length = n ∧ ∀ ps ∈ pls, ok ps
theorem PLn.pl {H : Hp} {L : Addr} {ok : List Nat → Prop} {n : Nat} (h : PLn H L ok n) (hn : n ≤ 300) : PL H L ok := let ⟨rs, pls, a, b, c, e, o⟩ := h; ⟨rs, pls, a, b, c, by omega, o⟩
theorem PLn.draw {H H' : Hp} {L d c : Addr} {ok : List Nat → Prop} {n : Nat} (h : PLn H L ok n) (ds : DS H d c) (k : Keep [d] H H') (nL : L ≠ d) : PLn H' L ok n :=
  let ⟨rs, pls, a, b, e, f, o⟩ := h; ⟨rs, pls, k _ _ (by simp [nL]) a, b.draw ds k, e, f, o⟩
theorem PLn.same {H H' : Hp} {L : Addr} {ok : List Nat → Prop} {n : Nat} (h : PLn H L ok n) (k : Same H H') : PLn H' L ok n :=
  let ⟨rs, pls, a, b, e, f, o⟩ := h; ⟨rs, pls, k _ _ a, b.same k, e, f, o⟩
theorem PLn.nil {H : Hp} {L : Addr} {ok : List Nat → Prop} (h : H L = some (.lst [])) : PLn H L ok 0 := ⟨[], [], h, rfl, by simp, rfl, by simp⟩
theorem PLn.at_ {H : Hp} {L : Addr} {ok : List Nat → Prop} {n : Nat} (h : PLn H L ok n) : ∃ acc, H L = some (.lst acc) := let ⟨_, _, a, _⟩ := h; ⟨_, a⟩
theorem PLn.push {H : Hp} {L u : Addr} {ok : List Nat → Prop} {n : Nat} {ps : List Nat} (h : PLn H L ok n) (hu : H u = some (LI ps)) (nu : u ≠ L) (o : ok ps) (hn : n < 1000) :
    ∃ acc, H L = some (.lst acc) ∧ acc.length < sizeLine ∧ PLn (upd H L (.lst (acc ++ [.ref u]))) L ok (n + 1) := by
  obtain ⟨rs, pls, a, b, e, f, oo⟩ := h
  refine ⟨_, a, by rw [List.length_map]; exact small1000 (by omega), rs ++ [u], pls ++ [ps], ?_, ?_, by simp [e, nu.symm], by rw [List.length_append, f]; rfl, fun x hx => ?_⟩
  · rw [upd_same, List.map_append]; rfl
  · rw [List.map_append]
    refine (b.keep fun r hr z ez => ?_).app (Objs.one ?_)
    · rw [upd_ne (fun w : r = L => e (w ▸ hr))]
      exact ez
    · rw [upd_ne nu]
      exact hu
  · rcases List.mem_append.mp hx with q | q
    · exact oo x q
    · rw [List.mem_singleton.mp q]; exact o
section
variable {P : Program} {w : World} {K : PySem.W.Frag} {mg : Str → Option Value} {base : Heap} {f : Addr} {fd : FuncData}
theorem ok_singles (F : Fun K "_law_singles" "_law_singles" s_law_singles f fd) (T : Txt mg) (D_law_draw : Dn P w K mg base "_law_draw" ["_law_d", "_law_many"] 1 spDraw) :
    FnOk P w K mg base CX0 2 f fd ["_law_d", "_law_many", "_law_size"] (spLists One) := by
  refine F.ok sc_law_singles (fun vs H Q E h => ?_) (fun cdv A outer s H vs Q E hr h => ?_)
  · obtain ⟨d, c, many, size, rfl, _⟩ := h
    rfl
  obtain ⟨d, c, many, size, rfl, hd, h1, h2, hs, q⟩ := h
  refine ⟨_, (pss_cons (ps_if (pt_cmpR op_le (pv 2) pe_int (nomark _)) (pss_one (ps_ret (pe_lc (own := [("_law_at", 5)]) (g := gName 5) (tt := tYes) rfl sc_law_singles.nd (pi_range1 rfl T.n_range (pa_cons (pv 2) pa_nil)) (blkOk_by (N := ["_law_d", "_law_many", "_law_size", "_law_found", "_law_k", "_law_at"]) (sc := defScope s_law_singles) (by decide +kernel)) (fun _ _ _ _ _ => (pg_name (i := 5) sc_law_singles.nd rfl (Or.inl rfl))) (fun _ _ _ _ _ => pts_nil) (fun _ _ _ _ _ => (pe_lst (pa_cons (pv 5) pa_nil)))))) pss_nil)
      (pss_cons (ps_set (i := 3) sc_law_singles.nd rfl (Or.inl rfl) (pe_lst (pa_cons (pe_lst (pa_cons (pe_op op_sub (pv 1) pe_int) pa_nil)) (pa_cons (pe_lst (pa_cons (pv 1) pa_nil)) (pa_cons (pe_lst (pa_cons (pe_op op_sub (pv 2) pe_int) pa_nil)) (pa_cons (pe_lst (pa_cons (pe_op op_sub (pv 2) pe_int) pa_nil)) pa_nil))))))
      (pss_cons (ps_for PassesOwn.never rfl (pi_range1 rfl T.n_range (pa_cons (pe_ifExp (pt_cmpR op_le (pv 1) pe_int (nomark _)) pe_int pe_int) pa_nil)) (pg_name (i := 4) sc_law_singles.nd rfl (Or.inl rfl)) (pss_one (ps_expr (pe_bm PySem.F.plainAttrs_list PySem.F.slot_list_append PySem.F.type_list_append mt_append (pv 3) (pa_cons (pe_lst (pa_cons (pe_dn D_law_draw (hr.mono (by decide)) (by rfl) (pa_cons (pv 0) (pa_cons (pv 2) pa_nil))) pa_nil)) pa_nil)))))
      (pss_one (ps_ret (pv 3)))))), ?_⟩
  have b62 := i62 (show size ≤ 1000 by omega)
  refine ⟨_, rfl, _, _, rfl, rfl, _, rfl, ite2 (fun z => ?_) (fun z => ?_)⟩
  · have h18 : size ≤ 18 := by have := of_decide_eq_true z; omega
    refine ⟨_, rfl, (size : Int), rfl, b62.1, b62.2, fun D hD => ?_⟩
    have n := hd.new hD
    refine lc_range (lo := 0) (n := size) (fun i H' => Same H H' ∧ ∃ rs : List Addr, H' D = some (.lst (rs.map V.ref)) ∧ D ∉ rs ∧ Objs H' rs (((List.range i).map fun p => [p]).map LI)) ⟨same_new hD _, [], upd_same, by simp, rfl⟩ (fun i H' hi p => ?_) (fun H' p => ?_)
    · obtain ⟨sm, rs, eD, nD, ob⟩ := p
      have lr := ob.len
      simp only [List.length_map, List.length_range] at lr
      refine ⟨rfl, _, rfl, by show 1 ≤ sizeLine; decide, fun u hu => ?_⟩
      have nDu : D ≠ u := ne_of_none eD hu
      refine ⟨_, by rw [upd_ne nDu]; exact eD, by rw [List.length_map]; exact small1000 (by omega), same_two (sm.trans (same_new hu _)) hD, rs ++ [u], ?_, by simp [nD, nDu], ?_⟩
      · rw [upd_same, List.map_append]; rfl
      · rw [List.range_succ, List.map_append, List.map_append]
        refine ((ob.keep fun r hr o e => ?_).app (Objs.one ?_))
        · rw [upd_ne (fun z : r = D => nD (z ▸ hr)), upd_ne (ne_of_none e hu)]
          exact e
        · rw [upd_ne nDu.symm, upd_same]
          show some (HO.lst [V.int (0 + (i : Int))]) = _
          rw [Int.zero_add]
          rfl
    · obtain ⟨sm, rs, eD, nD, ob⟩ := p
      have lr := ob.len
      simp only [List.length_map, List.length_range] at lr
      refine q D H' ⟨rs, _, eD, ob, nD, by omega, fun ps hp => ?_⟩ (hd.same sm) (.of_same sm)
      obtain ⟨p, hp', rfl⟩ := List.mem_map.mp hp
      exact ⟨p, rfl, List.mem_range.mp hp'⟩
  have h18 : 18 < size := by
    have : ¬ ((size : Int) ≤ 18) := fun e => of_decide_eq_false (Bool.eq_false_iff.mpr z) e
    omega
  refine ⟨_, rfl, _, _, rfl, rfl, by show 1 ≤ sizeLine; decide, fun u1 g1 => ?_⟩
  refine ⟨_, rfl, by show 1 ≤ sizeLine; decide, fun u2 g2 => ?_⟩
  refine ⟨_, rfl, _, _, rfl, rfl, by show 1 ≤ sizeLine; decide, fun u3 g3 => ?_⟩
  refine ⟨_, rfl, _, _, rfl, rfl, by show 1 ≤ sizeLine; decide, fun u4 g4 => ?_⟩
  refine ⟨by show 4 ≤ sizeLine; decide, fun L g5 => ?_⟩
  have s1 := same_new g1 (.lst [V.int ((many : Int) - 1)])
  have s2 := same_new g2 (.lst [vI many])
  have s3 := same_new g3 (.lst [V.int ((size : Int) - 2)])
  have s4 := same_new g4 (.lst [V.int ((size : Int) - 1)])
  have s5 := same_new g5 (.lst [V.ref u1, V.ref u2, V.ref u3, V.ref u4])
  have s25 := s2.trans (s3.trans (s4.trans s5))
  have s15 := s1.trans s25
  have e1 := s25 _ _ (upd_same (a := u1) (o := .lst [V.int ((many : Int) - 1)]))
  have e2 := (s3.trans (s4.trans s5)) _ _ (upd_same (a := u2) (o := .lst [vI many]))
  have e3 := (s4.trans s5) _ _ (upd_same (a := u3) (o := .lst [V.int ((size : Int) - 2)]))
  have e4 := s5 _ _ (upd_same (a := u4) (o := .lst [V.int ((size : Int) - 1)]))
  have hL0 := (s1.trans (s2.trans (s3.trans s4))).free g5
  have nL := hd.new hL0
  have m1 := ne_of_none ((s2.trans (s3.trans s4)) _ _ (upd_same (a := u1) (o := .lst [V.int ((many : Int) - 1)]))) g5
  have m2 := ne_of_none ((s3.trans s4) _ _ (upd_same (a := u2) (o := .lst [vI many]))) g5
  have m3 := ne_of_none (s4 _ _ (upd_same (a := u3) (o := .lst [V.int ((size : Int) - 2)]))) g5
  have m4 := ne_of_none (upd_same (a := u4) (o := .lst [V.int ((size : Int) - 1)])) g5
  have p0 := hd.same s15
  have k0 : Keep [d] H _ := .of_same s15
  have eL := upd_same (H := upd (upd (upd (upd H u1 (.lst [V.int ((many : Int) - 1)])) u2 (.lst [vI many])) u3 (.lst [V.int ((size : Int) - 2)])) u4 (.lst [V.int ((size : Int) - 1)])) (a := L) (o := .lst [V.ref u1, V.ref u2, V.ref u3, V.ref u4])
  have ini : PLn _ L (One size) 4 := ⟨[u1, u2, u3, u4], [[many - 1], [many], [size - 2], [size - 1]], eL, by
    unfold Objs
    rw [List.map_cons, List.map_cons, List.map_cons, List.map_cons, e1, e2, e3, e4]
    show [some (HO.lst [V.int ((many : Int) - 1)]), some (HO.lst [vI many]), some (HO.lst [V.int ((size : Int) - 2)]), some (HO.lst [V.int ((size : Int) - 1)])] = [some (HO.lst [V.int ((many - 1 : Nat) : Int)]), some (HO.lst [vI many]), some (HO.lst [V.int ((size - 2 : Nat) : Int)]), some (HO.lst [V.int ((size - 1 : Nat) : Int)])]
    rw [show ((many - 1 : Nat) : Int) = (many : Int) - 1 by omega, show ((size - 2 : Nat) : Int) = (size : Int) - 2 by omega, show ((size - 1 : Nat) : Int) = (size : Int) - 1 by omega], by simp [m1.symm, m2.symm, m3.symm, m4.symm], rfl, fun ps hp => by
    simp only [List.mem_cons, List.not_mem_nil, or_false] at hp
    rcases hp with rfl | rfl | rfl | rfl
    · exact ⟨_, rfl, by omega⟩
    · exact ⟨_, rfl, by omega⟩
    · exact ⟨_, rfl, by omega⟩
    · exact ⟨_, rfl, by omega⟩⟩
  generalize upd (upd (upd (upd (upd H u1 (.lst [V.int ((many : Int) - 1)])) u2 (.lst [vI many])) u3 (.lst [V.int ((size : Int) - 2)])) u4 (.lst [V.int ((size : Int) - 1)])) L (.lst [V.ref u1, V.ref u2, V.ref u3, V.ref u4]) = H5 at p0 k0 ini ⊢
  refine ⟨_, rfl, _, _, rfl, rfl, _, rfl, ite2 (fun z => ?_) (fun z => ?_)⟩
  all_goals (
    refine ⟨_, rfl, by decide, by decide, for_it walk_range (fun i σ' H' => ∃ v4 : Option V, σ' = [some (.ref d), some (vI many), some (vI size), some (.ref L), v4, none] ∧ DS H' d c ∧ Keep [d] H H' ∧ PLn H' L (One size) (4 + i))
      ⟨_, rfl, p0, k0, ini⟩ (fun _ _ _ _ _ => trivial) (fun i x σ' H' H3 hi p y => ?_) (fun σ' H' p => ?_)⟩
    · obtain ⟨v4, rfl, hd3, k3, pl⟩ := p
      obtain ⟨rfl, rfl⟩ := y
      have hi8 : i < 8 := by simp at hi; omega
      obtain ⟨acc, ea⟩ := pl.at_
      refine ⟨_, rfl, .inl ⟨rfl, _, SqL.of ea⟩, _, rfl, _, rfl, d, c, size, rfl, hd3, by omega, by omega, fun r H4 r0 r1 hd4 k4 => ?_⟩
      obtain ⟨x, rfl⟩ := Int.eq_ofNat_of_zero_le r0
      refine ⟨by show 1 ≤ sizeLine; decide, fun u hu => ?_⟩
      have pl4 := (pl.draw hd3 k4 nL.1).same (same_new hu (.lst [V.int (x : Int)]))
      have eu : upd H4 u (.lst [V.int (x : Int)]) u = some (LI [x]) := upd_same
      obtain ⟨accd, ead⟩ := (pl.draw hd3 k4 nL.1).at_
      obtain ⟨acc2, ea2, la2, pl5⟩ := pl4.push eu (ne_of_none ead hu).symm ⟨x, rfl, by omega⟩ (by omega)
      exact ⟨L, _, _, rfl, rfl, ea2, la2, _, rfl, (hd4.same (same_new hu _)).keep (S := [L]) Keep.at1 (by simp [nL.1.symm]) (by simp [nL.2.symm]), keep_two ((k3.trans k4).trans (.of_same (same_new hu _))) hL0, pl5⟩
    · obtain ⟨v4, rfl, hd3, k3, pl⟩ := p
      exact ⟨_, rfl, q L H' (pl.pl (by simp)) hd3 k3⟩)
end
end Bf

set_option Elab.async false
set_option linter.all false
set_option maxRecDepth 100000
set_option maxHeartbeats 4000000
namespace Bf
open PySem PySem.Spec PyProof.Rows L2
theorem map_ref_inj : ∀ {a b : List Addr}, a.map V.ref = b.map V.ref → a = b
  | [], [], _ => rfl
  | [], _ :: _, h => by cases h
  | _ :: _, [], h => by cases h
  | x :: a, y :: b, h => by
    rw [List.map_cons, List.map_cons] at h
    have h1 := V.ref.inj (List.cons.inj h).1
    have h2 := map_ref_inj (List.cons.inj h).2
    rw [h1, h2]
theorem keepS {S S' : List Addr} {H H' H0 : Hp} (k0 : Keep S H0 H) (k : Keep S' H H') (h : ∀ b ∈ S', b ∈ S ∨ H0 b = none) : Keep S H0 H' := fun b o n e => k b o (fun m => by
  rcases h b m with q | q
  · exact n q
  · rw [q] at e; cases e) (k0 b o n e)
section
variable {P : Program} {w : World} {K : PySem.W.Frag} {mg : Str → Option Value} {base : Heap} {f : Addr} {fd : FuncData}
theorem ok_several (F : Fun K "_law_several" "_law_several" s_law_several f fd) (T : Txt mg) (D_law_draw : Dn P w K mg base "_law_draw" ["_law_d", "_law_many"] 1 spDraw) (D_law_pop : Dn P w K mg base "_law_pop" ["_law_d", "_law_row"] 2 spPop) :
    FnOk P w K mg base CX0 3 f fd ["_law_d", "_law_many", "_law_size"] (spLists More) := by
  refine F.ok sc_law_several (fun vs H Q E h => ?_) (fun cdv A outer s H vs Q E hr h => ?_)
  · obtain ⟨d, c, many, size, rfl, _⟩ := h
    rfl
  obtain ⟨d, c, many, size, rfl, hd, h1, h2, hs, q⟩ := h
  refine ⟨_, (pss_cons (ps_set (i := 3) sc_law_several.nd rfl (Or.inl rfl) (pe_lst pa_nil))
      (C8.pss_cut (ps_if (pt_cmpR op_le (pv 2) pe_int (nomark _)) (pss_one (ps_for PassesOwn.never rfl (pi_range1 rfl T.n_range (pa_cons (pv 2) pa_nil)) (pg_name (i := 4) sc_law_several.nd rfl (Or.inr rfl)) (pss_one (ps_set (i := 3) sc_law_several.nd rfl (Or.inl rfl) (pe_op op_cat (pv 3) (pe_lc (own := [("_law_one", 5)]) (g := gName 5) (tt := tYes) rfl sc_law_several.nd (pi_range1 rfl T.n_range (pa_cons (pv 4) pa_nil)) (blkOk_by (N := ["_law_d", "_law_many", "_law_size", "_law_found", "_law_at", "_law_one", "_law_k", "_law_left", "_law_other"]) (sc := defScope s_law_several) (by decide +kernel)) (fun _ _ _ _ _ => (pg_name (i := 5) sc_law_several.nd rfl (Or.inl rfl))) (fun _ _ _ _ _ => pts_nil) (fun _ _ _ _ _ => (pe_lst (pa_cons (pv 5) (pa_cons (pv 4) pa_nil)))))))))) pss_nil)
      (pss_cons (ps_for PassesOwn.never rfl (pi_range1 rfl T.n_range (pa_cons (pe_ifExp (pt_cmpR op_le (pv 1) pe_int (nomark _)) pe_int pe_int) pa_nil)) (pg_name (i := 6) sc_law_several.nd rfl (Or.inl rfl)) (pss_cons (ps_set (i := 7) sc_law_several.nd rfl (Or.inl rfl) (pe_listRg rfl (by rfl) T.n_list (prg_1 (by rfl) T.n_range (pv 2))))
      (pss_cons (ps_set (i := 5) sc_law_several.nd rfl (Or.inl rfl) (pe_dn D_law_pop (hr.mono (by decide)) (by rfl) (pa_cons (pv 0) (pa_cons (pv 7) pa_nil))))
      (pss_cons (ps_expr (pe_bm PySem.F.plainAttrs_list PySem.F.slot_list_append PySem.F.type_list_append mt_append (pv 3) (pa_cons (pe_lst (pa_cons (pv 5) (pa_cons (pe_dn D_law_pop (hr.mono (by decide)) (by rfl) (pa_cons (pv 0) (pa_cons (pv 7) pa_nil))) pa_nil))) pa_nil)))
      (pss_cons (ps_set (i := 8) sc_law_several.nd rfl (Or.inl rfl) (pe_op op_cat (pe_ix ix_list (pv 3) (pe_un un_neg pe_int) (fun _ _ => rfl)) (pe_lst (pa_cons (pe_dn D_law_pop (hr.mono (by decide)) (by rfl) (pa_cons (pv 0) (pa_cons (pv 7) pa_nil))) pa_nil))))
      (pss_one (ps_if (pt_cmpR op_eq (pe_op op_mod (pe_callTy call_int1 (by rfl) T.n_int (by decide +kernel) (pa_cons (pv 6) pa_nil)) pe_int) pe_int (nomark _)) (pss_one (ps_expr (pe_bm PySem.F.plainAttrs_list PySem.F.slot_list_append PySem.F.type_list_append mt_append (pv 3) (pa_cons (pv 8) pa_nil)))) pss_nil)))))))
      (pss_one (ps_ret (pv 3)))))), ?_⟩
  refine ⟨Nat.zero_le _, fun L0 hL0 => ?_⟩
  refine ⟨fun σ' H' => ∃ (v4 v5 : Option V) (L : Addr) (n : Nat), σ' = [some (.ref d), some (vI many), some (vI size), some (.ref L), v4, v5, none, none, none] ∧ Same H H' ∧ H L = none ∧ PLn H' L (More size) n ∧ n ≤ 50, ?_, ?_⟩
  · refine ⟨_, rfl, _, _, rfl, rfl, _, rfl, ite2 (fun z => ?_) (fun z => ?_)⟩
    · have h6 : size ≤ 6 := by have := of_decide_eq_true z; omega
      have b62 := i62 (show size ≤ 1000 by omega)
      refine ⟨_, rfl, (size : Int), rfl, b62.1, b62.2, for_it walk_range (fun i σ' H' => ∃ (v4 v5 : Option V) (L : Addr) (n : Nat), σ' = [some (.ref d), some (vI many), some (vI size), some (.ref L), v4, v5, none, none, none] ∧ Same H H' ∧ H L = none ∧ PLn H' L (More size) n ∧ n ≤ 6 * i)
        ⟨_, _, L0, 0, rfl, same_new hL0 _, hL0, .nil upd_same, by omega⟩ (fun _ _ _ _ _ => trivial) (fun i x σ' H' H3 hi p y => ?_) (fun σ' H' p => ?_)⟩
      · obtain ⟨v4, v5, L, n, rfl, sm, nL, pl, hn⟩ := p
        obtain ⟨rfl, rfl⟩ := y
        have hi' : i < size := by simpa using hi
        refine ⟨_, rfl, _, rfl, (0 + (i : Int)), rfl, by omega, by omega, fun D hD => ?_⟩
        refine lc_range (lo := 0) (n := (0 + (i : Int)).toNat) (fun j H' => Same H3 H' ∧ PLn H' D (More size) j) ⟨same_new hD _, .nil upd_same⟩ (fun j H' hj p => ?_) (fun H' p => ?_)
        · obtain ⟨s2, pl2⟩ := p
          refine ⟨rfl, _, rfl, _, rfl, by show 2 ≤ sizeLine; decide, fun u hu => ?_⟩
          obtain ⟨ac, ea⟩ := pl2.at_
          have st := same_new hu (.lst [V.int (0 + (j : Int)), V.int (0 + (i : Int))])
          have eu : upd H' u (.lst [V.int (0 + (j : Int)), V.int (0 + (i : Int))]) u = some (LI [j, i]) := by
            rw [upd_same, Int.zero_add, Int.zero_add]; rfl
          obtain ⟨acc, e1, e2, pl3⟩ := (pl2.same st).push eu (ne_of_none ea hu).symm (.inl ⟨j, i, rfl, by omega, by omega, by omega⟩) (by omega)
          exact ⟨acc, e1, e2, same_two (s2.trans st) hD, pl3⟩
        · rw [show (0 + (i : Int)).toNat = i by omega] at p
          obtain ⟨s2, rs2, pls2, a2, b2, c2, d2, o2⟩ := p
          obtain ⟨rs, pls, a1, b1, c1, d1, o1⟩ := pl.same s2
          refine ⟨L, D, _, _, rfl, rfl, a1, a2, by rw [List.length_map, List.length_map]; exact le1000 (by omega), fun Z hZ => ?_⟩
          have st := same_new hZ (.lst (rs.map V.ref ++ rs2.map V.ref))
          have sm3 := (sm.trans s2).trans st
          refine ⟨_, _, Z, n + i, rfl, sm3, (sm.trans s2).free hZ, ⟨rs ++ rs2, pls ++ pls2, by rw [upd_same, List.map_append], ?_, ?_, by rw [List.length_append]; omega, fun ps hp => ?_⟩, by omega⟩
          · rw [List.map_append]
            exact (b1.same st).app (b2.same st)
          · intro hm
            rcases List.mem_append.mp hm with w | w
            · obtain ⟨o, _, e⟩ := b1.some_ w
              rw [hZ] at e; cases e
            · obtain ⟨o, _, e⟩ := b2.some_ w
              rw [hZ] at e; cases e
          · rcases List.mem_append.mp hp with w | w
            · exact o1 ps w
            · exact o2 ps w
      · obtain ⟨v4, v5, L, n, rfl, sm, nL, pl, hn⟩ := p
        exact ⟨_, _, L, n, rfl, sm, nL, pl, by simp at hn; omega⟩
    · exact ⟨_, _, L0, 0, rfl, same_new hL0 _, hL0, .nil upd_same, by omega⟩
  rintro σ' H1 ⟨v4, v5, L, n0, rfl, sm1, nL0, pl1, hn0⟩
  have nL := hd.new nL0
  have p0 := hd.same sm1
  have k0 : Keep [d] H H1 := .of_same sm1
  refine ⟨_, rfl, _, _, rfl, rfl, _, rfl, ite2 (fun z => ?_) (fun z => ?_)⟩
  all_goals (
    refine ⟨_, rfl, by decide, by decide, for_it walk_range (fun i σ' H' => ∃ (v5 v6 v7 v8 : Option V) (n : Nat), σ' = [some (.ref d), some (vI many), some (vI size), some (.ref L), v4, v5, v6, v7, v8] ∧ DS H' d c ∧ Keep [d] H H' ∧ PLn H' L (More size) n ∧ n ≤ 50 + 2 * i)
      ⟨_, _, _, _, n0, rfl, p0, k0, pl1, by omega⟩ (fun _ _ _ _ _ => trivial) (fun i x σ' H' H3 hi p y => ?_) (fun σ' H' p => ?_)⟩
    · obtain ⟨v5, v6, v7, v8, n, rfl, hd3, k3, pl, hn⟩ := p
      obtain ⟨rfl, rfl⟩ := y
      have hi10 : i < 10 := by simp at hi; omega
      refine ⟨_, rfl, _, rfl, .of_le (by decide) (by omega) (by decide) (by omega), fun l hl => ?_⟩
      rw [range_vI]
      have sl := same_new hl (.lst ((List.range size).map vI))
      have nl := hd3.new hl
      have hl0 := kfree k3 hl (by simp [nl.1])
      have hd4 := hd3.same sl
      have el4 := upd_same (H := H3) (a := l) (o := .lst ((List.range size).map vI))
      obtain ⟨rs, pls, a1, b1, c1, d1, o1⟩ := pl.same sl
      have nlL : l ≠ L := (ne_of_none (pl.at_.choose_spec) hl).symm
      have nlr : l ∉ rs := fun hm => by
        obtain ⟨rs', pls', a', b', c', d', o'⟩ := pl
        have er : rs' = rs := by
          have := sl _ _ a'
          rw [a1] at this
          have := HO.lst.inj (Option.some.inj this)
          exact (map_ref_inj this).symm
        subst er
        obtain ⟨o, _, e⟩ := b'.some_ hm
        rw [hl] at e; cases e
      have k4 := keep_two (o := .lst ((List.range size).map vI)) k3 hl0
      generalize upd H3 l (.lst ((List.range size).map vI)) = H4 at *
      refine ⟨_, rfl, _, rfl, d, c, l, _, rfl, hd4, el4, nl.1, nl.2, by rw [List.length_map, List.length_range]; omega, by rw [List.length_map, List.length_range]; omega, fun k y H5 hy hd5 el5 k5 => ?_⟩
      obtain ⟨m1, hm1, rfl⟩ := natAt hy
      obtain ⟨nd1, ni1, su1, le1⟩ := pop_left List.nodup_range hm1
      have lt1 : m1 < size := List.mem_range.mp (List.mem_of_getElem? hm1)
      rw [map_erase] at el5
      generalize (List.range size).eraseIdx k = ms1 at *
      rw [List.length_range] at le1
      have kr : ∀ {Ha Hb : Hp}, Keep [d, l] Ha Hb → DS Ha d c → Objs Ha rs (pls.map LI) → Objs Hb rs (pls.map LI) := fun kk ds ob => ob.keep fun r hr o e => by
        obtain ⟨o', m, e'⟩ := ob.some_ hr
        obtain ⟨ps, _, rfl⟩ := List.mem_map.mp m
        refine kk r o (fun hm => ?_) e
        rcases List.mem_cons.mp hm with w | w
        · exact ds.ne_ints e' w
        · rw [List.mem_singleton.mp w] at hr; exact nlr hr
      have nLs : L ∉ [d, l] := by simp [nL.1, nlL.symm]
      have a5 := k5 _ _ nLs a1
      have b5 := kr k5 hd4 b1
      refine ⟨_, rfl, .inl ⟨rfl, _, SqL.of a5⟩, _, rfl, _, rfl, _, rfl, d, c, l, _, rfl, hd5, el5, nl.1, nl.2, by rw [List.length_map]; omega, by rw [List.length_map]; omega, fun k' y' H6 hy' hd6 el6 k6 => ?_⟩
      obtain ⟨m2, hm2, rfl⟩ := natAt hy'
      obtain ⟨nd2, ni2, su2, le2⟩ := pop_left nd1 hm2
      have in2 : m2 ∈ ms1 := List.mem_of_getElem? hm2
      have ne12 : m1 ≠ m2 := fun e => ni1 (e ▸ in2)
      have lt2 : m2 < size := List.mem_range.mp (su1 _ in2)
      rw [map_erase] at el6
      generalize ms1.eraseIdx k' = ms2 at *
      have a6 := k6 _ _ nLs a5
      have b6 := kr k6 hd5 b5
      refine ⟨by show 2 ≤ sizeLine; decide, fun u hu => ?_⟩
      have su := same_new hu (.lst [vI m1, vI m2])
      have pl7 : PLn (upd H6 u (.lst [vI m1, vI m2])) L (More size) n := ⟨rs, pls, su _ _ a6, b6.same su, c1, d1, o1⟩
      have eu : upd H6 u (.lst [vI m1, vI m2]) u = some (LI [m1, m2]) := upd_same
      have nuL : u ≠ L := (ne_of_none a6 hu).symm
      have nul : l ≠ u := ne_of_none el6 hu
      obtain ⟨acc, ea, la, pl8⟩ := pl7.push eu nuL (.inl ⟨m1, m2, rfl, ne12, lt1, lt2⟩) (by omega)
      have eacc : acc = rs.map V.ref := by
        have q1 := su _ _ a6
        rw [ea] at q1
        exact HO.lst.inj (Option.some.inj q1)
      subst eacc
      have k46 : Keep [d] H H6 := keepS (keepS k4 k5 (by simp [hl0])) k6 (by simp [hl0])
      have k7 := keep_two (o := .lst [vI m1, vI m2]) k46 (kfree k46 hu (by simp [(hd6.new hu).1]))
      have hd7 := hd6.same su
      have el7 := su _ _ el6
      have hd8 := hd7.keep (S := [L]) (Keep.at1 (o := .lst (rs.map V.ref ++ [V.ref u]))) (by simp [nL.1.symm]) (by simp [nL.2.symm])
      have el8 : upd (upd H6 u (.lst [vI m1, vI m2])) L (.lst (rs.map V.ref ++ [V.ref u])) l = some (.lst (ms2.map vI)) := by rw [upd_ne nlL]; exact el7
      have eL8 : upd (upd H6 u (.lst [vI m1, vI m2])) L (.lst (rs.map V.ref ++ [V.ref u])) L = some (.lst (rs.map V.ref ++ [V.ref u])) := upd_same
      have eu8 : upd (upd H6 u (.lst [vI m1, vI m2])) L (.lst (rs.map V.ref ++ [V.ref u])) u = some (LI [m1, m2]) := by rw [upd_ne nuL]; exact eu
      have k8 := keep_two (o := .lst (rs.map V.ref ++ [V.ref u])) k7 nL0
      refine ⟨L, _, _, rfl, rfl, ea, la, ?_⟩
      obtain ⟨rs8, pls8, a8, b8, c8, d8, o8⟩ := pl8
      have er8 : rs8 = rs ++ [u] := by
        rw [eL8] at a8
        have q1 := HO.lst.inj (Option.some.inj a8)
        exact (map_ref_inj (by rw [← q1, List.map_append]; rfl)).symm
      generalize upd (upd H6 u (.lst [vI m1, vI m2])) L (.lst (rs.map V.ref ++ [V.ref u])) = H8 at *
      refine ⟨_, rfl, _, rfl, L, _, _, _, rfl, rfl, SqL.of eL8, atI_last _ _, _, rfl, _, rfl, d, c, l, _, rfl, hd8, el8, nl.1, nl.2, by rw [List.length_map]; omega, by rw [List.length_map]; omega, fun k2 y2 H9 hy2 hd9 el9 k9 => ?_⟩
      obtain ⟨m3, hm3, rfl⟩ := natAt hy2
      have lt3 : m3 < size := List.mem_range.mp (su1 _ (su2 _ (List.mem_of_getElem? hm3)))
      have b9 : Objs H9 rs8 (pls8.map LI) := b8.keep fun r hr o e => by
        obtain ⟨o', m, e'⟩ := b8.some_ hr
        obtain ⟨ps, _, rfl⟩ := List.mem_map.mp m
        refine k9 r o (fun hm => ?_) e
        rcases List.mem_cons.mp hm with w | w
        · exact hd8.ne_ints e' w
        · rw [List.mem_singleton.mp w, er8] at hr
          rcases List.mem_append.mp hr with w2 | w2
          · exact nlr w2
          · exact nul (List.mem_singleton.mp w2)
      have a9 := k9 _ _ nLs a8
      have eu9 := k9 u _ (by simp [hd8.ne_ints eu8, nul.symm]) eu8
      have k89 : Keep [d] H H9 := keepS k8 k9 (by simp [hl0])
      refine ⟨by show 1 ≤ sizeLine; decide, fun u2 hu2 => ?_⟩
      have su2' := same_new hu2 (.lst [vI m3])
      refine ⟨u, u2, _, _, rfl, rfl, su2' _ _ eu9, upd_same, by show 3 ≤ sizeLine; decide, fun p hp => ?_⟩
      have sp := same_new hp (.lst ([vI m1, vI m2] ++ [vI m3]))
      have s10 := su2'.trans sp
      have hd10 := hd9.same s10
      have k10 : Keep [d] H _ := keep_two (o := .lst ([vI m1, vI m2] ++ [vI m3])) (keep_two (o := .lst [vI m3]) k89 (kfree k89 hu2 (by simp [(hd9.new hu2).1]))) (kfree (keep_two (o := .lst [vI m3]) k89 (kfree k89 hu2 (by simp [(hd9.new hu2).1]))) hp (by simp [((hd9.same su2').new hp).1]))
      have pl10 : PLn (upd (upd H9 u2 (.lst [vI m3])) p (.lst ([vI m1, vI m2] ++ [vI m3]))) L (More size) (n + 1) := ⟨rs8, pls8, s10 _ _ a9, b9.same s10, c8, d8, o8⟩
      have ep : upd (upd H9 u2 (.lst [vI m3])) p (.lst ([vI m1, vI m2] ++ [vI m3])) p = some (LI [m1, m2, m3]) := upd_same
      have npL : p ≠ L := (ne_of_none (su2' _ _ a9) hp).symm
      refine ⟨_, rfl, .inl ⟨_, rfl, _, _, rfl, rfl, (by show (0 : Int) < 2; decide), rfl, _, rfl, ite2 (fun z => ?_) (fun z => ?_)⟩⟩
      · obtain ⟨acc, ea', la', pl11⟩ := pl10.push ep npL (.inr ⟨m1, m2, m3, rfl, lt1, lt2, lt3⟩) (by omega)
        refine ⟨_, rfl, .inl ⟨rfl, _, SqL.of ea'⟩, _, rfl, L, _, _, rfl, rfl, ea', la', _, _, _, _, n + 1 + 1, rfl, hd10.keep (S := [L]) Keep.at1 (by simp [nL.1.symm]) (by simp [nL.2.symm]), keep_two k10 nL0, pl11, by omega⟩
      · exact ⟨_, _, _, _, n + 1, rfl, hd10, k10, pl10, by omega⟩
    · obtain ⟨v5, v6, v7, v8, n, rfl, hd3, k3, pl, hn⟩ := p
      exact ⟨_, rfl, q L H' (pl.pl (by simp at hn; omega)) hd3 k3⟩)
end
end Bf

set_option Elab.async false
set_option linter.all false
set_option maxRecDepth 100000
set_option maxHeartbeats 4000000
namespace Bf
open PySem PySem.Spec PyProof.Rows L2
def spFR : Sp := fun vs H Q _ => ∃ (d c : Addr) (many : Nat), vs = [.ref d, vI many] ∧ DS H d c ∧ 1 ≤ many ∧ many ≤ 500 ∧ ∀ H' : Hp, DS H' d c → Q (.bl true) H'
/-- the draws, the numbers and the frame -/
structure Stn (H : Hp) (d c n p : Addr) (ns fr : List Nat) : Prop where
  ds : DS H d c
  en : H n = some (.lst (ns.map vI))
  ep : H p = some (.tup (fr.map vI))
theorem Stn.same {H H' : Hp} {d c n p : Addr} {ns fr : List Nat} (h : Stn H d c n p ns fr) (k : Same H H') : Stn H' d c n p ns fr := ⟨h.ds.same k, k _ _ h.en, k _ _ h.ep⟩
theorem Stn.draw {H H' : Hp} {d c n p : Addr} {ns fr : List Nat} (h : Stn H d c n p ns fr) (k : Keep [d] H H') (ds : DS H' d c) : Stn H' d c n p ns fr :=
  ⟨ds, k _ _ (by simp [h.ds.ne_ints (r := n) (ps := ns) h.en]) h.en, k.tup1 h.ds _ _ h.ep⟩
section
variable {P : Program} {w : World} {K : PySem.W.Frag} {mg : Str → Option Value} {base : Heap} {f : Addr} {fd : FuncData}
theorem ok_fr (F : Fun K "_law_frame_read" "_law_frame_read" s_law_frame_read f fd) (T : Txt mg) (D_law_numbers : Dn P w K mg base "_law_numbers" ["_law_many"] 1 spNums) (D_law_frame : Dn P w K mg base "_law_frame" ["_law_data"] 2 (spFrame K))
    (D_law_draw : Dn P w K mg base "_law_draw" ["_law_d", "_law_many"] 1 spDraw) (D_read_frame : Dn P w K mg base "read_frame" ["many", "frame"] 5 (spRead K)) (D_law_is_told : Dn P w K mg base "_law_is_told" ["_law_told", "_law_due"] 2 spTold)
    (D_law_singles : Dn P w K mg base "_law_singles" ["_law_d", "_law_many", "_law_size"] 2 (spLists One)) (D_law_several : Dn P w K mg base "_law_several" ["_law_d", "_law_many", "_law_size"] 3 (spLists More))
    (D_law_spoilt : Dn P w K mg base "_law_spoilt" ["_law_frame_here", "_law_places"] 1 (spSpoilt K)) (D_law_reading : Dn P w K mg base "_law_reading" ["_law_numbers_here", "_law_frame_here"] 2 (spReading K)) :
    FnOk P w K mg base CX0 6 f fd ["_law_d", "_law_many"] spFR := by
  refine F.ok sc_law_frame_read (fun vs H Q E h => ?_) (fun cdv A outer s H vs Q E hr h => ?_)
  · obtain ⟨d, c, many, rfl, _⟩ := h
    rfl
  obtain ⟨d, c, many, rfl, hd, h1, hm, q⟩ := h
  refine ⟨_, (pss_cons (ps_set (i := 2) sc_law_frame_read.nd rfl (Or.inl rfl) (pe_dn D_law_numbers (hr.mono (by decide)) (by rfl) (pa_cons (pv 1) pa_nil)))
      (pss_cons (ps_set (i := 4) sc_law_frame_read.nd rfl (Or.inl rfl) (pe_dn D_law_frame (hr.mono (by decide)) (by rfl) (pa_cons (pe_callTy call_tuple_of (by rfl) T.n_tuple (by decide +kernel) (pa_cons (pe_lc (own := [("_law_k", 3)]) (g := gName 3) (tt := tYes) rfl sc_law_frame_read.nd (pi_range1 rfl T.n_range (pa_cons (pv 1) pa_nil)) (blkOk_by (N := ["_law_d", "_law_many", "_law_numbers_here", "_law_k", "_law_frame_here", "_law_size", "_law_places", "_law_bits", "_law_due", "_law_at"]) (sc := defScope s_law_frame_read) (by decide +kernel)) (fun _ _ _ _ _ => (pg_name (i := 3) sc_law_frame_read.nd rfl (Or.inl rfl))) (fun _ _ _ _ _ => pts_nil) (fun _ _ _ _ _ => (pe_dn D_law_draw (hr.mono (by decide)) (by rfl) (pa_cons (pv 0) (pa_cons pe_int pa_nil))))) pa_nil)) pa_nil)))
      (pss_cons (ps_set (i := 5) sc_law_frame_read.nd rfl (Or.inl rfl) (pe_callB call_len_seq (by rfl) T.n_len (by decide +kernel) (pa_cons (pv 4) pa_nil)))
      (pss_cons (ps_if (pt_not (pt_val (pe_dn D_law_is_told (hr.mono (by decide)) (by rfl) (pa_cons (pe_dn D_read_frame (hr.mono (by decide)) (by rfl) (pa_cons (pv 1) (pa_cons (pv 4) pa_nil))) (pa_cons (pe_tup (pa_cons pe_str pa_nil)) pa_nil))))) (pss_one (ps_ret pe_bl)) pss_nil)
      (pss_cons (ps_for PassesOwn.never rfl (pi_list (pe_dn D_law_singles (hr.mono (by decide)) (by rfl) (pa_cons (pv 0) (pa_cons (pv 1) (pa_cons (pv 5) pa_nil))))) (pg_name (i := 6) sc_law_frame_read.nd rfl (Or.inl rfl)) (pss_one (ps_if (pt_not (pt_val (pe_dn D_law_is_told (hr.mono (by decide)) (by rfl) (pa_cons (pe_dn D_read_frame (hr.mono (by decide)) (by rfl) (pa_cons (pv 1) (pa_cons (pe_dn D_law_spoilt (hr.mono (by decide)) (by rfl) (pa_cons (pv 4) (pa_cons (pv 6) pa_nil))) pa_nil))) (pa_cons (pe_tup (pa_cons pe_str (pa_cons (pe_ix ix_list (pv 6) pe_int (fun _ _ => rfl)) pa_nil))) pa_nil))))) (pss_one (ps_ret pe_bl)) pss_nil)))
      (pss_cons (ps_for PassesOwn.never rfl (pi_list (pe_dn D_law_several (hr.mono (by decide)) (by rfl) (pa_cons (pv 0) (pa_cons (pv 1) (pa_cons (pv 5) pa_nil))))) (pg_name (i := 6) sc_law_frame_read.nd rfl (Or.inl rfl)) (pss_cons (ps_set (i := 7) sc_law_frame_read.nd rfl (Or.inl rfl) (pe_dn D_law_spoilt (hr.mono (by decide)) (by rfl) (pa_cons (pv 4) (pa_cons (pv 6) pa_nil))))
      (pss_cons (ps_set (i := 8) sc_law_frame_read.nd rfl (Or.inl rfl) (pe_ifExp (pt_cmpR op_eq (pe_callB call_len_seq (by rfl) T.n_len (by decide +kernel) (pa_cons (pv 6) pa_nil)) pe_int (nomark _)) (pe_dn D_law_reading (hr.mono (by decide)) (by rfl) (pa_cons (pv 2) (pa_cons (pv 7) pa_nil))) (pe_tup (pa_cons pe_str pa_nil))))
      (pss_one (ps_if (pt_not (pt_val (pe_dn D_law_is_told (hr.mono (by decide)) (by rfl) (pa_cons (pe_dn D_read_frame (hr.mono (by decide)) (by rfl) (pa_cons (pv 1) (pa_cons (pv 7) pa_nil))) (pa_cons (pv 8) pa_nil))))) (pss_one (ps_ret pe_bl)) pss_nil)))))
      (pss_cons (ps_for PassesOwn.never rfl (pi_range1 rfl T.n_range (pa_cons pe_int pa_nil)) (pg_name (i := 3) sc_law_frame_read.nd rfl (Or.inl rfl)) (pss_cons (ps_set (i := 7) sc_law_frame_read.nd rfl (Or.inl rfl) (pe_callTy call_tuple_of (by rfl) T.n_tuple (by decide +kernel) (pa_cons (pe_lc (own := [("_law_at", 9)]) (g := gName 9) (tt := tYes) rfl sc_law_frame_read.nd (pi_range1 rfl T.n_range (pa_cons (pv 5) pa_nil)) (blkOk_by (N := ["_law_d", "_law_many", "_law_numbers_here", "_law_k", "_law_frame_here", "_law_size", "_law_places", "_law_bits", "_law_due", "_law_at"]) (sc := defScope s_law_frame_read) (by decide +kernel)) (fun _ _ _ _ _ => (pg_name (i := 9) sc_law_frame_read.nd rfl (Or.inl rfl))) (fun _ _ _ _ _ => pts_nil) (fun _ _ _ _ _ => (pe_dn D_law_draw (hr.mono (by decide)) (by rfl) (pa_cons (pv 0) (pa_cons pe_int pa_nil))))) pa_nil)))
      (pss_one (ps_if (pt_not (pt_val (pe_dn D_law_is_told (hr.mono (by decide)) (by rfl) (pa_cons (pe_dn D_read_frame (hr.mono (by decide)) (by rfl) (pa_cons (pv 1) (pa_cons (pv 7) pa_nil))) (pa_cons (pe_dn D_law_reading (hr.mono (by decide)) (by rfl) (pa_cons (pv 2) (pa_cons (pv 7) pa_nil))) pa_nil))))) (pss_one (ps_ret pe_bl)) pss_nil))))
      (pss_one (ps_ret (pe_dn D_law_is_told (hr.mono (by decide)) (by rfl) (pa_cons (pe_dn D_read_frame (hr.mono (by decide)) (by rfl) (pa_cons (pv 1) (pa_cons (pv 4) pa_nil))) (pa_cons (pe_tup (pa_cons pe_str pa_nil)) pa_nil)))))))))))), ?_⟩
  refine ⟨_, rfl, many, rfl, by omega, fun n H1 s1 hn en nl => ?_⟩
  have b62 := i62 (show many ≤ 1000 by omega)
  have hd1 := hd.same s1
  refine ⟨_, rfl, (many : Int), rfl, b62.1, b62.2, fun D hD => ?_⟩
  have nD := hd1.new hD
  refine lc_range (lo := 0) (n := many) (BI d c D H1) (BI.start hd1 (.refl _ _) hD hD) (fun i H' hi p => ?_) (fun H2 pb => ?_)
  · obtain ⟨bs, lb, zb, eb, ds, kk⟩ := p
    refine ⟨rfl, _, rfl, d, c, 2, rfl, ds, by decide, by decide, fun r4 H4 r40 r41 hd4 k4 => ?_⟩
    obtain ⟨x, rfl⟩ := Int.eq_ofNat_of_zero_le r40
    obtain ⟨acc, e, l, p2⟩ := BI.push (d := d) (c := c) (D := D) (H0 := H1) (i := i) (b := x) (H' := H4) ⟨bs, lb, zb, k4 _ _ (by simp [nD.1]) eb, hd4, kk.trans k4⟩ hD nD.1 nD.2 (by omega) (by omega)
    exact ⟨acc, e, l, p2⟩
  obtain ⟨bs, lb, zb, eD, hd2, k2⟩ := pb
  subst lb
  have en2 := k2 _ _ (by simp [hd1.ne_ints (r := n) (ps := numsOf bs.length) en]) en
  refine ⟨D, _, rfl, .inl ⟨SqL.of eD, fun t ht => ?_⟩⟩
  have st := same_new ht (.tup (bs.map vI))
  refine ⟨t, bs, rfl, SqT.of upd_same, h1, hm, fun p H3 s3 hp ep => ?_⟩
  have s23 := st.trans s3
  have S3 : Stn H3 d c n p (numsOf bs.length) (frameN bs) := ⟨hd2.same s23, s23 _ _ en2, ep⟩
  have fl := frame_lt zb
  have fz := frame_size bs
  have w20 := widthN_le (show bs.length ≤ 1000 by omega)
  have w1 := widthN_pos nl h1
  have rc := read_clean nl h1 zb
  clear en2 s23 st eD k2 hd2 en hd1 hD nD s1 hn ep s3
  refine ⟨_, rfl, p, _, rfl, .inr (SqT.of S3.ep), ?_⟩
  rw [List.length_map]
  refine ⟨_, rfl, _, rfl, p, bs.length, frameN bs, rfl, SqT.of S3.ep, h1, hm, fz, fl, fun t4 H4 s4 l4 => ?_⟩
  rw [rc] at l4
  refine ⟨by show 1 ≤ sizeLine; decide, fun u hu => ⟨t4, u, .clean, rfl, l4.keep' (.same (same_new hu _)), .tup upd_same (.cons (.str _) .nil), fun H5 s5 => ⟨true, rfl, iteF ?_⟩⟩⟩
  have S5 := S3.same ((s4.trans (same_new hu _)).trans s5)
  clear S3 s4 hu s5 l4
  refine ⟨_, rfl, _, rfl, _, rfl, d, c, bs.length, (frameN bs).length, rfl, S5.ds, h1, by omega, by omega, fun L H6 pl hd6 k6 => ?_⟩
  have S6 := S5.draw k6 hd6
  obtain ⟨rs, pls, eL, ob, nL, l300, okp⟩ := pl
  refine ⟨L, rfl, ⟨_, SqL.of eL⟩, for_it (walk_list (xs := rs.map V.ref)) (fun i σ' H' => ∃ v6 : Option V, σ' = [some (.ref d), some (vI bs.length), some (.ref n), none, some (.ref p), some (vI (frameN bs).length), v6, none, none, none] ∧ Same H6 H')
    ⟨_, rfl, .refl _⟩ (fun i σ' H' hi p => ?_) (fun i x σ' H7 H8 hi pv y => ?_) (fun σ' H7 pv => ?_)⟩
  · obtain ⟨_, _, sm⟩ := p
    exact SqL.of (sm _ _ eL)
  · obtain ⟨v6, rfl, sm⟩ := pv
    obtain ⟨rfl, ex⟩ := y
    obtain ⟨r, hr', rfl⟩ := refAt ex
    obtain ⟨o, ho, er⟩ := (ob.same sm).get hr'
    rw [List.getElem?_map] at ho
    cases hps : pls[i]? with
    | none => rw [hps] at ho; cases ho
    | some ps =>
    rw [hps] at ho
    obtain rfl := Option.some.inj ho
    obtain ⟨pp, rfl, hpp⟩ := okp ps (List.mem_of_getElem? hps)
    have S8 := S6.same sm
    refine ⟨_, rfl, _, rfl, _, rfl, p, r, frameN bs, [pp], rfl, SqT.of S8.ep, by omega, fl, er, fun t9 H9 s9 e9 => ?_⟩
    refine ⟨t9, bs.length, spoil (frameN bs) [pp], rfl, SqT.of e9, h1, hm, by rw [spoil_len]; exact fz, spoil_lt fl, fun t10 H10 s10 l10 => ?_⟩
    rw [read_one nl h1 zb hpp] at l10
    have er10 := s10 _ _ (s9 _ _ er)
    refine ⟨_, rfl, r, _, _, vI pp, rfl, rfl, SqL.of er10, atI_nat (j := 0) rfl, by show 2 ≤ sizeLine; decide, fun u hu => ?_⟩
    refine ⟨t10, u, .bit pp, rfl, l10.keep' (.same (same_new hu _)), .tup upd_same (.cons (.str _) (.cons (.int _) .nil)), fun H11 s11 => ⟨true, rfl, iteF ?_⟩⟩
    exact ⟨_, rfl, ((sm.trans (s9.trans s10)).trans (same_new hu _)).trans s11⟩
  obtain ⟨v6, rfl, sm⟩ := pv
  have S7 := S6.same sm
  clear S6 S5 sm eL ob nL l300 okp k6 hd6 rs pls
  refine ⟨_, rfl, _, rfl, _, rfl, d, c, bs.length, (frameN bs).length, rfl, S7.ds, h1, by omega, by omega, fun L H6 pl hd6 k6 => ?_⟩
  have S6 := S7.draw k6 hd6
  obtain ⟨rs, pls, eL, ob, nL, l300, okp⟩ := pl
  refine ⟨L, rfl, ⟨_, SqL.of eL⟩, for_it (walk_list (xs := rs.map V.ref)) (fun i σ' H' => ∃ v6 v7 v8 : Option V, σ' = [some (.ref d), some (vI bs.length), some (.ref n), none, some (.ref p), some (vI (frameN bs).length), v6, v7, v8, none] ∧ Same H6 H')
    ⟨_, _, _, rfl, .refl _⟩ (fun i σ' H' hi p => ?_) (fun i x σ' H7 H8 hi pv y => ?_) (fun σ' H7 pv => ?_)⟩
  · obtain ⟨_, _, _, _, sm⟩ := p
    exact SqL.of (sm _ _ eL)
  · obtain ⟨v6, v7, v8, rfl, sm⟩ := pv
    obtain ⟨rfl, ex⟩ := y
    obtain ⟨r, hr', rfl⟩ := refAt ex
    obtain ⟨o, ho, er⟩ := (ob.same sm).get hr'
    rw [List.getElem?_map] at ho
    cases hps : pls[i]? with
    | none => rw [hps] at ho; cases ho
    | some ps =>
    rw [hps] at ho
    obtain rfl := Option.some.inj ho
    have okk := okp ps (List.mem_of_getElem? hps)
    have S8 := S6.same sm
    refine ⟨_, rfl, _, rfl, p, r, frameN bs, ps, rfl, SqT.of S8.ep, by omega, fl, er, fun t9 H9 s9 e9 => ?_⟩
    have er9 := s9 _ _ er
    refine ⟨_, rfl, r, _, rfl, .inl (SqL.of er9), rfl, _, rfl, ?_⟩
    rw [List.length_map]
    rcases okk with ⟨p1, p2, rfl, ne, l1, l2⟩ | ⟨p1, p2, p3, rfl, l1, l2, l3⟩
    · refine iteF ⟨by show 1 ≤ sizeLine; decide, fun u hu => ?_⟩
      have su := same_new hu (.tup [V.str "more"])
      refine ⟨_, rfl, _, rfl, t9, bs.length, spoil (frameN bs) [p1, p2], rfl, SqT.of (su _ _ e9), h1, hm, by rw [spoil_len]; exact fz, spoil_lt fl, fun t10 H10 s10 l10 => ?_⟩
      rw [read_two nl h1 zb l1 l2 ne] at l10
      refine ⟨_, rfl, t10, u, .more, rfl, l10, .tup (s10 _ _ upd_same) (.cons (.str _) .nil), fun H11 s11 => ⟨true, rfl, iteF ?_⟩⟩
      exact ⟨_, _, _, rfl, ((sm.trans (s9.trans su)).trans s10).trans s11⟩
    · refine iteT ?_
      refine ⟨_, rfl, _, rfl, n, t9, bs.length, spoil (frameN bs) [p1, p2, p3], rfl, s9 _ _ S8.en, SqT.of e9, h1, hm, by rw [spoil_len]; exact fz, spoil_lt fl, fun u H10 s10 l10 => ?_⟩
      refine ⟨_, rfl, _, rfl, t9, bs.length, spoil (frameN bs) [p1, p2, p3], rfl, SqT.of (s10 _ _ e9), h1, hm, by rw [spoil_len]; exact fz, spoil_lt fl, fun t11 H11 s11 l11 => ?_⟩
      refine ⟨_, rfl, t11, u, _, rfl, l11, l10.keep' (.same s11), fun H12 s12 => ⟨true, rfl, iteF ?_⟩⟩
      exact ⟨_, _, _, rfl, ((sm.trans (s9.trans s10)).trans s11).trans s12⟩
  obtain ⟨v6, v7, v8, rfl, sm⟩ := pv
  have S8 := S6.same sm
  clear S6 S7 sm eL ob nL l300 okp k6 hd6 rs pls
  refine ⟨3, rfl, by decide, by decide, for_it walk_range (fun i σ' H' => ∃ v3 v6 v7 v8 : Option V, σ' = [some (.ref d), some (vI bs.length), some (.ref n), v3, some (.ref p), some (vI (frameN bs).length), v6, v7, v8, none] ∧ Stn H' d c n p (numsOf bs.length) (frameN bs))
    ⟨_, _, _, _, rfl, S8⟩ (fun _ _ _ _ _ => trivial) (fun i x σ' H' H3 hi pv y => ?_) (fun σ' H' pv => ?_)⟩
  · obtain ⟨v3, v6, v7, v8, rfl, S9⟩ := pv
    obtain ⟨rfl, rfl⟩ := y
    have z62 := i62 (show (frameN bs).length ≤ 1000 by omega)
    refine ⟨_, rfl, ((frameN bs).length : Int), rfl, z62.1, z62.2, fun D hD => ?_⟩
    have nD := S9.ds.new hD
    refine lc_range (lo := 0) (n := (frameN bs).length) (BI d c D H3) (BI.start S9.ds (.refl _ _) hD hD) (fun i H' hi p => ?_) (fun H2 pb => ?_)
    · obtain ⟨bs, lb, zb, eb, ds, kk⟩ := p
      refine ⟨rfl, _, rfl, d, c, 2, rfl, ds, by decide, by decide, fun r4 H4 r40 r41 hd4 k4 => ?_⟩
      obtain ⟨x, rfl⟩ := Int.eq_ofNat_of_zero_le r40
      obtain ⟨acc, e, l, p2⟩ := BI.push (d := d) (c := c) (D := D) (H0 := H3) (i := i) (b := x) (H' := H4) ⟨bs, lb, zb, k4 _ _ (by simp [nD.1]) eb, hd4, kk.trans k4⟩ hD nD.1 nD.2 (by omega) (by omega)
      exact ⟨acc, e, l, p2⟩
    obtain ⟨cs, lc, zc, eD, hd2, k2⟩ := pb
    have S10 := S9.draw k2 hd2
    refine ⟨D, _, rfl, .inl ⟨SqL.of eD, fun t ht => ?_⟩⟩
    have st := same_new ht (.tup (cs.map vI))
    have S11 := S10.same st
    have et := upd_same (H := H2) (a := t) (o := .tup (cs.map vI))
    refine ⟨_, rfl, _, rfl, t, bs.length, cs, rfl, SqT.of et, h1, hm, by omega, zc, fun t12 H12 s12 l12 => ?_⟩
    have S12 := S11.same s12
    refine ⟨_, rfl, _, rfl, n, t, bs.length, cs, rfl, S12.en, SqT.of (s12 _ _ et), h1, hm, by omega, zc, fun u H13 s13 l13 => ?_⟩
    refine ⟨t12, u, _, rfl, l12.keep' (.same s13), l13, fun H14 s14 => ⟨true, rfl, iteF ?_⟩⟩
    exact ⟨_, _, _, _, rfl, S12.same (s13.trans s14)⟩
  obtain ⟨v3, v6, v7, v8, rfl, S9⟩ := pv
  refine ⟨_, rfl, _, rfl, p, bs.length, frameN bs, rfl, SqT.of S9.ep, h1, hm, fz, fl, fun t4 H4 s4 l4 => ?_⟩
  rw [rc] at l4
  refine ⟨by show 1 ≤ sizeLine; decide, fun u hu => ⟨t4, u, .clean, rfl, l4.keep' (.same (same_new hu _)), .tup upd_same (.cons (.str _) .nil), fun H5 s5 => ?_⟩⟩
  exact q H5 (S9.same ((s4.trans (same_new hu _)).trans s5)).ds
def spLaw (K : PySem.W.Frag) : Sp := fun vs H Q _ => ∃ (a : Addr) (ns : List Int), vs = [.ref a] ∧ SqL K H a (ns.map V.int) ∧ ns.length ≤ 63 ∧ ∀ H', Q (.bl true) H'
theorem ok_law (F : Fun K "law" "law" s_law f fd) (T : Txt mg) (D_law_begin : Dn P w K mg base "_law_begin" ["_law_script"] 1 (spBegin K)) (D_law_size_of_data : Dn P w K mg base "_law_size_of_data" ["_law_d"] 3 spSize)
    (D_law_frame_read : Dn P w K mg base "_law_frame_read" ["_law_d", "_law_many"] 6 spFR) (D_law_draw : Dn P w K mg base "_law_draw" ["_law_d", "_law_many"] 1 spDraw) :
    FnOk P w K mg base CX0 7 f fd ["_law_script"] (spLaw K) := by
  refine F.ok sc_law (fun vs H Q E h => ?_) (fun cdv A outer s H vs Q E hr h => ?_)
  · obtain ⟨a, ns, rfl, _⟩ := h
    rfl
  obtain ⟨a, ns, rfl, hS, h63, q⟩ := h
  refine ⟨_, (pss_cons (ps_set (i := 1) sc_law.nd rfl (Or.inl rfl) (pe_dn D_law_begin (hr.mono (by decide)) (by rfl) (pa_cons (pv 0) pa_nil)))
      (pss_cons (ps_set (i := 2) sc_law.nd rfl (Or.inl rfl) (pe_dn D_law_size_of_data (hr.mono (by decide)) (by rfl) (pa_cons (pv 1) pa_nil)))
      (pss_cons (ps_if (pt_not (pt_val (pe_dn D_law_frame_read (hr.mono (by decide)) (by rfl) (pa_cons (pv 1) (pa_cons (pv 2) pa_nil))))) (pss_one (ps_ret pe_bl)) pss_nil)
      (pss_one (ps_ret (pe_dn D_law_frame_read (hr.mono (by decide)) (by rfl) (pa_cons (pv 1) (pa_cons (pe_op op_add pe_int (pe_dn D_law_draw (hr.mono (by decide)) (by rfl) (pa_cons (pv 1) (pa_cons pe_int pa_nil)))) pa_nil)))))))), ?_⟩
  refine ⟨_, rfl, a, ns, rfl, hS, h63, fun d c H1 nd nc hd1 s1 => ?_⟩
  refine ⟨_, rfl, d, c, rfl, hd1, fun m H2 m1 m2 hd2 k2 => ?_⟩
  refine ⟨_, rfl, _, rfl, d, c, m, rfl, hd2, m1, m2, fun H3 hd3 => ⟨true, rfl, iteF ?_⟩⟩
  refine ⟨_, rfl, _, rfl, d, c, 16, rfl, hd3, by decide, by decide, fun r H4 r0 r1 hd4 k4 => ?_⟩
  obtain ⟨x, rfl⟩ := Int.eq_ofNat_of_zero_le r0
  exact ⟨_, _, rfl, rfl, d, c, 1 + x, by rw [show vI (1 + x) = V.int (1 + (x : Int)) from congrArg V.int (by omega)], hd4, by omega, by omega, fun H5 _ => q _⟩
end
end Bf

set_option Elab.async false
set_option linter.all false
set_option maxRecDepth 100000
set_option maxHeartbeats 4000000
namespace Bf
open PySem PySem.Spec PyProof.Rows L2
/-! ### what the top has written -/
theorem all_mk {l : PySem.W.OpenLaw} {w : World} {K : PySem.W.Frag} {h : Heap} {mg : Str → Option Value} {fa f__law_draw f__law_begin f__law_pick f__law_pop f__law_rare f__law_is_int f_from_bits f_data_numbers f_check_width f_frame_size f_check_word f_wrong_place f_read_frame f__law_numbers f__law_frame f__law_word_of f__law_size_of_data f__law_reading f__law_spoilt f__law_singles f__law_several f__law_is_told f__law_frame_read f_law : Addr} (X : K.In h) (G : h.Ns mainGlobals mg) (hfa : mg "law" = some (.ref fa))
    {od2 an2 : Option Addr} {sl2 : Array (Option Value)} {oc2 kV2 dc2 pm2 cd2 ct2 : Value}
    {od4 an4 : Option Addr} {sl4 : Array (Option Value)} {oc4 kV4 dc4 pm4 cd4 ct4 : Value}
    {od6 an6 : Option Addr} {sl6 : Array (Option Value)} {oc6 kV6 dc6 pm6 cd6 ct6 : Value}
    {od8 an8 : Option Addr} {sl8 : Array (Option Value)} {oc8 kV8 dc8 pm8 cd8 ct8 : Value}
    {od10 an10 : Option Addr} {sl10 : Array (Option Value)} {oc10 kV10 dc10 pm10 cd10 ct10 : Value}
    {od12 an12 : Option Addr} {sl12 : Array (Option Value)} {oc12 kV12 dc12 pm12 cd12 ct12 : Value}
    {od14 an14 : Option Addr} {sl14 : Array (Option Value)} {oc14 kV14 dc14 pm14 cd14 ct14 : Value}
    {od16 an16 : Option Addr} {sl16 : Array (Option Value)} {oc16 kV16 dc16 pm16 cd16 ct16 : Value}
    {od18 an18 : Option Addr} {sl18 : Array (Option Value)} {oc18 kV18 dc18 pm18 cd18 ct18 : Value}
    {od20 an20 : Option Addr} {sl20 : Array (Option Value)} {oc20 kV20 dc20 pm20 cd20 ct20 : Value}
    {od22 an22 : Option Addr} {sl22 : Array (Option Value)} {oc22 kV22 dc22 pm22 cd22 ct22 : Value}
    {od24 an24 : Option Addr} {sl24 : Array (Option Value)} {oc24 kV24 dc24 pm24 cd24 ct24 : Value}
    {od26 an26 : Option Addr} {sl26 : Array (Option Value)} {oc26 kV26 dc26 pm26 cd26 ct26 : Value}
    {od28 an28 : Option Addr} {sl28 : Array (Option Value)} {oc28 kV28 dc28 pm28 cd28 ct28 : Value}
    {od30 an30 : Option Addr} {sl30 : Array (Option Value)} {oc30 kV30 dc30 pm30 cd30 ct30 : Value}
    {od32 an32 : Option Addr} {sl32 : Array (Option Value)} {oc32 kV32 dc32 pm32 cd32 ct32 : Value}
    {od34 an34 : Option Addr} {sl34 : Array (Option Value)} {oc34 kV34 dc34 pm34 cd34 ct34 : Value}
    {od36 an36 : Option Addr} {sl36 : Array (Option Value)} {oc36 kV36 dc36 pm36 cd36 ct36 : Value}
    {od38 an38 : Option Addr} {sl38 : Array (Option Value)} {oc38 kV38 dc38 pm38 cd38 ct38 : Value}
    {od40 an40 : Option Addr} {sl40 : Array (Option Value)} {oc40 kV40 dc40 pm40 cd40 ct40 : Value}
    {od42 an42 : Option Addr} {sl42 : Array (Option Value)} {oc42 kV42 dc42 pm42 cd42 ct42 : Value}
    {od44 an44 : Option Addr} {sl44 : Array (Option Value)} {oc44 kV44 dc44 pm44 cd44 ct44 : Value}
    {od46 an46 : Option Addr} {sl46 : Array (Option Value)} {oc46 kV46 dc46 pm46 cd46 ct46 : Value}
    {od48 an48 : Option Addr} {sl48 : Array (Option Value)} {oc48 kV48 dc48 pm48 cd48 ct48 : Value}
    (a1 : PySem.W.nsIn K mainGlobals "_law_draw" = some (some (.ref f__law_draw)))
    (l2 : K.lookup f__law_draw = some ⟨oc2, od2, .func (PySem.W.fnOf "_law_draw" "_law_draw" (defArgs s_law_draw) (defBody s_law_draw) (defScope s_law_draw) .none kV2 dc2 pm2 an2 cd2 ct2), sl2⟩) (c2 : PySem.W.codeIn K cd2 "_law_draw" = true) (k2 : PySem.W.keepIn K (.ref f__law_draw) = true)
    (a3 : PySem.W.nsIn K mainGlobals "_law_begin" = some (some (.ref f__law_begin)))
    (l4 : K.lookup f__law_begin = some ⟨oc4, od4, .func (PySem.W.fnOf "_law_begin" "_law_begin" (defArgs s_law_begin) (defBody s_law_begin) (defScope s_law_begin) .none kV4 dc4 pm4 an4 cd4 ct4), sl4⟩) (c4 : PySem.W.codeIn K cd4 "_law_begin" = true) (k4 : PySem.W.keepIn K (.ref f__law_begin) = true)
    (a5 : PySem.W.nsIn K mainGlobals "_law_pick" = some (some (.ref f__law_pick)))
    (l6 : K.lookup f__law_pick = some ⟨oc6, od6, .func (PySem.W.fnOf "_law_pick" "_law_pick" (defArgs s_law_pick) (defBody s_law_pick) (defScope s_law_pick) .none kV6 dc6 pm6 an6 cd6 ct6), sl6⟩) (c6 : PySem.W.codeIn K cd6 "_law_pick" = true) (k6 : PySem.W.keepIn K (.ref f__law_pick) = true)
    (a7 : PySem.W.nsIn K mainGlobals "_law_pop" = some (some (.ref f__law_pop)))
    (l8 : K.lookup f__law_pop = some ⟨oc8, od8, .func (PySem.W.fnOf "_law_pop" "_law_pop" (defArgs s_law_pop) (defBody s_law_pop) (defScope s_law_pop) .none kV8 dc8 pm8 an8 cd8 ct8), sl8⟩) (c8 : PySem.W.codeIn K cd8 "_law_pop" = true) (k8 : PySem.W.keepIn K (.ref f__law_pop) = true)
    (a9 : PySem.W.nsIn K mainGlobals "_law_rare" = some (some (.ref f__law_rare)))
    (l10 : K.lookup f__law_rare = some ⟨oc10, od10, .func (PySem.W.fnOf "_law_rare" "_law_rare" (defArgs s_law_rare) (defBody s_law_rare) (defScope s_law_rare) .none kV10 dc10 pm10 an10 cd10 ct10), sl10⟩) (c10 : PySem.W.codeIn K cd10 "_law_rare" = true) (k10 : PySem.W.keepIn K (.ref f__law_rare) = true)
    (a11 : PySem.W.nsIn K mainGlobals "_law_is_int" = some (some (.ref f__law_is_int)))
    (l12 : K.lookup f__law_is_int = some ⟨oc12, od12, .func (PySem.W.fnOf "_law_is_int" "_law_is_int" (defArgs s_law_is_int) (defBody s_law_is_int) (defScope s_law_is_int) .none kV12 dc12 pm12 an12 cd12 ct12), sl12⟩) (c12 : PySem.W.codeIn K cd12 "_law_is_int" = true) (k12 : PySem.W.keepIn K (.ref f__law_is_int) = true)
    (a13 : PySem.W.nsIn K mainGlobals "from_bits" = some (some (.ref f_from_bits)))
    (l14 : K.lookup f_from_bits = some ⟨oc14, od14, .func (PySem.W.fnOf "from_bits" "from_bits" (defArgs s_from_bits) (defBody s_from_bits) (defScope s_from_bits) .none kV14 dc14 pm14 an14 cd14 ct14), sl14⟩) (c14 : PySem.W.codeIn K cd14 "from_bits" = true) (k14 : PySem.W.keepIn K (.ref f_from_bits) = true)
    (a15 : PySem.W.nsIn K mainGlobals "data_numbers" = some (some (.ref f_data_numbers)))
    (l16 : K.lookup f_data_numbers = some ⟨oc16, od16, .func (PySem.W.fnOf "data_numbers" "data_numbers" (defArgs s_data_numbers) (defBody s_data_numbers) (defScope s_data_numbers) .none kV16 dc16 pm16 an16 cd16 ct16), sl16⟩) (c16 : PySem.W.codeIn K cd16 "data_numbers" = true) (k16 : PySem.W.keepIn K (.ref f_data_numbers) = true)
    (a17 : PySem.W.nsIn K mainGlobals "check_width" = some (some (.ref f_check_width)))
    (l18 : K.lookup f_check_width = some ⟨oc18, od18, .func (PySem.W.fnOf "check_width" "check_width" (defArgs s_check_width) (defBody s_check_width) (defScope s_check_width) .none kV18 dc18 pm18 an18 cd18 ct18), sl18⟩) (c18 : PySem.W.codeIn K cd18 "check_width" = true) (k18 : PySem.W.keepIn K (.ref f_check_width) = true)
    (a19 : PySem.W.nsIn K mainGlobals "frame_size" = some (some (.ref f_frame_size)))
    (l20 : K.lookup f_frame_size = some ⟨oc20, od20, .func (PySem.W.fnOf "frame_size" "frame_size" (defArgs s_frame_size) (defBody s_frame_size) (defScope s_frame_size) .none kV20 dc20 pm20 an20 cd20 ct20), sl20⟩) (c20 : PySem.W.codeIn K cd20 "frame_size" = true) (k20 : PySem.W.keepIn K (.ref f_frame_size) = true)
    (a21 : PySem.W.nsIn K mainGlobals "check_word" = some (some (.ref f_check_word)))
    (l22 : K.lookup f_check_word = some ⟨oc22, od22, .func (PySem.W.fnOf "check_word" "check_word" (defArgs s_check_word) (defBody s_check_word) (defScope s_check_word) .none kV22 dc22 pm22 an22 cd22 ct22), sl22⟩) (c22 : PySem.W.codeIn K cd22 "check_word" = true) (k22 : PySem.W.keepIn K (.ref f_check_word) = true)
    (a23 : PySem.W.nsIn K mainGlobals "wrong_place" = some (some (.ref f_wrong_place)))
    (l24 : K.lookup f_wrong_place = some ⟨oc24, od24, .func (PySem.W.fnOf "wrong_place" "wrong_place" (defArgs s_wrong_place) (defBody s_wrong_place) (defScope s_wrong_place) .none kV24 dc24 pm24 an24 cd24 ct24), sl24⟩) (c24 : PySem.W.codeIn K cd24 "wrong_place" = true) (k24 : PySem.W.keepIn K (.ref f_wrong_place) = true)
    (a25 : PySem.W.nsIn K mainGlobals "read_frame" = some (some (.ref f_read_frame)))
    (l26 : K.lookup f_read_frame = some ⟨oc26, od26, .func (PySem.W.fnOf "read_frame" "read_frame" (defArgs s_read_frame) (defBody s_read_frame) (defScope s_read_frame) .none kV26 dc26 pm26 an26 cd26 ct26), sl26⟩) (c26 : PySem.W.codeIn K cd26 "read_frame" = true) (k26 : PySem.W.keepIn K (.ref f_read_frame) = true)
    (a27 : PySem.W.nsIn K mainGlobals "_law_numbers" = some (some (.ref f__law_numbers)))
    (l28 : K.lookup f__law_numbers = some ⟨oc28, od28, .func (PySem.W.fnOf "_law_numbers" "_law_numbers" (defArgs s_law_numbers) (defBody s_law_numbers) (defScope s_law_numbers) .none kV28 dc28 pm28 an28 cd28 ct28), sl28⟩) (c28 : PySem.W.codeIn K cd28 "_law_numbers" = true) (k28 : PySem.W.keepIn K (.ref f__law_numbers) = true)
    (a29 : PySem.W.nsIn K mainGlobals "_law_frame" = some (some (.ref f__law_frame)))
    (l30 : K.lookup f__law_frame = some ⟨oc30, od30, .func (PySem.W.fnOf "_law_frame" "_law_frame" (defArgs s_law_frame) (defBody s_law_frame) (defScope s_law_frame) .none kV30 dc30 pm30 an30 cd30 ct30), sl30⟩) (c30 : PySem.W.codeIn K cd30 "_law_frame" = true) (k30 : PySem.W.keepIn K (.ref f__law_frame) = true)
    (a31 : PySem.W.nsIn K mainGlobals "_law_word_of" = some (some (.ref f__law_word_of)))
    (l32 : K.lookup f__law_word_of = some ⟨oc32, od32, .func (PySem.W.fnOf "_law_word_of" "_law_word_of" (defArgs s_law_word_of) (defBody s_law_word_of) (defScope s_law_word_of) .none kV32 dc32 pm32 an32 cd32 ct32), sl32⟩) (c32 : PySem.W.codeIn K cd32 "_law_word_of" = true) (k32 : PySem.W.keepIn K (.ref f__law_word_of) = true)
    (a33 : PySem.W.nsIn K mainGlobals "_law_size_of_data" = some (some (.ref f__law_size_of_data)))
    (l34 : K.lookup f__law_size_of_data = some ⟨oc34, od34, .func (PySem.W.fnOf "_law_size_of_data" "_law_size_of_data" (defArgs s_law_size_of_data) (defBody s_law_size_of_data) (defScope s_law_size_of_data) .none kV34 dc34 pm34 an34 cd34 ct34), sl34⟩) (c34 : PySem.W.codeIn K cd34 "_law_size_of_data" = true) (k34 : PySem.W.keepIn K (.ref f__law_size_of_data) = true)
    (a35 : PySem.W.nsIn K mainGlobals "_law_reading" = some (some (.ref f__law_reading)))
    (l36 : K.lookup f__law_reading = some ⟨oc36, od36, .func (PySem.W.fnOf "_law_reading" "_law_reading" (defArgs s_law_reading) (defBody s_law_reading) (defScope s_law_reading) .none kV36 dc36 pm36 an36 cd36 ct36), sl36⟩) (c36 : PySem.W.codeIn K cd36 "_law_reading" = true) (k36 : PySem.W.keepIn K (.ref f__law_reading) = true)
    (a37 : PySem.W.nsIn K mainGlobals "_law_spoilt" = some (some (.ref f__law_spoilt)))
    (l38 : K.lookup f__law_spoilt = some ⟨oc38, od38, .func (PySem.W.fnOf "_law_spoilt" "_law_spoilt" (defArgs s_law_spoilt) (defBody s_law_spoilt) (defScope s_law_spoilt) .none kV38 dc38 pm38 an38 cd38 ct38), sl38⟩) (c38 : PySem.W.codeIn K cd38 "_law_spoilt" = true) (k38 : PySem.W.keepIn K (.ref f__law_spoilt) = true)
    (a39 : PySem.W.nsIn K mainGlobals "_law_singles" = some (some (.ref f__law_singles)))
    (l40 : K.lookup f__law_singles = some ⟨oc40, od40, .func (PySem.W.fnOf "_law_singles" "_law_singles" (defArgs s_law_singles) (defBody s_law_singles) (defScope s_law_singles) .none kV40 dc40 pm40 an40 cd40 ct40), sl40⟩) (c40 : PySem.W.codeIn K cd40 "_law_singles" = true) (k40 : PySem.W.keepIn K (.ref f__law_singles) = true)
    (a41 : PySem.W.nsIn K mainGlobals "_law_several" = some (some (.ref f__law_several)))
    (l42 : K.lookup f__law_several = some ⟨oc42, od42, .func (PySem.W.fnOf "_law_several" "_law_several" (defArgs s_law_several) (defBody s_law_several) (defScope s_law_several) .none kV42 dc42 pm42 an42 cd42 ct42), sl42⟩) (c42 : PySem.W.codeIn K cd42 "_law_several" = true) (k42 : PySem.W.keepIn K (.ref f__law_several) = true)
    (a43 : PySem.W.nsIn K mainGlobals "_law_is_told" = some (some (.ref f__law_is_told)))
    (l44 : K.lookup f__law_is_told = some ⟨oc44, od44, .func (PySem.W.fnOf "_law_is_told" "_law_is_told" (defArgs s_law_is_told) (defBody s_law_is_told) (defScope s_law_is_told) .none kV44 dc44 pm44 an44 cd44 ct44), sl44⟩) (c44 : PySem.W.codeIn K cd44 "_law_is_told" = true) (k44 : PySem.W.keepIn K (.ref f__law_is_told) = true)
    (a45 : PySem.W.nsIn K mainGlobals "_law_frame_read" = some (some (.ref f__law_frame_read)))
    (l46 : K.lookup f__law_frame_read = some ⟨oc46, od46, .func (PySem.W.fnOf "_law_frame_read" "_law_frame_read" (defArgs s_law_frame_read) (defBody s_law_frame_read) (defScope s_law_frame_read) .none kV46 dc46 pm46 an46 cd46 ct46), sl46⟩) (c46 : PySem.W.codeIn K cd46 "_law_frame_read" = true) (k46 : PySem.W.keepIn K (.ref f__law_frame_read) = true)
    (a47 : PySem.W.nsIn K mainGlobals "law" = some (some (.ref f_law)))
    (l48 : K.lookup f_law = some ⟨oc48, od48, .func (PySem.W.fnOf "law" "law" (defArgs s_law) (defBody s_law) (defScope s_law) .none kV48 dc48 pm48 an48 cd48 ct48), sl48⟩) (c48 : PySem.W.codeIn K cd48 "law" = true) (k48 : PySem.W.keepIn K (.ref f_law) = true)
    (z49 : PySem.W.nsIn K mainGlobals "bool" = some none)
    (z50 : PySem.W.nsIn K mainGlobals "abs" = some none)
    (z51 : PySem.W.nsIn K mainGlobals "isinstance" = some none)
    (z52 : PySem.W.nsIn K mainGlobals "str" = some none)
    (z53 : PySem.W.nsIn K mainGlobals "len" = some none)
    (z54 : PySem.W.nsIn K mainGlobals "list" = some none)
    (z55 : PySem.W.nsIn K mainGlobals "enumerate" = some none)
    (z56 : PySem.W.nsIn K mainGlobals "all" = some none)
    (z57 : PySem.W.nsIn K mainGlobals "int" = some none)
    (z58 : PySem.W.nsIn K mainGlobals "range" = some none)
    (z59 : PySem.W.nsIn K mainGlobals "zip" = some none)
    (z60 : PySem.W.nsIn K mainGlobals "tuple" = some none)
    (z61 : PySem.W.nsIn K mainGlobals "sum" = some none) :
    ∃ fd : FuncData, (∀ (s : Shared) (v : Value), BindsTo s fd ⟨[v], []⟩ [("_law_script", v)]) ∧ ∀ base : Heap, K.In base → base.Ns mainGlobals mg → FnOk l.prog w K mg base CX0 7 fa fd ["_law_script"] (spLaw K) := by
  have e := hfa.symm.trans (PySem.W.mg_of X G a47)
  cases e
  have T : Txt mg := ⟨PySem.W.mg_none_of X G z49, PySem.W.mg_none_of X G z50, PySem.W.mg_none_of X G z51, PySem.W.mg_none_of X G z52, PySem.W.mg_none_of X G z53, PySem.W.mg_none_of X G z54, PySem.W.mg_none_of X G z55, PySem.W.mg_none_of X G z56, PySem.W.mg_none_of X G z57, PySem.W.mg_none_of X G z58, PySem.W.mg_none_of X G z59, PySem.W.mg_none_of X G z60, PySem.W.mg_none_of X G z61⟩
  have F_law_draw := fun_mk (st := s_law_draw) l2 c2 k2
  have F_law_begin := fun_mk (st := s_law_begin) l4 c4 k4
  have F_law_pick := fun_mk (st := s_law_pick) l6 c6 k6
  have F_law_pop := fun_mk (st := s_law_pop) l8 c8 k8
  have F_law_rare := fun_mk (st := s_law_rare) l10 c10 k10
  have F_law_is_int := fun_mk (st := s_law_is_int) l12 c12 k12
  have F_from_bits := fun_mk (st := s_from_bits) l14 c14 k14
  have F_data_numbers := fun_mk (st := s_data_numbers) l16 c16 k16
  have F_check_width := fun_mk (st := s_check_width) l18 c18 k18
  have F_frame_size := fun_mk (st := s_frame_size) l20 c20 k20
  have F_check_word := fun_mk (st := s_check_word) l22 c22 k22
  have F_wrong_place := fun_mk (st := s_wrong_place) l24 c24 k24
  have F_read_frame := fun_mk (st := s_read_frame) l26 c26 k26
  have F_law_numbers := fun_mk (st := s_law_numbers) l28 c28 k28
  have F_law_frame := fun_mk (st := s_law_frame) l30 c30 k30
  have F_law_word_of := fun_mk (st := s_law_word_of) l32 c32 k32
  have F_law_size_of_data := fun_mk (st := s_law_size_of_data) l34 c34 k34
  have F_law_reading := fun_mk (st := s_law_reading) l36 c36 k36
  have F_law_spoilt := fun_mk (st := s_law_spoilt) l38 c38 k38
  have F_law_singles := fun_mk (st := s_law_singles) l40 c40 k40
  have F_law_several := fun_mk (st := s_law_several) l42 c42 k42
  have F_law_is_told := fun_mk (st := s_law_is_told) l44 c44 k44
  have F_law_frame_read := fun_mk (st := s_law_frame_read) l46 c46 k46
  have F_law := fun_mk (st := s_law) l48 c48 k48
  refine ⟨PySem.W.fnOf "law" "law" (defArgs s_law) (defBody s_law) (defScope s_law) .none kV48 dc48 pm48 an48 cd48 ct48, fun s v => .of_eq rfl, fun base _ _ => ?_⟩
  have D_law_draw : Dn l.prog w K mg base "_law_draw" ["_law_d", "_law_many"] 1 spDraw := ⟨f__law_draw, _, ok_draw F_law_draw T, PySem.W.mg_of X G a1, k2, (F_law_draw.binds (ps := ["_law_d", "_law_many"]) fun _ _ _ _ _ _ us hl => match us, hl with | [_, _], _ => rfl)⟩
  have D_law_begin : Dn l.prog w K mg base "_law_begin" ["_law_script"] 1 (spBegin K) := ⟨f__law_begin, _, ok_begin F_law_begin T, PySem.W.mg_of X G a3, k4, (F_law_begin.binds (ps := ["_law_script"]) fun _ _ _ _ _ _ us hl => match us, hl with | [_], _ => rfl)⟩
  have D_law_pick : Dn l.prog w K mg base "_law_pick" ["_law_d", "_law_row"] 2 (spPick K) := ⟨f__law_pick, _, ok_pick F_law_pick T D_law_draw, PySem.W.mg_of X G a5, k6, (F_law_pick.binds (ps := ["_law_d", "_law_row"]) fun _ _ _ _ _ _ us hl => match us, hl with | [_, _], _ => rfl)⟩
  have D_law_pop : Dn l.prog w K mg base "_law_pop" ["_law_d", "_law_row"] 2 spPop := ⟨f__law_pop, _, ok_pop F_law_pop T D_law_draw, PySem.W.mg_of X G a7, k8, (F_law_pop.binds (ps := ["_law_d", "_law_row"]) fun _ _ _ _ _ _ us hl => match us, hl with | [_, _], _ => rfl)⟩
  have D_law_rare : Dn l.prog w K mg base "_law_rare" ["_law_d", "_law_many"] 2 spRare := ⟨f__law_rare, _, ok_rare F_law_rare T D_law_draw, PySem.W.mg_of X G a9, k10, (F_law_rare.binds (ps := ["_law_d", "_law_many"]) fun _ _ _ _ _ _ us hl => match us, hl with | [_, _], _ => rfl)⟩
  have D_law_is_int : Dn l.prog w K mg base "_law_is_int" ["_law_thing"] 1 spIsInt := ⟨f__law_is_int, _, ok_isInt F_law_is_int T, PySem.W.mg_of X G a11, k12, (F_law_is_int.binds (ps := ["_law_thing"]) fun _ _ _ _ _ _ us hl => match us, hl with | [_], _ => rfl)⟩
  have D_from_bits : Dn l.prog w K mg base "from_bits" ["bits"] 1 (spFrom K) := ⟨f_from_bits, _, ok_from F_from_bits T, PySem.W.mg_of X G a13, k14, (F_from_bits.binds (ps := ["bits"]) fun _ _ _ _ _ _ us hl => match us, hl with | [_], _ => rfl)⟩
  have D_data_numbers : Dn l.prog w K mg base "data_numbers" ["many"] 1 spNums := ⟨f_data_numbers, _, ok_nums F_data_numbers T, PySem.W.mg_of X G a15, k16, (F_data_numbers.binds (ps := ["many"]) fun _ _ _ _ _ _ us hl => match us, hl with | [_], _ => rfl)⟩
  have D_check_width : Dn l.prog w K mg base "check_width" ["many"] 2 spWidth := ⟨f_check_width, _, ok_cwidth F_check_width T D_data_numbers, PySem.W.mg_of X G a17, k18, (F_check_width.binds (ps := ["many"]) fun _ _ _ _ _ _ us hl => match us, hl with | [_], _ => rfl)⟩
  have D_frame_size : Dn l.prog w K mg base "frame_size" ["many"] 3 spFSize := ⟨f_frame_size, _, ok_fsize F_frame_size T D_check_width, PySem.W.mg_of X G a19, k20, (F_frame_size.binds (ps := ["many"]) fun _ _ _ _ _ _ us hl => match us, hl with | [_], _ => rfl)⟩
  have D_check_word : Dn l.prog w K mg base "check_word" ["data"] 2 (spWord K) := ⟨f_check_word, _, ok_cword F_check_word T D_data_numbers, PySem.W.mg_of X G a21, k22, (F_check_word.binds (ps := ["data"]) fun _ _ _ _ _ _ us hl => match us, hl with | [_], _ => rfl)⟩
  have D_wrong_place : Dn l.prog w K mg base "wrong_place" ["many", "fault"] 4 spPlace := ⟨f_wrong_place, _, ok_place F_wrong_place T D_frame_size D_data_numbers, PySem.W.mg_of X G a23, k24, (F_wrong_place.binds (ps := ["many", "fault"]) fun _ _ _ _ _ _ us hl => match us, hl with | [_, _], _ => rfl)⟩
  have D_read_frame : Dn l.prog w K mg base "read_frame" ["many", "frame"] 5 (spRead K) := ⟨f_read_frame, _, ok_read F_read_frame T D_check_word D_from_bits D_wrong_place, PySem.W.mg_of X G a25, k26, (F_read_frame.binds (ps := ["many", "frame"]) fun _ _ _ _ _ _ us hl => match us, hl with | [_, _], _ => rfl)⟩
  have D_law_numbers : Dn l.prog w K mg base "_law_numbers" ["_law_many"] 1 spNums := ⟨f__law_numbers, _, ok_lnums F_law_numbers T, PySem.W.mg_of X G a27, k28, (F_law_numbers.binds (ps := ["_law_many"]) fun _ _ _ _ _ _ us hl => match us, hl with | [_], _ => rfl)⟩
  have D_law_frame : Dn l.prog w K mg base "_law_frame" ["_law_data"] 2 (spFrame K) := ⟨f__law_frame, _, ok_lframe F_law_frame T D_law_numbers, PySem.W.mg_of X G a29, k30, (F_law_frame.binds (ps := ["_law_data"]) fun _ _ _ _ _ _ us hl => match us, hl with | [_], _ => rfl)⟩
  have D_law_word_of : Dn l.prog w K mg base "_law_word_of" ["_law_bits"] 1 (spWordOf K) := ⟨f__law_word_of, _, ok_wordOf F_law_word_of T, PySem.W.mg_of X G a31, k32, (F_law_word_of.binds (ps := ["_law_bits"]) fun _ _ _ _ _ _ us hl => match us, hl with | [_], _ => rfl)⟩
  have D_law_size_of_data : Dn l.prog w K mg base "_law_size_of_data" ["_law_d"] 3 spSize := ⟨f__law_size_of_data, _, ok_size F_law_size_of_data T D_law_draw D_law_pick D_law_rare, PySem.W.mg_of X G a33, k34, (F_law_size_of_data.binds (ps := ["_law_d"]) fun _ _ _ _ _ _ us hl => match us, hl with | [_], _ => rfl)⟩
  have D_law_reading : Dn l.prog w K mg base "_law_reading" ["_law_numbers_here", "_law_frame_here"] 2 (spReading K) := ⟨f__law_reading, _, ok_reading F_law_reading T D_law_word_of, PySem.W.mg_of X G a35, k36, (F_law_reading.binds (ps := ["_law_numbers_here", "_law_frame_here"]) fun _ _ _ _ _ _ us hl => match us, hl with | [_, _], _ => rfl)⟩
  have D_law_spoilt : Dn l.prog w K mg base "_law_spoilt" ["_law_frame_here", "_law_places"] 1 (spSpoilt K) := ⟨f__law_spoilt, _, ok_spoilt F_law_spoilt T, PySem.W.mg_of X G a37, k38, (F_law_spoilt.binds (ps := ["_law_frame_here", "_law_places"]) fun _ _ _ _ _ _ us hl => match us, hl with | [_, _], _ => rfl)⟩
  have D_law_singles : Dn l.prog w K mg base "_law_singles" ["_law_d", "_law_many", "_law_size"] 2 (spLists One) := ⟨f__law_singles, _, ok_singles F_law_singles T D_law_draw, PySem.W.mg_of X G a39, k40, (F_law_singles.binds (ps := ["_law_d", "_law_many", "_law_size"]) fun _ _ _ _ _ _ us hl => match us, hl with | [_, _, _], _ => rfl)⟩
  have D_law_several : Dn l.prog w K mg base "_law_several" ["_law_d", "_law_many", "_law_size"] 3 (spLists More) := ⟨f__law_several, _, ok_several F_law_several T D_law_draw D_law_pop, PySem.W.mg_of X G a41, k42, (F_law_several.binds (ps := ["_law_d", "_law_many", "_law_size"]) fun _ _ _ _ _ _ us hl => match us, hl with | [_, _, _], _ => rfl)⟩
  have D_law_is_told : Dn l.prog w K mg base "_law_is_told" ["_law_told", "_law_due"] 2 spTold := ⟨f__law_is_told, _, ok_told F_law_is_told T D_law_is_int, PySem.W.mg_of X G a43, k44, (F_law_is_told.binds (ps := ["_law_told", "_law_due"]) fun _ _ _ _ _ _ us hl => match us, hl with | [_, _], _ => rfl)⟩
  have D_law_frame_read : Dn l.prog w K mg base "_law_frame_read" ["_law_d", "_law_many"] 6 spFR := ⟨f__law_frame_read, _, ok_fr F_law_frame_read T D_law_numbers D_law_frame D_law_draw D_read_frame D_law_is_told D_law_singles D_law_several D_law_spoilt D_law_reading, PySem.W.mg_of X G a45, k46, (F_law_frame_read.binds (ps := ["_law_d", "_law_many"]) fun _ _ _ _ _ _ us hl => match us, hl with | [_, _], _ => rfl)⟩
  exact ok_law F_law T D_law_begin D_law_size_of_data D_law_frame_read D_law_draw
end Bf
open PySem PySem.W PyProof.Rows
set_option maxRecDepth 100000 in
set_option maxHeartbeats 0 in
theorem PySem.Challenge.cw_beatfabric_k77_wrong_bits_holds : PySem.Challenge.rw_beatfabric_k77_wrong_bits.Holds := by
  w_on; o_law; k_head; (case hw => w_witness2)
  k_fill
  refine L2.walk_of (l := PySem.Challenge.rw_beatfabric_k77_wrong_bits) (n := 63) (k := 7) (x := "_law_script") (CX := fun _ => L2.CX0) (sp := fun w => Bf.spLaw _) rfl (by decide) rfl ⟨rfl, by decide, by decide⟩ (fun w h Y => PySem.W.kIn_of Y) ?F (fun _ _ a ns hl _ hS => ⟨a, ns, rfl, hS, hl, fun _ => rfl⟩) (fun _ _ _ _ _ h => h)
  case F =>
    intro w mg fa h KX G hmg
    refine' Bf.all_mk KX G hmg ?a1 ?l2 ?c2 ?k2 ?a3 ?l4 ?c4 ?k4 ?a5 ?l6 ?c6 ?k6 ?a7 ?l8 ?c8 ?k8 ?a9 ?l10 ?c10 ?k10 ?a11 ?l12 ?c12 ?k12 ?a13 ?l14 ?c14 ?k14 ?a15 ?l16 ?c16 ?k16 ?a17 ?l18 ?c18 ?k18 ?a19 ?l20 ?c20 ?k20 ?a21 ?l22 ?c22 ?k22 ?a23 ?l24 ?c24 ?k24 ?a25 ?l26 ?c26 ?k26 ?a27 ?l28 ?c28 ?k28 ?a29 ?l30 ?c30 ?k30 ?a31 ?l32 ?c32 ?k32 ?a33 ?l34 ?c34 ?k34 ?a35 ?l36 ?c36 ?k36 ?a37 ?l38 ?c38 ?k38 ?a39 ?l40 ?c40 ?k40 ?a41 ?l42 ?c42 ?k42 ?a43 ?l44 ?c44 ?k44 ?a45 ?l46 ?c46 ?k46 ?a47 ?l48 ?c48 ?k48 ?z49 ?z50 ?z51 ?z52 ?z53 ?z54 ?z55 ?z56 ?z57 ?z58 ?z59 ?z60 ?z61
    (case a1 => k_is)
    (case l2 => k_is)
    (case c2 => k_is)
    (case k2 => k_is)
    (case a3 => k_is)
    (case l4 => k_is)
    (case c4 => k_is)
    (case k4 => k_is)
    (case a5 => k_is)
    (case l6 => k_is)
    (case c6 => k_is)
    (case k6 => k_is)
    (case a7 => k_is)
    (case l8 => k_is)
    (case c8 => k_is)
    (case k8 => k_is)
    (case a9 => k_is)
    (case l10 => k_is)
    (case c10 => k_is)
    (case k10 => k_is)
    (case a11 => k_is)
    (case l12 => k_is)
    (case c12 => k_is)
    (case k12 => k_is)
    (case a13 => k_is)
    (case l14 => k_is)
    (case c14 => k_is)
    (case k14 => k_is)
    (case a15 => k_is)
    (case l16 => k_is)
    (case c16 => k_is)
    (case k16 => k_is)
    (case a17 => k_is)
    (case l18 => k_is)
    (case c18 => k_is)
    (case k18 => k_is)
    (case a19 => k_is)
    (case l20 => k_is)
    (case c20 => k_is)
    (case k20 => k_is)
    (case a21 => k_is)
    (case l22 => k_is)
    (case c22 => k_is)
    (case k22 => k_is)
    (case a23 => k_is)
    (case l24 => k_is)
    (case c24 => k_is)
    (case k24 => k_is)
    (case a25 => k_is)
    (case l26 => k_is)
    (case c26 => k_is)
    (case k26 => k_is)
    (case a27 => k_is)
    (case l28 => k_is)
    (case c28 => k_is)
    (case k28 => k_is)
    (case a29 => k_is)
    (case l30 => k_is)
    (case c30 => k_is)
    (case k30 => k_is)
    (case a31 => k_is)
    (case l32 => k_is)
    (case c32 => k_is)
    (case k32 => k_is)
    (case a33 => k_is)
    (case l34 => k_is)
    (case c34 => k_is)
    (case k34 => k_is)
    (case a35 => k_is)
    (case l36 => k_is)
    (case c36 => k_is)
    (case k36 => k_is)
    (case a37 => k_is)
    (case l38 => k_is)
    (case c38 => k_is)
    (case k38 => k_is)
    (case a39 => k_is)
    (case l40 => k_is)
    (case c40 => k_is)
    (case k40 => k_is)
    (case a41 => k_is)
    (case l42 => k_is)
    (case c42 => k_is)
    (case k42 => k_is)
    (case a43 => k_is)
    (case l44 => k_is)
    (case c44 => k_is)
    (case k44 => k_is)
    (case a45 => k_is)
    (case l46 => k_is)
    (case c46 => k_is)
    (case k46 => k_is)
    (case a47 => k_is)
    (case l48 => k_is)
    (case c48 => k_is)
    (case k48 => k_is)
    (case z49 => k_is)
    (case z50 => k_is)
    (case z51 => k_is)
    (case z52 => k_is)
    (case z53 => k_is)
    (case z54 => k_is)
    (case z55 => k_is)
    (case z56 => k_is)
    (case z57 => k_is)
    (case z58 => k_is)
    (case z59 => k_is)
    (case z60 => k_is)
    (case z61 => k_is)
