import PyProof.Rows.All
import Wide.All
import OpenK.AllK
import Wide.FinOn
import HandS.Base
import HandS.Call
import HandS.List
import HandS.Comp
import HandS.Ends
import HandS.Words
import HandS.Wide
import HandS.WideBits
import HandS.More
import HandS.IsInst
import HandS.CallLocal
import HandS.Text
import HandS.Iter
import HandS.Dict
import HandS.Defaults
import HandS.DeepEq
import HandS.Codes
import HandS.Zip
import HandS.Walk
import HandS.TupAny
import KE.GoesEnum
import KE.GoesMore
import PySem.Challenge.RW_beatfabric_k02_ports_split
set_option Elab.async false
set_option linter.all false
set_option maxRecDepth 100000
set_option maxHeartbeats 4000000
namespace Bf
open PySem PySem.Spec PyProof.Rows L2

/-! ### rules that the layer lacks -/
section
variable {X : Cx}
def rGetL : V → V → Hp → VK → Prop := fun o i H Q => ∃ p xs k v, o = .ref p ∧ i = .int k ∧ H p = some (.lst xs) ∧ atI xs k = some v ∧ Q v H
theorem get_list : PGet X rGetL := by
  intro pins s σ H o i ov iv Q I ro ri h
  obtain ⟨p, xs, k, z, rfl, rfl, hp, he, q⟩ := h
  cases ro
  obtain ⟨t, rfl⟩ := ri
  obtain ⟨its, r, pl, hz⟩ := I.list (SqL.of hp)
  obtain ⟨j, h1, h2, h3, h4, h5⟩ := atI_get he
  obtain ⟨w, ew, rw'⟩ := r.get h2
  have hl := r.length
  have hn := line63
  have fin : EP X pins σ Q w s := ⟨z, H, I, rw', q⟩
  by_cases h0 : 0 ≤ k
  · have hj : k.toNat = j := by
      rw [seqIndex_of h0 h5] at h1
      exact Option.some.inj h1
    refine PySem.wpAny_getItem_list pl.isList h0 (by omega) (by rw [hj]; simpa using ew) fin
  · have hj : (k + (its.toArray.size : Int)).toNat = j := by
      rw [seqIndex_neg (by omega) h4] at h1
      rw [List.size_toArray, ← hl]
      exact Option.some.inj h1
    exact wpAny_getItem_list_neg pl.isList (by omega) (by rw [List.size_toArray] <;> omega) (by omega) (by rw [hj]; simpa using ew) fin

/-- max, min of two numbers that are not negative -/
theorem cr_maxN (hc : X.calm = true) : CallR X (.builtin "max") (fun xs H Q => ∃ i j : Nat, xs = [V.int i, V.int j] ∧ Q (V.int ((max i j : Nat) : Int)) H) := by
  intro pins s σ H vs us Q I r h
  obtain ⟨i, j, rfl, q⟩ := h
  refine call_max2 hc pins s σ H _ us Q I r ⟨i, j, rfl, ?_⟩
  have e : (if (j : Int) > (i : Int) then (j : Int) else (i : Int)) = ((max i j : Nat) : Int) := by
    by_cases h : (j : Int) > i
    · rw [if_pos h, Nat.max_eq_right (by omega)]
    · rw [if_neg h, Nat.max_eq_left (by omega)]
  rw [e]
  exact q
theorem cr_minN (hc : X.calm = true) : CallR X (.builtin "min") (fun xs H Q => ∃ i j : Nat, xs = [V.int i, V.int j] ∧ Q (V.int ((min i j : Nat) : Int)) H) := by
  intro pins s σ H vs us Q I r h
  obtain ⟨i, j, rfl, q⟩ := h
  refine call_min2 hc pins s σ H _ us Q I r ⟨i, j, rfl, ?_⟩
  have e : (if (j : Int) < (i : Int) then (j : Int) else (i : Int)) = ((min i j : Nat) : Int) := by
    by_cases h : (j : Int) < i
    · rw [if_pos h, Nat.min_eq_right (by omega)]
    · rw [if_neg h, Nat.min_eq_left (by omega)]
  rw [e]
  exact q
/-- sum of a tuple of ints -/
def rSumT (K : PySem.W.Frag) : List V → Hp → VK → Prop := fun vs H Q => ∃ (a : Addr) (ns : List Int), vs = [V.ref a] ∧ SqT K H a (ns.map V.int) ∧ Q (.int ns.sum) H
theorem cr_sumT (hc : X.calm = true) : CallR X (.builtin "sum") (rSumT X.K) := by
  intro pins s σ H vs us Q I r h
  obtain ⟨a, ns, rfl, hs, q⟩ := h
  obtain ⟨its, rv, hl, _⟩ := I.tuple hs
  rw [Vals.ref1 r]
  obtain ⟨xs, e⟩ := rv.ints.allInts.items
  have hn : numsOf (intItems xs).toList = ns := by rw [← e]; exact rv.ints.numsOf
  rw [nums_intItems] at hn
  have hl' : s.heap.IsTuple a (intItems xs) := by
    rw [← e]
    exact hl
  refine PySem.W.ktm_sumG (I.ok.hd hc) hl' fun h' tk t' hk => ?_
  rw [preSum_eq, List.take_of_length_le (by simp), hn]
  exact ⟨.int _, H, I.kept hk, ⟨_, rfl⟩, q⟩
end

/-- a def that stands, with its promise -/
def vI (n : Nat) : V := .int (n : Int)
structure Dn (P : Program) (w : World) (K : PySem.W.Frag) (mg : Str → Option Value) (base : Heap) (x : Str) (ps : List Str) (k : Nat) (sp : Sp) : Prop where
  ex : ∃ (f : Addr) (fd : FuncData), FnOk P w K mg base CX0 k f fd ps sp ∧ mg x = some (.ref f) ∧ PySem.W.keepIn K (.ref f) = true ∧ Binds K fd ps []
def tCallD (sp : Sp) (t : TA) : TE := fun σ H Q => t σ H fun vs H1 => sp vs H1 Q E0
section
variable {X : Cx} {x : Str} {ps : List Str} {k : Nat} {sp : Sp} {e : Expr} {es : List Expr} {t : TA} {p pos : Pos}
theorem pe_dn (D : Dn X.prog X.w X.K X.mg X.base x ps k sp) (hr : Room k X.A) (hg : Gl X x) (ha : PA X (e :: es) t) (hdb : (x == ("__debug__" : Str)) = false := by decide)
    (he : starEach (e :: es) X.env = (false, eval e X.env) :: starEach es X.env := by rfl) (hpl : (backTo pos (starEach es X.env)).any (·.1) = false := by rfl) :
    PE X (.Call (.Name x p) (e :: es) [] pos) (tCallD sp t) := by
  obtain ⟨f, fd, F, hm, hk, hb⟩ := D.ex
  refine ⟨fun pins s σ H Q I h => (pe_call (E := E0) F hr hg hm hk hb .nil pass0 ha hdb he hpl).run pins s σ H Q I ?_⟩
  have e0 : (fun (vs : List V) (H1 : Hp) => sp (vs ++ []) H1 Q E0) = fun vs H1 => sp vs H1 Q E0 := by
    funext vs H1
    rw [List.append_nil]
  show t σ H (fun vs H1 => sp (vs ++ []) H1 Q E0)
  rw [e0]
  exact h
theorem pe_dn0 (D : Dn X.prog X.w X.K X.mg X.base x ps k sp) (hr : Room k X.A) (hg : Gl X x) (hdb : (x == ("__debug__" : Str)) = false := by decide) :
    PE X (.Call (.Name x p) [] [] pos) (tCallD sp tNil) := by
  obtain ⟨f, fd, F, hm, hk, hb⟩ := D.ex
  exact ⟨fun pins s σ H Q I h => (pe_call0 (E := E0) F hr hg hm hk hb .nil pass0 hdb).run pins s σ H Q I h⟩
end
/-- the same where the last arguments are defaults -/
structure DnD (P : Program) (w : World) (K : PySem.W.Frag) (mg : Str → Option Value) (base : Heap) (x : Str) (ps : List Str) (dvs : List V) (k : Nat) (sp : Sp) : Prop where
  ex : ∃ (f : Addr) (fd : FuncData) (ds : List Value), FnOk P w K mg base CX0 k f fd ps sp ∧ mg x = some (.ref f) ∧ PySem.W.keepIn K (.ref f) = true ∧ Binds K fd ps ds ∧ Vals dvs ds
theorem pe_dnD {X : Cx} {x : Str} {ps : List Str} {dvs : List V} {k : Nat} {sp : Sp} {e : Expr} {es : List Expr} {t : TA} {p pos : Pos} (D : DnD X.prog X.w X.K X.mg X.base x ps dvs k sp) (hr : Room k X.A) (hg : Gl X x) (ha : PA X (e :: es) t) (hdb : (x == ("__debug__" : Str)) = false := by decide)
    (he : starEach (e :: es) X.env = (false, eval e X.env) :: starEach es X.env := by rfl) (hpl : (backTo pos (starEach es X.env)).any (·.1) = false := by rfl) :
    PE X (.Call (.Name x p) (e :: es) [] pos) (tCall sp dvs E0 t) := by
  obtain ⟨f, fd, ds, F, hm, hk, hb, hv⟩ := D.ex
  exact pe_call (E := E0) F hr hg hm hk hb hv pass0 ha hdb he hpl
/-- a def of the text, its promise: the level a letter -/
theorem Dn.mk' {P : Program} {w : World} {K : PySem.W.Frag} {mg : Str → Option Value} {base : Heap} {x : Str} {st : Stmt} {ps : List Str} {k : Nat} {sp : Sp} {f : Addr} {fd : FuncData}
    (F : Fun K x x st f fd) (hm : mg x = some (.ref f)) (hb : Binds K fd ps []) (ok : FnOk P w K mg base CX0 k f fd ps sp) : Dn P w K mg base x ps k sp :=
  ⟨f, fd, ok, hm, F.kp, hb⟩
end Bf
namespace Bf
open PySem PySem.Spec PyProof.Rows L2
section
variable {X : Cx} {d : Addr} {es : Array DictEntry} {n : Nat}
/-- d[k], d a dict of the module with text keys -/
theorem ix_kd (D : KDict X.K X.w d es n) : IxR X (fun x y H Q => ∃ (z : Str) (u0 : Value) (v0 : V), x = .ref d ∧ y = .str z ∧ PySem.W.nsIn X.K d z = some (some u0) ∧ RelV v0 u0 ∧ Q v0 H) := by
  intro value slice pins s σ H x y v u Q I rx ry h hs
  have h0 := h
  obtain ⟨z, u0, v0, rfl, rfl, e, r, q⟩ := h
  cases rx
  exact tail_any (kd_type D I) PySem.slot_dict_getitem.lookup (op_item_kd D pins s σ H (V.ref d) (V.str z) _ u Q I (show RelV (V.ref d) (Value.ref d) from rfl) ry h0) hs
/-- of several defs that the slot may hold: the def and its promise are told in the reading -/
def tCallH (P : Program) (w : World) (K : PySem.W.Frag) (mg : Str → Option Value) (base : Heap) (k i : Nat) (t : TA) : TE := fun σ H Q => ∃ f sp fd ps, σ[i]? = some (some (.ref f)) ∧ FnOk P w K mg base CX0 k f fd ps sp ∧ PySem.W.keepIn K (.ref f) = true ∧ Binds K fd ps [] ∧ t σ H fun vs H1 => sp vs H1 Q E0
theorem pe_held {i k : Nat} {x : Str} {p pos : Pos} {e : Expr} {es : List Expr} {t : TA} (hr : Room k X.A) (hN : X.N[i]? = some x) (hv : Vis X.env.scope x) (ha : PA X (e :: es) t)
    (hdb : (x == ("__debug__" : Str)) = false := by decide) (hcd : (x == ("__classdict__" : Str)) = false := by decide)
    (he : starEach (e :: es) X.env = (false, eval e X.env) :: starEach es X.env := by rfl) (hpl : (backTo pos (starEach es X.env)).any (·.1) = false := by rfl) : PE X (.Call (.Name x p) (e :: es) [] pos) (tCallH X.prog X.w X.K X.mg X.base k i t) := by
  refine ⟨fun pins s σ H Q I h => ?_⟩
  obtain ⟨f, sp, fd, ps, hs, F, hk, hb, ht⟩ := h
  refine (pe_callL (i := i) (f := f) (sp := sp) (dvs := []) (E := E0) F hr hN hv hk hb .nil pass0 ha hdb hcd he hpl).run pins s σ H Q I ⟨hs, ?_⟩
  have e0 : (fun (vs : List V) (H1 : Hp) => sp (vs ++ []) H1 Q E0) = fun vs H1 => sp vs H1 Q E0 := by
    funext vs H1
    rw [List.append_nil]
  show t σ H (fun vs H1 => sp (vs ++ []) H1 Q E0)
  rw [e0]
  exact ht
end
end Bf

set_option Elab.async false
set_option linter.all false
set_option maxRecDepth 100000
set_option maxHeartbeats 4000000
namespace Bf
open PySem PySem.Spec PyProof.Rows L2
/-! ### small steps of a reading -/
theorem ifY {c : Bool} {A B : Prop} (e : c = true) (h : A) : if c = true then A else B := by
  rw [if_pos e]
  exact h
theorem ifN {c : Bool} {A B : Prop} (e : c = false) (h : B) : if c = true then A else B := by
  rw [e]
  exact iteF h
theorem rdL {K : PySem.W.Frag} {H : Hp} {a : Addr} {xs : List V} {i : Int} {v : V} {Q : VK} (h : SqL K H a xs) (e : atI xs i = some v) (k : Q v H) : rIxL K (.ref a) (.int i) H Q := ⟨a, xs, _, v, rfl, rfl, h, e, k⟩
theorem rdC {v : V} {σ : L2.St} {H : Hp} {Q : VK} (k : Q v H) : tC v σ H Q := k
theorem seqNew {K : PySem.W.Frag} {H : Hp} {a p : Addr} {o : HO} {xs : List V} (hp : H p = none) (h : SqL K H a xs) : SqL K (upd H p o) a xs := by
  rcases h with (h | ⟨u, h⟩) | h
  · exact .inl (.inl (by rw [upd_ne (ne_of_none h hp)]; exact h))
  · exact .inl (.inr ⟨u, by rw [upd_ne (ne_of_none h hp)]; exact h⟩)
  · exact .inr h
theorem le1000 {n : Nat} (h : n ≤ 1000) : n ≤ sizeLine := Nat.le_of_lt (small1000 h)
end Bf

set_option Elab.async false
set_option linter.all false
set_option maxRecDepth 100000
set_option maxHeartbeats 4000000
namespace Bf
open PySem PySem.Spec PyProof.Rows L2

/-! ### what enumerate and zip walk: a list or a tuple -/
structure Src where
  sq : PySem.W.Frag → Hp → Addr → List V → Prop
  itr : Heap → Addr → Addr → Nat → Prop
  isS : Heap → Addr → Array Value → Prop
  ob : Addr → Obj
  inv : ∀ {X : Cx} {pins : List (Addr × Obj)} {σ : L2.St} {H : Hp} {s : Shared} {a : Addr} {xs : List V}, Inv X pins σ H s → sq X.K H a xs → ∃ its : List Value, Vals xs its ∧ isS s.heap a its.toArray
  inj : ∀ {X : Cx} {pins : List (Addr × Obj)} {σ : L2.St} {H : Hp} {s : Shared} {a : Addr} {xs ys : List V}, Inv X pins σ H s → sq X.K H a xs → sq X.K H a ys → xs = ys
  draws : ∀ {prog : Program} {w : World} {A : Around}, A.handled = none → ∀ (it l : Addr), l ≠ it → ∀ (items : Array Value), Draws prog w A it [it, l] items.size (fun i v => items[i]? = some v) (fun i h => itr h it l i ∧ isS h l items)
  obj : ∀ {h : Heap} {it a : Addr} {i : Nat}, itr h it a i → ∃ o, h.get? it = some o ∧ ∀ v, o.data ≠ .cell v
  at_ : ∀ {h h' : Heap} {it a : Addr} {i : Nat}, itr h it a i → (∀ o, h.get? it = some o → h'.get? it = some o) → itr h' it a i
  beg : ∀ (a : Addr) (items : Array Value), Begins (.ref a) (ob a) (fun h => isS h a items)
  start : ∀ {h : Heap} {it a : Addr}, h.get? it = some (ob a) → itr h it a 0
  lt : ∀ {h : Heap} {a : Addr} {items : Array Value}, isS h a items → a < h.objs.size
  keep : ∀ {K : PySem.W.Frag} {H H' : Hp} {a : Addr} {xs : List V}, Same H H' → sq K H a xs → sq K H' a xs
theorem seqT_same {K : PySem.W.Frag} {H H' : Hp} {a : Addr} {xs : List V} (k : Same H H') (h : SqT K H a xs) : SqT K H' a xs := by
  rcases h with (h | ⟨u, h⟩) | h
  · exact .inl (.inl (k _ _ h))
  · exact .inl (.inr ⟨u, k _ _ h⟩)
  · exact .inr h

def srcL : Src where
  sq := fun K H a xs => SqL K H a xs
  itr := fun h it a i => h.IsListIter it a i
  isS := fun h a items => h.IsList a items
  ob := fun a => { cls := .type "list_iterator", data := .fields #[.ref a, .int 0 0] }
  inv := fun I h => let ⟨its, r, p, _⟩ := I.list h; ⟨its, r, p.isList⟩
  inj := fun I h h' => I.list_inj h h'
  draws := fun hh it l hne items => Draws.list hh it l hne items
  obj := fun ⟨o, e, c, d⟩ => ⟨o, e, fun v z => by rw [d] at z; cases z⟩
  at_ := fun x k => x.at k
  beg := fun a items => begins_list a items
  start := fun e => ⟨_, e, rfl, rfl⟩
  lt := fun ⟨o, e, _⟩ => Heap.lt_size e
  keep := fun k h => k.seq h

def srcT : Src where
  sq := fun K H a xs => SqT K H a xs
  itr := fun h it a i => h.IsTupleIter it a i
  isS := fun h a items => h.IsTuple a items
  ob := fun a => { cls := .type "tuple_iterator", data := .fields #[.ref a, .int 0 0] }
  inv := fun I h => let ⟨its, r, p, _⟩ := I.tuple h; ⟨its, r, p⟩
  inj := fun I h h' => I.tuple_inj h h'
  draws := fun hh it l hne items => Draws.tuple hh it l hne items
  obj := fun ⟨o, e, c, d⟩ => ⟨o, e, fun v z => by rw [d] at z; cases z⟩
  at_ := fun x k => x.at k
  beg := fun a items => begins_tuple a items
  start := fun e => ⟨_, e, rfl, rfl⟩
  lt := fun ⟨o, e, _⟩ => Heap.lt_size e
  keep := fun k h => seqT_same k h

/-! ### enumerate -/
def ItE (S : Src) (K : PySem.W.Frag) (a : Addr) : It :=
  ⟨fun i H => ∃ (xs : List V) (x : V), S.sq K H a xs ∧ xs[i]? = some x, fun i H v H' => ∃ T x, v = .ref T ∧ H T = none ∧ H' = upd H T (.tup [.int (i : Nat), x]) ∧ ∀ xs, S.sq K H a xs → xs[i]? = some x, fun i H => ∃ xs : List V, S.sq K H a xs ∧ xs.length = i⟩

theorem turn_enumG (S : Src) {P : Program} {w : World} {K : PySem.W.Frag} {elts : List Expr} {kk : Nat} {tpos : Pos} (a e it : Addr) :
    Turn P w K (.Tuple elts kk tpos) (ItE S K a) [e, it] e (fun i h => (∃ old, IsEnum h e it ((i : Nat) : Int) old) ∧ S.itr h it a i ∧ e ≠ it ∧ e ≠ a ∧ a ≠ it) where
  mem := by simp
  obj := fun i h st b hb => by
    obtain ⟨⟨old, he⟩, hi, _⟩ := st
    have e' : b = e ∨ b = it := by simpa using hb
    rcases e' with z | z
    · rw [z]; exact ⟨_, he, fun v q => nomatch q⟩
    · rw [z]; exact S.obj hi
  keep := fun i h h' st k => let ⟨⟨old, he⟩, hi, r⟩ := st; ⟨⟨old, k e (by simp) _ he⟩, S.at_ hi fun o q => k it (by simp) o q, r⟩
  item := by
    intro X hP hw hK hc i pins s σ H E I hf st hg
    subst hP hw hK
    obtain ⟨⟨old, he⟩, hit, hne, hea, hai⟩ := st
    obtain ⟨xs, x, hq, hx⟩ := hg
    obtain ⟨its, rv, p⟩ := S.inv I hq
    obtain ⟨u, hu, ru⟩ := rv.get hx
    have hel : e < s.heap.objs.size := Heap.lt_size he
    have hil : it < s.heap.objs.size := by obtain ⟨_, q, _⟩ := S.obj hit; exact Heap.lt_size q
    have hlt : i < its.toArray.size := by
      have q := (List.getElem?_eq_some_iff.mp hu).1
      simpa using q
    refine wpAny_pyNext_enum_itemD (S.draws (show X.A.in1.handled = none from I.ok.hd hc) it a hai its.toArray) he ⟨hit, p⟩ hlt hne (by simp [hne, hea]) fun v h' tk hv ho hst hT hsz hk => ?_
    have ev : u = v := by
      have q : its[i]? = some v := by simpa using hv
      rw [hu] at q; cases q; rfl
    subst ev
    refine ⟨_, rfl, wpAny_letOwnedTupleGo_enum (s := { s with heap := h', toks := tk + 1 }) ho fun h'' he' sb => ?_⟩
    have hT2 : h''.get? s.heap.objs.size = some { cls := .type "tuple", data := .seq #[.int i tk, u] } := (sb.2 _ (Nat.ne_of_gt hel)).trans hT
    have new : ObjOk X.prog X.w (upd H s.heap.objs.size (.tup [.int (i : Nat), x])) h'' s.heap.objs.size (.tup [.int (i : Nat), x]) :=
      ⟨by show 2 ≤ sizeLine; decide, [.int i tk, u], .cons ⟨_, rfl⟩ (.cons ru .nil), ⟨_, hT2, rfl, _, rfl⟩⟩
    have I1 : Inv X pins σ (upd H s.heap.objs.size (.tup [.int (i : Nat), x])) { s with heap := h'', toks := tk + 1 } :=
      I.turnedNew (ch := [e, it]) (fun b ob hb q => (sb.2 b (fun z => hb (by simp [z]))).trans (hk b ob (fun z => hb (by simp [z])) (fun z => hb (by simp [z])) q)) hf (Nat.le_refl _) new
    refine ⟨.ref s.heap.objs.size, _, I1, rfl, ⟨_, x, rfl, I.hok.fresh (Nat.le_refl _), rfl, fun ys hy => by rw [S.inj I hy hq]; exact hx⟩, ⟨⟨u, ?_⟩, S.at_ hst.1 fun o q => (sb.2 it (Ne.symm hne)).trans q, hne, hea, hai⟩, fun b hb => ?_⟩
    · have e1 : ((i + 1 : Nat) : Int) = (i : Int) + 1 := by omega
      rw [e1]; exact he'
    · have hb' : b < s.heap.objs.size := by
        have e' : b = e ∨ b = it := by simpa using hb
        rcases e' with z | z
        · rw [z]; exact hel
        · rw [z]; exact hil
      rw [upd_ne (Nat.ne_of_lt hb')]
      exact (hf b hb).1
  done := by
    intro X hP hw hK hc i pins s σ H E I hf st hg
    subst hP hw hK
    obtain ⟨⟨old, he⟩, hit, hne, hea, hai⟩ := st
    obtain ⟨xs, hq, hx⟩ := hg
    obtain ⟨its, rv, p⟩ := S.inv I hq
    obtain ⟨f0, f1, f2, f3, f4, f5⟩ := hf it (by simp)
    have hl := rv.length
    have hn : its.toArray.size = i := by rw [List.size_toArray]; omega
    subst hn
    exact wpAny_pyNext_enum_endD (S.draws (show X.A.in1.handled = none from I.ok.hd hc) it a hai its.toArray) he ⟨hit, p⟩ fun h' eb => ⟨rfl, I.turned (t' := s.toks) (fun b o hb q => eb b o hb q) f0 f1 f3 f4 f5⟩
  self := fun A i s Q E st h => let ⟨⟨_, he⟩, _⟩ := st; wpAny_pyIter_enum he h

theorem meets_enum_new0 {v : Value} {o : Obj} {H : Heap → Prop} (B : Begins v o H) :
    Meets (Builtin.«enumerate.__new__» ⟨[.type "enumerate", v], []⟩) (fun _ R s => H s.heap ∧
      R (.ok (.ret (.ref (s.heap.push o).objs.size))) { s with heap := (s.heap.push o).push { cls := .type "enumerate", data := .fields #[.none, .bool false, .ref s.heap.objs.size, rawInt 0, .none, .none] } }) :=
  .of_wp fun prog w A R s h => by
    obtain ⟨hp, g, d, tk, os⟩ := s; obtain ⟨h1, h⟩ := h
    have hsub := sub_enumerate
    have q1 : ∀ {A' : Around} {E : Value → Shared → Prop} {Q : Value → Shared → Prop}, Q (.ref hp.objs.size) ⟨hp.push o, g, d, tk, os⟩ → wpAny (model prog w) A' (pyIter v) Q E ⟨hp, g, d, tk, os⟩ :=
      fun q => B.iter prog w _ _ ⟨hp, g, d, tk, os⟩ _ h1 q
    wp_walk using q1
    refine wpAny_stack_any fun st => wpAny_pure ?_
    split
    · rename_i c _ _ _ _ _
      cases (c == Value.type "enumerate")
      · wp_walk using q1
        exact ⟨_, rfl, h⟩
      · wp_walk using q1
        exact ⟨_, rfl, h⟩
    · wp_walk using q1
      exact ⟨_, rfl, h⟩
section
variable {prog : Program} {w : World} {A : Around} {E : Value → Shared → Prop} {s : Shared}
theorem enum_begins0 {v : Value} {o : Obj} {H : Heap → Prop} {Q : Value → Shared → Prop} (B : Begins v o H) (h1 : H s.heap)
    (h : ∀ h', IsEnum h' (s.heap.objs.size + 1) s.heap.objs.size 0 .none → h'.get? s.heap.objs.size = some o → h'.objs.size = s.heap.objs.size + 2 →
      (∀ b o, s.heap.get? b = some o → h'.get? b = some o) → Q (.ref (s.heap.objs.size + 1)) { s with heap := h' }) :
    wpAny (model prog w) A (call (.type "enumerate") [v]) Q E s := by
  refine callType_new F.called_enumerate (by decide) (F.typeCall_enumerate_1 _) (F.newCall_enumerate_1 _) (fun obj => F.args_object_init_2 obj _) F.entry_enumerate_new
    (meets_enum_new0 B) ⟨h1, ?_⟩
  have hz : (s.heap.push o).objs.size = s.heap.objs.size + 1 := Heap.size_push ..
  show _ ∧ _
  rw [hz]
  have he : IsEnum ((s.heap.push o).push { cls := .type "enumerate", data := .fields #[.none, .bool false, .ref s.heap.objs.size, rawInt 0, .none, .none] }) (s.heap.objs.size + 1) s.heap.objs.size 0 .none := by
    have := Heap.get?_push_size (s.heap.push o) (o := { cls := .type "enumerate", data := .fields #[.none, .bool false, .ref s.heap.objs.size, rawInt 0, .none, .none] }) rfl
    rw [hz] at this; exact this
  exact ⟨⟨_, he, rfl⟩, h _ he (Heap.get?_push_of_some _ (Heap.get?_push_size _ B.free)) (by rw [Heap.size_push, hz]) fun b o x => Heap.get?_push_of_some _ (Heap.get?_push_of_some _ x)⟩
end
def iEnG (S : Src) (K : PySem.W.Frag) (ta : TA) : TI := fun σ H R => ta σ H fun vs H1 => ∃ a xs, vs = [.ref a] ∧ S.sq K H1 a xs ∧ R (ItE S K a) H1
theorem enumG_run (S : Src) {X : Cx} {pins : List (Addr × Obj)} {σ : L2.St} {H1 : Hp} {s1 : Shared} {us : List Value} {vs : List V} {elts : List Expr} {kk : Nat} {tpos : Pos} {R : It → Hp → Prop} (I1 : Inv X pins σ H1 s1) (r1 : Vals vs us)
    (q1 : ∃ (a : Addr) (xs : List V), vs = [.ref a] ∧ S.sq X.K H1 a xs ∧ R (ItE S X.K a) H1) :
    wpAny (model X.prog X.w) X.A (call (.type "enumerate") us) (fun v s1 => wpAny (model X.prog X.w) X.A (pyIter v) (PIE X pins σ (.Tuple elts kk tpos) R) X.xe s1) X.xe s1 := by
  obtain ⟨a, xs, ex, hq, q⟩ := q1
  subst ex
  cases r1 with
  | cons r rr =>
    cases rr
    cases r
    obtain ⟨its, rv, p'⟩ := S.inv I1 hq
    have la := S.lt p'
    refine enum_begins0 (S.beg a its.toArray) p' fun h' he hit hsz hk => wpAny_pyIter_enum he ?_
    have I2 : Inv X pins σ H1 { s1 with heap := h' } := I1.kept (t' := s1.toks) hk
    refine ⟨s1.heap.objs.size + 1, [s1.heap.objs.size + 1, s1.heap.objs.size], _, _, H1, rfl, I2, turn_enumG S a (s1.heap.objs.size + 1) s1.heap.objs.size, ⟨⟨.none, he⟩, S.start hit, Nat.succ_ne_self _, Nat.ne_of_gt (Nat.lt_succ_of_lt la), Nat.ne_of_lt la⟩, fun b hb => ?_, q⟩
    have e' : b = s1.heap.objs.size + 1 ∨ b = s1.heap.objs.size := by simpa using hb
    have hle : s1.heap.objs.size ≤ b := by
      rcases e' with z | z
      · rw [z]; exact Nat.le_add_right _ _
      · rw [z]; exact Nat.le_refl _
    exact I1.fpOk hle (I1.hok.fresh hle)

/-! ### zip of two -/
def ItZ (S1 S2 : Src) (K : PySem.W.Frag) (a b : Addr) : It :=
  ⟨fun i H => ∃ (xs ys : List V) (x y : V), S1.sq K H a xs ∧ S2.sq K H b ys ∧ xs[i]? = some x ∧ ys[i]? = some y,
    fun i H v H' => ∃ T x y, v = .ref T ∧ H T = none ∧ H' = upd H T (.tup [x, y]) ∧ (∀ xs, S1.sq K H a xs → xs[i]? = some x) ∧ ∀ ys, S2.sq K H b ys → ys[i]? = some y,
    fun i H => ∃ xs ys : List V, S1.sq K H a xs ∧ S2.sq K H b ys ∧ i ≤ xs.length ∧ i ≤ ys.length ∧ (i = xs.length ∨ i = ys.length)⟩
theorem turn_zipG (S1 S2 : Src) {P : Program} {w : World} {K : PySem.W.Frag} {elts : List Expr} {kk : Nat} {tpos : Pos} {a b z TI TO i1 i2 : Addr} (D : ZipSep2 z TI TO i1 i2 [i1, a] [i2, b]) (ha1 : a ≠ i1) (hb2 : b ≠ i2) :
    Turn P w K (.Tuple elts kk tpos) (ItZ S1 S2 K a b) [z, TI, TO, i1, i2] z (fun i h => IsZip h z TI TO .none ∧ IsTupOf2 h TI (.ref i1) (.ref i2) ∧ (∃ x y, IsTupOf2 h TO x y) ∧ S1.itr h i1 a i ∧ S2.itr h i2 b i) where
  mem := by simp
  obj := fun i h st c hc => by
    obtain ⟨hz, hTI, ⟨x, y, hTO⟩, h1, h2⟩ := st
    have e' : c = z ∨ c = TI ∨ c = TO ∨ c = i1 ∨ c = i2 := by simpa using hc
    rcases e' with q | q | q | q | q
    · rw [q]; exact ⟨_, hz, fun v q => nomatch q⟩
    · rw [q]; exact ⟨_, hTI, fun v q => nomatch q⟩
    · rw [q]; exact ⟨_, hTO, fun v q => nomatch q⟩
    · rw [q]; exact S1.obj h1
    · rw [q]; exact S2.obj h2
  keep := fun i h h' st k => by
    obtain ⟨hz, hTI, ⟨x, y, hTO⟩, h1, h2⟩ := st
    exact ⟨k z (by simp) _ hz, k TI (by simp) _ hTI, ⟨x, y, k TO (by simp) _ hTO⟩, S1.at_ h1 fun o q => k i1 (by simp) o q, S2.at_ h2 fun o q => k i2 (by simp) o q⟩
  item := by
    intro X hP hw hK hc i pins s σ H E I hf st hg
    subst hP hw hK
    obtain ⟨hz, hTI, ⟨x0, y0, hTO⟩, h1, h2⟩ := st
    obtain ⟨xs, ys, x, y, hqx, hqy, hx, hy⟩ := hg
    obtain ⟨its, rv, p⟩ := S1.inv I hqx
    obtain ⟨its2, rv2, p2⟩ := S2.inv I hqy
    obtain ⟨u, hu, ru⟩ := rv.get hx
    obtain ⟨u2, hu2, ru2⟩ := rv2.get hy
    have hzl : z < s.heap.objs.size := Heap.lt_size hz
    have hlt : i < its.toArray.size := by
      have q := (List.getElem?_eq_some_iff.mp hu).1
      simpa using q
    have hlt2 : i < its2.toArray.size := by
      have q := (List.getElem?_eq_some_iff.mp hu2).1
      simpa using q
    have hh : X.A.in1.handled = none := I.ok.hd hc
    refine wpAny_pyNext_zipD2_item D (S1.draws hh i1 a ha1 its.toArray) (S2.draws hh i2 b hb2 its2.toArray) hz hTI hTO ⟨h1, p⟩ ⟨h2, p2⟩ hlt hlt2 fun v v2 h' tk hv hv2 z' TO' st1 st2 hT hsz hk => ?_
    have ev : u = v := by
      have q : its[i]? = some v := by simpa using hv
      rw [hu] at q; cases q; rfl
    have ev2 : u2 = v2 := by
      have q : its2[i]? = some v2 := by simpa using hv2
      rw [hu2] at q; cases q; rfl
    subst ev ev2
    refine ⟨_, rfl, wpAny_letOwnedTupleGo_zip (s := { s with heap := h', toks := tk }) z' fun h'' z'' sb => ?_⟩
    have hT2 : h''.get? s.heap.objs.size = some { cls := .type "tuple", data := .seq #[u, u2] } := (sb.2 _ (Nat.ne_of_gt hzl)).trans hT
    have new : ObjOk X.prog X.w (upd H s.heap.objs.size (.tup [x, y])) h'' s.heap.objs.size (.tup [x, y]) :=
      ⟨by show 2 ≤ sizeLine; decide, [u, u2], .cons ru (.cons ru2 .nil), ⟨_, hT2, rfl, _, rfl⟩⟩
    have I1 : Inv X pins σ (upd H s.heap.objs.size (.tup [x, y])) { s with heap := h'', toks := tk } :=
      I.turnedNew (ch := [z, TI, TO, i1, i2]) (fun c o hb q => (sb.2 c (fun q' => hb (by simp [q']))).trans (hk c o (fun q' => hb (by simp [q'])) (fun q' => hb (by simp [q'])) (fun q' => hb (by simp [q'])) (fun q' => hb (by simp [q'])) q)) hf (Nat.le_refl _) new
    have zi1 : i1 ≠ z := fun q => D.zf1 (by simp [q])
    have zi2 : i2 ≠ z := fun q => D.zf2 (by simp [q])
    refine ⟨.ref s.heap.objs.size, _, I1, rfl, ⟨_, x, y, rfl, I.hok.fresh (Nat.le_refl _), rfl, fun l hl => by rw [S1.inj I hl hqx]; exact hx, fun l hl => by rw [S2.inj I hl hqy]; exact hy⟩, ⟨z'', ?_, ⟨u, u2, ?_⟩, ?_, ?_⟩, fun c hcm => ?_⟩
    · exact (sb.2 _ D.TIz).trans (hk _ _ D.TIz D.TITO D.TIi1 D.TIi2 hTI)
    · exact (sb.2 _ D.TOz).trans TO'
    · exact S1.at_ st1.1 fun o q => (sb.2 _ zi1).trans q
    · exact S2.at_ st2.1 fun o q => (sb.2 _ zi2).trans q
    · have hlt : c < s.heap.objs.size := by
        have e' : c = z ∨ c = TI ∨ c = TO ∨ c = i1 ∨ c = i2 := by simpa using hcm
        rcases e' with q | q | q | q | q
        · rw [q]; exact hzl
        · rw [q]; exact Heap.lt_size hTI
        · rw [q]; exact Heap.lt_size hTO
        · rw [q]; obtain ⟨_, e1, _⟩ := S1.obj h1; exact Heap.lt_size e1
        · rw [q]; obtain ⟨_, e2, _⟩ := S2.obj h2; exact Heap.lt_size e2
      rw [upd_ne (Nat.ne_of_lt hlt)]
      exact (hf c hcm).1
  done := by
    intro X hP hw hK hc i pins s σ H E I hf st hg
    subst hP hw hK
    obtain ⟨hz, hTI, ⟨x0, y0, hTO⟩, h1, h2⟩ := st
    obtain ⟨xs, ys, hqx, hqy, le1, le2, hend⟩ := hg
    obtain ⟨its, rv, p⟩ := S1.inv I hqx
    obtain ⟨its2, rv2, p2⟩ := S2.inv I hqy
    have l1 := rv.length
    have l2 := rv2.length
    have hh : X.A.in1.handled = none := I.ok.hd hc
    exact wpAny_pyNext_zipD2_end D (S1.draws hh i1 a ha1 its.toArray) (S2.draws hh i2 b hb2 its2.toArray) hz hTI hTO ⟨h1, p⟩ ⟨h2, p2⟩ (by rw [List.size_toArray]; omega) (by rw [List.size_toArray]; omega)
      (by rw [List.size_toArray, List.size_toArray]; omega) fun h' tk hk => ⟨rfl, I.turnedL (t' := tk) (ch := [z, TI, TO, i1, i2]) (fun c o hb q =>
      hk c o (fun q' => hb (by simp [q'])) (fun q' => hb (by simp [q'])) (fun q' => hb (by simp [q'])) (fun q' => hb (by simp [q'])) q) hf⟩
  self := fun A i s Q E st h => wpAny_pyIter_zip st.1 h
def iZpG (S1 S2 : Src) (K : PySem.W.Frag) (ta : TA) : TI := fun σ H R => ta σ H fun vs H1 => ∃ a b xs ys, vs = [.ref a, .ref b] ∧ S1.sq K H1 a xs ∧ S2.sq K H1 b ys ∧ R (ItZ S1 S2 K a b) H1
theorem zipG_run (S1 S2 : Src) {X : Cx} {pins : List (Addr × Obj)} {σ : L2.St} {H1 : Hp} {s1 : Shared} {us : List Value} {vs : List V} {elts : List Expr} {kk : Nat} {tpos : Pos} {R : It → Hp → Prop} (I1 : Inv X pins σ H1 s1) (r1 : Vals vs us)
    (q1 : ∃ (a b : Addr) (xs ys : List V), vs = [.ref a, .ref b] ∧ S1.sq X.K H1 a xs ∧ S2.sq X.K H1 b ys ∧ R (ItZ S1 S2 X.K a b) H1) :
    wpAny (model X.prog X.w) X.A (call (.type "zip") us) (fun v s1 => wpAny (model X.prog X.w) X.A (pyIter v) (PIE X pins σ (.Tuple elts kk tpos) R) X.xe s1) X.xe s1 := by
  obtain ⟨a, b, xs, ys, ex, hqx, hqy, q⟩ := q1
  subst ex
  cases r1 with
  | cons r rr =>
    cases rr with
    | cons r' rr =>
      cases rr
      cases r
      cases r'
      obtain ⟨its, rv, p1⟩ := S1.inv I1 hqx
      obtain ⟨its2, rv2, p2⟩ := S2.inv I1 hqy
      have la := S1.lt p1
      have lb := S2.lt p2
      refine zip_begins2 (S1.beg a its.toArray) (S2.beg b its2.toArray) p1 p2 fun h' hz hTI hTO h1 h2 hsz hk => wpAny_pyIter_zip hz ?_
      have I2 : Inv X pins σ H1 { s1 with heap := h' } := I1.kept (t' := s1.toks) hk
      refine ⟨s1.heap.objs.size + 4, [s1.heap.objs.size + 4, s1.heap.objs.size + 2, s1.heap.objs.size + 3, s1.heap.objs.size, s1.heap.objs.size + 1], _, _, H1, rfl, I2,
        turn_zipG S1 S2 (zip_sep2 (fp1 := [a]) (fp2 := [b]) (by intro c hc; rw [List.mem_singleton.mp hc]; exact la) (by intro c hc; rw [List.mem_singleton.mp hc]; exact lb)) (Nat.ne_of_lt la) (Nat.ne_of_lt (Nat.lt_succ_of_lt lb)),
        ⟨hz, hTI, ⟨_, _, hTO⟩, S1.start h1, S2.start h2⟩, fun c hcm => ?_, q⟩
      have e' : c = s1.heap.objs.size + 4 ∨ c = s1.heap.objs.size + 2 ∨ c = s1.heap.objs.size + 3 ∨ c = s1.heap.objs.size ∨ c = s1.heap.objs.size + 1 := by simpa using hcm
      have hle : s1.heap.objs.size ≤ c := by
        rcases e' with z | z | z | z | z
        · rw [z]; exact Nat.le_add_right _ _
        · rw [z]; exact Nat.le_add_right _ _
        · rw [z]; exact Nat.le_add_right _ _
        · rw [z]; exact Nat.le_refl _
        · rw [z]; exact Nat.le_add_right _ _
      exact I1.fpOk hle (I1.hok.fresh hle)

/-! ### for over them -/
theorem for_enumG (S : Src) {K : PySem.W.Frag} {a : Addr} {xs : List V} {g : TG} {tb : TS} {D : Ends} {σ : L2.St} {H : Hp} (Pv : Nat → L2.St → Hp → Prop) (h0 : Pv 0 σ H) (hq : ∀ i σ H, Pv i σ H → S.sq K H a xs)
    (hs : ∀ (i : Nat) (x : V) (T : Addr) (σ : L2.St) (H : Hp), xs[i]? = some x → Pv i σ H → H T = none → g (.ref T) σ (upd H T (.tup [.int (i : Nat), x])) fun σ2 H2 => tb { D with nx := Pv (i + 1), ct := Pv (i + 1), bk := D.nx } σ2 H2) (hd : ∀ σ H, Pv xs.length σ H → D.nx σ H) :
    ∃ W : Nat → Nat → L2.St → Hp → Prop, (∃ m, W 0 m σ H) ∧ ∀ i m σ H, W i m σ H →
      ((ItE S K a).stop i H ∧ D.nx σ H) ∨ ((ItE S K a).go i H ∧ ∃ N : L2.St → Hp → Prop, (∀ σ' H', N σ' H' → ∃ m', m' < m ∧ W (i + 1) m' σ' H') ∧ ∀ v H', (ItE S K a).yld i H v H' → g v σ H' fun σ2 H2 => tb { D with nx := N, ct := N, bk := D.nx } σ2 H2) := by
  refine ⟨fun i m σ H => m = xs.length - i ∧ i ≤ xs.length ∧ Pv i σ H, ⟨xs.length, rfl, Nat.zero_le _, h0⟩, ?_⟩
  rintro i m σ H ⟨rfl, hi, p⟩
  have qx := hq i σ H p
  by_cases hlt : i < xs.length
  · have hx : xs[i]? = some xs[i] := List.getElem?_eq_getElem hlt
    refine .inr ⟨⟨xs, _, qx, hx⟩, Pv (i + 1), fun σ' H' p' => ⟨xs.length - (i + 1), by omega, rfl, hlt, p'⟩, fun v H' y => ?_⟩
    obtain ⟨T, x', rfl, hT, rfl, f1⟩ := y
    exact hs i x' T σ H (f1 xs qx) p hT
  · have e : i = xs.length := by omega
    subst e
    exact .inl ⟨⟨xs, qx, rfl⟩, hd σ H p⟩
theorem for_zipG (S1 S2 : Src) {K : PySem.W.Frag} {a b : Addr} {xs ys : List V} {g : TG} {tb : TS} {D : Ends} {σ : L2.St} {H : Hp} (hl : xs.length = ys.length) (Pv : Nat → L2.St → Hp → Prop) (h0 : Pv 0 σ H) (hq : ∀ i σ H, Pv i σ H → S1.sq K H a xs ∧ S2.sq K H b ys)
    (hs : ∀ (i : Nat) (x y : V) (T : Addr) (σ : L2.St) (H : Hp), xs[i]? = some x → ys[i]? = some y → Pv i σ H → H T = none → g (.ref T) σ (upd H T (.tup [x, y])) fun σ2 H2 => tb { D with nx := Pv (i + 1), ct := Pv (i + 1), bk := D.nx } σ2 H2) (hd : ∀ σ H, Pv xs.length σ H → D.nx σ H) :
    ∃ W : Nat → Nat → L2.St → Hp → Prop, (∃ m, W 0 m σ H) ∧ ∀ i m σ H, W i m σ H →
      ((ItZ S1 S2 K a b).stop i H ∧ D.nx σ H) ∨ ((ItZ S1 S2 K a b).go i H ∧ ∃ N : L2.St → Hp → Prop, (∀ σ' H', N σ' H' → ∃ m', m' < m ∧ W (i + 1) m' σ' H') ∧ ∀ v H', (ItZ S1 S2 K a b).yld i H v H' → g v σ H' fun σ2 H2 => tb { D with nx := N, ct := N, bk := D.nx } σ2 H2) := by
  refine ⟨fun i m σ H => m = xs.length - i ∧ i ≤ xs.length ∧ Pv i σ H, ⟨xs.length, rfl, Nat.zero_le _, h0⟩, ?_⟩
  rintro i m σ H ⟨rfl, hi, p⟩
  obtain ⟨qx, qy⟩ := hq i σ H p
  by_cases hlt : i < xs.length
  · have hx : xs[i]? = some xs[i] := List.getElem?_eq_getElem hlt
    have hlt2 : i < ys.length := by omega
    have hy : ys[i]? = some ys[i] := List.getElem?_eq_getElem hlt2
    refine .inr ⟨⟨xs, ys, _, _, qx, qy, hx, hy⟩, Pv (i + 1), fun σ' H' p' => ⟨xs.length - (i + 1), by omega, rfl, hlt, p'⟩, fun v H' y => ?_⟩
    obtain ⟨T, x', y', rfl, hT, rfl, f1, f2⟩ := y
    exact hs i x' y' T σ H (f1 xs qx) (f2 ys qy) p hT
  · have e : i = xs.length := by omega
    subst e
    exact .inl ⟨⟨xs, ys, qx, qy, Nat.le_refl _, by omega, .inl rfl⟩, hd σ H p⟩

/-! ### two tuples of the same numbers -/
theorem canLay_ints : ∀ ns : List Nat, PyData.canLayAll0 (ns.map fun n : Nat => PyData.int (n : Int)) = true
  | [] => by simp [PyData.canLayAll0]
  | n :: r => by
    rw [List.map_cons, PyData.canLayAll0, canLay_ints r]
    simp [PyData.canLay0]
theorem depth_ints : ∀ ns : List Nat, PyData.depthAll (ns.map fun n : Nat => PyData.int (n : Int)) ≤ 1
  | [] => by simp [PyData.depthAll]
  | n :: r => by
    have := depth_ints r
    rw [List.map_cons, PyData.depthAll]
    simp [PyData.depth] <;> omega
theorem dp_ints {K : PySem.W.Frag} {H : Hp} : ∀ ns : List Nat, DpAll K H (ns.map vI) (ns.map fun n : Nat => PyData.int (n : Int))
  | [] => .nil
  | n :: r => .cons (.int _) (dp_ints r)
theorem shaped_ints (ns : List Nat) : SeqAt.shaped (.tuple (ns.map fun n : Nat => PyData.int (n : Int))) = true := by
  have h := depth_ints ns
  unfold SeqAt.shaped
  rw [PyData.canLay0, canLay_ints, Bool.true_and]
  refine decide_eq_true ?_
  rw [PyData.depth]
  omega
def rNeI (K : PySem.W.Frag) : R2 := fun x y H Q => ∃ (a b : Addr) (ns : List Nat), x = .ref a ∧ y = .ref b ∧ SqT K H a (ns.map vI) ∧ SqT K H b (ns.map vI) ∧ Q (.bl false) H
theorem op_neI {X : Cx} (hu : X.A.units + 64 < cLine) : OpR X (compareOp .NotEq) (rNeI X.K) := by
  intro pins s σ H x y v u Q I rx ry h
  obtain ⟨a, b, ns, rfl, rfl, ha, hb, q⟩ := h
  refine op_neD hu pins s σ H _ _ v u Q I rx ry ⟨_, _, .tup ha (dp_ints ns), .tup hb (dp_ints ns), shaped_ints ns, shaped_ints ns, ?_⟩
  rw [SeqAt.eqv_refl _ (SeqAt.canLay_of_shaped (shaped_ints ns))]
  exact q
def rEqI (K : PySem.W.Frag) : R2 := fun x y H Q => ∃ (a b : Addr) (ns : List Nat), x = .ref a ∧ y = .ref b ∧ SqT K H a (ns.map vI) ∧ SqT K H b (ns.map vI) ∧ Q (.bl true) H
theorem op_eqI {X : Cx} (hu : X.A.units + 64 < cLine) : OpR X (compareOp .Eq) (rEqI X.K) := by
  intro pins s σ H x y v u Q I rx ry h
  obtain ⟨a, b, ns, rfl, rfl, ha, hb, q⟩ := h
  refine op_eqD hu pins s σ H _ _ v u Q I rx ry ⟨_, _, .tup ha (dp_ints ns), .tup hb (dp_ints ns), shaped_ints ns, shaped_ints ns, ?_⟩
  rw [SeqAt.eqv_refl _ (SeqAt.canLay_of_shaped (shaped_ints ns))]
  exact q

/-! ### list.extend(tuple) -/
theorem ext_tupA (l : Addr) (items : Array Value) (n : Nat) (b : Addr) (items2 : Array Value) (n2 : Nat) (dd : Option Addr) (sl : Array (Option Value)) (hs0 : ¬(!items.isEmpty && Builtin.List.listTooLong (items.size + items2.size)) = true) (hs1 : items.size ≤ sizeLine) (hs2 : items.size + items2.size ≤ sizeLine + 1) :
    Meets (Builtin.«list.extend» ⟨[.ref l, .ref b], []⟩) (fun _ R s => s.heap.get? l = some { cls := .type "list", dict := none, data := .seq items n, slots := #[] } ∧ s.heap.get? b = some { cls := .type "tuple", dict := dd, data := .seq items2 n2, slots := sl } ∧ R (.ok (.ret Value.none)) { s with heap := s.heap.update l (Obj.mapSeq fun x => x ++ items2), toks := s.toks }) :=
  .of_wp fun prog w A R s h => by
    obtain ⟨hp, g, d, tk, os⟩ := s; obtain ⟨hl, hb, h⟩ := h; have f2 := sub_tuple_tuple; have f3 := sub_list_list; have f4 := sub_tuple_list; have f5 := sub_list_tuple
    have hz' : (items ++ items2).size ≤ sizeLine + 1 := by rw [Array.size_append]; exact hs2
    wp_walk using (wpAny_updateSeq hl rfl (hz := hs1) (_hz' := hz')), wpAny_loadPart' hl, wpAny_loadPart' hb
    exact ⟨_, rfl, h⟩
def rExtT (K : PySem.W.Frag) : V → List V → Hp → VK → Prop := fun x vs H Q => ∃ l b xs zs, x = .ref l ∧ vs = [.ref b] ∧ H l = some (.lst xs) ∧ SqT K H b zs ∧ xs.length + zs.length ≤ sizeLine ∧ Q .non (upd H l (.lst (xs ++ zs)))
theorem mt_extT {X : Cx} : MtM X "list.extend" (rExtT X.K) := by
  intro pins s σ H x vs v us Q I rx rv h
  obtain ⟨l, b, xs, zs, rfl, rfl, hH, hB, hz, q⟩ := h
  cases rx
  obtain ⟨u, rfl, ru⟩ := rv.one
  cases ru
  obtain ⟨z, its, n, r, hl, e⟩ := I.lstM hH
  obtain ⟨its2, r2, p2, hl2⟩ := I.tuple hB
  obtain ⟨⟨cls, dd, data, sl⟩, ho, hc, n2, hd⟩ := id p2
  simp only at hc hd
  subst hc hd
  have len2 := r2.length
  have hsz : its.toArray.size + its2.toArray.size ≤ sizeLine := by rw [List.size_toArray, List.size_toArray]; omega
  have hlong : ¬ (!its.toArray.isEmpty && Builtin.List.listTooLong (its.toArray.size + its2.toArray.size)) = true := by
    rw [notLongL hsz, Bool.and_false]
    exact Bool.false_ne_true
  refine call_meets F.slot_list_extend ⟨_, e, rfl⟩ F.entry_list_extend (F.args_list_extend_2 _ _)
    (ext_tupA l its.toArray n b its2.toArray n2 dd sl hlong (by rw [List.size_toArray]; omega) (by omega)) ⟨e, ho, ?_⟩
  refine ⟨.non, _, I.lset (its' := its ++ its2) hH e (by simp) (r.append r2) ?_, rfl, q⟩
  rw [List.length_append]
  omega

/-! ### the source as it comes -/
def iEnX (K : PySem.W.Frag) (ta : TA) : TI := fun σ H R => ta σ H fun vs H1 => ∃ (S : Src) (a : Addr) (xs : List V), vs = [.ref a] ∧ S.sq K H1 a xs ∧ R (ItE S K a) H1
theorem pi_enumX {X : Cx} {e : Expr} {ta : TA} {p pos tpos : Pos} {elts : List Expr} {kk : Nat} (hg : Gl X "enumerate") (hm : X.mg "enumerate" = none) (ha : PA X [e] ta) (hs : starEach [e] X.env = [(false, eval e X.env)] := by rfl) :
    PI X (.Tuple elts kk tpos) (.Call (.Name "enumerate" p) [e] [] pos) (iEnX X.K ta) := by
  refine ⟨fun pins s σ H R I h => ?_⟩
  have h' : ta σ H fun vs H1 => ∃ S : Src, ∃ (a : Addr) (xs : List V), vs = [.ref a] ∧ S.sq X.K H1 a xs ∧ R (ItE S X.K a) H1 := h
  refine Call_ (ld_blt I hg hm boot_enumerate (PyProof.Rows.callWith_type1 (thn (ha.run pos pins s σ H _ I h') fun us s1 ⟨vs, H1, I1, r1, q1⟩ => ?_) hs rfl))
  obtain ⟨S, a, xs, ex, hq, q⟩ := q1
  exact enumG_run S I1 r1 ⟨a, xs, ex, hq, q⟩
def iZpX (K : PySem.W.Frag) (ta : TA) : TI := fun σ H R => ta σ H fun vs H1 => ∃ (S1 S2 : Src) (a b : Addr) (xs ys : List V), vs = [.ref a, .ref b] ∧ S1.sq K H1 a xs ∧ S2.sq K H1 b ys ∧ R (ItZ S1 S2 K a b) H1
theorem pi_zipX {X : Cx} {e e2 : Expr} {ta : TA} {p pos tpos : Pos} {elts : List Expr} {kk : Nat} (hg : Gl X "zip") (hm : X.mg "zip" = none) (ha : PA X [e, e2] ta)
    (hs : starEach [e, e2] X.env = (false, eval e X.env) :: starEach [e2] X.env := by rfl) (hpl : (backTo pos (starEach [e2] X.env)).any (·.1) = false := by rfl) :
    PI X (.Tuple elts kk tpos) (.Call (.Name "zip" p) [e, e2] [] pos) (iZpX X.K ta) := by
  refine ⟨fun pins s σ H R I h => ?_⟩
  have h' : ta σ H fun vs H1 => ∃ S1 S2 : Src, ∃ (a b : Addr) (xs ys : List V), vs = [.ref a, .ref b] ∧ S1.sq X.K H1 a xs ∧ S2.sq X.K H1 b ys ∧ R (ItZ S1 S2 X.K a b) H1 := h
  refine Call_ (ld_blt I hg hm PyProof.Rows.boot_zip (PyProof.Rows.callWith_type1 (thn (ha.run pos pins s σ H _ I h') fun us s1 ⟨vs, H1, I1, r1, q1⟩ => ?_) hs hpl))
  obtain ⟨S1, S2, a, b, xs, ys, ex, hqx, hqy, q⟩ := q1
  exact zipG_run S1 S2 I1 r1 ⟨a, b, xs, ys, ex, hqx, hqy, q⟩
end Bf

set_option Elab.async false
set_option linter.all false
set_option maxRecDepth 100000
set_option maxHeartbeats 4000000
namespace Bf
/-! ### ports: their words as bits -/
def bitsN (n w : Nat) : List Nat := (List.range n).map fun k => w / 2 ^ k % 2
def valN : List Nat → Nat
  | [] => 0
  | b :: r => b + 2 * valN r
def splN : List Nat → List Nat → List Nat
  | w :: ws, x :: xs => bitsN w x ++ splN ws xs
  | _, _ => []
def joiN : List Nat → List Nat → List Nat
  | [], _ => []
  | w :: ws, bs => valN (bs.take w) :: joiN ws (bs.drop w)
theorem bitsN_succ (n w : Nat) : bitsN (n + 1) w = bitsN n w ++ [w / 2 ^ n % 2] := by
  unfold bitsN
  rw [List.range_succ, List.map_append]
  rfl
theorem bitsN_len (n w : Nat) : (bitsN n w).length = n := by
  unfold bitsN
  simp
theorem bitsN_cons (n w : Nat) : bitsN (n + 1) w = (w % 2) :: bitsN n (w / 2) := by
  unfold bitsN
  rw [List.range_succ_eq_map, List.map_cons, List.map_map]
  congr 1
  · simp
  · apply List.map_congr_left
    intro k _
    show w / 2 ^ (k + 1) % 2 = w / 2 / 2 ^ k % 2
    rw [Nat.div_div_eq_div_mul, Nat.pow_succ, Nat.mul_comm]
theorem bitsN_lt {n w b : Nat} (h : b ∈ bitsN n w) : b < 2 := by
  unfold bitsN at h
  obtain ⟨k, _, e⟩ := List.mem_map.mp h
  rw [← e]
  exact Nat.mod_lt _ (by decide)
theorem valN_snoc : ∀ (l : List Nat) (b : Nat), valN (l ++ [b]) = valN l + b * 2 ^ l.length
  | [], b => by simp [valN]
  | a :: l, b => by
    rw [List.cons_append, valN, valN_snoc l b, valN, List.length_cons, Nat.pow_succ, Nat.mul_add]
    rw [show b * (2 ^ l.length * 2) = 2 * (b * 2 ^ l.length) by rw [← Nat.mul_assoc]; exact Nat.mul_comm _ _]
    omega
theorem val_bits : ∀ (n w : Nat), w < 2 ^ n → valN (bitsN n w) = w
  | 0, w, h => by
    have : w = 0 := by simpa using h
    rw [this]
    rfl
  | n + 1, w, h => by
    have h2 : w / 2 < 2 ^ n := by
      rw [Nat.pow_succ] at h
      omega
    rw [bitsN_cons, valN, val_bits n (w / 2) h2]
    omega
theorem bits_val : ∀ (l : List Nat), (∀ b ∈ l, b < 2) → bitsN l.length (valN l) = l
  | [], _ => rfl
  | a :: l, h => by
    have ha : a < 2 := h a (by simp)
    rw [List.length_cons, bitsN_cons, valN]
    have e1 : (a + 2 * valN l) % 2 = a := by omega
    have e2 : (a + 2 * valN l) / 2 = valN l := by omega
    rw [e1, e2, bits_val l fun b hb => h b (by simp [hb])]
theorem valN_lt : ∀ (l : List Nat), (∀ b ∈ l, b < 2) → valN l < 2 ^ l.length
  | [], _ => by simp [valN]
  | a :: l, h => by
    have ha : a < 2 := h a (by simp)
    have := valN_lt l fun b hb => h b (by simp [hb])
    rw [List.length_cons, Nat.pow_succ, valN]
    omega
theorem splN_snoc : ∀ (a b : List Nat) (w x : Nat), a.length = b.length → splN (a ++ [w]) (b ++ [x]) = splN a b ++ bitsN w x
  | [], [], w, x, _ => by simp [splN]
  | [], _ :: _, _, _, h => by cases h
  | _ :: _, [], _, _, h => by cases h
  | u :: a, y :: b, w, x, h => by
    rw [List.cons_append, List.cons_append, splN, splN_snoc a b w x (by simpa using h), splN, List.append_assoc]
theorem splN_len : ∀ (a b : List Nat), a.length = b.length → (splN a b).length = a.sum
  | [], [], _ => rfl
  | [], _ :: _, h => by cases h
  | _ :: _, [], h => by cases h
  | u :: a, y :: b, h => by
    rw [splN, List.length_append, bitsN_len, splN_len a b (by simpa using h), List.sum_cons]
theorem splN_lt : ∀ (a b : List Nat) (z : Nat), z ∈ splN a b → z < 2
  | [], [], z, h => by cases h
  | [], _ :: _, z, h => by cases h
  | _ :: _, [], z, h => by cases h
  | u :: a, y :: b, z, h => by
    rw [splN] at h
    rcases List.mem_append.mp h with h | h
    · exact bitsN_lt h
    · exact splN_lt a b z h
theorem joiN_len : ∀ (ws bs : List Nat), (joiN ws bs).length = ws.length
  | [], _ => rfl
  | w :: ws, bs => by rw [joiN, List.length_cons, joiN_len ws, List.length_cons]
theorem joiN_snoc : ∀ (a bs : List Nat) (w : Nat), joiN (a ++ [w]) bs = joiN a bs ++ [valN ((bs.drop a.sum).take w)]
  | [], bs, w => by simp [joiN]
  | u :: a, bs, w => by
    rw [List.cons_append, joiN, joiN_snoc a (bs.drop u) w, joiN, List.drop_drop, List.sum_cons]
    rfl
theorem join_split : ∀ (ws xs : List Nat), ws.length = xs.length → (∀ (i w x : Nat), ws[i]? = some w → xs[i]? = some x → x < 2 ^ w) → joiN ws (splN ws xs) = xs
  | [], [], _, _ => rfl
  | [], _ :: _, h, _ => by cases h
  | _ :: _, [], h, _ => by cases h
  | w :: ws, x :: xs, h, k => by
    have e1 : (bitsN w x ++ splN ws xs).take w = bitsN w x := by rw [List.take_append_of_le_length (by rw [bitsN_len]; omega), List.take_of_length_le (by rw [bitsN_len]; omega)]
    have e2 : (bitsN w x ++ splN ws xs).drop w = splN ws xs := by
      have := List.drop_left (l₁ := bitsN w x) (l₂ := splN ws xs)
      rwa [bitsN_len] at this
    rw [splN, joiN, e1, e2, val_bits w x (k 0 w x rfl rfl), join_split ws xs (by simpa using h) fun i u y a b => k (i + 1) u y (by simpa using a) (by simpa using b)]
theorem split_join : ∀ (ws bs : List Nat), bs.length = ws.sum → (∀ b ∈ bs, b < 2) → splN ws (joiN ws bs) = bs
  | [], bs, h, _ => by
    have : bs = [] := List.eq_nil_of_length_eq_zero h
    rw [this]
    rfl
  | w :: ws, bs, h, k => by
    rw [List.sum_cons] at h
    have l1 : (bs.take w).length = w := by rw [List.length_take]; omega
    have e := bits_val (bs.take w) fun b hb => k b (List.mem_of_mem_take hb)
    rw [l1] at e
    rw [joiN, splN, e, split_join ws (bs.drop w) (by rw [List.length_drop]; omega) fun b hb => k b (List.mem_of_mem_drop hb), List.take_append_drop]
end Bf

set_option Elab.async false
set_option linter.all false
set_option maxRecDepth 100000
set_option maxHeartbeats 4000000
namespace Bf
open PySem PySem.Spec PyProof.Rows L2
def topS (i : Nat) : Stmt := PySem.Challenge.pw_beatfabric_k02_ports_split.main.body.getD i (.Pass ⟨0, 0, 0, 0⟩)
abbrev s_to_bits : Stmt := topS 1
abbrev s_from_bits : Stmt := topS 2
abbrev s_split_ports : Stmt := topS 3
abbrev s_join_ports : Stmt := topS 4
abbrev s_law_begin : Stmt := topS 6
abbrev s_law_draw : Stmt := topS 7
abbrev s_law_pop : Stmt := topS 8
abbrev s_law_pool : Stmt := topS 9
abbrev s_law_is_int : Stmt := topS 10
abbrev s_law_is_ints : Stmt := topS 11
abbrev s_law_split : Stmt := topS 12
abbrev s_law_joined : Stmt := topS 13
abbrev s_law : Stmt := topS 14
theorem sc_to_bits : FnScope ["width", "word", "at"] ["width", "word"] (defScope s_to_bits) := ⟨rfl, rfl, rfl, by decide +kernel, rfl, by decide +kernel, by decide +kernel⟩
theorem sc_from_bits : FnScope ["bits", "word", "at", "bit"] ["bits"] (defScope s_from_bits) := ⟨rfl, rfl, rfl, by decide +kernel, rfl, by decide +kernel, by decide +kernel⟩
theorem sc_split_ports : FnScope ["ports", "words", "bits", "_", "width", "word"] ["ports", "words"] (defScope s_split_ports) := ⟨rfl, rfl, rfl, by decide +kernel, rfl, by decide +kernel, by decide +kernel⟩
theorem sc_join_ports : FnScope ["ports", "bits", "words", "at", "_", "width"] ["ports", "bits"] (defScope s_join_ports) := ⟨rfl, rfl, rfl, by decide +kernel, rfl, by decide +kernel, by decide +kernel⟩
theorem sc_law_begin : FnScope ["_law_script", "_law_cell"] ["_law_script"] (defScope s_law_begin) := ⟨rfl, rfl, rfl, by decide +kernel, rfl, by decide +kernel, by decide +kernel⟩
theorem sc_law_draw : FnScope ["_law_d", "_law_many", "_law_found", "_law_size", "_law_cell"] ["_law_d", "_law_many"] (defScope s_law_draw) := ⟨rfl, rfl, rfl, by decide +kernel, rfl, by decide +kernel, by decide +kernel⟩
theorem sc_law_pop : FnScope ["_law_d", "_law_row"] ["_law_d", "_law_row"] (defScope s_law_pop) := ⟨rfl, rfl, rfl, by decide +kernel, rfl, by decide +kernel, by decide +kernel⟩
theorem sc_law_pool : FnScope ["_law_text"] [] (defScope s_law_pool) := ⟨rfl, rfl, rfl, by decide +kernel, rfl, by decide +kernel, by decide +kernel⟩
theorem sc_law_is_int : FnScope ["_law_thing"] ["_law_thing"] (defScope s_law_is_int) := ⟨rfl, rfl, rfl, by decide +kernel, rfl, by decide +kernel, by decide +kernel⟩
theorem sc_law_is_ints : FnScope ["_law_row", "_law_part"] ["_law_row"] (defScope s_law_is_ints) := ⟨rfl, rfl, rfl, by decide +kernel, rfl, by decide +kernel, by decide +kernel⟩
theorem sc_law_split : FnScope ["_law_ports", "_law_words", "_law_found", "_law_port", "_law_word", "_law_k"] ["_law_ports", "_law_words"] (defScope s_law_split) := ⟨rfl, rfl, rfl, by decide +kernel, rfl, by decide +kernel, by decide +kernel⟩
theorem sc_law_joined : FnScope ["_law_ports", "_law_bits", "_law_found", "_law_at", "_law_port", "_law_word", "_law_k"] ["_law_ports", "_law_bits"] (defScope s_law_joined) := ⟨rfl, rfl, rfl, by decide +kernel, rfl, by decide +kernel, by decide +kernel⟩
theorem sc_law : FnScope ["_law_script", "_law_d", "_law_names", "_law_ports", "_law_words", "_law_port", "_law_edge", "_law_word", "_law_told", "_law_back", "_law_bits", "_law_others", "_law_k"] ["_law_script"] (defScope s_law) := ⟨rfl, rfl, rfl, by decide +kernel, rfl, by decide +kernel, by decide +kernel⟩
structure Txt (mg : Str → Option Value) : Prop where
  n_int : mg "int" = none
  n_len : mg "len" = none
  n_abs : mg "abs" = none
  n_isinstance : mg "isinstance" = none
  n_range : mg "range" = none
  n_tuple : mg "tuple" = none
  n_all : mg "all" = none
  n_zip : mg "zip" = none
  n_enumerate : mg "enumerate" = none
  n_bool : mg "bool" = none
/-! ### the draws -/
/-- what stood elsewhere stands -/
def Keep (S : List Addr) (H H' : Hp) : Prop := ∀ b o, b ∉ S → H b = some o → H' b = some o
theorem Keep.refl (S : List Addr) (H : Hp) : Keep S H H := fun _ _ _ h => h
theorem Keep.trans {S : List Addr} {H H1 H2 : Hp} (a : Keep S H H1) (b : Keep S H1 H2) : Keep S H H2 := fun c o n h => b c o n (a c o n h)
theorem Keep.of_same {S : List Addr} {H H1 : Hp} (a : Same H H1) : Keep S H H1 := fun c o _ h => a c o h
theorem Keep.wide {S S' : List Addr} {H H1 : Hp} (a : Keep S H H1) (h : ∀ b, b ∈ S → b ∈ S') : Keep S' H H1 := fun c o n e => a c o (fun q => n (h c q)) e
theorem Keep.upd {S : List Addr} {H : Hp} {a : Addr} {o : HO} (h : a ∈ S) : Keep S H (upd H a o) := fun b u n e => by
  rw [upd_ne (fun q => n (by rw [q]; exact h))]
  exact e
theorem Keep.new {S : List Addr} {H : Hp} {a : Addr} {o : HO} (h : H a = none) : Keep S H (L2.upd H a o) := fun b u n e => by
  rw [upd_ne (ne_of_none e h)]
  exact e
/-- the state of the draws -/
def DS (H : Hp) (a c : Addr) : Prop := ∃ (at_ left st : Int) (cells : List Int), H a = some (.lst [.ref c, .int at_, .int left, .int st, .int 3]) ∧ 0 ≤ at_ ∧ H c = some (.lst (cells.map V.int))
theorem DS.ne {H : Hp} {a c : Addr} {x : V} {xs : List V} {cells : List Int} (h : H a = some (.lst (.ref c :: xs))) (hc : H c = some (.lst (cells.map V.int))) : c ≠ a := by
  intro e
  rw [e, h] at hc
  have q := HO.lst.inj (Option.some.inj hc)
  cases cells with
  | nil => cases q
  | cons x r => cases (List.cons.inj q).1
theorem DS.keep {S : List Addr} {H H' : Hp} {a c : Addr} (h : DS H a c) (k : Keep S H H') (ha : a ∉ S) (hc : c ∉ S) : DS H' a c := by
  obtain ⟨at_, left, st, cells, h1, h2, h3⟩ := h
  exact ⟨at_, left, st, cells, k _ _ ha h1, h2, k _ _ hc h3⟩
theorem DS.same {H H' : Hp} {a c : Addr} (h : DS H a c) (k : Same H H') : DS H' a c := h.keep (S := []) (Keep.of_same k) (by simp) (by simp)
theorem DS.new {H : Hp} {a c l : Addr} (h : DS H a c) (hl : H l = none) : l ≠ a ∧ l ≠ c := by
  obtain ⟨at_, left, st, cells, h1, h2, h3⟩ := h
  exact ⟨(ne_of_none h1 hl).symm, (ne_of_none h3 hl).symm⟩
theorem pow6000 : (0 : Int) < 1 * 2 ^ (6000 : Int).toNat := by
  rw [Int.one_mul]
  exact Int.pow_pos (by decide)
def spDraw : Sp := fun vs H Q _ => ∃ (a c : Addr) (m : Int), vs = [.ref a, .int m] ∧ DS H a c ∧ 1 ≤ m ∧ m < 1073741824 ∧ ∀ (r : Int) (H' : Hp), 0 ≤ r → r < m → DS H' a c → Keep [a] H H' → Q (.int r) H'
section
variable {P : Program} {w : World} {K : PySem.W.Frag} {mg : Str → Option Value} {base : Heap}
theorem ok_draw {f : Addr} {fd : FuncData} (F : Fun K "_law_draw" "_law_draw" s_law_draw f fd) (T : Txt mg) : FnOk P w K mg base CX0 1 f fd ["_law_d", "_law_many"] spDraw := by
  refine F.ok sc_law_draw (fun vs H Q E h => ?_) (fun cdv A outer s H vs Q E hr h => ?_)
  · obtain ⟨a, c, m, rfl, _⟩ := h
    rfl
  obtain ⟨a, c, m, rfl, ⟨at_, left, st, cells, ha, h0, hc⟩, m1, m2, q⟩ := h
  have hca : c ≠ a := DS.ne (x := .non) ha hc
  refine ⟨_, (pss_cons (ps_if (pt_cmpR op_gt (pe_ix ix_list (pv 0) pe_int (fun _ _ => rfl)) pe_int (nomark _)) (pss_cons (ps_set (i := 2) sc_law_draw.nd rfl (Or.inl rfl) (pe_ix ix_list (pv 0) pe_int (fun _ _ => rfl)))
      (pss_cons (ps_asg (pe_op op_fdiv (pv 2) (pv 1)) (pg_sub (pv 0) pe_int set_list))
      (pss_one (ps_ret (pe_op op_mod (pe_callTy call_int1 (by rfl) T.n_int (by decide +kernel) (pa_cons (pv 2) pa_nil)) (pv 1)))))) pss_nil)
      (pss_cons (ps_set (i := 3) sc_law_draw.nd rfl (Or.inl rfl) pe_int)
      (C8.pss_cut (ps_if (pt_cmpR op_lt (pe_ix ix_list (pv 0) pe_int (fun _ _ => rfl)) (pe_callB call_len_seq (by rfl) T.n_len (by decide +kernel) (pa_cons (pe_ix ix_list (pv 0) pe_int (fun _ _ => rfl)) pa_nil)) (nomark _)) (pss_cons (ps_set (i := 4) sc_law_draw.nd rfl (Or.inl rfl) (pe_ix ix_list (pe_ix ix_list (pv 0) pe_int (fun _ _ => rfl)) (pe_ix ix_list (pv 0) pe_int (fun _ _ => rfl)) (fun _ _ => rfl)))
      (pss_one (ps_set (i := 3) sc_law_draw.nd rfl (Or.inl rfl) (pe_op op_add (pe_op op_mul pe_int (pe_callB call_abs (by rfl) T.n_abs (by decide +kernel) (pa_cons (pv 4) pa_nil))) (pe_callTy call_int1 (by rfl) T.n_int (by decide +kernel) (pa_cons (pe_cmpR op_lt (pv 4) pe_int (nomark _)) pa_nil)))))) pss_nil)
      (C8.pss_cut (ps_augS (pv 0) pe_int get_list pe_int ip_add set_list)
      (pss_cons (ps_if (pt_cmpR op_ge (pv 3) (pe_op op_mul pe_int (pe_op op_pow pe_int pe_int)) (nomark _)) (pss_cons (ps_set (i := 2) sc_law_draw.nd rfl (Or.inl rfl) (pe_op op_mod (pe_callTy call_int1 (by rfl) T.n_int (by decide +kernel) (pa_cons (pe_op op_fdiv (pv 3) pe_int) pa_nil)) (pe_op op_shl pe_int pe_int)))
      (pss_cons (ps_asg (pe_op op_fdiv (pv 2) (pv 1)) (pg_sub (pv 0) pe_int set_list))
      (pss_one (ps_ret (pe_op op_mod (pe_callTy call_int1 (by rfl) T.n_int (by decide +kernel) (pa_cons (pv 2) pa_nil)) (pv 1)))))) pss_nil)
      (pss_cons (ps_asg (pe_op op_mod (pe_callTy call_int1 (by rfl) T.n_int (by decide +kernel) (pa_cons (pe_op op_add (pe_op op_add (pe_op op_add (pe_op op_mul (pe_ix ix_list (pv 0) pe_int (fun _ _ => rfl)) pe_int) (pe_op op_mul (pe_op op_mod (pe_callTy call_int1 (by rfl) T.n_int (by decide +kernel) (pa_cons (pv 3) pa_nil)) pe_int) pe_int)) (pe_op op_mul (pe_ix ix_list (pv 0) pe_int (fun _ _ => rfl)) pe_int)) pe_int) pa_nil)) pe_int) (pg_sub (pv 0) pe_int set_list))
      (pss_one (ps_ret (pe_op op_mod (pe_callTy call_int1 (by rfl) T.n_int (by decide +kernel) (pa_cons (pe_op op_fdiv (pe_ix ix_list (pv 0) pe_int (fun _ _ => rfl)) pe_int) pa_nil)) (pv 1)))))))))), ?_⟩
  refine ⟨_, rfl, a, _, _, _, rfl, rfl, SqL.of ha, atI_nat (j := 2) rfl, _, _, rfl, rfl, _, rfl, ?_⟩
  refine ite2 (fun e => ?_) (fun e => ?_)
  · refine ⟨_, rfl, a, _, _, _, rfl, rfl, SqL.of ha, atI_nat (j := 2) rfl, ?_⟩
    refine ⟨_, rfl, _, rfl, left, m, rfl, rfl, ⟨by omega, by omega⟩, _, rfl, a, _, 2, 2, rfl, rfl, ha, rfl, ?_⟩
    refine ⟨_, rfl, .inl ⟨_, rfl, _, rfl, _, _, rfl, rfl, (by omega), ?_⟩⟩
    exact q _ _ (Int.emod_nonneg _ (by omega)) (Int.emod_lt_of_pos _ (by omega)) ⟨at_, left / m, st, cells, upd_same, h0, by rw [upd_ne hca]; exact hc⟩ (Keep.upd (by simp))
  · refine ⟨fun σ' H' => ∃ (z : Int) (v4 : Option V), σ' = [some (.ref a), some (.int m), none, some (.int z), v4] ∧ H' = H, ?_, ?_⟩
    · refine ⟨_, rfl, a, _, _, _, rfl, rfl, SqL.of ha, atI_nat (j := 1) rfl, _, rfl, a, _, _, _, rfl, rfl, SqL.of ha, atI_nat (j := 0) rfl, c, _, rfl, .inl (SqL.of hc), _, _, rfl, rfl, _, rfl, ?_⟩
      refine ite2 (fun e1 => ?_) (fun e1 => ?_)
      · have e2 : at_ < ((cells.map V.int).length : Nat) := of_decide_eq_true e1
        rw [List.length_map] at e2
        have hk : at_.toNat < cells.length := by omega
        have ek : ((at_.toNat : Nat) : Int) = at_ := by omega
        have q1 : atI (cells.map V.int) ((at_.toNat : Nat) : Int) = some (.int cells[at_.toNat]) := atI_nat (by rw [List.getElem?_map, List.getElem?_eq_getElem hk] <;> rfl)
        rw [ek] at q1
        refine ⟨_, rfl, a, _, _, _, rfl, rfl, SqL.of ha, atI_nat (j := 0) rfl, _, rfl, a, _, _, _, rfl, rfl, SqL.of ha, atI_nat (j := 1) rfl, c, _, _, _, rfl, rfl, SqL.of hc, q1, ?_⟩
        refine ⟨_, rfl, _, rfl, _, _, rfl, rfl, .inl ⟨by decide, by decide⟩, _, rfl, _, _, rfl, rfl, .inr ⟨_, rfl, _, _, rfl, rfl, ?_⟩⟩
        exact ⟨_, _, rfl, rfl⟩
      · exact ⟨_, _, rfl, rfl⟩
    · rintro σ' H' ⟨z, v4, rfl, rfl⟩
      refine ⟨fun σ' H1 => σ' = [some (.ref a), some (.int m), none, some (.int z), v4] ∧ H1 a = some (.lst [.ref c, .int (at_ + 1), .int left, .int st, .int 3]) ∧ H1 c = some (.lst (cells.map V.int)) ∧ Keep [a] H' H1, ?_, ?_⟩
      · exact ⟨_, rfl, a, _, 1, .int at_, rfl, rfl, ha, atI_nat (j := 1) rfl, at_, 1, rfl, rfl, a, _, 1, 1, rfl, rfl, ha, rfl, rfl, upd_same, by rw [upd_ne hca]; exact hc, Keep.upd (by simp)⟩
      rintro σ' H1 ⟨rfl, h1, h2, k1⟩
      refine ⟨_, rfl, _, _, rfl, rfl, ⟨by decide, by decide, by decide⟩, _, _, rfl, rfl, .inl ⟨by decide, by decide⟩, _, _, rfl, rfl, _, rfl, ?_⟩
      refine ite2 (fun e3 => ?_) (fun e3 => ?_)
      · refine ⟨_, rfl, z, 2, rfl, rfl, ⟨by decide, by decide⟩, .inl ⟨_, rfl, 1, 6000, rfl, rfl, ⟨by decide, by decide, by decide⟩, _, _, rfl, rfl, pow6000, ?_⟩⟩
        refine ⟨_, rfl, _, rfl, _, m, rfl, rfl, ⟨by omega, by omega⟩, _, rfl, a, _, 2, 2, rfl, rfl, h1, rfl, ?_⟩
        refine ⟨_, rfl, .inl ⟨_, rfl, _, rfl, _, _, rfl, rfl, (by omega), ?_⟩⟩
        refine q _ _ (Int.emod_nonneg _ (by omega)) (Int.emod_lt_of_pos _ (by omega)) ⟨at_ + 1, _, st, cells, upd_same, by omega, by rw [upd_ne hca]; exact h2⟩ (k1.trans (Keep.upd (by simp)))
      · refine ⟨_, rfl, a, _, _, _, rfl, rfl, SqL.of h1, atI_nat (j := 3) rfl, _, _, rfl, rfl, .inr ⟨by decide, by decide⟩, ?_⟩
        refine ⟨_, rfl, .inl ⟨_, rfl, _, _, rfl, rfl, (by show (0 : Int) < 2147483629; decide), _, _, rfl, rfl, .inr ⟨by decide, by decide⟩, _, _, rfl, rfl, ?_⟩⟩
        refine ⟨_, rfl, a, _, _, _, rfl, rfl, SqL.of h1, atI_nat (j := 1) rfl, _, _, rfl, rfl, .inr ⟨by decide, by decide⟩, _, _, rfl, rfl, _, _, rfl, rfl, .inl ⟨_, rfl, _, _, rfl, rfl, (by show (0 : Int) < 2147483647; decide), ?_⟩⟩
        refine ⟨_, rfl, a, _, 3, 3, rfl, rfl, h1, rfl, ?_⟩
        refine ⟨_, rfl, a, _, _, _, rfl, rfl, SqL.of upd_same, atI_nat (j := 3) rfl, _, _, rfl, rfl, ⟨by decide, by decide⟩, .inl ⟨_, rfl, _, rfl, _, _, rfl, rfl, (by omega), ?_⟩⟩
        exact q _ _ (Int.emod_nonneg _ (by omega)) (Int.emod_lt_of_pos _ (by omega)) ⟨at_ + 1, left, _, cells, upd_same, by omega, by rw [upd_ne hca]; exact h2⟩ (k1.trans (Keep.upd (by simp)))
end

/-! ### the beginning of the draws; a draw out of a list; is it an int -/
theorem same_new {H : Hp} {p : Addr} (h : H p = none) (o : HO) : Same H (upd H p o) := fun b u q => by rw [upd_ne (ne_of_none q h)]; exact q
theorem intAt {xs : List Int} {i : Nat} {x : V} (h : (xs.map V.int)[i]? = some x) : ∃ k, xs[i]? = some k ∧ x = V.int k := by
  rw [List.getElem?_map] at h
  cases e : xs[i]? with
  | none => rw [e] at h; cases h
  | some k => rw [e] at h; exact ⟨k, rfl, (Option.some.inj h).symm⟩
def spBegin (K : PySem.W.Frag) : Sp := fun vs H Q _ => ∃ (a : Addr) (ns : List Int), vs = [.ref a] ∧ SqL K H a (ns.map V.int) ∧ ns.length ≤ 63 ∧ ∀ (d c : Addr) (H' : Hp), H d = none → H c = none → DS H' d c → Same H H' → Q (.ref d) H'
section
variable {P : Program} {w : World} {K : PySem.W.Frag} {mg : Str → Option Value} {base : Heap}
theorem ok_begin {f : Addr} {fd : FuncData} (F : Fun K "_law_begin" "_law_begin" s_law_begin f fd) (T : Txt mg) : FnOk P w K mg base CX0 1 f fd ["_law_script"] (spBegin K) := by
  refine F.ok sc_law_begin (fun vs H Q E h => ?_) (fun cdv A outer s H vs Q E hr h => ?_)
  · obtain ⟨a, ns, rfl, _⟩ := h
    rfl
  obtain ⟨a, ns, rfl, hS, h63, q⟩ := h
  refine ⟨_, (pss_one (ps_ret (pe_lst (pa_cons (pe_lc (own := [("_law_cell", 1)]) (g := gName 1) (tt := tYes) rfl sc_law_begin.nd (pi_list (pv 0)) (blkOk_by (N := ["_law_script", "_law_cell"]) (sc := defScope s_law_begin) (by decide +kernel)) (fun _ _ _ _ _ => (pg_name (i := 1) sc_law_begin.nd rfl (Or.inl rfl))) (fun _ _ _ _ _ => pts_nil) (fun _ _ _ _ _ => (pe_callTy call_int1 (by rfl) T.n_int (by decide +kernel) (pa_cons (pv 1) pa_nil)))) (pa_cons pe_int (pa_cons pe_int (pa_cons pe_int (pa_cons pe_int pa_nil)))))))), ?_⟩
  refine ⟨_, rfl, a, rfl, ⟨_, hS⟩, fun D hD => lc_list (K := K) (a := a) (xs := ns.map V.int) (fun i H' => Same H H' ∧ H' D = some (.lst ((ns.take i).map V.int)))
    ⟨same_new hD _, upd_same⟩ (fun i H' _ p => p.1.seq hS) (fun i x H' hx p => ?_) (fun H' p => ?_)⟩
  · obtain ⟨k, hk, rfl⟩ := intAt hx
    refine ⟨rfl, _, rfl, .inl ⟨_, rfl, _, p.2, ?_, ?_, ?_⟩⟩
    · rw [List.length_map, List.length_take]
      exact small1000 (by omega)
    · intro b o e
      rw [upd_ne (ne_of_none e hD)]
      exact p.1 b o e
    · rw [upd_same, List.take_add_one, hk, List.map_append]
      rfl
  · rw [List.length_map, List.take_length] at p
    refine ⟨(by show 5 ≤ sizeLine; decide), fun l hl => ?_⟩
    have nDl : D ≠ l := ne_of_none p.2 hl
    refine q l D _ (p.1.free hl) hD ⟨0, 0, 7, ns, upd_same, Int.le_refl 0, by rw [upd_ne nDl]; exact p.2⟩ (p.1.trans (same_new hl _))
end

def spIsInt : Sp := fun vs H Q _ => ∃ i : Int, vs = [.int i] ∧ Q (.bl true) H
section
variable {P : Program} {w : World} {K : PySem.W.Frag} {mg : Str → Option Value} {base : Heap}
theorem ok_isInt {f : Addr} {fd : FuncData} (F : Fun K "_law_is_int" "_law_is_int" s_law_is_int f fd) (T : Txt mg) : FnOk P w K mg base CX0 1 f fd ["_law_thing"] spIsInt := by
  refine F.ok sc_law_is_int (fun vs H Q E h => ?_) (fun cdv A outer s H vs Q E hr h => ?_)
  · obtain ⟨i, rfl, _⟩ := h
    rfl
  obtain ⟨i, rfl, q⟩ := h
  refine ⟨_, (pss_one (ps_ret (pe_and (pe_callB (call_isi : CallR _ _ (rIsi K)) (by rfl) T.n_isinstance (by decide +kernel) (pa_cons (pv 0) (pa_cons (pe_bltn rfl T.n_int (by decide +kernel) (v := .ty "int") rfl) pa_nil))) (pe_one (pe_not (pe_callB (call_isi : CallR _ _ (rIsi K)) (by rfl) T.n_isinstance (by decide +kernel) (pa_cons (pv 0) (pa_cons (pe_bltn rfl T.n_bool (by decide +kernel) (v := .ty "bool") rfl) pa_nil)))))))), ?_⟩
  refine ⟨_, rfl, _, _, .type "int", .type "int", true, rfl, .ty "int", .base (.int i), kit_ty (by decide +kernel), true, rfl, ?_⟩
  refine iteT ?_
  refine ⟨_, rfl, _, _, .type "int", .type "bool", false, rfl, .ty "bool", .base (.int i), kit_ty (by decide +kernel), false, rfl, ?_⟩
  exact q
end

/-- a draw of an item of a list, which is taken out -/
def spPop : Sp := fun vs H Q _ => ∃ (d c l : Addr) (xs : List V), vs = [.ref d, .ref l] ∧ DS H d c ∧ H l = some (.lst xs) ∧ l ≠ d ∧ l ≠ c ∧ 1 ≤ xs.length ∧ xs.length ≤ 1000 ∧
  ∀ (k : Nat) (y : V) (H' : Hp), xs[k]? = some y → DS H' d c → H' l = some (.lst (xs.eraseIdx k)) → Keep [d, l] H H' → Q y H'
section
variable {P : Program} {w : World} {K : PySem.W.Frag} {mg : Str → Option Value} {base : Heap}
theorem ok_pop {f : Addr} {fd : FuncData} (F : Fun K "_law_pop" "_law_pop" s_law_pop f fd) (T : Txt mg) (D_law_draw : Dn P w K mg base "_law_draw" ["_law_d", "_law_many"] 1 spDraw) :
    FnOk P w K mg base CX0 2 f fd ["_law_d", "_law_row"] spPop := by
  refine F.ok sc_law_pop (fun vs H Q E h => ?_) (fun cdv A outer s H vs Q E hr h => ?_)
  · obtain ⟨d, c, l, xs, rfl, _⟩ := h
    rfl
  obtain ⟨d, c, l, xs, rfl, hd, hl, nld, nlc, h1, h2, q⟩ := h
  refine ⟨_, (pss_one (ps_ret (pe_bm PySem.F.plainAttrs_list PySem.F.slot_list_pop PySem.F.type_list_pop mt_popAt (pv 1) (pa_cons (pe_dn D_law_draw (hr.mono (by decide)) (by rfl) (pa_cons (pv 0) (pa_cons (pe_callB call_len_seq (by rfl) T.n_len (by decide +kernel) (pa_cons (pv 1) pa_nil)) pa_nil))) pa_nil)))), ?_⟩
  refine ⟨_, rfl, .inl ⟨rfl, _, SqL.of hl⟩, _, rfl, _, rfl, l, _, rfl, .inl (SqL.of hl), d, c, _, rfl, hd, (by omega), (by omega), fun r H' r0 r1 hd' k1 => ?_⟩
  have hl' : H' l = some (.lst xs) := k1 _ _ (by simp [nld]) hl
  have hk : r.toNat < xs.length := by omega
  refine ⟨l, xs, r, r.toNat, xs[r.toNat], rfl, rfl, hl', by omega, by omega, seqIndex_of r0 (by omega), List.getElem?_eq_getElem hk, ?_⟩
  refine q _ _ _ (List.getElem?_eq_getElem hk) (hd'.keep (S := [l]) (Keep.upd (by simp)) (by simp [nld.symm]) (by simp [nlc.symm])) upd_same ((k1.wide (by simp)).trans (Keep.upd (by simp)))
end

end Bf

set_option Elab.async false
set_option linter.all false
set_option maxRecDepth 100000
set_option maxHeartbeats 4000000
namespace Bf
open PySem PySem.Spec PyProof.Rows L2
/-! ### the defs over ports and bits -/
/-- the ports: at each address a pair of a name and a width -/
def PT (H : Hp) (ts : List Addr) (ws : List Nat) : Prop := ts.length = ws.length ∧ ∀ (i : Nat) (t : Addr) (w : Nat), ts[i]? = some t → ws[i]? = some w → w ≤ 8 ∧ ∃ z : Str, H t = some (.tup [.str z, vI w])
theorem PT.same {H H' : Hp} {ts : List Addr} {ws : List Nat} (h : PT H ts ws) (k : Same H H') : PT H' ts ws :=
  ⟨h.1, fun i t w a b => let ⟨l, z, e⟩ := h.2 i t w a b; ⟨l, z, k _ _ e⟩⟩
theorem refAt {ts : List Addr} {i : Nat} {x : V} (h : (ts.map V.ref)[i]? = some x) : ∃ t, ts[i]? = some t ∧ x = .ref t := by
  rw [List.getElem?_map] at h
  cases e : ts[i]? with
  | none => rw [e] at h; cases h
  | some k => rw [e] at h; exact ⟨k, rfl, (Option.some.inj h).symm⟩
theorem natAt {xs : List Nat} {i : Nat} {x : V} (h : (xs.map vI)[i]? = some x) : ∃ k, xs[i]? = some k ∧ x = vI k := by
  rw [List.getElem?_map] at h
  cases e : xs[i]? with
  | none => rw [e] at h; cases h
  | some k => rw [e] at h; exact ⟨k, rfl, (Option.some.inj h).symm⟩
theorem take_snoc {α : Type} {l : List α} {i : Nat} {x : α} (h : l[i]? = some x) : l.take (i + 1) = l.take i ++ [x] := by
  rw [List.take_add_one, h]
  rfl
theorem same_two {H H' : Hp} {p : Addr} {o : HO} (k : Same H H') (hp : H p = none) : Same H (upd H' p o) := fun b u q => by
  rw [upd_ne (ne_of_none q hp)]
  exact k _ _ q
theorem i62 {n : Nat} (h : n ≤ 1000) : -(2 ^ 62) ≤ (n : Int) ∧ (n : Int) < 2 ^ 62 := by
  have a : (-(2 ^ 62) : Int) ≤ 0 := by decide
  have b : (1001 : Int) ≤ 2 ^ 62 := by decide
  exact ⟨Int.le_trans a (Int.natCast_nonneg _), Int.lt_of_lt_of_le (by omega) b⟩
theorem shl_okB {k : Nat} (h : k < 2) : (k : Int).natAbs < 2 ^ 64 := by
  have q : 2 ≤ 2 ^ 64 := by decide
  rw [Int.natAbs_natCast]
  exact Nat.lt_of_lt_of_le h q
theorem val_cast (v k i : Nat) : vI (v + k * 2 ^ i) = V.int ((v : Int) + (k : Int) * 2 ^ ((i : Int)).toNat) := by
  show V.int (((v + k * 2 ^ i : Nat)) : Int) = _
  rw [Int.toNat_natCast]
  congr 1
theorem rdSl {K : PySem.W.Frag} {H : Hp} {b : Addr} {bs : List Nat} {at_ n : Nat} {Q : VK} (hb : SqT K H b (bs.map vI)) (h : at_ + n ≤ bs.length)
    (k : ∀ (t : Addr) (H' : Hp), Same H H' → SqT K H' t (((bs.drop at_).take n).map vI) → Q (.ref t) H') : rSlA K (.ref b) (some (at_ : Int)) (some ((at_ : Int) + (n : Int))) H Q := by
  have e1 : (at_ : Int) + (n : Int) = ((at_ + n : Nat) : Int) := by omega
  rw [e1]
  refine ⟨b, bs.map vI, rfl, hb, fun hw => ?_, fun hw p hp => ?_⟩
  · rw [HT.sIx_nat, HT.sIx_nat, List.length_map] at hw
    obtain ⟨w1, w2⟩ := hw
    have z1 : at_ = 0 := by omega
    have z2 : n = bs.length := by omega
    subst z1 z2
    refine k b H (Same.refl _) ?_
    rw [List.drop_zero, List.take_length]
    exact hb
  · refine k p _ (same_new hp _) ?_
    have e : cutV (bs.map vI) (some (at_ : Int)) (some ((at_ + n : Nat) : Int)) = ((bs.drop at_).take n).map vI := by
      unfold cutV
      rw [HT.sIx_nat, HT.sIx_nat, List.length_map, Nat.min_eq_left h, Nat.min_eq_left (show at_ ≤ bs.length by omega), ← List.map_drop, ← List.map_take, show at_ + n - at_ = n by omega]
    rw [← e]
    exact SqT.of upd_same
theorem sum8 : ∀ (ws : List Nat), (∀ w ∈ ws, w ≤ 8) → ws.sum ≤ 8 * ws.length
  | [], _ => by simp
  | w :: ws, h => by
    have := sum8 ws fun x hx => h x (by simp [hx])
    have := h w (by simp)
    rw [List.sum_cons, List.length_cons]
    omega
theorem PT.le {H : Hp} {ts : List Addr} {ws : List Nat} (h : PT H ts ws) : ∀ w ∈ ws, w ≤ 8 := fun w hw => by
  obtain ⟨i, hi⟩ := List.mem_iff_getElem?.mp hw
  have q := (List.getElem?_eq_some_iff.mp hi).1
  have q2 : i < ts.length := by rw [h.1]; exact q
  exact (h.2 i _ w (List.getElem?_eq_getElem q2) hi).1
theorem PT.get {H : Hp} {ts : List Addr} {ws : List Nat} (h : PT H ts ws) {i : Nat} {t : Addr} (ht : ts[i]? = some t) : ∃ (w : Nat) (z : Str), ws[i]? = some w ∧ w ≤ 8 ∧ H t = some (.tup [.str z, vI w]) := by
  have q := (List.getElem?_eq_some_iff.mp ht).1
  have q2 : i < ws.length := by rw [← h.1]; exact q
  obtain ⟨l, z, e⟩ := h.2 i t _ ht (List.getElem?_eq_getElem q2)
  exact ⟨_, z, List.getElem?_eq_getElem q2, l, e⟩
theorem mem_take {l : List Nat} {i x : Nat} (h : x ∈ l.take i) : x ∈ l := List.mem_of_mem_take h
theorem sum_take (ws : List Nat) (i n : Nat) (h : ws[i]? = some n) : (ws.take i).sum + n ≤ ws.sum := by
  have e : ws.sum = (ws.take (i + 1)).sum + (ws.drop (i + 1)).sum := by rw [← List.sum_append, List.take_append_drop]
  rw [e, take_snoc h, List.sum_append]
  simp
def spBits : Sp := fun vs H Q _ => ∃ n x : Nat, vs = [vI n, vI x] ∧ n ≤ 1000 ∧ ∀ (t : Addr) (H' : Hp), Same H H' → H t = none → H' t = some (.tup ((bitsN n x).map vI)) → Q (.ref t) H'
def spFrom (K : PySem.W.Frag) : Sp := fun vs H Q _ => ∃ (a : Addr) (bs : List Nat), vs = [.ref a] ∧ SqT K H a (bs.map vI) ∧ (∀ b ∈ bs, b < 2) ∧ bs.length ≤ 1000 ∧ ∀ H' : Hp, Same H H' → Q (vI (valN bs)) H'
def spSplit (K : PySem.W.Frag) : Sp := fun vs H Q _ => ∃ (S1 S2 : Src) (a b : Addr) (ts : List Addr) (ws xs : List Nat), vs = [.ref a, .ref b] ∧ S1.sq K H a (ts.map V.ref) ∧ S2.sq K H b (xs.map vI) ∧ PT H ts ws ∧ ws.length = xs.length ∧ ws.length ≤ 100 ∧
  ∀ (t : Addr) (H' : Hp), Same H H' → H t = none → H' t = some (.tup ((splN ws xs).map vI)) → Q (.ref t) H'
def spJoin (K : PySem.W.Frag) : Sp := fun vs H Q _ => ∃ (a b : Addr) (ts : List Addr) (ws bs : List Nat), vs = [.ref a, .ref b] ∧ SqT K H a (ts.map V.ref) ∧ SqT K H b (bs.map vI) ∧ PT H ts ws ∧ bs.length = ws.sum ∧ (∀ b ∈ bs, b < 2) ∧ ws.length ≤ 100 ∧
  ∀ (t : Addr) (H' : Hp), Same H H' → H t = none → H' t = some (.tup ((joiN ws bs).map vI)) → Q (.ref t) H'
def spInts (K : PySem.W.Frag) : Sp := fun vs H Q _ => ∃ (a : Addr) (ns : List Nat), vs = [.ref a] ∧ SqT K H a (ns.map vI) ∧ H a = some (.tup (ns.map vI)) ∧ ns.length ≤ 1000 ∧ ∀ H' : Hp, Same H H' → Q (.bl true) H'
def spPool : Sp := fun vs H Q _ => vs = [] ∧ ∀ (p : Addr) (xs : List Str), H p = none → xs.length = 61 → Q (.ref p) (upd H p (.lst (xs.map V.str)))
section
variable {P : Program} {w : World} {K : PySem.W.Frag} {mg : Str → Option Value} {base : Heap} {f : Addr} {fd : FuncData}
theorem ok_bits (F : Fun K "to_bits" "to_bits" s_to_bits f fd) (T : Txt mg) : FnOk P w K mg base CX0 1 f fd ["width", "word"] spBits := by
  refine F.ok sc_to_bits (fun vs H Q E h => ?_) (fun cdv A outer s H vs Q E hr h => ?_)
  · obtain ⟨n, x, rfl, _⟩ := h
    rfl
  obtain ⟨n, x, rfl, hn, q⟩ := h
  refine ⟨_, (pss_one (ps_ret (pe_callTy call_tuple_of (by rfl) T.n_tuple (by decide +kernel) (pa_cons (pe_lc (own := [("at", 2)]) (g := gName 2) (tt := tYes) rfl sc_to_bits.nd (pi_range1 rfl T.n_range (pa_cons (pv 0) pa_nil)) (blkOk_by (N := ["width", "word", "at"]) (sc := defScope s_to_bits) (by decide +kernel)) (fun _ _ _ _ _ => (pg_name (i := 2) sc_to_bits.nd rfl (Or.inl rfl))) (fun _ _ _ _ _ => pts_nil) (fun _ _ _ _ _ => (pe_op op_odd (pe_op op_shrN (pv 1) (pv 2)) pe_int))) pa_nil)))), ?_⟩
  refine ⟨_, rfl, (n : Int), rfl, (i62 hn).1, (i62 hn).2, fun D hD => lc_range (lo := 0) (n := n) (fun i H' => Same H H' ∧ H' D = some (.lst ((bitsN i x).map vI)))
    ⟨same_new hD _, upd_same⟩ (fun i H' hi p => ?_) (fun H' p => ?_)⟩
  · refine ⟨rfl, _, rfl, _, rfl, (x : Int), i, rfl, congrArg V.int (by omega), x / 2 ^ i, congrArg V.int (by simp), rfl, _, p.2, ?_, same_two p.1 hD, ?_⟩
    · rw [List.length_map, bitsN_len]
      exact small1000 (by omega)
    · rw [upd_same, bitsN_succ, List.map_append]
      rfl
  · exact ⟨D, _, rfl, .inl ⟨SqL.of p.2, fun l hl => q l _ (p.1.trans (same_new hl _)) (p.1.free hl) upd_same⟩⟩
theorem ok_from (F : Fun K "from_bits" "from_bits" s_from_bits f fd) (T : Txt mg) : FnOk P w K mg base CX0 1 f fd ["bits"] (spFrom K) := by
  refine F.ok sc_from_bits (fun vs H Q E h => ?_) (fun cdv A outer s H vs Q E hr h => ?_)
  · obtain ⟨a, bs, rfl, _⟩ := h
    rfl
  obtain ⟨a, bs, rfl, ha, hb, hl, q⟩ := h
  refine ⟨_, (pss_cons (ps_set (i := 1) sc_from_bits.nd rfl (Or.inl rfl) pe_int)
      (pss_cons (ps_for PassesOwn.never rfl (pi_enumX (by rfl) T.n_enumerate (pa_cons (pv 0) pa_nil)) (pg_tup rfl (pgs_cons (pg_name (i := 2) sc_from_bits.nd rfl (Or.inl rfl)) (pgs_cons (pg_name (i := 3) sc_from_bits.nd rfl (Or.inl rfl)) pgs_nil))) (pss_one (ps_set (i := 1) sc_from_bits.nd rfl (Or.inl rfl) (pe_op op_add (pv 1) (pe_op op_shl (pv 3) (pv 2))))))
      (pss_one (ps_ret (pv 1))))), ?_⟩
  refine ⟨_, rfl, srcT, a, bs.map vI, rfl, ha, for_enumG srcT (xs := bs.map vI) (fun i σ' H' => ∃ s2 s3 : Option V, σ' = [some (.ref a), some (vI (valN (bs.take i))), s2, s3] ∧ Same H H') ⟨none, none, rfl, Same.refl _⟩ (fun i σ' H' p => ?_) (fun i x T' σ' H' hx p hT => ?_) (fun σ' H' p => ?_)⟩
  · obtain ⟨_, _, _, sm⟩ := p
    exact seqT_same sm ha
  · obtain ⟨s2, s3, rfl, sm⟩ := p
    obtain ⟨k, hk, rfl⟩ := natAt hx
    have hi := (List.getElem?_eq_some_iff.mp hk).1
    have k2 : k < 2 := hb k (List.mem_of_getElem? hk)
    refine ⟨T', _, rfl, SqT.of upd_same, rfl, _, _, rfl, _, _, rfl, rfl, _, rfl, _, rfl, _, rfl, (k : Int), (i : Int), rfl, rfl, ⟨Int.natCast_nonneg _, (by omega), shl_okB k2⟩, _, _, rfl, rfl, some (.int (i : Nat)), some (vI k), ?_, sm.trans (same_new hT _)⟩
    rw [take_snoc hk, valN_snoc, List.length_take, Nat.min_eq_left (Nat.le_of_lt hi)]
    show _ = [some (V.ref a), some (vI (valN (List.take i bs) + k * 2 ^ i)), _, _]
    rw [val_cast]
    rfl
  · obtain ⟨s2, s3, rfl, sm⟩ := p
    rw [List.length_map, List.take_length]
    exact ⟨_, rfl, q _ sm⟩
theorem ok_split (F : Fun K "split_ports" "split_ports" s_split_ports f fd) (T : Txt mg) (D_to_bits : Dn P w K mg base "to_bits" ["width", "word"] 1 spBits) : FnOk P w K mg base CX0 2 f fd ["ports", "words"] (spSplit K) := by
  refine F.ok sc_split_ports (fun vs H Q E h => ?_) (fun cdv A outer s H vs Q E hr h => ?_)
  · obtain ⟨S1, S2, a, b, ts, ws, xs, rfl, _⟩ := h
    rfl
  obtain ⟨S1, S2, a, b, ts, ws, xs, rfl, ha, hb, hp, hl, h100, q⟩ := h
  refine ⟨_, (pss_cons (ps_set (i := 2) sc_split_ports.nd rfl (Or.inl rfl) (pe_lst pa_nil))
      (pss_cons (ps_for PassesOwn.never rfl (pi_zipX (by rfl) T.n_zip (pa_cons (pv 0) (pa_cons (pv 1) pa_nil))) (pg_tup rfl (pgs_cons (pg_tup rfl (pgs_cons (pg_name (i := 3) sc_split_ports.nd rfl (Or.inl rfl)) (pgs_cons (pg_name (i := 4) sc_split_ports.nd rfl (Or.inl rfl)) pgs_nil))) (pgs_cons (pg_name (i := 5) sc_split_ports.nd rfl (Or.inl rfl)) pgs_nil))) (pss_one (ps_expr (pe_bm PySem.F.plainAttrs_list PySem.F.slot_list_extend PySem.F.type_list_extend mt_extT (pv 2) (pa_cons (pe_dn D_to_bits (hr.mono (by decide)) (by rfl) (pa_cons (pv 4) (pa_cons (pv 5) pa_nil))) pa_nil)))))
      (pss_one (ps_ret (pe_callTy call_tuple_of (by rfl) T.n_tuple (by decide +kernel) (pa_cons (pv 2) pa_nil)))))), ?_⟩
  refine ⟨Nat.zero_le _, fun p hp0 => ?_⟩
  have lt : ts.length = ws.length := hp.1
  refine ⟨_, rfl, _, rfl, S1, S2, a, b, ts.map V.ref, xs.map vI, rfl, S1.keep (same_new hp0 _) ha, S2.keep (same_new hp0 _) hb, for_zipG S1 S2 (xs := ts.map V.ref) (ys := xs.map vI) (by rw [List.length_map, List.length_map]; omega)
    (fun i σ' H' => ∃ s3 s4 s5 : Option V, σ' = [some (.ref a), some (.ref b), some (.ref p), s3, s4, s5] ∧ Same H H' ∧ H' p = some (.lst ((splN (ws.take i) (xs.take i)).map vI)))
    ⟨none, none, none, rfl, same_new hp0 _, upd_same⟩ (fun i σ' H' pv => ?_) (fun i x y T' σ' H' hx hy pv hT => ?_) (fun σ' H' pv => ?_)⟩
  · obtain ⟨_, _, _, _, sm, _⟩ := pv
    exact ⟨S1.keep sm ha, S2.keep sm hb⟩
  · obtain ⟨s3, s4, s5, rfl, sm, hf⟩ := pv
    obtain ⟨t, ht, rfl⟩ := refAt hx
    obtain ⟨k, hk, rfl⟩ := natAt hy
    obtain ⟨n, z, hn, n8, et⟩ := (hp.same sm).get ht
    have et2 := same_new hT (.tup [.ref t, vI k]) _ _ et
    have hi := (List.getElem?_eq_some_iff.mp hk).1
    have hf2 := same_new hT (.tup [.ref t, vI k]) _ _ hf
    refine ⟨T', _, rfl, SqT.of upd_same, rfl, _, _, rfl, ⟨t, _, rfl, SqT.of et2, rfl, _, _, rfl, _, _, rfl, rfl, _, _, rfl, rfl, ?_⟩⟩
    refine ⟨_, rfl, .inl ⟨rfl, _, SqL.of hf2⟩, _, rfl, _, rfl, n, k, rfl, by omega, fun t2 H3 s3' hn2 ht2 => ?_⟩
    refine ⟨p, t2, _, _, rfl, rfl, s3' _ _ hf2, SqT.of ht2, ?_, some (.str z), some (vI n), some (vI k), rfl, ?_, ?_⟩
    · rw [List.length_map, List.length_map, bitsN_len, splN_len _ _ (by rw [List.length_take, List.length_take]; omega)]
      have h1 := sum8 (ws.take i) fun w hw => hp.le w (mem_take hw)
      have h2 : (ws.take i).length ≤ 100 := by rw [List.length_take]; omega
      exact le1000 (by omega)
    · exact same_two ((sm.trans (same_new hT _)).trans s3') hp0
    · rw [upd_same, take_snoc hn, take_snoc hk, splN_snoc _ _ _ _ (by rw [List.length_take, List.length_take]; omega), List.map_append]
  · obtain ⟨s3, s4, s5, rfl, sm, hf⟩ := pv
    rw [List.length_map, lt, List.take_length, hl, List.take_length] at hf
    exact ⟨_, rfl, p, _, rfl, .inl ⟨SqL.of hf, fun l hl' => q l _ (sm.trans (same_new hl' _)) (sm.free hl') upd_same⟩⟩
theorem ok_join (F : Fun K "join_ports" "join_ports" s_join_ports f fd) (T : Txt mg) (D_from_bits : Dn P w K mg base "from_bits" ["bits"] 1 (spFrom K)) : FnOk P w K mg base CX0 2 f fd ["ports", "bits"] (spJoin K) := by
  refine F.ok sc_join_ports (fun vs H Q E h => ?_) (fun cdv A outer s H vs Q E hr h => ?_)
  · obtain ⟨a, b, ts, ws, bs, rfl, _⟩ := h
    rfl
  obtain ⟨a, b, ts, ws, bs, rfl, ha, hb, hp, hl, h2, h100, q⟩ := h
  refine ⟨_, (pss_cons (ps_set (i := 2) sc_join_ports.nd rfl (Or.inl rfl) (pe_lst pa_nil))
      (pss_cons (ps_set (i := 3) sc_join_ports.nd rfl (Or.inl rfl) pe_int)
      (pss_cons (ps_for PassesOwn.never rfl (pi_tup (pv 0)) (pg_tup rfl (pgs_cons (pg_name (i := 4) sc_join_ports.nd rfl (Or.inl rfl)) (pgs_cons (pg_name (i := 5) sc_join_ports.nd rfl (Or.inl rfl)) pgs_nil))) (pss_cons (ps_expr (pe_bm PySem.F.plainAttrs_list PySem.F.slot_list_append PySem.F.type_list_append mt_append (pv 2) (pa_cons (pe_dn D_from_bits (hr.mono (by decide)) (by rfl) (pa_cons (pe_slice sl_tupA (pv 1) (po_some (pv 3)) (po_some (pe_op op_add (pv 3) (pv 5)))) pa_nil)) pa_nil)))
      (pss_one (ps_set (i := 3) sc_join_ports.nd rfl (Or.inl rfl) (pe_op op_add (pv 3) (pv 5))))))
      (pss_one (ps_ret (pe_callTy call_tuple_of (by rfl) T.n_tuple (by decide +kernel) (pa_cons (pv 2) pa_nil))))))), ?_⟩
  refine ⟨Nat.zero_le _, fun p hp0 => ?_⟩
  have lt : ts.length = ws.length := hp.1
  have sb := sum8 ws hp.le
  refine ⟨_, rfl, a, rfl, ⟨_, seqT_same (same_new hp0 _) ha⟩, for_it (walk_tup (xs := ts.map V.ref)) (fun i σ' H' => ∃ s4 s5 : Option V, σ' = [some (.ref a), some (.ref b), some (.ref p), some (vI ((ws.take i).sum)), s4, s5] ∧ Same H H' ∧ H' p = some (.lst ((joiN (ws.take i) bs).map vI)))
    ⟨none, none, rfl, same_new hp0 _, upd_same⟩ (fun i σ' H' hi pv => ?_) (fun i x σ' H' H2 hi pv y => ?_) (fun σ' H' pv => ?_)⟩
  · obtain ⟨_, _, _, sm, _⟩ := pv
    exact seqT_same sm ha
  · obtain ⟨s4, s5, rfl, sm, hf⟩ := pv
    obtain ⟨rfl, hx⟩ := y
    obtain ⟨t, ht, rfl⟩ := refAt hx
    obtain ⟨n, z, hn, n8, et⟩ := (hp.same sm).get ht
    have hi := (List.getElem?_eq_some_iff.mp hn).1
    have es : (ws.take i).sum + n ≤ bs.length := by
      have := sum_take ws i n hn
      omega
    refine ⟨t, _, rfl, SqT.of et, rfl, _, _, rfl, _, _, rfl, rfl, ?_⟩
    refine ⟨_, rfl, .inl ⟨rfl, _, SqL.of hf⟩, _, rfl, _, rfl, _, rfl, _, rfl, _, rfl, _, _, rfl, rfl, _, rfl, rdSl (seqT_same sm hb) es fun t2 H3 s3 ht2 => ?_⟩
    refine ⟨t2, _, rfl, ht2, fun b hb' => h2 b (List.mem_of_mem_drop (List.mem_of_mem_take hb')), ?_, fun H4 s4' => ?_⟩
    · rw [List.length_take, List.length_drop]
      omega
    have hf4 := s4' _ _ (s3 _ _ hf)
    refine ⟨p, _, _, rfl, rfl, hf4, ?_, _, rfl, _, rfl, _, _, rfl, rfl, some (.str z), some (vI n), ?_, same_two ((sm.trans s3).trans s4') hp0, ?_⟩
    · rw [List.length_map, joiN_len, List.length_take]
      exact small1000 (by omega)
    · rw [take_snoc hn, List.sum_append]
      show _ = [_, _, _, some (V.int (((ws.take i).sum + (n + 0) : Nat) : Int)), _, _]
      rw [Nat.add_zero, Int.natCast_add]
      rfl
    · rw [upd_same, take_snoc hn, joiN_snoc, List.map_append]
      rfl
  · obtain ⟨s4, s5, rfl, sm, hf⟩ := pv
    rw [List.length_map, lt, List.take_length] at hf
    exact ⟨_, rfl, p, _, rfl, .inl ⟨SqL.of hf, fun l hl' => q l _ (sm.trans (same_new hl' _)) (sm.free hl') upd_same⟩⟩
end
end Bf

set_option Elab.async false
set_option linter.all false
set_option maxRecDepth 100000
set_option maxHeartbeats 4000000
namespace Bf
open PySem PySem.Spec PyProof.Rows L2
/-! ### the law's own defs -/
theorem pow_small {k : Nat} (h : k ≤ 9) : (0 : Int) < 2 ^ k ∧ (2 : Int) ^ k < 1073741824 := by
  have a : (2 : Nat) ^ k ≤ 2 ^ 9 := Nat.pow_le_pow_right (by decide) h
  have b : ((2 ^ k : Nat) : Int) = (2 : Int) ^ k := by simp
  have c : (0 : Nat) < 2 ^ k := Nat.pow_pos (by decide)
  rw [← b]
  constructor
  · exact Int.ofNat_lt.mpr c
  · have : (2 : Nat) ^ k < 1073741824 := Nat.lt_of_le_of_lt a (by decide)
    exact Int.ofNat_lt.mpr this
theorem bit_int (x k : Nat) : (x : Int) / 2 ^ k - 2 * ((x : Int) / 2 ^ (k + 1)) = ((x / 2 ^ k % 2 : Nat) : Int) := by
  have e1 : (x : Int) / 2 ^ k = ((x / 2 ^ k : Nat) : Int) := by simp
  have e2 : (x : Int) / 2 ^ (k + 1) = ((x / 2 ^ k / 2 : Nat) : Int) := by
    rw [Nat.div_div_eq_div_mul, ← Nat.pow_succ]
    simp
  rw [e1, e2]
  omega
theorem all_true : ∀ n : Nat, (List.replicate n true).all id = true
  | 0 => rfl
  | n + 1 => by
    rw [List.replicate_succ, List.all_cons, all_true n]
    rfl
theorem mul_okB {k : Nat} (h : k < 2) : -(2 ^ 64) < (k : Int) ∧ (k : Int) < 2 ^ 64 := by
  have a : (2 : Int) ≤ 2 ^ 64 := by decide
  have b : (-(2 ^ 64) : Int) < 0 := by decide
  exact ⟨Int.lt_of_lt_of_le b (Int.natCast_nonneg _), Int.lt_of_lt_of_le (by omega) a⟩
section
variable {P : Program} {w : World} {K : PySem.W.Frag} {mg : Str → Option Value} {base : Heap} {f : Addr} {fd : FuncData}
theorem ok_ints (F : Fun K "_law_is_ints" "_law_is_ints" s_law_is_ints f fd) (T : Txt mg) (D_law_is_int : Dn P w K mg base "_law_is_int" ["_law_thing"] 1 spIsInt) : FnOk P w K mg base CX0 2 f fd ["_law_row"] (spInts K) := by
  refine F.ok sc_law_is_ints (fun vs H Q E h => ?_) (fun cdv A outer s H vs Q E hr h => ?_)
  · obtain ⟨a, ns, rfl, _⟩ := h
    rfl
  obtain ⟨a, ns, rfl, ha, hA, hl, q⟩ := h
  refine ⟨_, (pss_one (ps_ret (pe_and (pe_callB (call_isi : CallR _ _ (rIsi K)) (by rfl) T.n_isinstance (by decide +kernel) (pa_cons (pv 0) (pa_cons (pe_bltn rfl T.n_tuple (by decide +kernel) (v := .ty "tuple") rfl) pa_nil))) (pe_one (pe_callB (cr_all rfl) (by rfl) T.n_all (by decide +kernel) (pa_cons (pe_lc (own := [("_law_part", 1)]) (g := gName 1) (tt := tYes) rfl sc_law_is_ints.nd (pi_tup (pv 0)) (blkOk_by (N := ["_law_row", "_law_part"]) (sc := defScope s_law_is_ints) (by decide +kernel)) (fun _ _ _ _ _ => (pg_name (i := 1) sc_law_is_ints.nd rfl (Or.inl rfl))) (fun _ _ _ _ _ => pts_nil) (fun _ _ _ _ _ => (pe_dn D_law_is_int (hr.mono (by decide)) (by rfl) (pa_cons (pv 1) pa_nil)))) pa_nil)))))), ?_⟩
  refine ⟨_, rfl, _, _, .type "tuple", .type "tuple", true, rfl, .ty "tuple", .base (.tup hA), kit_ty (by decide +kernel), true, rfl, ?_⟩
  refine iteT ?_
  refine ⟨_, rfl, a, rfl, ⟨_, ha⟩, fun D hD => lc_tup (K := K) (a := a) (xs := ns.map vI) (fun i H' => Same H H' ∧ H' D = some (.lst ((List.replicate i true).map V.bl)))
    ⟨same_new hD _, upd_same⟩ (fun i H' _ p => seqT_same p.1 ha) (fun i x H' hx p => ?_) (fun H' p => ?_)⟩
  · obtain ⟨k, hk, rfl⟩ := natAt hx
    have hi := (List.getElem?_eq_some_iff.mp hk).1
    refine ⟨rfl, _, rfl, (k : Int), rfl, _, p.2, ?_, same_two p.1 hD, ?_⟩
    · rw [List.length_map, List.length_replicate]
      exact small1000 (by omega)
    · rw [upd_same, List.replicate_succ', List.map_append]
      rfl
  · refine ⟨D, _, rfl, SqL.of p.2, ?_⟩
    rw [all_true]
    exact q _ p.1
theorem ok_pool (F : Fun K "_law_pool" "_law_pool" s_law_pool f fd) : FnOk P w K mg base CX0 1 f fd [] spPool := by
  refine F.ok sc_law_pool (fun vs H Q E h => ?_) (fun cdv A outer s H vs Q E hr h => ?_)
  · rw [h.1]
    rfl
  obtain ⟨rfl, q⟩ := h
  refine ⟨_, (pss_cons (ps_set (i := 0) sc_law_pool.nd rfl (Or.inl rfl) pe_str)
      (pss_cons (ps_set (i := 0) sc_law_pool.nd rfl (Or.inl rfl) (pe_op op_add_str (pv 0) pe_str))
      (pss_one (ps_ret (pe_split (pe_op op_add_str (pv 0) pe_str) pe_str))))), ?_⟩
  refine ⟨_, rfl, _, _, rfl, rfl, (by decide +kernel), _, rfl, _, _, rfl, rfl, (by decide +kernel), ?_⟩
  exact ⟨⟨_, rfl⟩, _, _, rfl, rfl, (by decide +kernel), (by decide +kernel), fun p hp => q p _ hp (by decide +kernel)⟩
theorem ok_lsplit (F : Fun K "_law_split" "_law_split" s_law_split f fd) (T : Txt mg) : FnOk P w K mg base CX0 1 f fd ["_law_ports", "_law_words"] (spSplit K) := by
  refine F.ok sc_law_split (fun vs H Q E h => ?_) (fun cdv A outer s H vs Q E hr h => ?_)
  · obtain ⟨S1, S2, a, b, ts, ws, xs, rfl, _⟩ := h
    rfl
  obtain ⟨S1, S2, a, b, ts, ws, xs, rfl, ha, hb, hp, hl, h100, q⟩ := h
  refine ⟨_, (pss_cons (ps_set (i := 2) sc_law_split.nd rfl (Or.inl rfl) (pe_lst pa_nil))
      (pss_cons (ps_for PassesOwn.never rfl (pi_zipX (by rfl) T.n_zip (pa_cons (pv 0) (pa_cons (pv 1) pa_nil))) (pg_tup rfl (pgs_cons (pg_name (i := 3) sc_law_split.nd rfl (Or.inl rfl)) (pgs_cons (pg_name (i := 4) sc_law_split.nd rfl (Or.inl rfl)) pgs_nil))) (pss_one (ps_for PassesOwn.never rfl (pi_range1 rfl T.n_range (pa_cons (pe_ix ix_tup (pv 3) pe_int (fun _ _ => rfl)) pa_nil)) (pg_name (i := 5) sc_law_split.nd rfl (Or.inl rfl)) (pss_one (ps_expr (pe_bm PySem.F.plainAttrs_list PySem.F.slot_list_append PySem.F.type_list_append mt_append (pv 2) (pa_cons (pe_op op_sub (pe_op op_fdiv (pv 4) (pe_op op_oneShl pe_int (pv 5))) (pe_op op_mul pe_int (pe_op op_fdiv (pv 4) (pe_op op_oneShl pe_int (pe_op op_add (pv 5) pe_int))))) pa_nil)))))))
      (pss_one (ps_ret (pe_callTy call_tuple_of (by rfl) T.n_tuple (by decide +kernel) (pa_cons (pv 2) pa_nil)))))), ?_⟩
  refine ⟨Nat.zero_le _, fun p hp0 => ?_⟩
  have lt : ts.length = ws.length := hp.1
  refine ⟨_, rfl, _, rfl, S1, S2, a, b, ts.map V.ref, xs.map vI, rfl, S1.keep (same_new hp0 _) ha, S2.keep (same_new hp0 _) hb, for_zipG S1 S2 (xs := ts.map V.ref) (ys := xs.map vI) (by rw [List.length_map, List.length_map]; omega)
    (fun i σ' H' => ∃ s3 s4 s5 : Option V, σ' = [some (.ref a), some (.ref b), some (.ref p), s3, s4, s5] ∧ Same H H' ∧ H' p = some (.lst ((splN (ws.take i) (xs.take i)).map vI)))
    ⟨none, none, none, rfl, same_new hp0 _, upd_same⟩ (fun i σ' H' pv => ?_) (fun i x y T' σ' H' hx hy pv hT => ?_) (fun σ' H' pv => ?_)⟩
  · obtain ⟨_, _, _, _, sm, _⟩ := pv
    exact ⟨S1.keep sm ha, S2.keep sm hb⟩
  · obtain ⟨s3, s4, s5, rfl, sm, hf⟩ := pv
    obtain ⟨t, ht, rfl⟩ := refAt hx
    obtain ⟨k, hk, rfl⟩ := natAt hy
    obtain ⟨n, z, hn, n8, et⟩ := (hp.same sm).get ht
    have et2 := same_new hT (.tup [.ref t, vI k]) _ _ et
    have hi := (List.getElem?_eq_some_iff.mp hk).1
    have hf2 := same_new hT (.tup [.ref t, vI k]) _ _ hf
    refine ⟨T', _, rfl, SqT.of upd_same, rfl, _, _, rfl, _, _, rfl, rfl, ?_⟩
    refine ⟨_, rfl, ⟨t, _, _, _, rfl, rfl, SqT.of et2, atI_nat (j := 1) rfl, ?_⟩⟩
    refine ⟨(n : Int), rfl, (i62 (by omega)).1, (i62 (by omega)).2, for_it walk_range (fun j σ' H4 => ∃ s5 : Option V, σ' = [some (.ref a), some (.ref b), some (.ref p), some (.ref t), some (vI k), s5] ∧ Same H H4 ∧ H4 p = some (.lst ((splN (ws.take i) (xs.take i) ++ bitsN j k).map vI)))
      ⟨_, rfl, sm.trans (same_new hT _), by rw [hf2]; simp [bitsN]⟩ (fun _ _ _ _ _ => trivial) (fun j x σ' H4 H5 hj pv y => ?_) (fun σ' H4 pv => ?_)⟩
    · obtain ⟨s5', rfl, sm4, hf4⟩ := pv
      obtain ⟨rfl, rfl⟩ := y
      have hj' : j < n := by simpa using hj
      refine ⟨_, rfl, .inl ⟨rfl, _, SqL.of hf4⟩, ?_⟩
      refine ⟨_, rfl, _, rfl, j, rfl, congrArg V.int (by omega), by omega, (k : Int), 2 ^ j, rfl, rfl, pow_small (by omega), _, rfl, _, rfl, _, _, rfl, rfl, j + 1, rfl, congrArg V.int (by omega), by omega, (k : Int), 2 ^ (j + 1), rfl, rfl, pow_small (by omega), 2, _, rfl, rfl, .inl ⟨by decide, by decide⟩, _, _, rfl, rfl, ?_⟩
      refine ⟨p, _, _, rfl, rfl, hf4, ?_, some (.int (0 + (j : Int))), ?_, same_two sm4 hp0, ?_⟩
      · rw [List.length_map, List.length_append, bitsN_len, splN_len _ _ (by rw [List.length_take, List.length_take]; omega)]
        have h1 := sum8 (ws.take i) fun w hw => hp.le w (mem_take hw)
        have h2 : (ws.take i).length ≤ 100 := by rw [List.length_take]; omega
        exact small1000 (by omega)
      · rfl
      · rw [upd_same]
        show some (HO.lst (_ ++ [V.int ((k : Int) / 2 ^ j - 2 * ((k : Int) / 2 ^ (j + 1)))])) = _
        rw [bit_int, bitsN_succ, ← List.append_assoc, List.map_append (l₁ := splN (List.take i ws) (List.take i xs) ++ bitsN j k)]
        rfl
    · obtain ⟨s5', rfl, sm4, hf4⟩ := pv
      refine ⟨_, _, _, rfl, sm4, ?_⟩
      rw [hf4, take_snoc hn, take_snoc hk, splN_snoc _ _ _ _ (by rw [List.length_take, List.length_take]; omega)]
      rfl
  · obtain ⟨s3, s4, s5, rfl, sm, hf⟩ := pv
    rw [List.length_map, lt, List.take_length, hl, List.take_length] at hf
    exact ⟨_, rfl, p, _, rfl, .inl ⟨SqL.of hf, fun l hl' => q l _ (sm.trans (same_new hl' _)) (sm.free hl') upd_same⟩⟩
theorem valN_take {bs : List Nat} {at_ k b : Nat} (h : bs[at_ + k]? = some b) : valN ((bs.drop at_).take (k + 1)) = valN ((bs.drop at_).take k) + b * 2 ^ k := by
  have hk : (bs.drop at_)[k]? = some b := by rw [List.getElem?_drop]; exact h
  have hl := (List.getElem?_eq_some_iff.mp hk).1
  rw [take_snoc hk, valN_snoc, List.length_take, Nat.min_eq_left (Nat.le_of_lt hl)]
theorem val_cast2 (v b k : Nat) : vI (v + b * 2 ^ k) = V.int ((v : Int) + (b : Int) * 2 ^ k) := by
  show V.int (((v + b * 2 ^ k : Nat)) : Int) = _
  congr 1
theorem ok_joined (F : Fun K "_law_joined" "_law_joined" s_law_joined f fd) (T : Txt mg) : FnOk P w K mg base CX0 1 f fd ["_law_ports", "_law_bits"] (spJoin K) := by
  refine F.ok sc_law_joined (fun vs H Q E h => ?_) (fun cdv A outer s H vs Q E hr h => ?_)
  · obtain ⟨a, b, ts, ws, bs, rfl, _⟩ := h
    rfl
  obtain ⟨a, b, ts, ws, bs, rfl, ha, hb, hp, hl, h2, h100, q⟩ := h
  refine ⟨_, (pss_cons (ps_set (i := 2) sc_law_joined.nd rfl (Or.inl rfl) (pe_lst pa_nil))
      (pss_cons (ps_set (i := 3) sc_law_joined.nd rfl (Or.inl rfl) pe_int)
      (pss_cons (ps_for PassesOwn.never rfl (pi_tup (pv 0)) (pg_name (i := 4) sc_law_joined.nd rfl (Or.inl rfl)) (pss_cons (ps_set (i := 5) sc_law_joined.nd rfl (Or.inl rfl) pe_int)
      (pss_cons (ps_for PassesOwn.never rfl (pi_range1 rfl T.n_range (pa_cons (pe_ix ix_tup (pv 4) pe_int (fun _ _ => rfl)) pa_nil)) (pg_name (i := 6) sc_law_joined.nd rfl (Or.inl rfl)) (pss_one (ps_aug (i := 5) sc_law_joined.nd rfl (Or.inl rfl) (pe_op op_mul (pe_ix ix_tup (pv 1) (pe_op op_add (pv 3) (pv 6)) (fun _ _ => rfl)) (pe_op op_oneShl pe_int (pv 6))) ip_add)))
      (pss_cons (ps_expr (pe_bm PySem.F.plainAttrs_list PySem.F.slot_list_append PySem.F.type_list_append mt_append (pv 2) (pa_cons (pv 5) pa_nil)))
      (pss_one (ps_aug (i := 3) sc_law_joined.nd rfl (Or.inl rfl) (pe_ix ix_tup (pv 4) pe_int (fun _ _ => rfl)) ip_add))))))
      (pss_one (ps_ret (pe_callTy call_tuple_of (by rfl) T.n_tuple (by decide +kernel) (pa_cons (pv 2) pa_nil))))))), ?_⟩
  refine ⟨Nat.zero_le _, fun p hp0 => ?_⟩
  have lt : ts.length = ws.length := hp.1
  have sb := sum8 ws hp.le
  refine ⟨_, rfl, a, rfl, ⟨_, seqT_same (same_new hp0 _) ha⟩, for_it (walk_tup (xs := ts.map V.ref)) (fun i σ' H' => ∃ s4 s5 s6 : Option V, σ' = [some (.ref a), some (.ref b), some (.ref p), some (vI ((ws.take i).sum)), s4, s5, s6] ∧ Same H H' ∧ H' p = some (.lst ((joiN (ws.take i) bs).map vI)))
    ⟨none, none, none, rfl, same_new hp0 _, upd_same⟩ (fun i σ' H' hi pv => ?_) (fun i x σ' H' H2 hi pv y => ?_) (fun σ' H' pv => ?_)⟩
  · obtain ⟨_, _, _, _, sm, _⟩ := pv
    exact seqT_same sm ha
  · obtain ⟨s4, s5, s6, rfl, sm, hf⟩ := pv
    obtain ⟨rfl, hx⟩ := y
    obtain ⟨t, ht, rfl⟩ := refAt hx
    obtain ⟨n, z, hn, n8, et⟩ := (hp.same sm).get ht
    have hi := (List.getElem?_eq_some_iff.mp hn).1
    have es : (ws.take i).sum + n ≤ bs.length := by
      have := sum_take ws i n hn
      omega
    refine ⟨_, rfl, t, _, _, _, rfl, rfl, SqT.of et, atI_nat (j := 1) rfl, (n : Int), rfl, (i62 (by omega)).1, (i62 (by omega)).2, for_it walk_range (fun k σ' H4 => ∃ s6 : Option V, σ' = [some (.ref a), some (.ref b), some (.ref p), some (vI ((ws.take i).sum)), some (.ref t), some (vI (valN ((bs.drop (ws.take i).sum).take k))), s6] ∧ H4 = H2)
      ⟨_, rfl, rfl⟩ (fun _ _ _ _ _ => trivial) (fun k x σ' H4 H5 hk pv y => ?_) (fun σ' H4 pv => ?_)⟩
    · obtain ⟨s6', rfl, rfl⟩ := pv
      obtain ⟨rfl, rfl⟩ := y
      have hk' : k < n := by simpa using hk
      have hlt : (ws.take i).sum + k < bs.length := by omega
      have hb2 : bs[(ws.take i).sum + k]? = some bs[(ws.take i).sum + k] := List.getElem?_eq_getElem hlt
      have b2 := h2 _ (List.getElem_mem hlt)
      have hat : atI (bs.map vI) ((((ws.take i).sum : Nat) : Int) + (0 + (k : Int))) = some (vI bs[(ws.take i).sum + k]) := by
        have e : (((ws.take i).sum : Nat) : Int) + (0 + (k : Int)) = (((ws.take i).sum + k : Nat) : Int) := by omega
        rw [e]
        exact atI_nat (by rw [List.getElem?_map, hb2]; rfl)
      refine ⟨_, rfl, _, rfl, _, rfl, _, rfl, _, _, rfl, rfl, b, _, _, _, rfl, rfl, seqT_same sm hb, hat, _, rfl, k, rfl, congrArg V.int (by omega), by omega, _, _, rfl, rfl, ?_, _, _, rfl, rfl, some (.int (0 + (k : Int))), ?_, rfl⟩
      · exact .inl (mul_okB b2)
      · rw [valN_take hb2, val_cast2]
        rfl
    · obtain ⟨s6', rfl, rfl⟩ := pv
      refine ⟨_, rfl, .inl ⟨rfl, _, SqL.of hf⟩, _, rfl, p, _, _, rfl, rfl, hf, ?_, ?_⟩
      · rw [List.length_map, joiN_len, List.length_take]
        exact small1000 (by omega)
      have et2 : upd H4 p (.lst ((joiN (ws.take i) bs).map vI ++ [vI (valN ((bs.drop (ws.take i).sum).take n))])) t = some (.tup [.str z, vI n]) := by
        rw [upd_ne (fun e => by rw [e, hf] at et; cases et)]
        exact et
      refine ⟨_, rfl, _, rfl, t, _, _, _, rfl, rfl, SqT.of et2, atI_nat (j := 1) rfl, _, _, rfl, rfl, some (.ref t), some (vI (valN ((bs.drop (ws.take i).sum).take n))), s6', ?_, same_two sm hp0, ?_⟩
      · rw [take_snoc hn, List.sum_append]
        show _ = [_, _, _, some (V.int (((ws.take i).sum + (n + 0) : Nat) : Int)), _, _, _]
        rw [Nat.add_zero, Int.natCast_add]
        rfl
      · rw [upd_same, take_snoc hn, joiN_snoc, List.map_append]
        rfl
  · obtain ⟨s4, s5, s6, rfl, sm, hf⟩ := pv
    rw [List.length_map, lt, List.take_length] at hf
    exact ⟨_, rfl, p, _, rfl, .inl ⟨SqL.of hf, fun l hl' => q l _ (sm.trans (same_new hl' _)) (sm.free hl') upd_same⟩⟩
end
end Bf

set_option Elab.async false
set_option linter.all false
set_option maxRecDepth 100000
set_option maxHeartbeats 4000000
namespace Bf
open PySem PySem.Spec PyProof.Rows L2
/-! ### the law -/
theorem PT.keep {S : List Addr} {H H' : Hp} {ts : List Addr} {ws : List Nat} (h : PT H ts ws) (k : Keep S H H') (n : ∀ b ∈ S, ∃ l, H b = some (.lst l)) : PT H' ts ws :=
  ⟨h.1, fun i t w a b => by
    obtain ⟨l, z, e⟩ := h.2 i t w a b
    refine ⟨l, z, k _ _ (fun m => ?_) e⟩
    obtain ⟨l, q⟩ := n t m
    rw [q] at e
    cases e⟩
theorem PT.nil {H : Hp} : PT H [] [] := ⟨rfl, fun i t w a => by simp at a⟩
theorem PT.snoc {H : Hp} {ts : List Addr} {ws : List Nat} {t : Addr} {w : Nat} {z : Str} (h : PT H ts ws) (w8 : w ≤ 8) (e : H t = some (.tup [.str z, vI w])) : PT H (ts ++ [t]) (ws ++ [w]) :=
  ⟨by rw [List.length_append, List.length_append, h.1]; rfl, fun i u v a b => by
    by_cases hi : i < ts.length
    · rw [List.getElem?_append_left hi] at a
      rw [List.getElem?_append_left (by rw [← h.1]; exact hi)] at b
      exact h.2 i u v a b
    · rw [List.getElem?_append_right (by omega)] at a
      rw [List.getElem?_append_right (by rw [← h.1]; omega)] at b
      obtain ⟨h1, rfl⟩ : i - ts.length = 0 ∧ t = u := by
        cases q : i - ts.length with
        | zero => rw [q] at a; exact ⟨rfl, Option.some.inj a⟩
        | succ m => rw [q] at a; simp at a
      rw [← h.1, h1] at b
      obtain rfl : w = v := Option.some.inj b
      exact ⟨w8, z, e⟩⟩
theorem DS.at_ {H : Hp} {d c : Addr} (h : DS H d c) : ∃ l, H d = some (.lst l) := let ⟨_, _, _, _, e, _⟩ := h; ⟨_, e⟩
def PvW (a d c pn pt pw : Addr) (ts : List Addr) (ws : List Nat) (i : Nat) (σ' : L2.St) (H' : Hp) : Prop := ∃ (s5 s6 : Option V) (xs : List Nat), σ' = [some (.ref a), some (.ref d), some (.ref pn), some (.ref pt), some (.ref pw), s5, s6, none, none, none, none, none, none] ∧ DS H' d c ∧ H' pt = some (.tup (ts.map V.ref)) ∧ PT H' ts ws ∧
      H' pw = some (.lst (xs.map vI)) ∧ xs.length = i ∧ ∀ (j w x : Nat), ws[j]? = some w → xs[j]? = some x → x < 2 ^ w
def PvZ (H6 : Hp) (a d pn pt pw : Addr) (i : Nat) (σ' : L2.St) (H' : Hp) : Prop := ∃ s5 s6 s7 s8 s9 : Option V, σ' = [some (.ref a), some (.ref d), some (.ref pn), some (.ref pt), some (.ref pw), s5, s6, s7, s8, s9, none, none, none] ∧ Same H6 H'
theorem last_lt {xs ws : List Nat} {n x : Nat} (h : ∀ (j w x : Nat), ws[j]? = some w → xs[j]? = some x → x < 2 ^ w) (hn : ws[xs.length]? = some n) (hx : x < 2 ^ n) : ∀ (j w y : Nat), ws[j]? = some w → (xs ++ [x])[j]? = some y → y < 2 ^ w := by
  intro j w y h1 h2
  by_cases hj : j < xs.length
  · rw [List.getElem?_append_left hj] at h2
    exact h j w y h1 h2
  · rw [List.getElem?_append_right (by omega)] at h2
    have e : j - xs.length = 0 := by
      cases q : j - xs.length with
      | zero => rfl
      | succ m => rw [q] at h2; simp at h2
    rw [e] at h2
    obtain rfl : x = y := Option.some.inj h2
    rw [show j = xs.length by omega, hn] at h1
    obtain rfl : n = w := Option.some.inj h1
    exact hx
theorem pow_sub1 (n : Nat) : V.int ((2 : Int) ^ n - 1) = vI (2 ^ n - 1) := by
  have h : 1 ≤ 2 ^ n := Nat.pow_pos (by decide)
  show V.int _ = V.int (((2 ^ n - 1 : Nat)) : Int)
  rw [Int.ofNat_sub h]
  simp
def spLaw (K : PySem.W.Frag) : Sp := fun vs H Q _ => ∃ (a : Addr) (ns : List Int), vs = [.ref a] ∧ SqL K H a (ns.map V.int) ∧ ns.length ≤ 63 ∧ ∀ H', Q (.bl true) H'
section
variable {P : Program} {w : World} {K : PySem.W.Frag} {mg : Str → Option Value} {base : Heap} {f : Addr} {fd : FuncData}
theorem ok_law (F : Fun K "law" "law" s_law f fd) (T : Txt mg) (D_law_begin : Dn P w K mg base "_law_begin" ["_law_script"] 1 (spBegin K)) (D_law_draw : Dn P w K mg base "_law_draw" ["_law_d", "_law_many"] 1 spDraw)
    (D_law_pop : Dn P w K mg base "_law_pop" ["_law_d", "_law_row"] 2 spPop) (D_law_pool : Dn P w K mg base "_law_pool" [] 1 spPool) (D_law_is_int : Dn P w K mg base "_law_is_int" ["_law_thing"] 1 spIsInt)
    (D_law_is_ints : Dn P w K mg base "_law_is_ints" ["_law_row"] 2 (spInts K)) (D_law_split : Dn P w K mg base "_law_split" ["_law_ports", "_law_words"] 1 (spSplit K)) (D_law_joined : Dn P w K mg base "_law_joined" ["_law_ports", "_law_bits"] 1 (spJoin K))
    (D_to_bits : Dn P w K mg base "to_bits" ["width", "word"] 1 spBits) (D_from_bits : Dn P w K mg base "from_bits" ["bits"] 1 (spFrom K)) (D_split_ports : Dn P w K mg base "split_ports" ["ports", "words"] 2 (spSplit K))
    (D_join_ports : Dn P w K mg base "join_ports" ["ports", "bits"] 2 (spJoin K)) : FnOk P w K mg base CX0 3 f fd ["_law_script"] (spLaw K) := by
  refine F.ok sc_law (fun vs H Q E h => ?_) (fun cdv A outer s H vs Q E hr h => ?_)
  · obtain ⟨a, ns, rfl, _⟩ := h
    rfl
  obtain ⟨a, ns, rfl, hS, h63, q⟩ := h
  refine ⟨_, (pss_cons (ps_set (i := 1) sc_law.nd rfl (Or.inr rfl) (pe_dn D_law_begin (hr.mono (by decide)) (by rfl) (pa_cons (pv 0) pa_nil)))
      (pss_cons (ps_set (i := 2) sc_law.nd rfl (Or.inr rfl) (pe_dn0 D_law_pool (hr.mono (by decide)) (by rfl)))
      (pss_cons (ps_set (i := 3) sc_law.nd rfl (Or.inl rfl) (pe_callTy call_tuple_of (by rfl) T.n_tuple (by decide +kernel) (pa_cons (pe_lc (own := [("_law_k", 12)]) (g := gName 12) (tt := tYes) rfl sc_law.nd (pi_range1 rfl T.n_range (pa_cons (pe_dn D_law_draw (hr.mono (by decide)) (by rfl) (pa_cons (pv 1) (pa_cons pe_int pa_nil))) pa_nil)) (blkOk_by (N := ["_law_script", "_law_d", "_law_names", "_law_ports", "_law_words", "_law_port", "_law_edge", "_law_word", "_law_told", "_law_back", "_law_bits", "_law_others", "_law_k"]) (sc := defScope s_law) (by decide +kernel)) (fun _ _ _ _ _ => (pg_name (i := 12) sc_law.nd rfl (Or.inl rfl))) (fun _ _ _ _ _ => pts_nil) (fun _ _ _ _ _ => (pe_tup (pa_cons (pe_dn D_law_pop (hr.mono (by decide)) (by rfl) (pa_cons (pv 1) (pa_cons (pv 2) pa_nil))) (pa_cons (pe_op op_add pe_int (pe_dn D_law_draw (hr.mono (by decide)) (by rfl) (pa_cons (pv 1) (pa_cons pe_int pa_nil)))) pa_nil))))) pa_nil)))
      (pss_cons (ps_set (i := 4) sc_law.nd rfl (Or.inl rfl) (pe_lst pa_nil))
      (pss_cons (ps_for PassesOwn.never rfl (pi_tup (pv 3)) (pg_name (i := 5) sc_law.nd rfl (Or.inl rfl)) (pss_cons (ps_set (i := 6) sc_law.nd rfl (Or.inl rfl) (pe_dn D_law_draw (hr.mono (by decide)) (by rfl) (pa_cons (pv 1) (pa_cons pe_int pa_nil))))
      (pss_one (ps_expr (pe_bm PySem.F.plainAttrs_list PySem.F.slot_list_append PySem.F.type_list_append mt_append (pv 4) (pa_cons (pe_ifExp (pt_cmpR op_lt (pv 6) pe_int (nomark _)) (pe_ix ix_list (pe_lst (pa_cons pe_int (pa_cons (pe_op op_sub (pe_op op_oneShl pe_int (pe_ix ix_tup (pv 5) pe_int (fun _ _ => rfl))) pe_int) pa_nil))) (pv 6) (fun _ _ => rfl)) (pe_dn D_law_draw (hr.mono (by decide)) (by rfl) (pa_cons (pv 1) (pa_cons (pe_op op_oneShl pe_int (pe_ix ix_tup (pv 5) pe_int (fun _ _ => rfl))) pa_nil)))) pa_nil))))))
      (pss_cons (ps_for PassesOwn.never rfl (pi_zipX (by rfl) T.n_zip (pa_cons (pv 3) (pa_cons (pv 4) pa_nil))) (pg_tup rfl (pgs_cons (pg_name (i := 5) sc_law.nd rfl (Or.inl rfl)) (pgs_cons (pg_name (i := 7) sc_law.nd rfl (Or.inl rfl)) pgs_nil))) (pss_cons (ps_set (i := 8) sc_law.nd rfl (Or.inl rfl) (pe_dn D_to_bits (hr.mono (by decide)) (by rfl) (pa_cons (pe_ix ix_tup (pv 5) pe_int (fun _ _ => rfl)) (pa_cons (pv 7) pa_nil))))
      (pss_cons (ps_if (PW.pt (pw_or (pt_not (pt_val (pe_dn D_law_is_ints (hr.mono (by decide)) (by rfl) (pa_cons (pv 8) pa_nil)))) (pw_or1 (pt_cmpR (op_neI hr.units) (pv 8) (pe_dn D_law_split (hr.mono (by decide)) (by rfl) (pa_cons (pe_lst (pa_cons (pv 5) pa_nil)) (pa_cons (pe_lst (pa_cons (pv 7) pa_nil)) pa_nil))) (nomark _))))) (pss_one (ps_ret pe_bl)) pss_nil)
      (pss_cons (ps_set (i := 9) sc_law.nd rfl (Or.inl rfl) (pe_dn D_from_bits (hr.mono (by decide)) (by rfl) (pa_cons (pv 8) pa_nil)))
      (pss_one (ps_if (PW.pt (pw_or (pt_not (pt_val (pe_dn D_law_is_int (hr.mono (by decide)) (by rfl) (pa_cons (pv 9) pa_nil)))) (pw_or1 (pt_cmpR op_ne (pv 9) (pv 7) (nomark _))))) (pss_one (ps_ret pe_bl)) pss_nil))))))
      (pss_cons (ps_set (i := 10) sc_law.nd rfl (Or.inl rfl) (pe_dn D_split_ports (hr.mono (by decide)) (by rfl) (pa_cons (pv 3) (pa_cons (pe_callTy call_tuple_of (by rfl) T.n_tuple (by decide +kernel) (pa_cons (pv 4) pa_nil)) pa_nil))))
      (pss_cons (ps_if (PW.pt (pw_or (pt_not (pt_val (pe_dn D_law_is_ints (hr.mono (by decide)) (by rfl) (pa_cons (pv 10) pa_nil)))) (pw_or1 (pt_cmpR (op_neI hr.units) (pv 10) (pe_dn D_law_split (hr.mono (by decide)) (by rfl) (pa_cons (pv 3) (pa_cons (pv 4) pa_nil))) (nomark _))))) (pss_one (ps_ret pe_bl)) pss_nil)
      (pss_cons (ps_set (i := 8) sc_law.nd rfl (Or.inl rfl) (pe_dn D_join_ports (hr.mono (by decide)) (by rfl) (pa_cons (pv 3) (pa_cons (pv 10) pa_nil))))
      (pss_cons (ps_if (PW.pt (pw_or (pt_not (pt_val (pe_dn D_law_is_ints (hr.mono (by decide)) (by rfl) (pa_cons (pv 8) pa_nil)))) (pw_or1 (pt_cmpR (op_neI hr.units) (pv 8) (pe_callTy call_tuple_of (by rfl) T.n_tuple (by decide +kernel) (pa_cons (pv 4) pa_nil)) (nomark _))))) (pss_one (ps_ret pe_bl)) pss_nil)
      (pss_cons (ps_set (i := 11) sc_law.nd rfl (Or.inl rfl) (pe_callTy call_tuple_of (by rfl) T.n_tuple (by decide +kernel) (pa_cons (pe_lc (own := [("_law_k", 12)]) (g := gName 12) (tt := tYes) rfl sc_law.nd (pi_range1 rfl T.n_range (pa_cons (pe_callB call_len_seq (by rfl) T.n_len (by decide +kernel) (pa_cons (pv 10) pa_nil)) pa_nil)) (blkOk_by (N := ["_law_script", "_law_d", "_law_names", "_law_ports", "_law_words", "_law_port", "_law_edge", "_law_word", "_law_told", "_law_back", "_law_bits", "_law_others", "_law_k"]) (sc := defScope s_law) (by decide +kernel)) (fun _ _ _ _ _ => (pg_name (i := 12) sc_law.nd rfl (Or.inl rfl))) (fun _ _ _ _ _ => pts_nil) (fun _ _ _ _ _ => (pe_dn D_law_draw (hr.mono (by decide)) (by rfl) (pa_cons (pv 1) (pa_cons pe_int pa_nil))))) pa_nil)))
      (pss_cons (ps_set (i := 8) sc_law.nd rfl (Or.inl rfl) (pe_dn D_join_ports (hr.mono (by decide)) (by rfl) (pa_cons (pv 3) (pa_cons (pv 11) pa_nil))))
      (pss_one (ps_ret (pe_and (pe_dn D_law_is_ints (hr.mono (by decide)) (by rfl) (pa_cons (pv 8) pa_nil)) (pe_and (pe_cmpR (op_eqI hr.units) (pv 8) (pe_dn D_law_joined (hr.mono (by decide)) (by rfl) (pa_cons (pv 3) (pa_cons (pv 11) pa_nil))) (nomark _)) (pe_one (pe_cmpR (op_eqI hr.units) (pe_dn D_split_ports (hr.mono (by decide)) (by rfl) (pa_cons (pv 3) (pa_cons (pv 8) pa_nil))) (pv 11) (nomark _))))))))))))))))))), ?_⟩
  refine ⟨_, rfl, a, ns, rfl, hS, h63, fun d c H1 nd nc hd1 s1 => ?_⟩
  refine ⟨rfl, fun pn xs hpn hx => ?_⟩
  obtain ⟨nnd, nnc⟩ := hd1.new hpn
  have hd2 : DS (upd H1 pn (.lst (xs.map V.str))) d c := hd1.same (same_new hpn _)
  refine ⟨_, rfl, d, c, 7, rfl, hd2, by decide, by decide, fun r H3 r0 r1 hd3 k3 => ?_⟩
  obtain ⟨m, rfl⟩ := Int.eq_ofNat_of_zero_le r0
  have hn3 : H3 pn = some (.lst (xs.map V.str)) := k3 _ _ (by simp [nnd]) upd_same
  refine ⟨(m : Int), rfl, (i62 (by omega)).1, (i62 (by omega)).2, fun D hD => ?_⟩
  obtain ⟨nDd, nDc⟩ := hd3.new hD
  have nDn : D ≠ pn := (ne_of_none hn3 hD).symm
  refine lc_range (lo := 0) (n := m) (fun i H' => ∃ (ts : List Addr) (ws : List Nat) (names : List V), H' D = some (.lst (ts.map V.ref)) ∧ ts.length = i ∧ PT H' ts ws ∧ DS H' d c ∧ H' pn = some (.lst names) ∧ (∀ v ∈ names, ∃ z : Str, v = .str z) ∧ names.length + i = 61)
    ⟨[], [], xs.map V.str, upd_same, rfl, PT.nil, hd3.same (same_new hD _), same_new hD _ _ _ hn3, fun v hv => ?_, by rw [List.length_map, hx]⟩ (fun i H' hi p => ?_) (fun H4 p => ?_)
  · obtain ⟨z, _, e⟩ := List.mem_map.mp hv
    exact ⟨z, e.symm⟩
  · obtain ⟨ts, ws, names, hD', hl, hp, hd', hn', hz, h61⟩ := p
    have hi' : i < m := hi
    refine ⟨rfl, _, rfl, _, rfl, d, c, pn, names, rfl, hd', hn', nnd, nnc, by omega, by omega, fun k y H5 hy hd5 hn5 k5 => ?_⟩
    obtain ⟨z, rfl⟩ := hz y (List.mem_of_getElem? hy)
    have hp5 := hp.keep k5 (fun b hb => by
      rcases List.mem_cons.mp hb with e | hb
      · rw [e]; exact hd'.at_
      · rw [List.mem_singleton.mp hb]; exact ⟨_, hn'⟩)
    have hD5 := k5 _ _ (by simp [nDd, nDn]) hD'
    refine ⟨_, rfl, d, c, 8, rfl, hd5, by decide, by decide, fun r H6 r0 r1 hd6 k6 => ?_⟩
    obtain ⟨b, rfl⟩ := Int.eq_ofNat_of_zero_le r0
    have hp6 := hp5.keep k6 (fun b hb => by rw [List.mem_singleton.mp hb]; exact hd5.at_)
    have hD6 := k6 _ _ (by simp [nDd]) hD5
    have hn6 := k6 _ _ (by simp [nnd]) hn5
    refine ⟨_, _, rfl, rfl, (by show 2 ≤ sizeLine; decide), fun t ht => ?_⟩
    have hD7 := same_new ht (.tup [.str z, .int (1 + (b : Int))]) _ _ hD6
    refine ⟨_, hD7, ?_, ts ++ [t], ws ++ [1 + b], names.eraseIdx k, ?_, ?_, ?_, ?_, ?_, ?_, ?_⟩
    · rw [List.length_map]
      exact small1000 (by omega)
    · rw [upd_same, List.map_append]
      rfl
    · rw [List.length_append, hl]
      rfl
    · refine ((hp6.same (same_new ht _)).snoc (t := t) (w := 1 + b) (z := z) (by omega) ?_).keep (S := [D]) (Keep.upd (by simp)) (fun b hb => by rw [List.mem_singleton.mp hb]; exact ⟨_, hD7⟩)
      rw [upd_same]
      exact congrArg (fun v => some (HO.tup [V.str z, V.int v])) (by omega)
    · exact (hd6.same (same_new ht _)).keep (S := [D]) (Keep.upd (by simp)) (by simp [nDd.symm]) (by simp [nDc.symm])
    · rw [upd_ne nDn.symm]
      exact same_new ht _ _ _ hn6
    · exact fun v hv => hz v (List.mem_of_mem_eraseIdx hv)
    · have hk := (List.getElem?_eq_some_iff.mp hy).1
      rw [List.length_eraseIdx, if_pos hk]
      omega
  obtain ⟨ts, ws, names, hD', hl, hp, hd', hn', hz, h61⟩ := p
  have lws : ts.length = ws.length := hp.1
  refine ⟨D, _, rfl, .inl ⟨SqL.of hD', fun pt hpt => ?_⟩⟩
  have hpt5 : upd H4 pt (.tup (ts.map V.ref)) pt = some (.tup (ts.map V.ref)) := upd_same
  have hd5 := hd'.same (same_new hpt (.tup (ts.map V.ref)))
  have hp5 := hp.same (same_new hpt (.tup (ts.map V.ref)))
  refine ⟨Nat.zero_le _, fun pw hpw => ?_⟩
  obtain ⟨nwd, nwc⟩ := hd5.new hpw
  refine ⟨_, rfl, pt, rfl, ⟨_, SqT.of (same_new hpw _ _ _ hpt5)⟩, for_it (walk_tup (xs := ts.map V.ref)) (PvW a d c pn pt pw ts ws)
    ⟨none, none, [], rfl, hd5.same (same_new hpw _), same_new hpw _ _ _ hpt5, hp5.same (same_new hpw _), upd_same, rfl, fun j w x _ h => by simp at h⟩ (fun i σ' H' hi pv => ?_) (fun i x σ' H' H6 hi pv y => ?_) (fun σ' H6 pv => ?_)⟩
  · obtain ⟨_, _, _, _, _, h, _⟩ := pv
    exact SqT.of h
  · obtain ⟨s5, s6, xs, rfl, hd6, hpt6, hp6, hw6, hx6, hb6⟩ := pv
    obtain ⟨rfl, hx⟩ := y
    obtain ⟨t, ht, rfl⟩ := refAt hx
    refine ⟨_, rfl, d, c, 4, rfl, hd6, by decide, by decide, fun r H7 r0 r1 hd7 k7 => ?_⟩
    obtain ⟨e, rfl⟩ := Int.eq_ofNat_of_zero_le r0
    have npd : pt ≠ d := fun e => by
      obtain ⟨l, q⟩ := hd6.at_
      rw [e, q] at hpt6
      cases hpt6
    have hp7 := hp6.keep k7 (fun b hb => by rw [List.mem_singleton.mp hb]; exact hd6.at_)
    have hpt7 := k7 _ _ (by simp [npd]) hpt6
    have hw7 := k7 _ _ (by simp [nwd]) hw6
    obtain ⟨n, z, hn, n8, et⟩ := hp7.get ht
    refine ⟨_, rfl, .inl ⟨rfl, _, SqL.of hw7⟩, ?_⟩
    have hi2 : i < ws.length := (List.getElem?_eq_some_iff.mp hn).1
    have hi3 : ts.length = m := hl
    have fin : ∀ (x : Nat) (H8 : Hp), x < 2 ^ n → DS H8 d c → Keep [d] H7 H8 → rAppend (V.ref pw) [vI x] H8 fun _ H' => PvW a d c pn pt pw ts ws (i + 1) [some (.ref a), some (.ref d), some (.ref pn), some (.ref pt), some (.ref pw), some (.ref t), some (.int (e : Int)), none, none, none, none, none, none] H' := by
      intro x H8 hx8 hd8 k8
      have hw8 := k8 _ _ (by simp [nwd]) hw7
      refine ⟨pw, _, _, rfl, rfl, hw8, ?_, some (.ref t), some (.int (e : Int)), xs ++ [x], rfl, hd8.keep (S := [pw]) (Keep.upd (by simp)) (by simp [nwd.symm]) (by simp [nwc.symm]), ?_, ?_, ?_, ?_, last_lt hb6 (by rw [hx6]; exact hn) hx8⟩
      · rw [List.length_map]
        exact small1000 (by omega)
      · rw [upd_ne (fun e => by rw [e, hw7] at hpt7; cases hpt7)]
        exact k8 _ _ (by simp [npd]) hpt7
      · exact (hp7.keep k8 (fun b hb => by rw [List.mem_singleton.mp hb]; exact hd7.at_)).keep (S := [pw]) (Keep.upd (by simp)) (fun b hb => by rw [List.mem_singleton.mp hb]; exact ⟨_, hw8⟩)
      · rw [upd_same, List.map_append]
        rfl
      · rw [List.length_append, hx6]
        rfl
    refine ⟨_, rfl, _, _, rfl, rfl, _, rfl, ite2 (fun he => ?_) (fun he => ?_)⟩
    · have he2 : (e : Int) < 2 := of_decide_eq_true he
      refine ⟨_, rfl, t, _, _, _, rfl, rfl, SqT.of et, atI_nat (j := 1) rfl, n, rfl, rfl, by omega, _, _, rfl, rfl, (by show 2 ≤ sizeLine; decide), fun l hl' => ⟨_, rfl, ?_⟩⟩
      have e01 : e = 0 ∨ e = 1 := by omega
      have kl := same_new hl' (.lst [.int 0, .int (2 ^ n - 1)])
      rcases e01 with rfl | rfl
      · refine ⟨l, _, _, _, rfl, rfl, SqL.of upd_same, atI_nat (j := 0) rfl, ?_⟩
        exact fin 0 _ (Nat.pow_pos (by decide)) (hd7.same kl) (Keep.of_same kl)
      · refine ⟨l, _, _, _, rfl, rfl, SqL.of upd_same, atI_nat (j := 1) rfl, ?_⟩
        have g := fin (2 ^ n - 1) _ (Nat.sub_lt (Nat.pow_pos (by decide)) (by decide)) (hd7.same kl) (Keep.of_same kl)
        rw [← pow_sub1] at g
        exact g
    · refine ⟨_, rfl, _, rfl, t, _, _, _, rfl, rfl, SqT.of et, atI_nat (j := 1) rfl, n, rfl, rfl, by omega, d, c, _, rfl, hd7, (pow_small (by omega)).1, (pow_small (by omega)).2, fun r H8 r0 r1 hd8 k8 => ?_⟩
      obtain ⟨x, rfl⟩ := Int.eq_ofNat_of_zero_le r0
      refine fin x H8 ?_ hd8 k8
      have q2 : ((2 ^ n : Nat) : Int) = (2 : Int) ^ n := by simp
      rw [← q2] at r1
      exact Int.ofNat_lt.mp r1
  · obtain ⟨s5, s6, xs, rfl, hd6, hpt6, hp6, hw6, hx6, hb6⟩ := pv
    rw [List.length_map] at hx6
    have lx : ws.length = xs.length := by omega
    have l100 : ws.length ≤ 100 := by omega
    have sum48 := sum8 ws hp6.le
    refine ⟨_, rfl, _, rfl, srcT, srcL, pt, pw, ts.map V.ref, xs.map vI, rfl, SqT.of hpt6, SqL.of hw6, for_zipG srcT srcL (xs := ts.map V.ref) (ys := xs.map vI) (by rw [List.length_map, List.length_map]; omega) (PvZ H6 a d pn pt pw)
      ⟨s5, s6, none, none, none, rfl, Same.refl _⟩ (fun i σ' H' pv => ?_) (fun i x y T' σ' H' hx hy pv hT => ?_) (fun σ' H' pv => ?_)⟩
    · obtain ⟨_, _, _, _, _, _, sm⟩ := pv
      exact ⟨SqT.of (sm _ _ hpt6), SqL.of (sm _ _ hw6)⟩
    · obtain ⟨s5, s6, s7, s8, s9, rfl, sm⟩ := pv
      obtain ⟨t, ht, rfl⟩ := refAt hx
      obtain ⟨k, hk, rfl⟩ := natAt hy
      have sT := same_new hT (.tup [.ref t, vI k])
      obtain ⟨n, z, hn, n8, et⟩ := ((hp6.same sm).same sT).get ht
      have k2 : k < 2 ^ n := hb6 i n k hn hk
      refine ⟨T', _, rfl, SqT.of upd_same, rfl, _, _, rfl, _, _, rfl, rfl, ?_⟩
      refine ⟨_, rfl, t, _, _, _, rfl, rfl, SqT.of et, atI_nat (j := 1) rfl, _, rfl, n, k, rfl, by omega, fun t2 H8 s8' _ ht8 => ?_⟩
      refine ⟨_, rfl, t2, bitsN n k, rfl, SqT.of ht8, ht8, by rw [bitsN_len]; omega, fun H9 s9' => ⟨true, rfl, iteF ?_⟩⟩
      refine ⟨_, rfl, _, rfl, (by show 1 ≤ sizeLine; decide), fun l1 hl1 => ⟨_, rfl, (by show 1 ≤ sizeLine; decide), fun l2 hl2 => ?_⟩⟩
      have sl1 := same_new hl1 (.lst [.ref t])
      have sl2 := same_new hl2 (.lst [vI k])
      refine ⟨srcL, srcL, l1, l2, [t], [n], [k], rfl, SqL.of (sl2 _ _ upd_same), SqL.of upd_same, ⟨rfl, fun j u v h1 h2 => ?_⟩, rfl, (by show 1 ≤ 100; decide), fun t3 H10 s10 _ ht10 => ?_⟩
      · cases j with
        | zero =>
          cases h1
          cases h2
          exact ⟨n8, z, sl2 _ _ (sl1 _ _ (s9' _ _ (s8' _ _ et)))⟩
        | succ j => simp at h1
      have e1 : splN [n] [k] = bitsN n k := by
        show bitsN n k ++ [] = _
        rw [List.append_nil]
      rw [e1] at ht10
      have ht8' := s10 _ _ (sl2 _ _ (sl1 _ _ (s9' _ _ ht8)))
      refine ⟨t2, t3, bitsN n k, rfl, rfl, SqT.of ht8', SqT.of ht10, false, rfl, iteF ?_⟩
      refine ⟨_, rfl, t2, bitsN n k, rfl, SqT.of ht8', fun b hb => bitsN_lt hb, by rw [bitsN_len]; omega, fun H11 s11 => ?_⟩
      rw [val_bits n k k2]
      refine ⟨_, rfl, (k : Int), rfl, true, rfl, iteF ⟨_, rfl, _, rfl, ?_⟩⟩
      refine ⟨rfl, _, rfl, ifN (by simp) ?_⟩
      exact ⟨_, s6, _, _, _, rfl, (((((((sm.trans sT).trans s8').trans s9').trans sl1).trans sl2).trans s10).trans s11)⟩
    · obtain ⟨s5, s6, s7, s8, s9, rfl, sm⟩ := pv
      refine ⟨_, rfl, _, rfl, pw, xs.map vI, rfl, .inl ⟨SqL.of (sm _ _ hw6), fun l1 hl1 => ?_⟩⟩
      have k7 := sm.trans (same_new hl1 (.tup (xs.map vI)))
      refine ⟨srcT, srcT, pt, l1, ts, ws, xs, rfl, SqT.of (k7 _ _ hpt6), SqT.of upd_same, hp6.same k7, lx, l100, fun tb H8 s8' _ htb => ?_⟩
      have slen : (splN ws xs).length = ws.sum := splN_len ws xs lx
      refine ⟨_, rfl, tb, splN ws xs, rfl, SqT.of htb, htb, by omega, fun H9 s9' => ⟨true, rfl, iteF ?_⟩⟩
      have k9 := (k7.trans s8').trans s9'
      refine ⟨_, rfl, _, rfl, _, rfl, srcT, srcL, pt, pw, ts, ws, xs, rfl, SqT.of (k9 _ _ hpt6), SqL.of (k9 _ _ hw6), hp6.same k9, lx, l100, fun t3 H10 s10 _ ht3 => ?_⟩
      have htb10 := s10 _ _ (s9' _ _ htb)
      refine ⟨tb, t3, splN ws xs, rfl, rfl, SqT.of htb10, SqT.of ht3, false, rfl, iteF ?_⟩
      have k10 := k9.trans s10
      refine ⟨_, rfl, _, rfl, pt, tb, ts, ws, splN ws xs, rfl, SqT.of (k10 _ _ hpt6), SqT.of htb10, hp6.same k10, slen, fun b hb => splN_lt _ _ _ hb, l100, fun tj H11 s11 _ htj => ?_⟩
      rw [join_split ws xs lx hb6] at htj
      refine ⟨_, rfl, tj, xs, rfl, SqT.of htj, htj, by omega, fun H12 s12 => ⟨true, rfl, iteF ?_⟩⟩
      have k12 := (k10.trans s11).trans s12
      refine ⟨_, rfl, _, rfl, pw, xs.map vI, rfl, .inl ⟨SqL.of (k12 _ _ hw6), fun l2 hl2 => ?_⟩⟩
      have sl2 := same_new hl2 (.tup (xs.map vI))
      refine ⟨tj, l2, xs, rfl, rfl, SqT.of (sl2 _ _ (s12 _ _ htj)), SqT.of upd_same, false, rfl, iteF ?_⟩
      have k13 := k12.trans sl2
      have htb13 := sl2 _ _ (s12 _ _ (s11 _ _ htb10))
      have hd13 := hd6.same k13
      have hz2 : ((splN ws xs).map vI).length = ws.sum := by rw [List.length_map, slen]
      refine ⟨_, rfl, tb, _, rfl, .inr (SqT.of htb13), (((splN ws xs).map vI).length : Nat), rfl, (i62 (by omega)).1, (i62 (by omega)).2, fun D2 hD2 => ?_⟩
      obtain ⟨n2d, n2c⟩ := hd13.new hD2
      have hpt13 := k13 _ _ hpt6
      have hp13 := hp6.same k13
      have n2p : pt ≠ D2 := ne_of_none hpt13 hD2
      refine lc_range (lo := 0) (n := ((splN ws xs).map vI).length) (fun i H' => ∃ bs : List Nat, H' D2 = some (.lst (bs.map vI)) ∧ bs.length = i ∧ (∀ b ∈ bs, b < 2) ∧ DS H' d c ∧ H' pt = some (.tup (ts.map V.ref)) ∧ PT H' ts ws)
        ⟨[], upd_same, rfl, fun b hb => (by cases hb), hd13.same (same_new hD2 _), same_new hD2 _ _ _ hpt13, hp13.same (same_new hD2 _)⟩ (fun i H' hi p => ?_) (fun H14 p => ?_)
      · obtain ⟨bs, hb', hbl, hb2, hdi, hpti, hpi⟩ := p
        have hi' : i < ws.sum := by rw [← hz2]; exact hi
        have npd : pt ≠ d := fun e => by
          obtain ⟨l, q⟩ := hdi.at_
          rw [e, q] at hpti
          cases hpti
        refine ⟨rfl, _, rfl, d, c, 2, rfl, hdi, by decide, by decide, fun r H15 r0 r1 hd15 k15 => ?_⟩
        obtain ⟨b, rfl⟩ := Int.eq_ofNat_of_zero_le r0
        have hb15 := k15 _ _ (by simp [n2d]) hb'
        have hpt15 := k15 _ _ (by simp [npd]) hpti
        have hp15 := hpi.keep k15 (fun b hb => by rw [List.mem_singleton.mp hb]; exact hdi.at_)
        refine ⟨_, hb15, ?_, bs ++ [b], ?_, ?_, ?_, hd15.keep (S := [D2]) (Keep.upd (by simp)) (by simp [n2d.symm]) (by simp [n2c.symm]), ?_, hp15.keep (S := [D2]) (Keep.upd (by simp)) (fun b hb => by rw [List.mem_singleton.mp hb]; exact ⟨_, hb15⟩)⟩
        · rw [List.length_map]
          exact small1000 (by omega)
        · rw [upd_same, List.map_append]
          rfl
        · rw [List.length_append, hbl]
          rfl
        · intro x hx
          rcases List.mem_append.mp hx with hx | hx
          · exact hb2 x hx
          · rw [List.mem_singleton.mp hx]
            omega
        · rw [upd_ne n2p]
          exact hpt15
      obtain ⟨bs, hb', hbl, hb2, hd14, hpt14, hp14⟩ := p
      rw [hz2] at hbl
      refine ⟨D2, _, rfl, .inl ⟨SqL.of hb', fun po hpo => ?_⟩⟩
      have spo := same_new hpo (.tup (bs.map vI))
      refine ⟨_, rfl, _, rfl, pt, po, ts, ws, bs, rfl, SqT.of (spo _ _ hpt14), SqT.of upd_same, hp14.same spo, hbl, hb2, l100, fun tk H16 s16 _ htk => ?_⟩
      have k16 := spo.trans s16
      have hpo16 := s16 _ _ (upd_same (H := H14) (a := po) (o := .tup (bs.map vI)))
      refine ⟨_, rfl, tk, joiN ws bs, rfl, SqT.of htk, htk, by rw [joiN_len]; omega, fun H17 s17 => ⟨true, rfl, iteT ?_⟩⟩
      have k17 := k16.trans s17
      have hpo17 := s17 _ _ hpo16
      have htk17 := s17 _ _ htk
      refine ⟨_, rfl, _, rfl, _, rfl, pt, po, ts, ws, bs, rfl, SqT.of (k17 _ _ hpt14), SqT.of hpo17, hp14.same k17, hbl, hb2, l100, fun t4 H18 s18 _ ht4 => ?_⟩
      have k18 := k17.trans s18
      refine ⟨tk, t4, joiN ws bs, rfl, rfl, SqT.of (s18 _ _ htk17), SqT.of ht4, true, rfl, iteT ?_⟩
      refine ⟨_, rfl, _, rfl, srcT, srcT, pt, tk, ts, ws, joiN ws bs, rfl, SqT.of (k18 _ _ hpt14), SqT.of (s18 _ _ htk17), hp14.same k18, (joiN_len ws bs).symm, l100, fun t5 H19 s19 _ ht5 => ?_⟩
      rw [split_join ws bs hbl hb2] at ht5
      exact ⟨_, rfl, t5, po, bs, rfl, rfl, SqT.of ht5, SqT.of (s19 _ _ (s18 _ _ hpo17)), q _⟩
end
end Bf

set_option Elab.async false
set_option linter.all false
set_option maxRecDepth 100000
set_option maxHeartbeats 4000000
namespace Bf
open PySem PySem.Spec PyProof.Rows L2
/-! ### what the top has written -/
theorem all_mk {l : PySem.W.OpenLaw} {w : World} {K : PySem.W.Frag} {h : Heap} {mg : Str → Option Value} {fa f__law_draw f__law_begin f__law_pop f__law_pool f__law_is_int f__law_is_ints f__law_split f__law_joined f_to_bits f_from_bits f_split_ports f_join_ports f_law : Addr} (X : K.In h) (G : h.Ns mainGlobals mg) (hfa : mg "law" = some (.ref fa))
    {od2 an2 : Option Addr} {sl2 : Array (Option Value)} {oc2 kV2 dc2 pm2 cd2 ct2 : Value}
    {od4 an4 : Option Addr} {sl4 : Array (Option Value)} {oc4 kV4 dc4 pm4 cd4 ct4 : Value}
    {od6 an6 : Option Addr} {sl6 : Array (Option Value)} {oc6 kV6 dc6 pm6 cd6 ct6 : Value}
    {od8 an8 : Option Addr} {sl8 : Array (Option Value)} {oc8 kV8 dc8 pm8 cd8 ct8 : Value}
    {od10 an10 : Option Addr} {sl10 : Array (Option Value)} {oc10 kV10 dc10 pm10 cd10 ct10 : Value}
    {od12 an12 : Option Addr} {sl12 : Array (Option Value)} {oc12 kV12 dc12 pm12 cd12 ct12 : Value}
    {od14 an14 : Option Addr} {sl14 : Array (Option Value)} {oc14 kV14 dc14 pm14 cd14 ct14 : Value}
    {od16 an16 : Option Addr} {sl16 : Array (Option Value)} {oc16 kV16 dc16 pm16 cd16 ct16 : Value}
    {od18 an18 : Option Addr} {sl18 : Array (Option Value)} {oc18 kV18 dc18 pm18 cd18 ct18 : Value}
    {od20 an20 : Option Addr} {sl20 : Array (Option Value)} {oc20 kV20 dc20 pm20 cd20 ct20 : Value}
    {od22 an22 : Option Addr} {sl22 : Array (Option Value)} {oc22 kV22 dc22 pm22 cd22 ct22 : Value}
    {od24 an24 : Option Addr} {sl24 : Array (Option Value)} {oc24 kV24 dc24 pm24 cd24 ct24 : Value}
    {od26 an26 : Option Addr} {sl26 : Array (Option Value)} {oc26 kV26 dc26 pm26 cd26 ct26 : Value}
    (a1 : PySem.W.nsIn K mainGlobals "_law_draw" = some (some (.ref f__law_draw)))
    (l2 : K.lookup f__law_draw = some ⟨oc2, od2, .func (PySem.W.fnOf "_law_draw" "_law_draw" (defArgs s_law_draw) (defBody s_law_draw) (defScope s_law_draw) .none kV2 dc2 pm2 an2 cd2 ct2), sl2⟩) (c2 : PySem.W.codeIn K cd2 "_law_draw" = true) (k2 : PySem.W.keepIn K (.ref f__law_draw) = true)
    (a3 : PySem.W.nsIn K mainGlobals "_law_begin" = some (some (.ref f__law_begin)))
    (l4 : K.lookup f__law_begin = some ⟨oc4, od4, .func (PySem.W.fnOf "_law_begin" "_law_begin" (defArgs s_law_begin) (defBody s_law_begin) (defScope s_law_begin) .none kV4 dc4 pm4 an4 cd4 ct4), sl4⟩) (c4 : PySem.W.codeIn K cd4 "_law_begin" = true) (k4 : PySem.W.keepIn K (.ref f__law_begin) = true)
    (a5 : PySem.W.nsIn K mainGlobals "_law_pop" = some (some (.ref f__law_pop)))
    (l6 : K.lookup f__law_pop = some ⟨oc6, od6, .func (PySem.W.fnOf "_law_pop" "_law_pop" (defArgs s_law_pop) (defBody s_law_pop) (defScope s_law_pop) .none kV6 dc6 pm6 an6 cd6 ct6), sl6⟩) (c6 : PySem.W.codeIn K cd6 "_law_pop" = true) (k6 : PySem.W.keepIn K (.ref f__law_pop) = true)
    (a7 : PySem.W.nsIn K mainGlobals "_law_pool" = some (some (.ref f__law_pool)))
    (l8 : K.lookup f__law_pool = some ⟨oc8, od8, .func (PySem.W.fnOf "_law_pool" "_law_pool" (defArgs s_law_pool) (defBody s_law_pool) (defScope s_law_pool) .none kV8 dc8 pm8 an8 cd8 ct8), sl8⟩) (c8 : PySem.W.codeIn K cd8 "_law_pool" = true) (k8 : PySem.W.keepIn K (.ref f__law_pool) = true)
    (a9 : PySem.W.nsIn K mainGlobals "_law_is_int" = some (some (.ref f__law_is_int)))
    (l10 : K.lookup f__law_is_int = some ⟨oc10, od10, .func (PySem.W.fnOf "_law_is_int" "_law_is_int" (defArgs s_law_is_int) (defBody s_law_is_int) (defScope s_law_is_int) .none kV10 dc10 pm10 an10 cd10 ct10), sl10⟩) (c10 : PySem.W.codeIn K cd10 "_law_is_int" = true) (k10 : PySem.W.keepIn K (.ref f__law_is_int) = true)
    (a11 : PySem.W.nsIn K mainGlobals "_law_is_ints" = some (some (.ref f__law_is_ints)))
    (l12 : K.lookup f__law_is_ints = some ⟨oc12, od12, .func (PySem.W.fnOf "_law_is_ints" "_law_is_ints" (defArgs s_law_is_ints) (defBody s_law_is_ints) (defScope s_law_is_ints) .none kV12 dc12 pm12 an12 cd12 ct12), sl12⟩) (c12 : PySem.W.codeIn K cd12 "_law_is_ints" = true) (k12 : PySem.W.keepIn K (.ref f__law_is_ints) = true)
    (a13 : PySem.W.nsIn K mainGlobals "_law_split" = some (some (.ref f__law_split)))
    (l14 : K.lookup f__law_split = some ⟨oc14, od14, .func (PySem.W.fnOf "_law_split" "_law_split" (defArgs s_law_split) (defBody s_law_split) (defScope s_law_split) .none kV14 dc14 pm14 an14 cd14 ct14), sl14⟩) (c14 : PySem.W.codeIn K cd14 "_law_split" = true) (k14 : PySem.W.keepIn K (.ref f__law_split) = true)
    (a15 : PySem.W.nsIn K mainGlobals "_law_joined" = some (some (.ref f__law_joined)))
    (l16 : K.lookup f__law_joined = some ⟨oc16, od16, .func (PySem.W.fnOf "_law_joined" "_law_joined" (defArgs s_law_joined) (defBody s_law_joined) (defScope s_law_joined) .none kV16 dc16 pm16 an16 cd16 ct16), sl16⟩) (c16 : PySem.W.codeIn K cd16 "_law_joined" = true) (k16 : PySem.W.keepIn K (.ref f__law_joined) = true)
    (a17 : PySem.W.nsIn K mainGlobals "to_bits" = some (some (.ref f_to_bits)))
    (l18 : K.lookup f_to_bits = some ⟨oc18, od18, .func (PySem.W.fnOf "to_bits" "to_bits" (defArgs s_to_bits) (defBody s_to_bits) (defScope s_to_bits) .none kV18 dc18 pm18 an18 cd18 ct18), sl18⟩) (c18 : PySem.W.codeIn K cd18 "to_bits" = true) (k18 : PySem.W.keepIn K (.ref f_to_bits) = true)
    (a19 : PySem.W.nsIn K mainGlobals "from_bits" = some (some (.ref f_from_bits)))
    (l20 : K.lookup f_from_bits = some ⟨oc20, od20, .func (PySem.W.fnOf "from_bits" "from_bits" (defArgs s_from_bits) (defBody s_from_bits) (defScope s_from_bits) .none kV20 dc20 pm20 an20 cd20 ct20), sl20⟩) (c20 : PySem.W.codeIn K cd20 "from_bits" = true) (k20 : PySem.W.keepIn K (.ref f_from_bits) = true)
    (a21 : PySem.W.nsIn K mainGlobals "split_ports" = some (some (.ref f_split_ports)))
    (l22 : K.lookup f_split_ports = some ⟨oc22, od22, .func (PySem.W.fnOf "split_ports" "split_ports" (defArgs s_split_ports) (defBody s_split_ports) (defScope s_split_ports) .none kV22 dc22 pm22 an22 cd22 ct22), sl22⟩) (c22 : PySem.W.codeIn K cd22 "split_ports" = true) (k22 : PySem.W.keepIn K (.ref f_split_ports) = true)
    (a23 : PySem.W.nsIn K mainGlobals "join_ports" = some (some (.ref f_join_ports)))
    (l24 : K.lookup f_join_ports = some ⟨oc24, od24, .func (PySem.W.fnOf "join_ports" "join_ports" (defArgs s_join_ports) (defBody s_join_ports) (defScope s_join_ports) .none kV24 dc24 pm24 an24 cd24 ct24), sl24⟩) (c24 : PySem.W.codeIn K cd24 "join_ports" = true) (k24 : PySem.W.keepIn K (.ref f_join_ports) = true)
    (a25 : PySem.W.nsIn K mainGlobals "law" = some (some (.ref f_law)))
    (l26 : K.lookup f_law = some ⟨oc26, od26, .func (PySem.W.fnOf "law" "law" (defArgs s_law) (defBody s_law) (defScope s_law) .none kV26 dc26 pm26 an26 cd26 ct26), sl26⟩) (c26 : PySem.W.codeIn K cd26 "law" = true) (k26 : PySem.W.keepIn K (.ref f_law) = true)
    (z27 : PySem.W.nsIn K mainGlobals "int" = some none)
    (z28 : PySem.W.nsIn K mainGlobals "len" = some none)
    (z29 : PySem.W.nsIn K mainGlobals "abs" = some none)
    (z30 : PySem.W.nsIn K mainGlobals "isinstance" = some none)
    (z31 : PySem.W.nsIn K mainGlobals "range" = some none)
    (z32 : PySem.W.nsIn K mainGlobals "tuple" = some none)
    (z33 : PySem.W.nsIn K mainGlobals "all" = some none)
    (z34 : PySem.W.nsIn K mainGlobals "zip" = some none)
    (z35 : PySem.W.nsIn K mainGlobals "enumerate" = some none)
    (z36 : PySem.W.nsIn K mainGlobals "bool" = some none) :
    ∃ fd : FuncData, (∀ (s : Shared) (v : Value), BindsTo s fd ⟨[v], []⟩ [("_law_script", v)]) ∧ ∀ base : Heap, K.In base → base.Ns mainGlobals mg → FnOk l.prog w K mg base CX0 3 fa fd ["_law_script"] (spLaw K) := by
  have e := hfa.symm.trans (PySem.W.mg_of X G a25)
  cases e
  have T : Txt mg := ⟨PySem.W.mg_none_of X G z27, PySem.W.mg_none_of X G z28, PySem.W.mg_none_of X G z29, PySem.W.mg_none_of X G z30, PySem.W.mg_none_of X G z31, PySem.W.mg_none_of X G z32, PySem.W.mg_none_of X G z33, PySem.W.mg_none_of X G z34, PySem.W.mg_none_of X G z35, PySem.W.mg_none_of X G z36⟩
  have F_law_draw := fun_mk (st := s_law_draw) l2 c2 k2
  have F_law_begin := fun_mk (st := s_law_begin) l4 c4 k4
  have F_law_pop := fun_mk (st := s_law_pop) l6 c6 k6
  have F_law_pool := fun_mk (st := s_law_pool) l8 c8 k8
  have F_law_is_int := fun_mk (st := s_law_is_int) l10 c10 k10
  have F_law_is_ints := fun_mk (st := s_law_is_ints) l12 c12 k12
  have F_law_split := fun_mk (st := s_law_split) l14 c14 k14
  have F_law_joined := fun_mk (st := s_law_joined) l16 c16 k16
  have F_to_bits := fun_mk (st := s_to_bits) l18 c18 k18
  have F_from_bits := fun_mk (st := s_from_bits) l20 c20 k20
  have F_split_ports := fun_mk (st := s_split_ports) l22 c22 k22
  have F_join_ports := fun_mk (st := s_join_ports) l24 c24 k24
  have F_law := fun_mk (st := s_law) l26 c26 k26
  refine ⟨PySem.W.fnOf "law" "law" (defArgs s_law) (defBody s_law) (defScope s_law) .none kV26 dc26 pm26 an26 cd26 ct26, fun s v => .of_eq rfl, fun base _ _ => ?_⟩
  have D_law_draw : Dn l.prog w K mg base "_law_draw" ["_law_d", "_law_many"] 1 spDraw := ⟨f__law_draw, _, ok_draw F_law_draw T, PySem.W.mg_of X G a1, k2, (F_law_draw.binds (ps := ["_law_d", "_law_many"]) fun _ _ _ _ _ _ us hl => match us, hl with | [_, _], _ => rfl)⟩
  have D_law_begin : Dn l.prog w K mg base "_law_begin" ["_law_script"] 1 (spBegin K) := ⟨f__law_begin, _, ok_begin F_law_begin T, PySem.W.mg_of X G a3, k4, (F_law_begin.binds (ps := ["_law_script"]) fun _ _ _ _ _ _ us hl => match us, hl with | [_], _ => rfl)⟩
  have D_law_pop : Dn l.prog w K mg base "_law_pop" ["_law_d", "_law_row"] 2 spPop := ⟨f__law_pop, _, ok_pop F_law_pop T D_law_draw, PySem.W.mg_of X G a5, k6, (F_law_pop.binds (ps := ["_law_d", "_law_row"]) fun _ _ _ _ _ _ us hl => match us, hl with | [_, _], _ => rfl)⟩
  have D_law_pool : Dn l.prog w K mg base "_law_pool" [] 1 spPool := ⟨f__law_pool, _, ok_pool F_law_pool , PySem.W.mg_of X G a7, k8, (F_law_pool.binds (ps := []) fun _ _ _ _ _ _ us hl => match us, hl with | [], _ => rfl)⟩
  have D_law_is_int : Dn l.prog w K mg base "_law_is_int" ["_law_thing"] 1 spIsInt := ⟨f__law_is_int, _, ok_isInt F_law_is_int T, PySem.W.mg_of X G a9, k10, (F_law_is_int.binds (ps := ["_law_thing"]) fun _ _ _ _ _ _ us hl => match us, hl with | [_], _ => rfl)⟩
  have D_law_is_ints : Dn l.prog w K mg base "_law_is_ints" ["_law_row"] 2 (spInts K) := ⟨f__law_is_ints, _, ok_ints F_law_is_ints T D_law_is_int, PySem.W.mg_of X G a11, k12, (F_law_is_ints.binds (ps := ["_law_row"]) fun _ _ _ _ _ _ us hl => match us, hl with | [_], _ => rfl)⟩
  have D_law_split : Dn l.prog w K mg base "_law_split" ["_law_ports", "_law_words"] 1 (spSplit K) := ⟨f__law_split, _, ok_lsplit F_law_split T, PySem.W.mg_of X G a13, k14, (F_law_split.binds (ps := ["_law_ports", "_law_words"]) fun _ _ _ _ _ _ us hl => match us, hl with | [_, _], _ => rfl)⟩
  have D_law_joined : Dn l.prog w K mg base "_law_joined" ["_law_ports", "_law_bits"] 1 (spJoin K) := ⟨f__law_joined, _, ok_joined F_law_joined T, PySem.W.mg_of X G a15, k16, (F_law_joined.binds (ps := ["_law_ports", "_law_bits"]) fun _ _ _ _ _ _ us hl => match us, hl with | [_, _], _ => rfl)⟩
  have D_to_bits : Dn l.prog w K mg base "to_bits" ["width", "word"] 1 spBits := ⟨f_to_bits, _, ok_bits F_to_bits T, PySem.W.mg_of X G a17, k18, (F_to_bits.binds (ps := ["width", "word"]) fun _ _ _ _ _ _ us hl => match us, hl with | [_, _], _ => rfl)⟩
  have D_from_bits : Dn l.prog w K mg base "from_bits" ["bits"] 1 (spFrom K) := ⟨f_from_bits, _, ok_from F_from_bits T, PySem.W.mg_of X G a19, k20, (F_from_bits.binds (ps := ["bits"]) fun _ _ _ _ _ _ us hl => match us, hl with | [_], _ => rfl)⟩
  have D_split_ports : Dn l.prog w K mg base "split_ports" ["ports", "words"] 2 (spSplit K) := ⟨f_split_ports, _, ok_split F_split_ports T D_to_bits, PySem.W.mg_of X G a21, k22, (F_split_ports.binds (ps := ["ports", "words"]) fun _ _ _ _ _ _ us hl => match us, hl with | [_, _], _ => rfl)⟩
  have D_join_ports : Dn l.prog w K mg base "join_ports" ["ports", "bits"] 2 (spJoin K) := ⟨f_join_ports, _, ok_join F_join_ports T D_from_bits, PySem.W.mg_of X G a23, k24, (F_join_ports.binds (ps := ["ports", "bits"]) fun _ _ _ _ _ _ us hl => match us, hl with | [_, _], _ => rfl)⟩
  exact ok_law F_law T D_law_begin D_law_draw D_law_pop D_law_pool D_law_is_int D_law_is_ints D_law_split D_law_joined D_to_bits D_from_bits D_split_ports D_join_ports
end Bf
open PySem PySem.W PyProof.Rows
set_option maxRecDepth 100000 in
set_option maxHeartbeats 0 in
theorem PySem.Challenge.cw_beatfabric_k02_ports_split_holds : PySem.Challenge.rw_beatfabric_k02_ports_split.Holds := by
  w_on; o_law; k_head; (case hw => w_witness2)
  k_fill
  refine L2.walk_of (l := PySem.Challenge.rw_beatfabric_k02_ports_split) (n := 63) (k := 3) (x := "_law_script") (CX := fun _ => L2.CX0) (sp := fun w => Bf.spLaw _) rfl (by decide) rfl ⟨rfl, by decide, by decide⟩ (fun w h Y => PySem.W.kIn_of Y) ?F (fun _ _ a ns hl _ hS => ⟨a, ns, rfl, hS, hl, fun _ => rfl⟩) (fun _ _ _ _ _ h => h)
  case F =>
    intro w mg fa h KX G hmg
    refine' Bf.all_mk KX G hmg ?a1 ?l2 ?c2 ?k2 ?a3 ?l4 ?c4 ?k4 ?a5 ?l6 ?c6 ?k6 ?a7 ?l8 ?c8 ?k8 ?a9 ?l10 ?c10 ?k10 ?a11 ?l12 ?c12 ?k12 ?a13 ?l14 ?c14 ?k14 ?a15 ?l16 ?c16 ?k16 ?a17 ?l18 ?c18 ?k18 ?a19 ?l20 ?c20 ?k20 ?a21 ?l22 ?c22 ?k22 ?a23 ?l24 ?c24 ?k24 ?a25 ?l26 ?c26 ?k26 ?z27 ?z28 ?z29 ?z30 ?z31 ?z32 ?z33 ?z34 ?z35 ?z36
    (case a1 => k_is)
    (case l2 => k_is)
    (case c2 => k_is)
    (case k2 => k_is)
    (case a3 => k_is)
    (case l4 => k_is)
    (case c4 => k_is)
    (case k4 => k_is)
    (case a5 => k_is)
    (case l6 => k_is)
    (case c6 => k_is)
    (case k6 => k_is)
    (case a7 => k_is)
    (case l8 => k_is)
    (case c8 => k_is)
    (case k8 => k_is)
    (case a9 => k_is)
    (case l10 => k_is)
    (case c10 => k_is)
    (case k10 => k_is)
    (case a11 => k_is)
    (case l12 => k_is)
    (case c12 => k_is)
    (case k12 => k_is)
    (case a13 => k_is)
    (case l14 => k_is)
    (case c14 => k_is)
    (case k14 => k_is)
    (case a15 => k_is)
    (case l16 => k_is)
    (case c16 => k_is)
    (case k16 => k_is)
    (case a17 => k_is)
    (case l18 => k_is)
    (case c18 => k_is)
    (case k18 => k_is)
    (case a19 => k_is)
    (case l20 => k_is)
    (case c20 => k_is)
    (case k20 => k_is)
    (case a21 => k_is)
    (case l22 => k_is)
    (case c22 => k_is)
    (case k22 => k_is)
    (case a23 => k_is)
    (case l24 => k_is)
    (case c24 => k_is)
    (case k24 => k_is)
    (case a25 => k_is)
    (case l26 => k_is)
    (case c26 => k_is)
    (case k26 => k_is)
    (case z27 => k_is)
    (case z28 => k_is)
    (case z29 => k_is)
    (case z30 => k_is)
    (case z31 => k_is)
    (case z32 => k_is)
    (case z33 => k_is)
    (case z34 => k_is)
    (case z35 => k_is)
    (case z36 => k_is)
