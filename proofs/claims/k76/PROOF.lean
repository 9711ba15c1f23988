import PyProof.Rows.All
import Wide.All
import OpenK.AllK
import Wide.FinOn
import HandS.Base
import HandS.Call
import HandS.List
import HandS.Comp
import HandS.Ends
import HandS.Words
import HandS.Wide
import HandS.WideBits
import HandS.More
import HandS.IsInst
import HandS.CallLocal
import HandS.Text
import HandS.Iter
import HandS.Dict
import HandS.Defaults
import HandS.DeepEq
import HandS.Codes
import HandS.Zip
import HandS.Walk
import HandS.TupAny
import KE.GoesEnum
import KE.GoesMore
import HandS.Style
import PySem.Challenge.RW_beatfabric_k76_frames
set_option Elab.async false
set_option linter.all false
set_option maxRecDepth 100000
set_option maxHeartbeats 4000000
namespace Bf
open PySem PySem.Spec PyProof.Rows L2

/-! ### rules that the layer lacks -/
section
variable {X : Cx}
def rGetL : V → V → Hp → VK → Prop := fun o i H Q => ∃ p xs k v, o = .ref p ∧ i = .int k ∧ H p = some (.lst xs) ∧ atI xs k = some v ∧ Q v H
theorem get_list : PGet X rGetL := by
  intro pins s σ H o i ov iv Q I ro ri h
  obtain ⟨p, xs, k, z, rfl, rfl, hp, he, q⟩ := h
  cases ro
  obtain ⟨t, rfl⟩ := ri
  obtain ⟨its, r, pl, hz⟩ := I.list (SqL.of hp)
  obtain ⟨j, h1, h2, h3, h4, h5⟩ := atI_get he
  obtain ⟨w, ew, rw'⟩ := r.get h2
  have hl := r.length
  have hn := line63
  have fin : EP X pins σ Q w s := ⟨z, H, I, rw', q⟩
  by_cases h0 : 0 ≤ k
  · have hj : k.toNat = j := by
      rw [seqIndex_of h0 h5] at h1
      exact Option.some.inj h1
    refine PySem.wpAny_getItem_list pl.isList h0 (by omega) (by rw [hj]; simpa using ew) fin
  · have hj : (k + (its.toArray.size : Int)).toNat = j := by
      rw [seqIndex_neg (by omega) h4] at h1
      rw [List.size_toArray, ← hl]
      exact Option.some.inj h1
    exact wpAny_getItem_list_neg pl.isList (by omega) (by rw [List.size_toArray] <;> omega) (by omega) (by rw [hj]; simpa using ew) fin

/-- max, min of two numbers that are not negative -/
theorem cr_maxN (hc : X.calm = true) : CallR X (.builtin "max") (fun xs H Q => ∃ i j : Nat, xs = [V.int i, V.int j] ∧ Q (V.int ((max i j : Nat) : Int)) H) := by
  intro pins s σ H vs us Q I r h
  obtain ⟨i, j, rfl, q⟩ := h
  refine call_max2 hc pins s σ H _ us Q I r ⟨i, j, rfl, ?_⟩
  have e : (if (j : Int) > (i : Int) then (j : Int) else (i : Int)) = ((max i j : Nat) : Int) := by
    by_cases h : (j : Int) > i
    · rw [if_pos h, Nat.max_eq_right (by omega)]
    · rw [if_neg h, Nat.max_eq_left (by omega)]
  rw [e]
  exact q
theorem cr_minN (hc : X.calm = true) : CallR X (.builtin "min") (fun xs H Q => ∃ i j : Nat, xs = [V.int i, V.int j] ∧ Q (V.int ((min i j : Nat) : Int)) H) := by
  intro pins s σ H vs us Q I r h
  obtain ⟨i, j, rfl, q⟩ := h
  refine call_min2 hc pins s σ H _ us Q I r ⟨i, j, rfl, ?_⟩
  have e : (if (j : Int) < (i : Int) then (j : Int) else (i : Int)) = ((min i j : Nat) : Int) := by
    by_cases h : (j : Int) < i
    · rw [if_pos h, Nat.min_eq_right (by omega)]
    · rw [if_neg h, Nat.min_eq_left (by omega)]
  rw [e]
  exact q
/-- sum of a tuple of ints -/
def rSumT (K : PySem.W.Frag) : List V → Hp → VK → Prop := fun vs H Q => ∃ (a : Addr) (ns : List Int), vs = [V.ref a] ∧ SqT K H a (ns.map V.int) ∧ Q (.int ns.sum) H
theorem cr_sumT (hc : X.calm = true) : CallR X (.builtin "sum") (rSumT X.K) := by
  intro pins s σ H vs us Q I r h
  obtain ⟨a, ns, rfl, hs, q⟩ := h
  obtain ⟨its, rv, hl, _⟩ := I.tuple hs
  rw [Vals.ref1 r]
  obtain ⟨xs, e⟩ := rv.ints.allInts.items
  have hn : numsOf (intItems xs).toList = ns := by rw [← e]; exact rv.ints.numsOf
  rw [nums_intItems] at hn
  have hl' : s.heap.IsTuple a (intItems xs) := by
    rw [← e]
    exact hl
  refine PySem.W.ktm_sumG (I.ok.hd hc) hl' fun h' tk t' hk => ?_
  rw [preSum_eq, List.take_of_length_le (by simp), hn]
  exact ⟨.int _, H, I.kept hk, ⟨_, rfl⟩, q⟩
end

/-- a def that stands, with its promise -/
def vI (n : Nat) : V := .int (n : Int)
structure Dn (P : Program) (w : World) (K : PySem.W.Frag) (mg : Str → Option Value) (base : Heap) (x : Str) (ps : List Str) (k : Nat) (sp : Sp) : Prop where
  ex : ∃ (f : Addr) (fd : FuncData), FnOk P w K mg base CX0 k f fd ps sp ∧ mg x = some (.ref f) ∧ PySem.W.keepIn K (.ref f) = true ∧ Binds K fd ps []
def tCallD (sp : Sp) (t : TA) : TE := fun σ H Q => t σ H fun vs H1 => sp vs H1 Q E0
section
variable {X : Cx} {x : Str} {ps : List Str} {k : Nat} {sp : Sp} {e : Expr} {es : List Expr} {t : TA} {p pos : Pos}
theorem pe_dn (D : Dn X.prog X.w X.K X.mg X.base x ps k sp) (hr : Room k X.A) (hg : Gl X x) (ha : PA X (e :: es) t) (hdb : (x == ("__debug__" : Str)) = false := by decide)
    (he : starEach (e :: es) X.env = (false, eval e X.env) :: starEach es X.env := by rfl) (hpl : (backTo pos (starEach es X.env)).any (·.1) = false := by rfl) :
    PE X (.Call (.Name x p) (e :: es) [] pos) (tCallD sp t) := by
  obtain ⟨f, fd, F, hm, hk, hb⟩ := D.ex
  refine ⟨fun pins s σ H Q I h => (pe_call (E := E0) F hr hg hm hk hb .nil pass0 ha hdb he hpl).run pins s σ H Q I ?_⟩
  have e0 : (fun (vs : List V) (H1 : Hp) => sp (vs ++ []) H1 Q E0) = fun vs H1 => sp vs H1 Q E0 := by
    funext vs H1
    rw [List.append_nil]
  show t σ H (fun vs H1 => sp (vs ++ []) H1 Q E0)
  rw [e0]
  exact h
theorem pe_dn0 (D : Dn X.prog X.w X.K X.mg X.base x ps k sp) (hr : Room k X.A) (hg : Gl X x) (hdb : (x == ("__debug__" : Str)) = false := by decide) :
    PE X (.Call (.Name x p) [] [] pos) (tCallD sp tNil) := by
  obtain ⟨f, fd, F, hm, hk, hb⟩ := D.ex
  exact ⟨fun pins s σ H Q I h => (pe_call0 (E := E0) F hr hg hm hk hb .nil pass0 hdb).run pins s σ H Q I h⟩
end
/-- the same where the last arguments are defaults -/
structure DnD (P : Program) (w : World) (K : PySem.W.Frag) (mg : Str → Option Value) (base : Heap) (x : Str) (ps : List Str) (dvs : List V) (k : Nat) (sp : Sp) : Prop where
  ex : ∃ (f : Addr) (fd : FuncData) (ds : List Value), FnOk P w K mg base CX0 k f fd ps sp ∧ mg x = some (.ref f) ∧ PySem.W.keepIn K (.ref f) = true ∧ Binds K fd ps ds ∧ Vals dvs ds
theorem pe_dnD {X : Cx} {x : Str} {ps : List Str} {dvs : List V} {k : Nat} {sp : Sp} {e : Expr} {es : List Expr} {t : TA} {p pos : Pos} (D : DnD X.prog X.w X.K X.mg X.base x ps dvs k sp) (hr : Room k X.A) (hg : Gl X x) (ha : PA X (e :: es) t) (hdb : (x == ("__debug__" : Str)) = false := by decide)
    (he : starEach (e :: es) X.env = (false, eval e X.env) :: starEach es X.env := by rfl) (hpl : (backTo pos (starEach es X.env)).any (·.1) = false := by rfl) :
    PE X (.Call (.Name x p) (e :: es) [] pos) (tCall sp dvs E0 t) := by
  obtain ⟨f, fd, ds, F, hm, hk, hb, hv⟩ := D.ex
  exact pe_call (E := E0) F hr hg hm hk hb hv pass0 ha hdb he hpl
/-- a def of the text, its promise: the level a letter -/
theorem Dn.mk' {P : Program} {w : World} {K : PySem.W.Frag} {mg : Str → Option Value} {base : Heap} {x : Str} {st : Stmt} {ps : List Str} {k : Nat} {sp : Sp} {f : Addr} {fd : FuncData}
    (F : Fun K x x st f fd) (hm : mg x = some (.ref f)) (hb : Binds K fd ps []) (ok : FnOk P w K mg base CX0 k f fd ps sp) : Dn P w K mg base x ps k sp :=
  ⟨f, fd, ok, hm, F.kp, hb⟩
end Bf
namespace Bf
open PySem PySem.Spec PyProof.Rows L2
section
variable {X : Cx} {d : Addr} {es : Array DictEntry} {n : Nat}
/-- d[k], d a dict of the module with text keys -/
theorem ix_kd (D : KDict X.K X.w d es n) : IxR X (fun x y H Q => ∃ (z : Str) (u0 : Value) (v0 : V), x = .ref d ∧ y = .str z ∧ PySem.W.nsIn X.K d z = some (some u0) ∧ RelV v0 u0 ∧ Q v0 H) := by
  intro value slice pins s σ H x y v u Q I rx ry h hs
  have h0 := h
  obtain ⟨z, u0, v0, rfl, rfl, e, r, q⟩ := h
  cases rx
  exact tail_any (kd_type D I) PySem.slot_dict_getitem.lookup (op_item_kd D pins s σ H (V.ref d) (V.str z) _ u Q I (show RelV (V.ref d) (Value.ref d) from rfl) ry h0) hs
/-- of several defs that the slot may hold: the def and its promise are told in the reading -/
def tCallH (P : Program) (w : World) (K : PySem.W.Frag) (mg : Str → Option Value) (base : Heap) (k i : Nat) (t : TA) : TE := fun σ H Q => ∃ f sp fd ps, σ[i]? = some (some (.ref f)) ∧ FnOk P w K mg base CX0 k f fd ps sp ∧ PySem.W.keepIn K (.ref f) = true ∧ Binds K fd ps [] ∧ t σ H fun vs H1 => sp vs H1 Q E0
theorem pe_held {i k : Nat} {x : Str} {p pos : Pos} {e : Expr} {es : List Expr} {t : TA} (hr : Room k X.A) (hN : X.N[i]? = some x) (hv : Vis X.env.scope x) (ha : PA X (e :: es) t)
    (hdb : (x == ("__debug__" : Str)) = false := by decide) (hcd : (x == ("__classdict__" : Str)) = false := by decide)
    (he : starEach (e :: es) X.env = (false, eval e X.env) :: starEach es X.env := by rfl) (hpl : (backTo pos (starEach es X.env)).any (·.1) = false := by rfl) : PE X (.Call (.Name x p) (e :: es) [] pos) (tCallH X.prog X.w X.K X.mg X.base k i t) := by
  refine ⟨fun pins s σ H Q I h => ?_⟩
  obtain ⟨f, sp, fd, ps, hs, F, hk, hb, ht⟩ := h
  refine (pe_callL (i := i) (f := f) (sp := sp) (dvs := []) (E := E0) F hr hN hv hk hb .nil pass0 ha hdb hcd he hpl).run pins s σ H Q I ⟨hs, ?_⟩
  have e0 : (fun (vs : List V) (H1 : Hp) => sp (vs ++ []) H1 Q E0) = fun vs H1 => sp vs H1 Q E0 := by
    funext vs H1
    rw [List.append_nil]
  show t σ H (fun vs H1 => sp (vs ++ []) H1 Q E0)
  rw [e0]
  exact ht
end
end Bf

set_option Elab.async false
set_option linter.all false
set_option maxRecDepth 100000
set_option maxHeartbeats 4000000
namespace Bf
open PySem PySem.Spec PyProof.Rows L2
/-! ### small steps of a reading -/
theorem ifY {c : Bool} {A B : Prop} (e : c = true) (h : A) : if c = true then A else B := by
  rw [if_pos e]
  exact h
theorem ifN {c : Bool} {A B : Prop} (e : c = false) (h : B) : if c = true then A else B := by
  rw [e]
  exact iteF h
theorem rdL {K : PySem.W.Frag} {H : Hp} {a : Addr} {xs : List V} {i : Int} {v : V} {Q : VK} (h : SqL K H a xs) (e : atI xs i = some v) (k : Q v H) : rIxL K (.ref a) (.int i) H Q := ⟨a, xs, _, v, rfl, rfl, h, e, k⟩
theorem rdC {v : V} {σ : L2.St} {H : Hp} {Q : VK} (k : Q v H) : tC v σ H Q := k
theorem seqNew {K : PySem.W.Frag} {H : Hp} {a p : Addr} {o : HO} {xs : List V} (hp : H p = none) (h : SqL K H a xs) : SqL K (upd H p o) a xs := by
  rcases h with (h | ⟨u, h⟩) | h
  · exact .inl (.inl (by rw [upd_ne (ne_of_none h hp)]; exact h))
  · exact .inl (.inr ⟨u, by rw [upd_ne (ne_of_none h hp)]; exact h⟩)
  · exact .inr h
theorem le1000 {n : Nat} (h : n ≤ 1000) : n ≤ sizeLine := Nat.le_of_lt (small1000 h)
end Bf

set_option Elab.async false
set_option linter.all false
set_option maxRecDepth 100000
set_option maxHeartbeats 4000000
namespace Bf
open PySem PySem.Spec PyProof.Rows L2

/-! ### what enumerate and zip walk: a list or a tuple -/
structure Src where
  sq : PySem.W.Frag → Hp → Addr → List V → Prop
  itr : Heap → Addr → Addr → Nat → Prop
  isS : Heap → Addr → Array Value → Prop
  ob : Addr → Obj
  inv : ∀ {X : Cx} {pins : List (Addr × Obj)} {σ : L2.St} {H : Hp} {s : Shared} {a : Addr} {xs : List V}, Inv X pins σ H s → sq X.K H a xs → ∃ its : List Value, Vals xs its ∧ isS s.heap a its.toArray
  inj : ∀ {X : Cx} {pins : List (Addr × Obj)} {σ : L2.St} {H : Hp} {s : Shared} {a : Addr} {xs ys : List V}, Inv X pins σ H s → sq X.K H a xs → sq X.K H a ys → xs = ys
  draws : ∀ {prog : Program} {w : World} {A : Around}, A.handled = none → ∀ (it l : Addr), l ≠ it → ∀ (items : Array Value), Draws prog w A it [it, l] items.size (fun i v => items[i]? = some v) (fun i h => itr h it l i ∧ isS h l items)
  obj : ∀ {h : Heap} {it a : Addr} {i : Nat}, itr h it a i → ∃ o, h.get? it = some o ∧ ∀ v, o.data ≠ .cell v
  at_ : ∀ {h h' : Heap} {it a : Addr} {i : Nat}, itr h it a i → (∀ o, h.get? it = some o → h'.get? it = some o) → itr h' it a i
  beg : ∀ (a : Addr) (items : Array Value), Begins (.ref a) (ob a) (fun h => isS h a items)
  start : ∀ {h : Heap} {it a : Addr}, h.get? it = some (ob a) → itr h it a 0
  lt : ∀ {h : Heap} {a : Addr} {items : Array Value}, isS h a items → a < h.objs.size
  keep : ∀ {K : PySem.W.Frag} {H H' : Hp} {a : Addr} {xs : List V}, Same H H' → sq K H a xs → sq K H' a xs
theorem seqT_same {K : PySem.W.Frag} {H H' : Hp} {a : Addr} {xs : List V} (k : Same H H') (h : SqT K H a xs) : SqT K H' a xs := by
  rcases h with (h | ⟨u, h⟩) | h
  · exact .inl (.inl (k _ _ h))
  · exact .inl (.inr ⟨u, k _ _ h⟩)
  · exact .inr h

def srcL : Src where
  sq := fun K H a xs => SqL K H a xs
  itr := fun h it a i => h.IsListIter it a i
  isS := fun h a items => h.IsList a items
  ob := fun a => { cls := .type "list_iterator", data := .fields #[.ref a, .int 0 0] }
  inv := fun I h => let ⟨its, r, p, _⟩ := I.list h; ⟨its, r, p.isList⟩
  inj := fun I h h' => I.list_inj h h'
  draws := fun hh it l hne items => Draws.list hh it l hne items
  obj := fun ⟨o, e, c, d⟩ => ⟨o, e, fun v z => by rw [d] at z; cases z⟩
  at_ := fun x k => x.at k
  beg := fun a items => begins_list a items
  start := fun e => ⟨_, e, rfl, rfl⟩
  lt := fun ⟨o, e, _⟩ => Heap.lt_size e
  keep := fun k h => k.seq h

def srcT : Src where
  sq := fun K H a xs => SqT K H a xs
  itr := fun h it a i => h.IsTupleIter it a i
  isS := fun h a items => h.IsTuple a items
  ob := fun a => { cls := .type "tuple_iterator", data := .fields #[.ref a, .int 0 0] }
  inv := fun I h => let ⟨its, r, p, _⟩ := I.tuple h; ⟨its, r, p⟩
  inj := fun I h h' => I.tuple_inj h h'
  draws := fun hh it l hne items => Draws.tuple hh it l hne items
  obj := fun ⟨o, e, c, d⟩ => ⟨o, e, fun v z => by rw [d] at z; cases z⟩
  at_ := fun x k => x.at k
  beg := fun a items => begins_tuple a items
  start := fun e => ⟨_, e, rfl, rfl⟩
  lt := fun ⟨o, e, _⟩ => Heap.lt_size e
  keep := fun k h => seqT_same k h

/-! ### enumerate -/
def ItE (S : Src) (K : PySem.W.Frag) (a : Addr) : It :=
  ⟨fun i H => ∃ (xs : List V) (x : V), S.sq K H a xs ∧ xs[i]? = some x, fun i H v H' => ∃ T x, v = .ref T ∧ H T = none ∧ H' = upd H T (.tup [.int (i : Nat), x]) ∧ ∀ xs, S.sq K H a xs → xs[i]? = some x, fun i H => ∃ xs : List V, S.sq K H a xs ∧ xs.length = i⟩

theorem turn_enumG (S : Src) {P : Program} {w : World} {K : PySem.W.Frag} {elts : List Expr} {kk : Nat} {tpos : Pos} (a e it : Addr) :
    Turn P w K (.Tuple elts kk tpos) (ItE S K a) [e, it] e (fun i h => (∃ old, IsEnum h e it ((i : Nat) : Int) old) ∧ S.itr h it a i ∧ e ≠ it ∧ e ≠ a ∧ a ≠ it) where
  mem := by simp
  obj := fun i h st b hb => by
    obtain ⟨⟨old, he⟩, hi, _⟩ := st
    have e' : b = e ∨ b = it := by simpa using hb
    rcases e' with z | z
    · rw [z]; exact ⟨_, he, fun v q => nomatch q⟩
    · rw [z]; exact S.obj hi
  keep := fun i h h' st k => let ⟨⟨old, he⟩, hi, r⟩ := st; ⟨⟨old, k e (by simp) _ he⟩, S.at_ hi fun o q => k it (by simp) o q, r⟩
  item := by
    intro X hP hw hK hc i pins s σ H E I hf st hg
    subst hP hw hK
    obtain ⟨⟨old, he⟩, hit, hne, hea, hai⟩ := st
    obtain ⟨xs, x, hq, hx⟩ := hg
    obtain ⟨its, rv, p⟩ := S.inv I hq
    obtain ⟨u, hu, ru⟩ := rv.get hx
    have hel : e < s.heap.objs.size := Heap.lt_size he
    have hil : it < s.heap.objs.size := by obtain ⟨_, q, _⟩ := S.obj hit; exact Heap.lt_size q
    have hlt : i < its.toArray.size := by
      have q := (List.getElem?_eq_some_iff.mp hu).1
      simpa using q
    refine wpAny_pyNext_enum_itemD (S.draws (show X.A.in1.handled = none from I.ok.hd hc) it a hai its.toArray) he ⟨hit, p⟩ hlt hne (by simp [hne, hea]) fun v h' tk hv ho hst hT hsz hk => ?_
    have ev : u = v := by
      have q : its[i]? = some v := by simpa using hv
      rw [hu] at q; cases q; rfl
    subst ev
    refine ⟨_, rfl, wpAny_letOwnedTupleGo_enum (s := { s with heap := h', toks := tk + 1 }) ho fun h'' he' sb => ?_⟩
    have hT2 : h''.get? s.heap.objs.size = some { cls := .type "tuple", data := .seq #[.int i tk, u] } := (sb.2 _ (Nat.ne_of_gt hel)).trans hT
    have new : ObjOk X.prog X.w (upd H s.heap.objs.size (.tup [.int (i : Nat), x])) h'' s.heap.objs.size (.tup [.int (i : Nat), x]) :=
      ⟨by show 2 ≤ sizeLine; decide, [.int i tk, u], .cons ⟨_, rfl⟩ (.cons ru .nil), ⟨_, hT2, rfl, _, rfl⟩⟩
    have I1 : Inv X pins σ (upd H s.heap.objs.size (.tup [.int (i : Nat), x])) { s with heap := h'', toks := tk + 1 } :=
      I.turnedNew (ch := [e, it]) (fun b ob hb q => (sb.2 b (fun z => hb (by simp [z]))).trans (hk b ob (fun z => hb (by simp [z])) (fun z => hb (by simp [z])) q)) hf (Nat.le_refl _) new
    refine ⟨.ref s.heap.objs.size, _, I1, rfl, ⟨_, x, rfl, I.hok.fresh (Nat.le_refl _), rfl, fun ys hy => by rw [S.inj I hy hq]; exact hx⟩, ⟨⟨u, ?_⟩, S.at_ hst.1 fun o q => (sb.2 it (Ne.symm hne)).trans q, hne, hea, hai⟩, fun b hb => ?_⟩
    · have e1 : ((i + 1 : Nat) : Int) = (i : Int) + 1 := by omega
      rw [e1]; exact he'
    · have hb' : b < s.heap.objs.size := by
        have e' : b = e ∨ b = it := by simpa using hb
        rcases e' with z | z
        · rw [z]; exact hel
        · rw [z]; exact hil
      rw [upd_ne (Nat.ne_of_lt hb')]
      exact (hf b hb).1
  done := by
    intro X hP hw hK hc i pins s σ H E I hf st hg
    subst hP hw hK
    obtain ⟨⟨old, he⟩, hit, hne, hea, hai⟩ := st
    obtain ⟨xs, hq, hx⟩ := hg
    obtain ⟨its, rv, p⟩ := S.inv I hq
    obtain ⟨f0, f1, f2, f3, f4, f5⟩ := hf it (by simp)
    have hl := rv.length
    have hn : its.toArray.size = i := by rw [List.size_toArray]; omega
    subst hn
    exact wpAny_pyNext_enum_endD (S.draws (show X.A.in1.handled = none from I.ok.hd hc) it a hai its.toArray) he ⟨hit, p⟩ fun h' eb => ⟨rfl, I.turned (t' := s.toks) (fun b o hb q => eb b o hb q) f0 f1 f3 f4 f5⟩
  self := fun A i s Q E st h => let ⟨⟨_, he⟩, _⟩ := st; wpAny_pyIter_enum he h

theorem meets_enum_new0 {v : Value} {o : Obj} {H : Heap → Prop} (B : Begins v o H) :
    Meets (Builtin.«enumerate.__new__» ⟨[.type "enumerate", v], []⟩) (fun _ R s => H s.heap ∧
      R (.ok (.ret (.ref (s.heap.push o).objs.size))) { s with heap := (s.heap.push o).push { cls := .type "enumerate", data := .fields #[.none, .bool false, .ref s.heap.objs.size, rawInt 0, .none, .none] } }) :=
  .of_wp fun prog w A R s h => by
    obtain ⟨hp, g, d, tk, os⟩ := s; obtain ⟨h1, h⟩ := h
    have hsub := sub_enumerate
    have q1 : ∀ {A' : Around} {E : Value → Shared → Prop} {Q : Value → Shared → Prop}, Q (.ref hp.objs.size) ⟨hp.push o, g, d, tk, os⟩ → wpAny (model prog w) A' (pyIter v) Q E ⟨hp, g, d, tk, os⟩ :=
      fun q => B.iter prog w _ _ ⟨hp, g, d, tk, os⟩ _ h1 q
    wp_walk using q1
    refine wpAny_stack_any fun st => wpAny_pure ?_
    split
    · rename_i c _ _ _ _ _
      cases (c == Value.type "enumerate")
      · wp_walk using q1
        exact ⟨_, rfl, h⟩
      · wp_walk using q1
        exact ⟨_, rfl, h⟩
    · wp_walk using q1
      exact ⟨_, rfl, h⟩
section
variable {prog : Program} {w : World} {A : Around} {E : Value → Shared → Prop} {s : Shared}
theorem enum_begins0 {v : Value} {o : Obj} {H : Heap → Prop} {Q : Value → Shared → Prop} (B : Begins v o H) (h1 : H s.heap)
    (h : ∀ h', IsEnum h' (s.heap.objs.size + 1) s.heap.objs.size 0 .none → h'.get? s.heap.objs.size = some o → h'.objs.size = s.heap.objs.size + 2 →
      (∀ b o, s.heap.get? b = some o → h'.get? b = some o) → Q (.ref (s.heap.objs.size + 1)) { s with heap := h' }) :
    wpAny (model prog w) A (call (.type "enumerate") [v]) Q E s := by
  refine callType_new F.called_enumerate (by decide) (F.typeCall_enumerate_1 _) (F.newCall_enumerate_1 _) (fun obj => F.args_object_init_2 obj _) F.entry_enumerate_new
    (meets_enum_new0 B) ⟨h1, ?_⟩
  have hz : (s.heap.push o).objs.size = s.heap.objs.size + 1 := Heap.size_push ..
  show _ ∧ _
  rw [hz]
  have he : IsEnum ((s.heap.push o).push { cls := .type "enumerate", data := .fields #[.none, .bool false, .ref s.heap.objs.size, rawInt 0, .none, .none] }) (s.heap.objs.size + 1) s.heap.objs.size 0 .none := by
    have := Heap.get?_push_size (s.heap.push o) (o := { cls := .type "enumerate", data := .fields #[.none, .bool false, .ref s.heap.objs.size, rawInt 0, .none, .none] }) rfl
    rw [hz] at this; exact this
  exact ⟨⟨_, he, rfl⟩, h _ he (Heap.get?_push_of_some _ (Heap.get?_push_size _ B.free)) (by rw [Heap.size_push, hz]) fun b o x => Heap.get?_push_of_some _ (Heap.get?_push_of_some _ x)⟩
end
def iEnG (S : Src) (K : PySem.W.Frag) (ta : TA) : TI := fun σ H R => ta σ H fun vs H1 => ∃ a xs, vs = [.ref a] ∧ S.sq K H1 a xs ∧ R (ItE S K a) H1
theorem enumG_run (S : Src) {X : Cx} {pins : List (Addr × Obj)} {σ : L2.St} {H1 : Hp} {s1 : Shared} {us : List Value} {vs : List V} {elts : List Expr} {kk : Nat} {tpos : Pos} {R : It → Hp → Prop} (I1 : Inv X pins σ H1 s1) (r1 : Vals vs us)
    (q1 : ∃ (a : Addr) (xs : List V), vs = [.ref a] ∧ S.sq X.K H1 a xs ∧ R (ItE S X.K a) H1) :
    wpAny (model X.prog X.w) X.A (call (.type "enumerate") us) (fun v s1 => wpAny (model X.prog X.w) X.A (pyIter v) (PIE X pins σ (.Tuple elts kk tpos) R) X.xe s1) X.xe s1 := by
  obtain ⟨a, xs, ex, hq, q⟩ := q1
  subst ex
  cases r1 with
  | cons r rr =>
    cases rr
    cases r
    obtain ⟨its, rv, p'⟩ := S.inv I1 hq
    have la := S.lt p'
    refine enum_begins0 (S.beg a its.toArray) p' fun h' he hit hsz hk => wpAny_pyIter_enum he ?_
    have I2 : Inv X pins σ H1 { s1 with heap := h' } := I1.kept (t' := s1.toks) hk
    refine ⟨s1.heap.objs.size + 1, [s1.heap.objs.size + 1, s1.heap.objs.size], _, _, H1, rfl, I2, turn_enumG S a (s1.heap.objs.size + 1) s1.heap.objs.size, ⟨⟨.none, he⟩, S.start hit, Nat.succ_ne_self _, Nat.ne_of_gt (Nat.lt_succ_of_lt la), Nat.ne_of_lt la⟩, fun b hb => ?_, q⟩
    have e' : b = s1.heap.objs.size + 1 ∨ b = s1.heap.objs.size := by simpa using hb
    have hle : s1.heap.objs.size ≤ b := by
      rcases e' with z | z
      · rw [z]; exact Nat.le_add_right _ _
      · rw [z]; exact Nat.le_refl _
    exact I1.fpOk hle (I1.hok.fresh hle)

/-! ### zip of two -/
def ItZ (S1 S2 : Src) (K : PySem.W.Frag) (a b : Addr) : It :=
  ⟨fun i H => ∃ (xs ys : List V) (x y : V), S1.sq K H a xs ∧ S2.sq K H b ys ∧ xs[i]? = some x ∧ ys[i]? = some y,
    fun i H v H' => ∃ T x y, v = .ref T ∧ H T = none ∧ H' = upd H T (.tup [x, y]) ∧ (∀ xs, S1.sq K H a xs → xs[i]? = some x) ∧ ∀ ys, S2.sq K H b ys → ys[i]? = some y,
    fun i H => ∃ xs ys : List V, S1.sq K H a xs ∧ S2.sq K H b ys ∧ i ≤ xs.length ∧ i ≤ ys.length ∧ (i = xs.length ∨ i = ys.length)⟩
theorem turn_zipG (S1 S2 : Src) {P : Program} {w : World} {K : PySem.W.Frag} {elts : List Expr} {kk : Nat} {tpos : Pos} {a b z TI TO i1 i2 : Addr} (D : ZipSep2 z TI TO i1 i2 [i1, a] [i2, b]) (ha1 : a ≠ i1) (hb2 : b ≠ i2) :
    Turn P w K (.Tuple elts kk tpos) (ItZ S1 S2 K a b) [z, TI, TO, i1, i2] z (fun i h => IsZip h z TI TO .none ∧ IsTupOf2 h TI (.ref i1) (.ref i2) ∧ (∃ x y, IsTupOf2 h TO x y) ∧ S1.itr h i1 a i ∧ S2.itr h i2 b i) where
  mem := by simp
  obj := fun i h st c hc => by
    obtain ⟨hz, hTI, ⟨x, y, hTO⟩, h1, h2⟩ := st
    have e' : c = z ∨ c = TI ∨ c = TO ∨ c = i1 ∨ c = i2 := by simpa using hc
    rcases e' with q | q | q | q | q
    · rw [q]; exact ⟨_, hz, fun v q => nomatch q⟩
    · rw [q]; exact ⟨_, hTI, fun v q => nomatch q⟩
    · rw [q]; exact ⟨_, hTO, fun v q => nomatch q⟩
    · rw [q]; exact S1.obj h1
    · rw [q]; exact S2.obj h2
  keep := fun i h h' st k => by
    obtain ⟨hz, hTI, ⟨x, y, hTO⟩, h1, h2⟩ := st
    exact ⟨k z (by simp) _ hz, k TI (by simp) _ hTI, ⟨x, y, k TO (by simp) _ hTO⟩, S1.at_ h1 fun o q => k i1 (by simp) o q, S2.at_ h2 fun o q => k i2 (by simp) o q⟩
  item := by
    intro X hP hw hK hc i pins s σ H E I hf st hg
    subst hP hw hK
    obtain ⟨hz, hTI, ⟨x0, y0, hTO⟩, h1, h2⟩ := st
    obtain ⟨xs, ys, x, y, hqx, hqy, hx, hy⟩ := hg
    obtain ⟨its, rv, p⟩ := S1.inv I hqx
    obtain ⟨its2, rv2, p2⟩ := S2.inv I hqy
    obtain ⟨u, hu, ru⟩ := rv.get hx
    obtain ⟨u2, hu2, ru2⟩ := rv2.get hy
    have hzl : z < s.heap.objs.size := Heap.lt_size hz
    have hlt : i < its.toArray.size := by
      have q := (List.getElem?_eq_some_iff.mp hu).1
      simpa using q
    have hlt2 : i < its2.toArray.size := by
      have q := (List.getElem?_eq_some_iff.mp hu2).1
      simpa using q
    have hh : X.A.in1.handled = none := I.ok.hd hc
    refine wpAny_pyNext_zipD2_item D (S1.draws hh i1 a ha1 its.toArray) (S2.draws hh i2 b hb2 its2.toArray) hz hTI hTO ⟨h1, p⟩ ⟨h2, p2⟩ hlt hlt2 fun v v2 h' tk hv hv2 z' TO' st1 st2 hT hsz hk => ?_
    have ev : u = v := by
      have q : its[i]? = some v := by simpa using hv
      rw [hu] at q; cases q; rfl
    have ev2 : u2 = v2 := by
      have q : its2[i]? = some v2 := by simpa using hv2
      rw [hu2] at q; cases q; rfl
    subst ev ev2
    refine ⟨_, rfl, wpAny_letOwnedTupleGo_zip (s := { s with heap := h', toks := tk }) z' fun h'' z'' sb => ?_⟩
    have hT2 : h''.get? s.heap.objs.size = some { cls := .type "tuple", data := .seq #[u, u2] } := (sb.2 _ (Nat.ne_of_gt hzl)).trans hT
    have new : ObjOk X.prog X.w (upd H s.heap.objs.size (.tup [x, y])) h'' s.heap.objs.size (.tup [x, y]) :=
      ⟨by show 2 ≤ sizeLine; decide, [u, u2], .cons ru (.cons ru2 .nil), ⟨_, hT2, rfl, _, rfl⟩⟩
    have I1 : Inv X pins σ (upd H s.heap.objs.size (.tup [x, y])) { s with heap := h'', toks := tk } :=
      I.turnedNew (ch := [z, TI, TO, i1, i2]) (fun c o hb q => (sb.2 c (fun q' => hb (by simp [q']))).trans (hk c o (fun q' => hb (by simp [q'])) (fun q' => hb (by simp [q'])) (fun q' => hb (by simp [q'])) (fun q' => hb (by simp [q'])) q)) hf (Nat.le_refl _) new
    have zi1 : i1 ≠ z := fun q => D.zf1 (by simp [q])
    have zi2 : i2 ≠ z := fun q => D.zf2 (by simp [q])
    refine ⟨.ref s.heap.objs.size, _, I1, rfl, ⟨_, x, y, rfl, I.hok.fresh (Nat.le_refl _), rfl, fun l hl => by rw [S1.inj I hl hqx]; exact hx, fun l hl => by rw [S2.inj I hl hqy]; exact hy⟩, ⟨z'', ?_, ⟨u, u2, ?_⟩, ?_, ?_⟩, fun c hcm => ?_⟩
    · exact (sb.2 _ D.TIz).trans (hk _ _ D.TIz D.TITO D.TIi1 D.TIi2 hTI)
    · exact (sb.2 _ D.TOz).trans TO'
    · exact S1.at_ st1.1 fun o q => (sb.2 _ zi1).trans q
    · exact S2.at_ st2.1 fun o q => (sb.2 _ zi2).trans q
    · have hlt : c < s.heap.objs.size := by
        have e' : c = z ∨ c = TI ∨ c = TO ∨ c = i1 ∨ c = i2 := by simpa using hcm
        rcases e' with q | q | q | q | q
        · rw [q]; exact hzl
        · rw [q]; exact Heap.lt_size hTI
        · rw [q]; exact Heap.lt_size hTO
        · rw [q]; obtain ⟨_, e1, _⟩ := S1.obj h1; exact Heap.lt_size e1
        · rw [q]; obtain ⟨_, e2, _⟩ := S2.obj h2; exact Heap.lt_size e2
      rw [upd_ne (Nat.ne_of_lt hlt)]
      exact (hf c hcm).1
  done := by
    intro X hP hw hK hc i pins s σ H E I hf st hg
    subst hP hw hK
    obtain ⟨hz, hTI, ⟨x0, y0, hTO⟩, h1, h2⟩ := st
    obtain ⟨xs, ys, hqx, hqy, le1, le2, hend⟩ := hg
    obtain ⟨its, rv, p⟩ := S1.inv I hqx
    obtain ⟨its2, rv2, p2⟩ := S2.inv I hqy
    have l1 := rv.length
    have l2 := rv2.length
    have hh : X.A.in1.handled = none := I.ok.hd hc
    exact wpAny_pyNext_zipD2_end D (S1.draws hh i1 a ha1 its.toArray) (S2.draws hh i2 b hb2 its2.toArray) hz hTI hTO ⟨h1, p⟩ ⟨h2, p2⟩ (by rw [List.size_toArray]; omega) (by rw [List.size_toArray]; omega)
      (by rw [List.size_toArray, List.size_toArray]; omega) fun h' tk hk => ⟨rfl, I.turnedL (t' := tk) (ch := [z, TI, TO, i1, i2]) (fun c o hb q =>
      hk c o (fun q' => hb (by simp [q'])) (fun q' => hb (by simp [q'])) (fun q' => hb (by simp [q'])) (fun q' => hb (by simp [q'])) q) hf⟩
  self := fun A i s Q E st h => wpAny_pyIter_zip st.1 h
def iZpG (S1 S2 : Src) (K : PySem.W.Frag) (ta : TA) : TI := fun σ H R => ta σ H fun vs H1 => ∃ a b xs ys, vs = [.ref a, .ref b] ∧ S1.sq K H1 a xs ∧ S2.sq K H1 b ys ∧ R (ItZ S1 S2 K a b) H1
theorem zipG_run (S1 S2 : Src) {X : Cx} {pins : List (Addr × Obj)} {σ : L2.St} {H1 : Hp} {s1 : Shared} {us : List Value} {vs : List V} {elts : List Expr} {kk : Nat} {tpos : Pos} {R : It → Hp → Prop} (I1 : Inv X pins σ H1 s1) (r1 : Vals vs us)
    (q1 : ∃ (a b : Addr) (xs ys : List V), vs = [.ref a, .ref b] ∧ S1.sq X.K H1 a xs ∧ S2.sq X.K H1 b ys ∧ R (ItZ S1 S2 X.K a b) H1) :
    wpAny (model X.prog X.w) X.A (call (.type "zip") us) (fun v s1 => wpAny (model X.prog X.w) X.A (pyIter v) (PIE X pins σ (.Tuple elts kk tpos) R) X.xe s1) X.xe s1 := by
  obtain ⟨a, b, xs, ys, ex, hqx, hqy, q⟩ := q1
  subst ex
  cases r1 with
  | cons r rr =>
    cases rr with
    | cons r' rr =>
      cases rr
      cases r
      cases r'
      obtain ⟨its, rv, p1⟩ := S1.inv I1 hqx
      obtain ⟨its2, rv2, p2⟩ := S2.inv I1 hqy
      have la := S1.lt p1
      have lb := S2.lt p2
      refine zip_begins2 (S1.beg a its.toArray) (S2.beg b its2.toArray) p1 p2 fun h' hz hTI hTO h1 h2 hsz hk => wpAny_pyIter_zip hz ?_
      have I2 : Inv X pins σ H1 { s1 with heap := h' } := I1.kept (t' := s1.toks) hk
      refine ⟨s1.heap.objs.size + 4, [s1.heap.objs.size + 4, s1.heap.objs.size + 2, s1.heap.objs.size + 3, s1.heap.objs.size, s1.heap.objs.size + 1], _, _, H1, rfl, I2,
        turn_zipG S1 S2 (zip_sep2 (fp1 := [a]) (fp2 := [b]) (by intro c hc; rw [List.mem_singleton.mp hc]; exact la) (by intro c hc; rw [List.mem_singleton.mp hc]; exact lb)) (Nat.ne_of_lt la) (Nat.ne_of_lt (Nat.lt_succ_of_lt lb)),
        ⟨hz, hTI, ⟨_, _, hTO⟩, S1.start h1, S2.start h2⟩, fun c hcm => ?_, q⟩
      have e' : c = s1.heap.objs.size + 4 ∨ c = s1.heap.objs.size + 2 ∨ c = s1.heap.objs.size + 3 ∨ c = s1.heap.objs.size ∨ c = s1.heap.objs.size + 1 := by simpa using hcm
      have hle : s1.heap.objs.size ≤ c := by
        rcases e' with z | z | z | z | z
        · rw [z]; exact Nat.le_add_right _ _
        · rw [z]; exact Nat.le_add_right _ _
        · rw [z]; exact Nat.le_add_right _ _
        · rw [z]; exact Nat.le_refl _
        · rw [z]; exact Nat.le_add_right _ _
      exact I1.fpOk hle (I1.hok.fresh hle)

/-! ### for over them -/
theorem for_enumG (S : Src) {K : PySem.W.Frag} {a : Addr} {xs : List V} {g : TG} {tb : TS} {D : Ends} {σ : L2.St} {H : Hp} (Pv : Nat → L2.St → Hp → Prop) (h0 : Pv 0 σ H) (hq : ∀ i σ H, Pv i σ H → S.sq K H a xs)
    (hs : ∀ (i : Nat) (x : V) (T : Addr) (σ : L2.St) (H : Hp), xs[i]? = some x → Pv i σ H → H T = none → g (.ref T) σ (upd H T (.tup [.int (i : Nat), x])) fun σ2 H2 => tb { D with nx := Pv (i + 1), ct := Pv (i + 1), bk := D.nx } σ2 H2) (hd : ∀ σ H, Pv xs.length σ H → D.nx σ H) :
    ∃ W : Nat → Nat → L2.St → Hp → Prop, (∃ m, W 0 m σ H) ∧ ∀ i m σ H, W i m σ H →
      ((ItE S K a).stop i H ∧ D.nx σ H) ∨ ((ItE S K a).go i H ∧ ∃ N : L2.St → Hp → Prop, (∀ σ' H', N σ' H' → ∃ m', m' < m ∧ W (i + 1) m' σ' H') ∧ ∀ v H', (ItE S K a).yld i H v H' → g v σ H' fun σ2 H2 => tb { D with nx := N, ct := N, bk := D.nx } σ2 H2) := by
  refine ⟨fun i m σ H => m = xs.length - i ∧ i ≤ xs.length ∧ Pv i σ H, ⟨xs.length, rfl, Nat.zero_le _, h0⟩, ?_⟩
  rintro i m σ H ⟨rfl, hi, p⟩
  have qx := hq i σ H p
  by_cases hlt : i < xs.length
  · have hx : xs[i]? = some xs[i] := List.getElem?_eq_getElem hlt
    refine .inr ⟨⟨xs, _, qx, hx⟩, Pv (i + 1), fun σ' H' p' => ⟨xs.length - (i + 1), by omega, rfl, hlt, p'⟩, fun v H' y => ?_⟩
    obtain ⟨T, x', rfl, hT, rfl, f1⟩ := y
    exact hs i x' T σ H (f1 xs qx) p hT
  · have e : i = xs.length := by omega
    subst e
    exact .inl ⟨⟨xs, qx, rfl⟩, hd σ H p⟩
theorem for_zipG (S1 S2 : Src) {K : PySem.W.Frag} {a b : Addr} {xs ys : List V} {g : TG} {tb : TS} {D : Ends} {σ : L2.St} {H : Hp} (hl : xs.length = ys.length) (Pv : Nat → L2.St → Hp → Prop) (h0 : Pv 0 σ H) (hq : ∀ i σ H, Pv i σ H → S1.sq K H a xs ∧ S2.sq K H b ys)
    (hs : ∀ (i : Nat) (x y : V) (T : Addr) (σ : L2.St) (H : Hp), xs[i]? = some x → ys[i]? = some y → Pv i σ H → H T = none → g (.ref T) σ (upd H T (.tup [x, y])) fun σ2 H2 => tb { D with nx := Pv (i + 1), ct := Pv (i + 1), bk := D.nx } σ2 H2) (hd : ∀ σ H, Pv xs.length σ H → D.nx σ H) :
    ∃ W : Nat → Nat → L2.St → Hp → Prop, (∃ m, W 0 m σ H) ∧ ∀ i m σ H, W i m σ H →
      ((ItZ S1 S2 K a b).stop i H ∧ D.nx σ H) ∨ ((ItZ S1 S2 K a b).go i H ∧ ∃ N : L2.St → Hp → Prop, (∀ σ' H', N σ' H' → ∃ m', m' < m ∧ W (i + 1) m' σ' H') ∧ ∀ v H', (ItZ S1 S2 K a b).yld i H v H' → g v σ H' fun σ2 H2 => tb { D with nx := N, ct := N, bk := D.nx } σ2 H2) := by
  refine ⟨fun i m σ H => m = xs.length - i ∧ i ≤ xs.length ∧ Pv i σ H, ⟨xs.length, rfl, Nat.zero_le _, h0⟩, ?_⟩
  rintro i m σ H ⟨rfl, hi, p⟩
  obtain ⟨qx, qy⟩ := hq i σ H p
  by_cases hlt : i < xs.length
  · have hx : xs[i]? = some xs[i] := List.getElem?_eq_getElem hlt
    have hlt2 : i < ys.length := by omega
    have hy : ys[i]? = some ys[i] := List.getElem?_eq_getElem hlt2
    refine .inr ⟨⟨xs, ys, _, _, qx, qy, hx, hy⟩, Pv (i + 1), fun σ' H' p' => ⟨xs.length - (i + 1), by omega, rfl, hlt, p'⟩, fun v H' y => ?_⟩
    obtain ⟨T, x', y', rfl, hT, rfl, f1, f2⟩ := y
    exact hs i x' y' T σ H (f1 xs qx) (f2 ys qy) p hT
  · have e : i = xs.length := by omega
    subst e
    exact .inl ⟨⟨xs, ys, qx, qy, Nat.le_refl _, by omega, .inl rfl⟩, hd σ H p⟩

/-! ### two tuples of the same numbers -/
theorem canLay_ints : ∀ ns : List Nat, PyData.canLayAll0 (ns.map fun n : Nat => PyData.int (n : Int)) = true
  | [] => by simp [PyData.canLayAll0]
  | n :: r => by
    rw [List.map_cons, PyData.canLayAll0, canLay_ints r]
    simp [PyData.canLay0]
theorem depth_ints : ∀ ns : List Nat, PyData.depthAll (ns.map fun n : Nat => PyData.int (n : Int)) ≤ 1
  | [] => by simp [PyData.depthAll]
  | n :: r => by
    have := depth_ints r
    rw [List.map_cons, PyData.depthAll]
    simp [PyData.depth] <;> omega
theorem dp_ints {K : PySem.W.Frag} {H : Hp} : ∀ ns : List Nat, DpAll K H (ns.map vI) (ns.map fun n : Nat => PyData.int (n : Int))
  | [] => .nil
  | n :: r => .cons (.int _) (dp_ints r)
theorem shaped_ints (ns : List Nat) : SeqAt.shaped (.tuple (ns.map fun n : Nat => PyData.int (n : Int))) = true := by
  have h := depth_ints ns
  unfold SeqAt.shaped
  rw [PyData.canLay0, canLay_ints, Bool.true_and]
  refine decide_eq_true ?_
  rw [PyData.depth]
  omega
def rNeI (K : PySem.W.Frag) : R2 := fun x y H Q => ∃ (a b : Addr) (ns : List Nat), x = .ref a ∧ y = .ref b ∧ SqT K H a (ns.map vI) ∧ SqT K H b (ns.map vI) ∧ Q (.bl false) H
theorem op_neI {X : Cx} (hu : X.A.units + 64 < cLine) : OpR X (compareOp .NotEq) (rNeI X.K) := by
  intro pins s σ H x y v u Q I rx ry h
  obtain ⟨a, b, ns, rfl, rfl, ha, hb, q⟩ := h
  refine op_neD hu pins s σ H _ _ v u Q I rx ry ⟨_, _, .tup ha (dp_ints ns), .tup hb (dp_ints ns), shaped_ints ns, shaped_ints ns, ?_⟩
  rw [SeqAt.eqv_refl _ (SeqAt.canLay_of_shaped (shaped_ints ns))]
  exact q
def rEqI (K : PySem.W.Frag) : R2 := fun x y H Q => ∃ (a b : Addr) (ns : List Nat), x = .ref a ∧ y = .ref b ∧ SqT K H a (ns.map vI) ∧ SqT K H b (ns.map vI) ∧ Q (.bl true) H
theorem op_eqI {X : Cx} (hu : X.A.units + 64 < cLine) : OpR X (compareOp .Eq) (rEqI X.K) := by
  intro pins s σ H x y v u Q I rx ry h
  obtain ⟨a, b, ns, rfl, rfl, ha, hb, q⟩ := h
  refine op_eqD hu pins s σ H _ _ v u Q I rx ry ⟨_, _, .tup ha (dp_ints ns), .tup hb (dp_ints ns), shaped_ints ns, shaped_ints ns, ?_⟩
  rw [SeqAt.eqv_refl _ (SeqAt.canLay_of_shaped (shaped_ints ns))]
  exact q

/-! ### list.extend(tuple) -/
theorem ext_tupA (l : Addr) (items : Array Value) (n : Nat) (b : Addr) (items2 : Array Value) (n2 : Nat) (dd : Option Addr) (sl : Array (Option Value)) (hs0 : ¬(!items.isEmpty && Builtin.List.listTooLong (items.size + items2.size)) = true) (hs1 : items.size ≤ sizeLine) (hs2 : items.size + items2.size ≤ sizeLine + 1) :
    Meets (Builtin.«list.extend» ⟨[.ref l, .ref b], []⟩) (fun _ R s => s.heap.get? l = some { cls := .type "list", dict := none, data := .seq items n, slots := #[] } ∧ s.heap.get? b = some { cls := .type "tuple", dict := dd, data := .seq items2 n2, slots := sl } ∧ R (.ok (.ret Value.none)) { s with heap := s.heap.update l (Obj.mapSeq fun x => x ++ items2), toks := s.toks }) :=
  .of_wp fun prog w A R s h => by
    obtain ⟨hp, g, d, tk, os⟩ := s; obtain ⟨hl, hb, h⟩ := h; have f2 := sub_tuple_tuple; have f3 := sub_list_list; have f4 := sub_tuple_list; have f5 := sub_list_tuple
    have hz' : (items ++ items2).size ≤ sizeLine + 1 := by rw [Array.size_append]; exact hs2
    wp_walk using (wpAny_updateSeq hl rfl (hz := hs1) (_hz' := hz')), wpAny_loadPart' hl, wpAny_loadPart' hb
    exact ⟨_, rfl, h⟩
def rExtT (K : PySem.W.Frag) : V → List V → Hp → VK → Prop := fun x vs H Q => ∃ l b xs zs, x = .ref l ∧ vs = [.ref b] ∧ H l = some (.lst xs) ∧ SqT K H b zs ∧ xs.length + zs.length ≤ sizeLine ∧ Q .non (upd H l (.lst (xs ++ zs)))
theorem mt_extT {X : Cx} : MtM X "list.extend" (rExtT X.K) := by
  intro pins s σ H x vs v us Q I rx rv h
  obtain ⟨l, b, xs, zs, rfl, rfl, hH, hB, hz, q⟩ := h
  cases rx
  obtain ⟨u, rfl, ru⟩ := rv.one
  cases ru
  obtain ⟨z, its, n, r, hl, e⟩ := I.lstM hH
  obtain ⟨its2, r2, p2, hl2⟩ := I.tuple hB
  obtain ⟨⟨cls, dd, data, sl⟩, ho, hc, n2, hd⟩ := id p2
  simp only at hc hd
  subst hc hd
  have len2 := r2.length
  have hsz : its.toArray.size + its2.toArray.size ≤ sizeLine := by rw [List.size_toArray, List.size_toArray]; omega
  have hlong : ¬ (!its.toArray.isEmpty && Builtin.List.listTooLong (its.toArray.size + its2.toArray.size)) = true := by
    rw [notLongL hsz, Bool.and_false]
    exact Bool.false_ne_true
  refine call_meets F.slot_list_extend ⟨_, e, rfl⟩ F.entry_list_extend (F.args_list_extend_2 _ _)
    (ext_tupA l its.toArray n b its2.toArray n2 dd sl hlong (by rw [List.size_toArray]; omega) (by omega)) ⟨e, ho, ?_⟩
  refine ⟨.non, _, I.lset (its' := its ++ its2) hH e (by simp) (r.append r2) ?_, rfl, q⟩
  rw [List.length_append]
  omega

/-! ### the source as it comes -/
def iEnX (K : PySem.W.Frag) (ta : TA) : TI := fun σ H R => ta σ H fun vs H1 => ∃ (S : Src) (a : Addr) (xs : List V), vs = [.ref a] ∧ S.sq K H1 a xs ∧ R (ItE S K a) H1
theorem pi_enumX {X : Cx} {e : Expr} {ta : TA} {p pos tpos : Pos} {elts : List Expr} {kk : Nat} (hg : Gl X "enumerate") (hm : X.mg "enumerate" = none) (ha : PA X [e] ta) (hs : starEach [e] X.env = [(false, eval e X.env)] := by rfl) :
    PI X (.Tuple elts kk tpos) (.Call (.Name "enumerate" p) [e] [] pos) (iEnX X.K ta) := by
  refine ⟨fun pins s σ H R I h => ?_⟩
  have h' : ta σ H fun vs H1 => ∃ S : Src, ∃ (a : Addr) (xs : List V), vs = [.ref a] ∧ S.sq X.K H1 a xs ∧ R (ItE S X.K a) H1 := h
  refine Call_ (ld_blt I hg hm boot_enumerate (PyProof.Rows.callWith_type1 (thn (ha.run pos pins s σ H _ I h') fun us s1 ⟨vs, H1, I1, r1, q1⟩ => ?_) hs rfl))
  obtain ⟨S, a, xs, ex, hq, q⟩ := q1
  exact enumG_run S I1 r1 ⟨a, xs, ex, hq, q⟩
def iZpX (K : PySem.W.Frag) (ta : TA) : TI := fun σ H R => ta σ H fun vs H1 => ∃ (S1 S2 : Src) (a b : Addr) (xs ys : List V), vs = [.ref a, .ref b] ∧ S1.sq K H1 a xs ∧ S2.sq K H1 b ys ∧ R (ItZ S1 S2 K a b) H1
theorem pi_zipX {X : Cx} {e e2 : Expr} {ta : TA} {p pos tpos : Pos} {elts : List Expr} {kk : Nat} (hg : Gl X "zip") (hm : X.mg "zip" = none) (ha : PA X [e, e2] ta)
    (hs : starEach [e, e2] X.env = (false, eval e X.env) :: starEach [e2] X.env := by rfl) (hpl : (backTo pos (starEach [e2] X.env)).any (·.1) = false := by rfl) :
    PI X (.Tuple elts kk tpos) (.Call (.Name "zip" p) [e, e2] [] pos) (iZpX X.K ta) := by
  refine ⟨fun pins s σ H R I h => ?_⟩
  have h' : ta σ H fun vs H1 => ∃ S1 S2 : Src, ∃ (a b : Addr) (xs ys : List V), vs = [.ref a, .ref b] ∧ S1.sq X.K H1 a xs ∧ S2.sq X.K H1 b ys ∧ R (ItZ S1 S2 X.K a b) H1 := h
  refine Call_ (ld_blt I hg hm PyProof.Rows.boot_zip (PyProof.Rows.callWith_type1 (thn (ha.run pos pins s σ H _ I h') fun us s1 ⟨vs, H1, I1, r1, q1⟩ => ?_) hs hpl))
  obtain ⟨S1, S2, a, b, xs, ys, ex, hqx, hqy, q⟩ := q1
  exact zipG_run S1 S2 I1 r1 ⟨a, b, xs, ys, ex, hqx, hqy, q⟩
end Bf

set_option Elab.async false
set_option linter.all false
set_option maxRecDepth 100000
set_option maxHeartbeats 4000000
namespace Bf
open PySem PySem.Spec PyProof.Rows L2
/-! ### data of tuples, ints and texts, as they lie -/
mutual
inductive Lay (H : Hp) : V → PyData → Prop
  | non : Lay H .non .none
  | bl (b : Bool) : Lay H (.bl b) (.bool b)
  | int (i : Int) : Lay H (.int i) (.int i)
  | str (x : Str) : Lay H (.str x) (.str x)
  | tup {a : Addr} {xs : List V} {ds : List PyData} : H a = some (.tup xs) → LayAll H xs ds → Lay H (.ref a) (.tuple ds)
inductive LayAll (H : Hp) : List V → List PyData → Prop
  | nil : LayAll H [] []
  | cons {v : V} {vs : List V} {d : PyData} {ds : List PyData} : Lay H v d → LayAll H vs ds → LayAll H (v :: vs) (d :: ds)
end
/-- what is tracked as a tuple in H is so in H' -/
def KeepT (H H' : Hp) : Prop := ∀ b xs, H b = some (.tup xs) → H' b = some (.tup xs)
theorem KeepT.refl (H : Hp) : KeepT H H := fun _ _ h => h
theorem KeepT.same {H H' : Hp} (k : Same H H') : KeepT H H' := fun b xs h => k _ _ h
theorem KeepT.trans {H H1 H2 : Hp} (a : KeepT H H1) (b : KeepT H1 H2) : KeepT H H2 := fun c o h => b c o (a c o h)
theorem KeepT.new {H : Hp} {p : Addr} {o : HO} (h : H p = none) : KeepT H (upd H p o) := fun b u q => by rw [upd_ne (ne_of_none q h)]; exact q
theorem KeepT.lst {H : Hp} {p : Addr} {o : HO} {l : List V} (h : H p = some (.lst l)) : KeepT H (upd H p o) := fun b u q => by
  rw [upd_ne (fun e => by rw [e, h] at q; cases q)]
  exact q
mutual
theorem Lay.keep {H H' : Hp} (k : KeepT H H') : ∀ (d : PyData) (v : V), Lay H v d → Lay H' v d
  | .none, _, h => by cases h; exact .non
  | .bool b, _, h => by cases h; exact .bl b
  | .int i, _, h => by cases h; exact .int i
  | .str x, _, h => by cases h; exact .str x
  | .list ds, _, h => by cases h
  | .tuple ds, _, h => by
    cases h with
    | tup e a => exact .tup (k _ _ e) (LayAll.keep k ds _ a)
  | .dict _, _, h => by cases h
theorem LayAll.keep {H H' : Hp} (k : KeepT H H') : ∀ (ds : List PyData) (vs : List V), LayAll H vs ds → LayAll H' vs ds
  | [], _, h => by cases h; exact .nil
  | d :: ds, _, h => by
    cases h with
    | cons a b => exact .cons (Lay.keep k d _ a) (LayAll.keep k ds _ b)
end
mutual
theorem Lay.dp {K : PySem.W.Frag} {H : Hp} : ∀ (d : PyData) (v : V), Lay H v d → Dp K H v d
  | .none, _, h => by cases h; exact .non
  | .bool b, _, h => by cases h; exact .bl b
  | .int i, _, h => by cases h; exact .int i
  | .str x, _, h => by cases h; exact .str x
  | .list ds, _, h => by cases h
  | .tuple ds, _, h => by
    cases h with
    | tup e a => exact .tup (SqT.of e) (LayAll.dp ds _ a)
  | .dict _, _, h => by cases h
theorem LayAll.dp {K : PySem.W.Frag} {H : Hp} : ∀ (ds : List PyData) (vs : List V), LayAll H vs ds → DpAll K H vs ds
  | [], _, h => by cases h; exact .nil
  | d :: ds, _, h => by
    cases h with
    | cons a b => exact .cons (Lay.dp d _ a) (LayAll.dp ds _ b)
end
theorem Lay.keep' {H H' : Hp} {d : PyData} {v : V} (h : Lay H v d) (k : KeepT H H') : Lay H' v d := Lay.keep k d v h
theorem LayAll.keep' {H H' : Hp} {ds : List PyData} {vs : List V} (h : LayAll H vs ds) (k : KeepT H H') : LayAll H' vs ds := LayAll.keep k ds vs h
theorem Lay.dp' {K : PySem.W.Frag} {H : Hp} {d : PyData} {v : V} (h : Lay H v d) : Dp K H v d := Lay.dp d v h
theorem LayAll.len {H : Hp} : ∀ {vs : List V} {ds : List PyData}, LayAll H vs ds → vs.length = ds.length
  | _, _, .nil => rfl
  | _, _, .cons _ h => by rw [List.length_cons, List.length_cons, h.len]
theorem LayAll.get {H : Hp} {v : V} : ∀ {vs : List V} {ds : List PyData} (i : Nat), LayAll H vs ds → vs[i]? = some v → ∃ d, ds[i]? = some d ∧ Lay H v d
  | [], _, _, _, e => by simp at e
  | _ :: _, _, 0, h, e => by
    cases h with
    | cons a b => cases e; exact ⟨_, rfl, a⟩
  | x :: vs, ds, i + 1, h, e => by
    cases h with
    | cons a b =>
      obtain ⟨d, q, l⟩ := LayAll.get (vs := vs) i b (by simpa using e)
      exact ⟨d, by simpa using q, l⟩
theorem LayAll.at_ {H : Hp} {d : PyData} : ∀ {vs : List V} {ds : List PyData} (i : Nat), LayAll H vs ds → ds[i]? = some d → ∃ v, vs[i]? = some v ∧ Lay H v d
  | _, [], _, _, e => by simp at e
  | _, _ :: _, 0, h, e => by
    cases h with
    | cons a b => cases e; exact ⟨_, rfl, a⟩
  | vs, x :: ds, i + 1, h, e => by
    cases h with
    | cons a b =>
      obtain ⟨d, q, l⟩ := LayAll.at_ (ds := ds) i b (by simpa using e)
      exact ⟨d, by simpa using q, l⟩
theorem LayAll.app {H : Hp} : ∀ {vs us : List V} {ds es : List PyData}, LayAll H vs ds → LayAll H us es → LayAll H (vs ++ us) (ds ++ es)
  | _, _, _, _, .nil, h => h
  | _, _, _, _, .cons a b, h => .cons a (b.app h)
theorem LayAll.snoc {H : Hp} {vs : List V} {ds : List PyData} {v : V} {d : PyData} (h : LayAll H vs ds) (a : Lay H v d) : LayAll H (vs ++ [v]) (ds ++ [d]) := h.app (.cons a .nil)
theorem LayAll.ints {H : Hp} : ∀ ns : List Nat, LayAll H (ns.map vI) (ns.map fun n : Nat => PyData.int (n : Int))
  | [] => .nil
  | n :: ns => .cons (.int _) (LayAll.ints ns)
theorem LayAll.ints_inv {H : Hp} : ∀ {ns : List Nat} {vs : List V}, LayAll H vs (ns.map fun n : Nat => PyData.int (n : Int)) → vs = ns.map vI
  | [], _, .nil => rfl
  | n :: ns, _, .cons (.int _) h => by rw [LayAll.ints_inv h]; rfl
theorem LayAll.strs_inv {H : Hp} : ∀ {ns : List Str} {vs : List V}, LayAll H vs (ns.map PyData.str) → vs = ns.map V.str
  | [], _, .nil => rfl
  | n :: ns, _, .cons (.str _) h => by rw [LayAll.strs_inv h]; rfl
theorem LayAll.strs {H : Hp} : ∀ ns : List Str, LayAll H (ns.map V.str) (ns.map PyData.str)
  | [] => .nil
  | n :: ns => .cons (.str _) (LayAll.strs ns)
theorem Lay.tup_inv {H : Hp} {v : V} {ds : List PyData} (h : Lay H v (.tuple ds)) : ∃ p vs, v = .ref p ∧ H p = some (.tup vs) ∧ LayAll H vs ds := by
  cases h with
  | tup e a => exact ⟨_, _, rfl, e, a⟩
theorem Lay.int_inv {H : Hp} {v : V} {i : Int} (h : Lay H v (.int i)) : v = .int i := by cases h; rfl
theorem Lay.str_inv {H : Hp} {v : V} {z : Str} (h : Lay H v (.str z)) : v = .str z := by cases h; rfl
theorem LayAll.nil_inv {H : Hp} {vs : List V} (h : LayAll H vs []) : vs = [] := by cases h; rfl
theorem LayAll.cons_inv {H : Hp} {vs : List V} {d : PyData} {ds : List PyData} (h : LayAll H vs (d :: ds)) : ∃ v us, vs = v :: us ∧ Lay H v d ∧ LayAll H us ds := by
  cases h with
  | cons a b => exact ⟨_, _, rfl, a, b⟩
/-! ### the shapes that == serves -/
def Sh (k : Nat) (d : PyData) : Prop := d.canLay0 = true ∧ d.depth ≤ k
theorem Sh.int (k : Nat) (i : Int) : Sh k (.int i) := ⟨by simp only [PyData.canLay0], by simp only [PyData.depth]; omega⟩
theorem Sh.all {k : Nat} : ∀ {ds : List PyData}, (∀ d ∈ ds, Sh k d) → PyData.canLayAll0 ds = true ∧ PyData.depthAll ds ≤ k
  | [], _ => ⟨by simp only [PyData.canLayAll0], by simp only [PyData.depthAll]; omega⟩
  | d :: ds, h => by
    have a := h d (by simp)
    have b := Sh.all (ds := ds) fun e he => h e (by simp [he])
    refine ⟨?_, ?_⟩
    · simp only [PyData.canLayAll0]
      rw [a.1, b.1]
      rfl
    · simp only [PyData.depthAll]
      have := a.2
      have := b.2
      omega
theorem Sh.tup {k : Nat} {ds : List PyData} (h : ∀ d ∈ ds, Sh k d) : Sh (k + 1) (.tuple ds) := by
  have q := Sh.all h
  exact ⟨by simp only [PyData.canLay0]; exact q.1, by simp only [PyData.depth]; omega⟩
theorem Sh.lst {k : Nat} {ds : List PyData} (h : ∀ d ∈ ds, Sh k d) : Sh (k + 1) (.list ds) := by
  have q := Sh.all h
  exact ⟨by simp only [PyData.canLay0]; exact q.1, by simp only [PyData.depth]; omega⟩
theorem Sh.shaped {k : Nat} {d : PyData} (h : Sh k d) (hk : k ≤ 64) : SeqAt.shaped d = true := by
  show (d.canLay0 && decide (d.depth ≤ 64)) = true
  rw [Bool.and_eq_true]
  exact ⟨h.1, decide_eq_true (by have := h.2; omega)⟩
mutual
theorem eqv_self : ∀ d : PyData, d.canLay0 = true → PyData.eqv d d = true
  | .none, _ => by simp [PyData.eqv]
  | .bool b, _ => by simp [PyData.eqv]
  | .int i, _ => by simp [PyData.eqv]
  | .str x, _ => by simp [PyData.eqv]
  | .list ds, h => by
    simp only [PyData.canLay0] at h
    simp only [PyData.eqv]
    exact eqvAll_self ds h
  | .tuple ds, h => by
    simp only [PyData.canLay0] at h
    simp only [PyData.eqv]
    exact eqvAll_self ds h
  | .dict _, h => by simp [PyData.canLay0] at h
theorem eqvAll_self : ∀ ds : List PyData, PyData.canLayAll0 ds = true → PyData.eqvAll ds ds = true
  | [], _ => by simp [PyData.eqvAll]
  | d :: ds, h => by
    simp only [PyData.canLayAll0, Bool.and_eq_true] at h
    simp only [PyData.eqvAll, Bool.and_eq_true]
    exact ⟨eqv_self d h.1, eqvAll_self ds h.2⟩
end
/-! ### bits of numbers that are not negative -/
section
variable {X : Cx}
theorem op_xorB : OpR X (binaryOp .BitXor) (fun x y H Q => ∃ n m : Nat, x = .int (n : Int) ∧ y = .int (m : Int) ∧ Q (vI (n ^^^ m)) H) := by
  intro pins s σ H x y v u Q I rx ry h
  obtain ⟨n, m, rfl, rfl, q⟩ := h
  refine op_xor pins s σ H _ _ v u Q I rx ry ⟨_, _, rfl, rfl, ?_⟩
  show Q (V.int (Builtin.bitXor (n : Int) (m : Int))) H
  rw [Bits.bitXor_pp (Int.natCast_nonneg _) (Int.natCast_nonneg _)]
  exact q
theorem op_andB : OpR X (binaryOp .BitAnd) (fun x y H Q => ∃ n m : Nat, x = .int (n : Int) ∧ y = .int (m : Int) ∧ Q (vI (n &&& m)) H) := by
  intro pins s σ H x y v u Q I rx ry h
  obtain ⟨n, m, rfl, rfl, q⟩ := h
  refine op_and pins s σ H _ _ v u Q I rx ry ⟨_, _, rfl, rfl, ?_⟩
  show Q (V.int (Builtin.bitAnd (n : Int) (m : Int))) H
  rw [bitAnd_pp (Int.natCast_nonneg _) (Int.natCast_nonneg _)]
  exact q
theorem op_orB : OpR X (binaryOp .BitOr) (fun x y H Q => ∃ n m : Nat, x = .int (n : Int) ∧ y = .int (m : Int) ∧ Q (vI (n ||| m)) H) := by
  intro pins s σ H x y v u Q I rx ry h
  obtain ⟨n, m, rfl, rfl, q⟩ := h
  refine op_or pins s σ H _ _ v u Q I rx ry ⟨_, _, rfl, rfl, ?_⟩
  show Q (V.int (Builtin.bitOr (n : Int) (m : Int))) H
  rw [Bits.bitOr_pp (Int.natCast_nonneg _) (Int.natCast_nonneg _)]
  exact q
end
/-! ### wide numbers that are not negative -/
theorem natAbs_cast (n : Nat) : ((n : Int)).natAbs = n := rfl
section
variable {X : Cx}
theorem op_fdivNW : OpR X (binaryOp .FloorDiv) (fun x y H Q => ∃ n m : Nat, x = .int (n : Int) ∧ y = .int (m : Int) ∧ (1 ≤ m ∧ m < 2 ^ 9000) ∧ Q (vI (n / m)) H) := by
  intro pins s σ H x y v u Q I rx ry h
  obtain ⟨n, m, rfl, rfl, ⟨h1, h2⟩, q⟩ := h
  exact op_fdivW pins s σ H _ _ v u Q I rx ry ⟨_, _, rfl, rfl, wide_div (b := 9000) (by omega) h2 (by omega) (by omega), q⟩
theorem op_mulNW : OpR X (binaryOp .Mult) (fun x y H Q => ∃ n m : Nat, x = .int (n : Int) ∧ y = .int (m : Int) ∧ (n < 2 ^ 100000 ∧ m < 2 ^ 100000) ∧ Q (vI (n * m)) H) := by
  intro pins s σ H x y v u Q I rx ry h
  obtain ⟨n, m, rfl, rfl, ⟨h1, h2⟩, q⟩ := h
  refine op_mulW pins s σ H _ _ v u Q I rx ry ⟨_, _, rfl, rfl, wide_mul (a := 100000) (b := 100000) h1 h2 (by omega) (by omega) (by omega), ?_⟩
  show Q (V.int ((n : Int) * (m : Int))) H
  rw [← Int.natCast_mul]
  exact q
theorem op_shlNN : OpR X (binaryOp .LShift) (fun x y H Q => ∃ n k : Nat, x = .int (n : Int) ∧ y = .int (k : Int) ∧ (n < 2 ^ 100000 ∧ k ≤ 100000) ∧ Q (vI (n * 2 ^ k)) H) := by
  intro pins s σ H x y v u Q I rx ry h
  obtain ⟨n, k, rfl, rfl, ⟨h1, h2⟩, q⟩ := h
  refine op_shlN pins s σ H _ _ v u Q I rx ry ⟨_, k, rfl, rfl, shl_ok (n := 100000) h1 (by omega), ?_⟩
  have e : ((n : Int) * 2 ^ k) = ((n * 2 ^ k : Nat) : Int) := by simp
  rw [e]
  exact q
theorem op_oneShlN : OpR X (binaryOp .LShift) (fun x y H Q => ∃ k : Nat, x = .int 1 ∧ y = .int (k : Int) ∧ k ≤ 134217727 ∧ Q (vI (2 ^ k)) H) := by
  intro pins s σ H x y v u Q I rx ry h
  obtain ⟨k, rfl, rfl, h1, q⟩ := h
  refine op_oneShl pins s σ H _ _ v u Q I rx ry ⟨k, rfl, rfl, h1, ?_⟩
  have e : ((2 : Int) ^ k) = ((2 ^ k : Nat) : Int) := by simp
  rw [e]
  exact q
end
/-! ### walks -/
theorem walk_enumG (S : Src) {K : PySem.W.Frag} {a : Addr} {xs : List V} : Walk (ItE S K a) xs.length (fun H => S.sq K H a xs) (YPair (fun i => some (.int (i : Nat))) (fun i => xs[i]?)) := by
  refine ⟨fun i _ hi q => ⟨xs, xs[i], q, by simp [hi]⟩, fun _ q => ⟨xs, q, rfl⟩, fun i H v H' _ q y => ?_⟩
  obtain ⟨T, x, h1, h2, h3, h4⟩ := y
  exact ⟨T, .int (i : Nat), x, h1, h2, h3, rfl, h4 xs q⟩
def rLenK (K : PySem.W.Frag) (xs : List V) (H : Hp) (Q : V → Hp → Prop) : Prop := ∃ p ys, xs = [.ref p] ∧ (SqL K H p ys ∨ SqT K H p ys) ∧ Q (.int ys.length) H
theorem call_lenK {X : Cx} : CallR X (.builtin "len") (rLenK X.K) := call_len_seq
/-! ### small facts -/
theorem refAt {ts : List Addr} {i : Nat} {x : V} (h : (ts.map V.ref)[i]? = some x) : ∃ t, ts[i]? = some t ∧ x = .ref t := by
  rw [List.getElem?_map] at h
  cases e : ts[i]? with
  | none => rw [e] at h; cases h
  | some k => rw [e] at h; exact ⟨k, rfl, (Option.some.inj h).symm⟩
theorem natAt {xs : List Nat} {i : Nat} {x : V} (h : (xs.map vI)[i]? = some x) : ∃ k, xs[i]? = some k ∧ x = vI k := by
  rw [List.getElem?_map] at h
  cases e : xs[i]? with
  | none => rw [e] at h; cases h
  | some k => rw [e] at h; exact ⟨k, rfl, (Option.some.inj h).symm⟩
theorem mapAt {α : Type} {f : α → V} {xs : List α} {i : Nat} {x : V} (h : (xs.map f)[i]? = some x) : ∃ k, xs[i]? = some k ∧ x = f k := by
  rw [List.getElem?_map] at h
  cases e : xs[i]? with
  | none => rw [e] at h; cases h
  | some k => rw [e] at h; exact ⟨k, rfl, (Option.some.inj h).symm⟩
theorem mapAtD {α : Type} {f : α → PyData} {xs : List α} {i : Nat} {x : PyData} (h : (xs.map f)[i]? = some x) : ∃ k, xs[i]? = some k ∧ x = f k := by
  rw [List.getElem?_map] at h
  cases e : xs[i]? with
  | none => rw [e] at h; cases h
  | some k => rw [e] at h; exact ⟨k, rfl, (Option.some.inj h).symm⟩
theorem take_snoc {α : Type} {l : List α} {i : Nat} {x : α} (h : l[i]? = some x) : l.take (i + 1) = l.take i ++ [x] := by
  rw [List.take_add_one, h]
  rfl
theorem same_two {H H' : Hp} {p : Addr} {o : HO} (k : Same H H') (hp : H p = none) : Same H (upd H' p o) := fun b u q => by
  rw [upd_ne (ne_of_none q hp)]
  exact k _ _ q
theorem i62 {n : Nat} (h : n ≤ 1000) : -(2 ^ 62) ≤ (n : Int) ∧ (n : Int) < 2 ^ 62 := by
  have a : (-(2 ^ 62) : Int) ≤ 0 := by decide
  have b : (1001 : Int) ≤ 2 ^ 62 := by decide
  exact ⟨Int.le_trans a (Int.natCast_nonneg _), Int.lt_of_lt_of_le (by omega) b⟩
theorem vInt {i : Int} {n : Nat} (h : i = (n : Int)) : V.int i = vI n := by rw [h]; rfl
theorem all_true : ∀ n : Nat, (List.replicate n true).all id = true
  | 0 => rfl
  | n + 1 => by
    rw [List.replicate_succ, List.all_cons, all_true n]
    rfl
theorem len1000 {n : Nat} (h : n ≤ 1000) : n < sizeLine := small1000 h
end Bf

set_option Elab.async false
set_option linter.all false
set_option maxRecDepth 100000
set_option maxHeartbeats 4000000
namespace Bf
/-! ### ports: their words as bits -/
def bitsN (n w : Nat) : List Nat := (List.range n).map fun k => w / 2 ^ k % 2
def valN : List Nat → Nat
  | [] => 0
  | b :: r => b + 2 * valN r
def splN : List Nat → List Nat → List Nat
  | w :: ws, x :: xs => bitsN w x ++ splN ws xs
  | _, _ => []
def joiN : List Nat → List Nat → List Nat
  | [], _ => []
  | w :: ws, bs => valN (bs.take w) :: joiN ws (bs.drop w)
theorem bitsN_succ (n w : Nat) : bitsN (n + 1) w = bitsN n w ++ [w / 2 ^ n % 2] := by
  unfold bitsN
  rw [List.range_succ, List.map_append]
  rfl
theorem bitsN_len (n w : Nat) : (bitsN n w).length = n := by
  unfold bitsN
  simp
theorem bitsN_cons (n w : Nat) : bitsN (n + 1) w = (w % 2) :: bitsN n (w / 2) := by
  unfold bitsN
  rw [List.range_succ_eq_map, List.map_cons, List.map_map]
  congr 1
  · simp
  · apply List.map_congr_left
    intro k _
    show w / 2 ^ (k + 1) % 2 = w / 2 / 2 ^ k % 2
    rw [Nat.div_div_eq_div_mul, Nat.pow_succ, Nat.mul_comm]
theorem bitsN_lt {n w b : Nat} (h : b ∈ bitsN n w) : b < 2 := by
  unfold bitsN at h
  obtain ⟨k, _, e⟩ := List.mem_map.mp h
  rw [← e]
  exact Nat.mod_lt _ (by decide)
theorem valN_snoc : ∀ (l : List Nat) (b : Nat), valN (l ++ [b]) = valN l + b * 2 ^ l.length
  | [], b => by simp [valN]
  | a :: l, b => by
    rw [List.cons_append, valN, valN_snoc l b, valN, List.length_cons, Nat.pow_succ, Nat.mul_add]
    rw [show b * (2 ^ l.length * 2) = 2 * (b * 2 ^ l.length) by rw [← Nat.mul_assoc]; exact Nat.mul_comm _ _]
    omega
theorem val_bits : ∀ (n w : Nat), w < 2 ^ n → valN (bitsN n w) = w
  | 0, w, h => by
    have : w = 0 := by simpa using h
    rw [this]
    rfl
  | n + 1, w, h => by
    have h2 : w / 2 < 2 ^ n := by
      rw [Nat.pow_succ] at h
      omega
    rw [bitsN_cons, valN, val_bits n (w / 2) h2]
    omega
theorem bits_val : ∀ (l : List Nat), (∀ b ∈ l, b < 2) → bitsN l.length (valN l) = l
  | [], _ => rfl
  | a :: l, h => by
    have ha : a < 2 := h a (by simp)
    rw [List.length_cons, bitsN_cons, valN]
    have e1 : (a + 2 * valN l) % 2 = a := by omega
    have e2 : (a + 2 * valN l) / 2 = valN l := by omega
    rw [e1, e2, bits_val l fun b hb => h b (by simp [hb])]
theorem valN_lt : ∀ (l : List Nat), (∀ b ∈ l, b < 2) → valN l < 2 ^ l.length
  | [], _ => by simp [valN]
  | a :: l, h => by
    have ha : a < 2 := h a (by simp)
    have := valN_lt l fun b hb => h b (by simp [hb])
    rw [List.length_cons, Nat.pow_succ, valN]
    omega
theorem splN_snoc : ∀ (a b : List Nat) (w x : Nat), a.length = b.length → splN (a ++ [w]) (b ++ [x]) = splN a b ++ bitsN w x
  | [], [], w, x, _ => by simp [splN]
  | [], _ :: _, _, _, h => by cases h
  | _ :: _, [], _, _, h => by cases h
  | u :: a, y :: b, w, x, h => by
    rw [List.cons_append, List.cons_append, splN, splN_snoc a b w x (by simpa using h), splN, List.append_assoc]
theorem splN_len : ∀ (a b : List Nat), a.length = b.length → (splN a b).length = a.sum
  | [], [], _ => rfl
  | [], _ :: _, h => by cases h
  | _ :: _, [], h => by cases h
  | u :: a, y :: b, h => by
    rw [splN, List.length_append, bitsN_len, splN_len a b (by simpa using h), List.sum_cons]
theorem splN_lt : ∀ (a b : List Nat) (z : Nat), z ∈ splN a b → z < 2
  | [], [], z, h => by cases h
  | [], _ :: _, z, h => by cases h
  | _ :: _, [], z, h => by cases h
  | u :: a, y :: b, z, h => by
    rw [splN] at h
    rcases List.mem_append.mp h with h | h
    · exact bitsN_lt h
    · exact splN_lt a b z h
theorem joiN_len : ∀ (ws bs : List Nat), (joiN ws bs).length = ws.length
  | [], _ => rfl
  | w :: ws, bs => by rw [joiN, List.length_cons, joiN_len ws, List.length_cons]
theorem joiN_snoc : ∀ (a bs : List Nat) (w : Nat), joiN (a ++ [w]) bs = joiN a bs ++ [valN ((bs.drop a.sum).take w)]
  | [], bs, w => by simp [joiN]
  | u :: a, bs, w => by
    rw [List.cons_append, joiN, joiN_snoc a (bs.drop u) w, joiN, List.drop_drop, List.sum_cons]
    rfl
theorem join_split : ∀ (ws xs : List Nat), ws.length = xs.length → (∀ (i w x : Nat), ws[i]? = some w → xs[i]? = some x → x < 2 ^ w) → joiN ws (splN ws xs) = xs
  | [], [], _, _ => rfl
  | [], _ :: _, h, _ => by cases h
  | _ :: _, [], h, _ => by cases h
  | w :: ws, x :: xs, h, k => by
    have e1 : (bitsN w x ++ splN ws xs).take w = bitsN w x := by rw [List.take_append_of_le_length (by rw [bitsN_len]; omega), List.take_of_length_le (by rw [bitsN_len]; omega)]
    have e2 : (bitsN w x ++ splN ws xs).drop w = splN ws xs := by
      have := List.drop_left (l₁ := bitsN w x) (l₂ := splN ws xs)
      rwa [bitsN_len] at this
    rw [splN, joiN, e1, e2, val_bits w x (k 0 w x rfl rfl), join_split ws xs (by simpa using h) fun i u y a b => k (i + 1) u y (by simpa using a) (by simpa using b)]
theorem split_join : ∀ (ws bs : List Nat), bs.length = ws.sum → (∀ b ∈ bs, b < 2) → splN ws (joiN ws bs) = bs
  | [], bs, h, _ => by
    have : bs = [] := List.eq_nil_of_length_eq_zero h
    rw [this]
    rfl
  | w :: ws, bs, h, k => by
    rw [List.sum_cons] at h
    have l1 : (bs.take w).length = w := by rw [List.length_take]; omega
    have e := bits_val (bs.take w) fun b hb => k b (List.mem_of_mem_take hb)
    rw [l1] at e
    rw [joiN, splN, e, split_join ws (bs.drop w) (by rw [List.length_drop]; omega) fun b hb => k b (List.mem_of_mem_drop hb), List.take_append_drop]
end Bf

set_option Elab.async false
set_option linter.all false
set_option maxRecDepth 100000
set_option maxHeartbeats 4000000
namespace Bf
open PySem PySem.Spec PyProof.Rows L2
/-! ### frames: numbers of data bits, check words -/
def np (n : Nat) : Bool := n &&& (n - 1) != 0
def numsTo (t : Nat) : List Nat := (List.range' 3 t).filter np
theorem numsTo_succ (t : Nat) : numsTo (t + 1) = numsTo t ++ (if np (3 + t) then [3 + t] else []) := by
  unfold numsTo
  rw [List.range'_concat, List.filter_append, Nat.one_mul]
  congr 1
  cases h : np (3 + t) <;> simp [List.filter, h]
theorem numsTo_pre {s : Nat} : ∀ d : Nat, ∃ r, numsTo (s + d) = numsTo s ++ r
  | 0 => ⟨[], by simp⟩
  | d + 1 => by
    obtain ⟨r, e⟩ := numsTo_pre (s := s) d
    exact ⟨r ++ (if np (3 + (s + d)) then [3 + (s + d)] else []), by rw [← Nat.add_assoc, numsTo_succ, e, List.append_assoc]⟩
def numsOf (many : Nat) : List Nat := (numsTo (2 * many + 1)).take many
theorem numsOf_of {t many : Nat} (h : t ≤ 2 * many) (hl : (numsTo t).length = many) : numsTo t = numsOf many := by
  obtain ⟨r, e⟩ := numsTo_pre (s := t) (2 * many + 1 - t)
  rw [show t + (2 * many + 1 - t) = 2 * many + 1 by omega] at e
  unfold numsOf
  rw [e, ← hl, List.take_left]
theorem np_next {n : Nat} (h : 3 ≤ n) (e : np n = false) : np (n + 1) = true := by
  have e0 : n &&& (n - 1) = 0 := by
    unfold np at e
    simpa using e
  have d1 : (n &&& (n - 1)) / 2 = n / 2 &&& (n - 1) / 2 := Nat.and_div_two
  have d2 : (n + 1 &&& n) / 2 = (n + 1) / 2 &&& n / 2 := Nat.and_div_two
  rcases Nat.mod_two_eq_zero_or_one n with p | p
  · have q : (n + 1) / 2 = n / 2 := by omega
    rw [q, Nat.and_self] at d2
    unfold np
    rw [Nat.add_sub_cancel]
    have : n + 1 &&& n ≠ 0 := by
      intro z
      rw [z] at d2
      omega
    simpa using this
  · have q : (n - 1) / 2 = n / 2 := by omega
    rw [q, Nat.and_self, e0] at d1
    omega
theorem numsTo_lt {t x : Nat} (h : x ∈ numsTo t) : x < 3 + t := by
  have := (List.mem_filter.mp h).1
  have := List.mem_range'_1.mp this
  omega
theorem numsOf_lt {many x : Nat} (h : x ∈ numsOf many) : x ≤ 2 * many + 3 := by
  have := numsTo_lt (List.mem_of_mem_take h)
  omega
def xwTo (ns bs : List Nat) : Nat → Nat
  | 0 => 0
  | i + 1 => if bs.getD i 0 = 1 then xwTo ns bs i ^^^ ns.getD i 0 else xwTo ns bs i
def sizeN (n : Nat) : Nat := PySem.Builtin.Int.intBits (n : Int)
theorem sizeN_le {n : Nat} (h : n < 2 ^ 20) : sizeN n ≤ 20 := PyProof.Rows.intBits_le (by simpa using h)
def checkN (bs : List Nat) : Nat := xwTo (numsOf bs.length) bs bs.length
def widthN (many : Nat) : Nat := sizeN ((numsOf many).getLastD 0)
theorem widthN_le {many : Nat} (h : many ≤ 1000) : widthN many ≤ 20 := by
  refine sizeN_le ?_
  have w : 2 * 1000 + 3 < 2 ^ 20 := by decide
  rcases List.eq_nil_or_concat (numsOf many) with e | ⟨r, x, e⟩
  · rw [e]
    decide
  · rw [List.concat_eq_append] at e
    have := numsOf_lt (many := many) (x := x) (by rw [e]; simp)
    rw [e, List.getLastD_concat]
    omega
def bodyN (bs : List Nat) : List Nat := bs ++ bitsN (widthN bs.length) (checkN bs)
def frameN (bs : List Nat) : List Nat := bodyN bs ++ [(bodyN bs).sum % 2]
theorem sum_cast : ∀ l : List Nat, (l.map fun n : Nat => (n : Int)).sum = ((l.sum : Nat) : Int)
  | [] => rfl
  | a :: l => by
    rw [List.map_cons, List.sum_cons, List.sum_cons, sum_cast l]
    omega
theorem map_int (l : List Nat) : l.map vI = (l.map fun n : Nat => (n : Int)).map V.int := by
  rw [List.map_map]
  rfl
theorem numsOf_last {many : Nat} (hl : (numsOf many).length = many) (h1 : 1 ≤ many) : ∃ r x, numsOf many = r ++ [x] ∧ widthN many = sizeN x := by
  rcases List.eq_nil_or_concat (numsOf many) with e | ⟨r, x, e⟩
  · rw [e] at hl
    simp at hl
    omega
  · rw [List.concat_eq_append] at e
    refine ⟨r, x, e, ?_⟩
    unfold widthN
    rw [e, List.getLastD_concat]
theorem widthN_pos {many : Nat} (hl : (numsOf many).length = many) (h1 : 1 ≤ many) : 1 ≤ widthN many := by
  obtain ⟨r, x, e, ew⟩ := numsOf_last hl h1
  have hx : x ∈ numsOf many := by rw [e]; simp
  have h3 := (List.mem_range'_1.mp (List.mem_filter.mp (List.mem_of_mem_take hx)).1).1
  rw [ew]
  unfold sizeN PySem.Builtin.Int.intBits
  rw [if_neg (by simp; omega)]
  omega
theorem one_of {b : Nat} (h : decide (vI b = V.int 1) = true) : b = 1 := by
  have := V.int.inj (of_decide_eq_true h)
  omega
theorem not_one {b : Nat} (h : decide (vI b = V.int 1) = false) : b ≠ 1 := fun e => by
  subst e
  exact of_decide_eq_false h rfl
theorem xwTo_yes {ns bs : List Nat} {i n b : Nat} (hn : ns[i]? = some n) (hb : bs[i]? = some b) (h : b = 1) : xwTo ns bs (i + 1) = xwTo ns bs i ^^^ n := by
  rw [xwTo, List.getD_eq_getElem?_getD, List.getD_eq_getElem?_getD, hn, hb]
  exact if_pos h
theorem xwTo_no {ns bs : List Nat} {i b : Nat} (hb : bs[i]? = some b) (h : b ≠ 1) : xwTo ns bs (i + 1) = xwTo ns bs i := by
  rw [xwTo, List.getD_eq_getElem?_getD, hb]
  exact if_neg h
end Bf

set_option Elab.async false
set_option linter.all false
set_option maxRecDepth 100000
set_option maxHeartbeats 4000000
namespace Bf
open PySem PySem.Spec PyProof.Rows L2
def topS (i : Nat) : Stmt := PySem.Challenge.pw_beatfabric_k76_frames.main.body.getD i (.Pass ⟨0, 0, 0, 0⟩)
abbrev s_to_bits : Stmt := topS 1
abbrev s_data_numbers : Stmt := topS 3
abbrev s_check_width : Stmt := topS 4
abbrev s_check_word : Stmt := topS 5
abbrev s_frame_of : Stmt := topS 6
abbrev s_law_begin : Stmt := topS 8
abbrev s_law_draw : Stmt := topS 9
abbrev s_law_pick : Stmt := topS 10
abbrev s_law_rare : Stmt := topS 11
abbrev s_law_is_int : Stmt := topS 12
abbrev s_law_is_ints : Stmt := topS 13
abbrev s_law_numbers : Stmt := topS 14
abbrev s_law_frame : Stmt := topS 15
abbrev s_law_size_of_data : Stmt := topS 16
abbrev s_law_data : Stmt := topS 17
abbrev s_law : Stmt := topS 18
theorem sc_to_bits : FnScope ["width", "word", "at"] ["width", "word"] (defScope s_to_bits) := ⟨rfl, rfl, rfl, by decide +kernel, rfl, by decide +kernel, by decide +kernel⟩
theorem sc_data_numbers : FnScope ["many", "numbers", "number"] ["many"] (defScope s_data_numbers) := ⟨rfl, rfl, rfl, by decide +kernel, rfl, by decide +kernel, by decide +kernel⟩
theorem sc_check_width : FnScope ["many"] ["many"] (defScope s_check_width) := ⟨rfl, rfl, rfl, by decide +kernel, rfl, by decide +kernel, by decide +kernel⟩
theorem sc_check_word : FnScope ["data", "word", "number", "bit"] ["data"] (defScope s_check_word) := ⟨rfl, rfl, rfl, by decide +kernel, rfl, by decide +kernel, by decide +kernel⟩
theorem sc_frame_of : FnScope ["data", "bits"] ["data"] (defScope s_frame_of) := ⟨rfl, rfl, rfl, by decide +kernel, rfl, by decide +kernel, by decide +kernel⟩
theorem sc_law_begin : FnScope ["_law_script", "_law_cell"] ["_law_script"] (defScope s_law_begin) := ⟨rfl, rfl, rfl, by decide +kernel, rfl, by decide +kernel, by decide +kernel⟩
theorem sc_law_draw : FnScope ["_law_d", "_law_many", "_law_found", "_law_size", "_law_cell"] ["_law_d", "_law_many"] (defScope s_law_draw) := ⟨rfl, rfl, rfl, by decide +kernel, rfl, by decide +kernel, by decide +kernel⟩
theorem sc_law_pick : FnScope ["_law_d", "_law_row"] ["_law_d", "_law_row"] (defScope s_law_pick) := ⟨rfl, rfl, rfl, by decide +kernel, rfl, by decide +kernel, by decide +kernel⟩
theorem sc_law_rare : FnScope ["_law_d", "_law_many"] ["_law_d", "_law_many"] (defScope s_law_rare) := ⟨rfl, rfl, rfl, by decide +kernel, rfl, by decide +kernel, by decide +kernel⟩
theorem sc_law_is_int : FnScope ["_law_thing"] ["_law_thing"] (defScope s_law_is_int) := ⟨rfl, rfl, rfl, by decide +kernel, rfl, by decide +kernel, by decide +kernel⟩
theorem sc_law_is_ints : FnScope ["_law_row", "_law_part"] ["_law_row"] (defScope s_law_is_ints) := ⟨rfl, rfl, rfl, by decide +kernel, rfl, by decide +kernel, by decide +kernel⟩
theorem sc_law_numbers : FnScope ["_law_many", "_law_found", "_law_at"] ["_law_many"] (defScope s_law_numbers) := ⟨rfl, rfl, rfl, by decide +kernel, rfl, by decide +kernel, by decide +kernel⟩
theorem sc_law_frame : FnScope ["_law_data_here", "_law_numbers_here", "_law_word", "_law_number", "_law_bit", "_law_size", "_law_body", "_law_k"] ["_law_data_here"] (defScope s_law_frame) := ⟨rfl, rfl, rfl, by decide +kernel, rfl, by decide +kernel, by decide +kernel⟩
theorem sc_law_size_of_data : FnScope ["_law_d", "_law_turn"] ["_law_d"] (defScope s_law_size_of_data) := ⟨rfl, rfl, rfl, by decide +kernel, rfl, by decide +kernel, by decide +kernel⟩
theorem sc_law_data : FnScope ["_law_d", "_law_many", "_law_turn", "_law_side", "_law_at", "_law_k"] ["_law_d", "_law_many"] (defScope s_law_data) := ⟨rfl, rfl, rfl, by decide +kernel, rfl, by decide +kernel, by decide +kernel⟩
theorem sc_law : FnScope ["_law_script", "_law_d", "_law_rows", "_law_turn", "_law_many", "_law_data_here", "_law_dues", "_law_due", "_law_told"] ["_law_script"] (defScope s_law) := ⟨rfl, rfl, rfl, by decide +kernel, rfl, by decide +kernel, by decide +kernel⟩
structure Txt (mg : Str → Option Value) : Prop where
  n_int : mg "int" = none
  n_len : mg "len" = none
  n_abs : mg "abs" = none
  n_isinstance : mg "isinstance" = none
  n_range : mg "range" = none
  n_tuple : mg "tuple" = none
  n_all : mg "all" = none
  n_zip : mg "zip" = none
  n_sum : mg "sum" = none
  n_list : mg "list" = none
  n_bool : mg "bool" = none
/-! ### the draws -/
/-- what stood elsewhere stands -/
def Keep (S : List Addr) (H H' : Hp) : Prop := ∀ b o, b ∉ S → H b = some o → H' b = some o
theorem Keep.refl (S : List Addr) (H : Hp) : Keep S H H := fun _ _ _ h => h
theorem Keep.trans {S : List Addr} {H H1 H2 : Hp} (a : Keep S H H1) (b : Keep S H1 H2) : Keep S H H2 := fun c o n h => b c o n (a c o n h)
theorem Keep.of_same {S : List Addr} {H H1 : Hp} (a : Same H H1) : Keep S H H1 := fun c o _ h => a c o h
theorem Keep.wide {S S' : List Addr} {H H1 : Hp} (a : Keep S H H1) (h : ∀ b, b ∈ S → b ∈ S') : Keep S' H H1 := fun c o n e => a c o (fun q => n (h c q)) e
theorem Keep.upd {S : List Addr} {H : Hp} {a : Addr} {o : HO} (h : a ∈ S) : Keep S H (upd H a o) := fun b u n e => by
  rw [upd_ne (fun q => n (by rw [q]; exact h))]
  exact e
theorem Keep.new {S : List Addr} {H : Hp} {a : Addr} {o : HO} (h : H a = none) : Keep S H (L2.upd H a o) := fun b u n e => by
  rw [upd_ne (ne_of_none e h)]
  exact e
/-- the state of the draws -/
def DS (H : Hp) (a c : Addr) : Prop := ∃ (at_ left st : Int) (cells : List Int), H a = some (.lst [.ref c, .int at_, .int left, .int st, .int 3]) ∧ 0 ≤ at_ ∧ H c = some (.lst (cells.map V.int))
theorem DS.ne {H : Hp} {a c : Addr} {x : V} {xs : List V} {cells : List Int} (h : H a = some (.lst (.ref c :: xs))) (hc : H c = some (.lst (cells.map V.int))) : c ≠ a := by
  intro e
  rw [e, h] at hc
  have q := HO.lst.inj (Option.some.inj hc)
  cases cells with
  | nil => cases q
  | cons x r => cases (List.cons.inj q).1
theorem DS.keep {S : List Addr} {H H' : Hp} {a c : Addr} (h : DS H a c) (k : Keep S H H') (ha : a ∉ S) (hc : c ∉ S) : DS H' a c := by
  obtain ⟨at_, left, st, cells, h1, h2, h3⟩ := h
  exact ⟨at_, left, st, cells, k _ _ ha h1, h2, k _ _ hc h3⟩
theorem DS.same {H H' : Hp} {a c : Addr} (h : DS H a c) (k : Same H H') : DS H' a c := h.keep (S := []) (Keep.of_same k) (by simp) (by simp)
theorem DS.new {H : Hp} {a c l : Addr} (h : DS H a c) (hl : H l = none) : l ≠ a ∧ l ≠ c := by
  obtain ⟨at_, left, st, cells, h1, h2, h3⟩ := h
  exact ⟨(ne_of_none h1 hl).symm, (ne_of_none h3 hl).symm⟩
theorem pow6000 : (0 : Int) < 1 * 2 ^ (6000 : Int).toNat := by
  rw [Int.one_mul]
  exact Int.pow_pos (by decide)
def spDraw : Sp := fun vs H Q _ => ∃ (a c : Addr) (m : Int), vs = [.ref a, .int m] ∧ DS H a c ∧ 1 ≤ m ∧ m < 1073741824 ∧ ∀ (r : Int) (H' : Hp), 0 ≤ r → r < m → DS H' a c → Keep [a] H H' → Q (.int r) H'
section
variable {P : Program} {w : World} {K : PySem.W.Frag} {mg : Str → Option Value} {base : Heap}
theorem ok_draw {f : Addr} {fd : FuncData} (F : Fun K "_law_draw" "_law_draw" s_law_draw f fd) (T : Txt mg) : FnOk P w K mg base CX0 1 f fd ["_law_d", "_law_many"] spDraw := by
  refine F.ok sc_law_draw (fun vs H Q E h => ?_) (fun cdv A outer s H vs Q E hr h => ?_)
  · obtain ⟨a, c, m, rfl, _⟩ := h
    rfl
  obtain ⟨a, c, m, rfl, ⟨at_, left, st, cells, ha, h0, hc⟩, m1, m2, q⟩ := h
  have hca : c ≠ a := DS.ne (x := .non) ha hc
  refine ⟨_, (pss_cons (ps_if (pt_cmpR op_gt (pe_ix ix_list (pv 0) pe_int (fun _ _ => rfl)) pe_int (nomark _)) (pss_cons (ps_set (i := 2) sc_law_draw.nd rfl (Or.inl rfl) (pe_ix ix_list (pv 0) pe_int (fun _ _ => rfl)))
      (pss_cons (ps_asg (pe_op op_fdiv (pv 2) (pv 1)) (pg_sub (pv 0) pe_int set_list))
      (pss_one (ps_ret (pe_op op_mod (pe_callTy call_int1 (by rfl) T.n_int (by decide +kernel) (pa_cons (pv 2) pa_nil)) (pv 1)))))) pss_nil)
      (pss_cons (ps_set (i := 3) sc_law_draw.nd rfl (Or.inl rfl) pe_int)
      (C8.pss_cut (ps_if (pt_cmpR op_lt (pe_ix ix_list (pv 0) pe_int (fun _ _ => rfl)) (pe_callB call_len_seq (by rfl) T.n_len (by decide +kernel) (pa_cons (pe_ix ix_list (pv 0) pe_int (fun _ _ => rfl)) pa_nil)) (nomark _)) (pss_cons (ps_set (i := 4) sc_law_draw.nd rfl (Or.inl rfl) (pe_ix ix_list (pe_ix ix_list (pv 0) pe_int (fun _ _ => rfl)) (pe_ix ix_list (pv 0) pe_int (fun _ _ => rfl)) (fun _ _ => rfl)))
      (pss_one (ps_set (i := 3) sc_law_draw.nd rfl (Or.inl rfl) (pe_op op_add (pe_op op_mul pe_int (pe_callB call_abs (by rfl) T.n_abs (by decide +kernel) (pa_cons (pv 4) pa_nil))) (pe_callTy call_int1 (by rfl) T.n_int (by decide +kernel) (pa_cons (pe_cmpR op_lt (pv 4) pe_int (nomark _)) pa_nil)))))) pss_nil)
      (C8.pss_cut (ps_augS (pv 0) pe_int get_list pe_int ip_add set_list)
      (pss_cons (ps_if (pt_cmpR op_ge (pv 3) (pe_op op_mul pe_int (pe_op op_pow pe_int pe_int)) (nomark _)) (pss_cons (ps_set (i := 2) sc_law_draw.nd rfl (Or.inl rfl) (pe_op op_mod (pe_callTy call_int1 (by rfl) T.n_int (by decide +kernel) (pa_cons (pe_op op_fdiv (pv 3) pe_int) pa_nil)) (pe_op op_shl pe_int pe_int)))
      (pss_cons (ps_asg (pe_op op_fdiv (pv 2) (pv 1)) (pg_sub (pv 0) pe_int set_list))
      (pss_one (ps_ret (pe_op op_mod (pe_callTy call_int1 (by rfl) T.n_int (by decide +kernel) (pa_cons (pv 2) pa_nil)) (pv 1)))))) pss_nil)
      (pss_cons (ps_asg (pe_op op_mod (pe_callTy call_int1 (by rfl) T.n_int (by decide +kernel) (pa_cons (pe_op op_add (pe_op op_add (pe_op op_add (pe_op op_mul (pe_ix ix_list (pv 0) pe_int (fun _ _ => rfl)) pe_int) (pe_op op_mul (pe_op op_mod (pe_callTy call_int1 (by rfl) T.n_int (by decide +kernel) (pa_cons (pv 3) pa_nil)) pe_int) pe_int)) (pe_op op_mul (pe_ix ix_list (pv 0) pe_int (fun _ _ => rfl)) pe_int)) pe_int) pa_nil)) pe_int) (pg_sub (pv 0) pe_int set_list))
      (pss_one (ps_ret (pe_op op_mod (pe_callTy call_int1 (by rfl) T.n_int (by decide +kernel) (pa_cons (pe_op op_fdiv (pe_ix ix_list (pv 0) pe_int (fun _ _ => rfl)) pe_int) pa_nil)) (pv 1)))))))))), ?_⟩
  refine ⟨_, rfl, a, _, _, _, rfl, rfl, SqL.of ha, atI_nat (j := 2) rfl, _, _, rfl, rfl, _, rfl, ?_⟩
  refine ite2 (fun e => ?_) (fun e => ?_)
  · refine ⟨_, rfl, a, _, _, _, rfl, rfl, SqL.of ha, atI_nat (j := 2) rfl, ?_⟩
    refine ⟨_, rfl, _, rfl, left, m, rfl, rfl, ⟨by omega, by omega⟩, _, rfl, a, _, 2, 2, rfl, rfl, ha, rfl, ?_⟩
    refine ⟨_, rfl, .inl ⟨_, rfl, _, rfl, _, _, rfl, rfl, (by omega), ?_⟩⟩
    exact q _ _ (Int.emod_nonneg _ (by omega)) (Int.emod_lt_of_pos _ (by omega)) ⟨at_, left / m, st, cells, upd_same, h0, by rw [upd_ne hca]; exact hc⟩ (Keep.upd (by simp))
  · refine ⟨fun σ' H' => ∃ (z : Int) (v4 : Option V), σ' = [some (.ref a), some (.int m), none, some (.int z), v4] ∧ H' = H, ?_, ?_⟩
    · refine ⟨_, rfl, a, _, _, _, rfl, rfl, SqL.of ha, atI_nat (j := 1) rfl, _, rfl, a, _, _, _, rfl, rfl, SqL.of ha, atI_nat (j := 0) rfl, c, _, rfl, .inl (SqL.of hc), _, _, rfl, rfl, _, rfl, ?_⟩
      refine ite2 (fun e1 => ?_) (fun e1 => ?_)
      · have e2 : at_ < ((cells.map V.int).length : Nat) := of_decide_eq_true e1
        rw [List.length_map] at e2
        have hk : at_.toNat < cells.length := by omega
        have ek : ((at_.toNat : Nat) : Int) = at_ := by omega
        have q1 : atI (cells.map V.int) ((at_.toNat : Nat) : Int) = some (.int cells[at_.toNat]) := atI_nat (by rw [List.getElem?_map, List.getElem?_eq_getElem hk] <;> rfl)
        rw [ek] at q1
        refine ⟨_, rfl, a, _, _, _, rfl, rfl, SqL.of ha, atI_nat (j := 0) rfl, _, rfl, a, _, _, _, rfl, rfl, SqL.of ha, atI_nat (j := 1) rfl, c, _, _, _, rfl, rfl, SqL.of hc, q1, ?_⟩
        refine ⟨_, rfl, _, rfl, _, _, rfl, rfl, .inl ⟨by decide, by decide⟩, _, rfl, _, _, rfl, rfl, .inr ⟨_, rfl, _, _, rfl, rfl, ?_⟩⟩
        exact ⟨_, _, rfl, rfl⟩
      · exact ⟨_, _, rfl, rfl⟩
    · rintro σ' H' ⟨z, v4, rfl, rfl⟩
      refine ⟨fun σ' H1 => σ' = [some (.ref a), some (.int m), none, some (.int z), v4] ∧ H1 a = some (.lst [.ref c, .int (at_ + 1), .int left, .int st, .int 3]) ∧ H1 c = some (.lst (cells.map V.int)) ∧ Keep [a] H' H1, ?_, ?_⟩
      · exact ⟨_, rfl, a, _, 1, .int at_, rfl, rfl, ha, atI_nat (j := 1) rfl, at_, 1, rfl, rfl, a, _, 1, 1, rfl, rfl, ha, rfl, rfl, upd_same, by rw [upd_ne hca]; exact hc, Keep.upd (by simp)⟩
      rintro σ' H1 ⟨rfl, h1, h2, k1⟩
      refine ⟨_, rfl, _, _, rfl, rfl, ⟨by decide, by decide, by decide⟩, _, _, rfl, rfl, .inl ⟨by decide, by decide⟩, _, _, rfl, rfl, _, rfl, ?_⟩
      refine ite2 (fun e3 => ?_) (fun e3 => ?_)
      · refine ⟨_, rfl, z, 2, rfl, rfl, ⟨by decide, by decide⟩, .inl ⟨_, rfl, 1, 6000, rfl, rfl, ⟨by decide, by decide, by decide⟩, _, _, rfl, rfl, pow6000, ?_⟩⟩
        refine ⟨_, rfl, _, rfl, _, m, rfl, rfl, ⟨by omega, by omega⟩, _, rfl, a, _, 2, 2, rfl, rfl, h1, rfl, ?_⟩
        refine ⟨_, rfl, .inl ⟨_, rfl, _, rfl, _, _, rfl, rfl, (by omega), ?_⟩⟩
        refine q _ _ (Int.emod_nonneg _ (by omega)) (Int.emod_lt_of_pos _ (by omega)) ⟨at_ + 1, _, st, cells, upd_same, by omega, by rw [upd_ne hca]; exact h2⟩ (k1.trans (Keep.upd (by simp)))
      · refine ⟨_, rfl, a, _, _, _, rfl, rfl, SqL.of h1, atI_nat (j := 3) rfl, _, _, rfl, rfl, .inr ⟨by decide, by decide⟩, ?_⟩
        refine ⟨_, rfl, .inl ⟨_, rfl, _, _, rfl, rfl, (by show (0 : Int) < 2147483629; decide), _, _, rfl, rfl, .inr ⟨by decide, by decide⟩, _, _, rfl, rfl, ?_⟩⟩
        refine ⟨_, rfl, a, _, _, _, rfl, rfl, SqL.of h1, atI_nat (j := 1) rfl, _, _, rfl, rfl, .inr ⟨by decide, by decide⟩, _, _, rfl, rfl, _, _, rfl, rfl, .inl ⟨_, rfl, _, _, rfl, rfl, (by show (0 : Int) < 2147483647; decide), ?_⟩⟩
        refine ⟨_, rfl, a, _, 3, 3, rfl, rfl, h1, rfl, ?_⟩
        refine ⟨_, rfl, a, _, _, _, rfl, rfl, SqL.of upd_same, atI_nat (j := 3) rfl, _, _, rfl, rfl, ⟨by decide, by decide⟩, .inl ⟨_, rfl, _, rfl, _, _, rfl, rfl, (by omega), ?_⟩⟩
        exact q _ _ (Int.emod_nonneg _ (by omega)) (Int.emod_lt_of_pos _ (by omega)) ⟨at_ + 1, left, _, cells, upd_same, by omega, by rw [upd_ne hca]; exact h2⟩ (k1.trans (Keep.upd (by simp)))
end

/-! ### the beginning of the draws; a draw out of a list; is it an int -/
theorem same_new {H : Hp} {p : Addr} (h : H p = none) (o : HO) : Same H (upd H p o) := fun b u q => by rw [upd_ne (ne_of_none q h)]; exact q
theorem intAt {xs : List Int} {i : Nat} {x : V} (h : (xs.map V.int)[i]? = some x) : ∃ k, xs[i]? = some k ∧ x = V.int k := by
  rw [List.getElem?_map] at h
  cases e : xs[i]? with
  | none => rw [e] at h; cases h
  | some k => rw [e] at h; exact ⟨k, rfl, (Option.some.inj h).symm⟩
def spBegin (K : PySem.W.Frag) : Sp := fun vs H Q _ => ∃ (a : Addr) (ns : List Int), vs = [.ref a] ∧ SqL K H a (ns.map V.int) ∧ ns.length ≤ 63 ∧ ∀ (d c : Addr) (H' : Hp), H d = none → H c = none → DS H' d c → Same H H' → Q (.ref d) H'
section
variable {P : Program} {w : World} {K : PySem.W.Frag} {mg : Str → Option Value} {base : Heap}
theorem ok_begin {f : Addr} {fd : FuncData} (F : Fun K "_law_begin" "_law_begin" s_law_begin f fd) (T : Txt mg) : FnOk P w K mg base CX0 1 f fd ["_law_script"] (spBegin K) := by
  refine F.ok sc_law_begin (fun vs H Q E h => ?_) (fun cdv A outer s H vs Q E hr h => ?_)
  · obtain ⟨a, ns, rfl, _⟩ := h
    rfl
  obtain ⟨a, ns, rfl, hS, h63, q⟩ := h
  refine ⟨_, (pss_one (ps_ret (pe_lst (pa_cons (pe_lc (own := [("_law_cell", 1)]) (g := gName 1) (tt := tYes) rfl sc_law_begin.nd (pi_list (pv 0)) (blkOk_by (N := ["_law_script", "_law_cell"]) (sc := defScope s_law_begin) (by decide +kernel)) (fun _ _ _ _ _ => (pg_name (i := 1) sc_law_begin.nd rfl (Or.inl rfl))) (fun _ _ _ _ _ => pts_nil) (fun _ _ _ _ _ => (pe_callTy call_int1 (by rfl) T.n_int (by decide +kernel) (pa_cons (pv 1) pa_nil)))) (pa_cons pe_int (pa_cons pe_int (pa_cons pe_int (pa_cons pe_int pa_nil)))))))), ?_⟩
  refine ⟨_, rfl, a, rfl, ⟨_, hS⟩, fun D hD => lc_list (K := K) (a := a) (xs := ns.map V.int) (fun i H' => Same H H' ∧ H' D = some (.lst ((ns.take i).map V.int)))
    ⟨same_new hD _, upd_same⟩ (fun i H' _ p => p.1.seq hS) (fun i x H' hx p => ?_) (fun H' p => ?_)⟩
  · obtain ⟨k, hk, rfl⟩ := intAt hx
    refine ⟨rfl, _, rfl, .inl ⟨_, rfl, _, p.2, ?_, ?_, ?_⟩⟩
    · rw [List.length_map, List.length_take]
      exact small1000 (by omega)
    · intro b o e
      rw [upd_ne (ne_of_none e hD)]
      exact p.1 b o e
    · rw [upd_same, List.take_add_one, hk, List.map_append]
      rfl
  · rw [List.length_map, List.take_length] at p
    refine ⟨(by show 5 ≤ sizeLine; decide), fun l hl => ?_⟩
    have nDl : D ≠ l := ne_of_none p.2 hl
    refine q l D _ (p.1.free hl) hD ⟨0, 0, 7, ns, upd_same, Int.le_refl 0, by rw [upd_ne nDl]; exact p.2⟩ (p.1.trans (same_new hl _))
end

def spIsInt : Sp := fun vs H Q _ => ∃ i : Int, vs = [.int i] ∧ Q (.bl true) H
section
variable {P : Program} {w : World} {K : PySem.W.Frag} {mg : Str → Option Value} {base : Heap}
theorem ok_isInt {f : Addr} {fd : FuncData} (F : Fun K "_law_is_int" "_law_is_int" s_law_is_int f fd) (T : Txt mg) : FnOk P w K mg base CX0 1 f fd ["_law_thing"] spIsInt := by
  refine F.ok sc_law_is_int (fun vs H Q E h => ?_) (fun cdv A outer s H vs Q E hr h => ?_)
  · obtain ⟨i, rfl, _⟩ := h
    rfl
  obtain ⟨i, rfl, q⟩ := h
  refine ⟨_, (pss_one (ps_ret (pe_and (pe_callB (call_isi : CallR _ _ (rIsi K)) (by rfl) T.n_isinstance (by decide +kernel) (pa_cons (pv 0) (pa_cons (pe_bltn rfl T.n_int (by decide +kernel) (v := .ty "int") rfl) pa_nil))) (pe_one (pe_not (pe_callB (call_isi : CallR _ _ (rIsi K)) (by rfl) T.n_isinstance (by decide +kernel) (pa_cons (pv 0) (pa_cons (pe_bltn rfl T.n_bool (by decide +kernel) (v := .ty "bool") rfl) pa_nil)))))))), ?_⟩
  refine ⟨_, rfl, _, _, .type "int", .type "int", true, rfl, .ty "int", .base (.int i), kit_ty (by decide +kernel), true, rfl, ?_⟩
  refine iteT ?_
  refine ⟨_, rfl, _, _, .type "int", .type "bool", false, rfl, .ty "bool", .base (.int i), kit_ty (by decide +kernel), false, rfl, ?_⟩
  exact q
end

/-! ### an item of a list by draws; a list in a drawn order -/
def spPick (K : PySem.W.Frag) : Sp := fun vs H Q _ => ∃ (d c l : Addr) (xs : List V), vs = [.ref d, .ref l] ∧ DS H d c ∧ l ≠ d ∧ SqL K H l xs ∧ 1 ≤ xs.length ∧ xs.length ≤ 1000 ∧
  ∀ (k : Nat) (y : V) (H' : Hp), xs[k]? = some y → DS H' d c → Keep [d] H H' → Q y H'
theorem Keep.seqL {S : List Addr} {K : PySem.W.Frag} {H H' : Hp} {a : Addr} {xs : List V} (k : Keep S H H') (n : a ∉ S) (h : SqL K H a xs) : SqL K H' a xs := by
  rcases h with (h | ⟨u, h⟩) | h
  · exact .inl (.inl (k _ _ n h))
  · exact .inl (.inr ⟨u, k _ _ n h⟩)
  · exact .inr h
section
variable {P : Program} {w : World} {K : PySem.W.Frag} {mg : Str → Option Value} {base : Heap} {f : Addr} {fd : FuncData}
theorem ok_pick (F : Fun K "_law_pick" "_law_pick" s_law_pick f fd) (T : Txt mg) (D_law_draw : Dn P w K mg base "_law_draw" ["_law_d", "_law_many"] 1 spDraw) : FnOk P w K mg base CX0 2 f fd ["_law_d", "_law_row"] (spPick K) := by
  refine F.ok sc_law_pick (fun vs H Q E h => ?_) (fun cdv A outer s H vs Q E hr h => ?_)
  · obtain ⟨d, c, l, xs, rfl, _⟩ := h
    rfl
  obtain ⟨d, c, l, xs, rfl, hd, nld, hl, h1, h2, q⟩ := h
  refine ⟨_, (pss_one (ps_ret (pe_ix ix_list (pv 1) (pe_dn D_law_draw (hr.mono (by decide)) (by rfl) (pa_cons (pv 0) (pa_cons (pe_callB call_len_seq (by rfl) T.n_len (by decide +kernel) (pa_cons (pv 1) pa_nil)) pa_nil))) (fun _ _ => rfl)))), ?_⟩
  refine ⟨_, rfl, _, rfl, _, rfl, l, _, rfl, .inl hl, d, c, _, rfl, hd, by omega, by omega, fun r H' r0 r1 hd' k1 => ?_⟩
  obtain ⟨x, rfl⟩ := Int.eq_ofNat_of_zero_le r0
  have hx : x < xs.length := by omega
  exact ⟨l, xs, _, _, rfl, rfl, k1.seqL (by simp [nld]) hl, atI_nat (List.getElem?_eq_getElem hx), q _ _ _ (List.getElem?_eq_getElem hx) hd' k1⟩
end

/-! ### what stands -/
theorem DS.at_ {H : Hp} {d c : Addr} (h : DS H d c) : ∃ l, H d = some (.lst l) := let ⟨_, _, _, _, e, _⟩ := h; ⟨_, e⟩
theorem Keep.tups {S : List Addr} {H H' : Hp} (k : Keep S H H') (n : ∀ b ∈ S, ∃ l, H b = some (.lst l)) : KeepT H H' := fun b xs h => k _ _ (fun m => by
  obtain ⟨l, q⟩ := n b m
  rw [q] at h
  cases h) h
theorem Keep.tup1 {H H' : Hp} {d c : Addr} (k : Keep [d] H H') (h : DS H d c) : KeepT H H' := k.tups fun b hb => by rw [List.mem_singleton.mp hb]; exact h.at_
theorem Keep.tup2 {H H' : Hp} {d c l : Addr} {xs : List V} (k : Keep [d, l] H H') (h : DS H d c) (hl : H l = some (.lst xs)) : KeepT H H' := k.tups fun b hb => by
  rcases List.mem_cons.mp hb with e | hb
  · rw [e]; exact h.at_
  · rw [List.mem_singleton.mp hb]; exact ⟨_, hl⟩
/-- the names that are left -/
def Nms (H : Hp) (l : Addr) (n : Nat) : Prop := ∃ names : List V, H l = some (.lst names) ∧ (∀ v ∈ names, ∃ z : Str, v = .str z) ∧ names.length = n
theorem Nms.keep {S : List Addr} {H H' : Hp} {l : Addr} {n : Nat} (h : Nms H l n) (k : Keep S H H') (hl : l ∉ S) : Nms H' l n := let ⟨x, a, b, e⟩ := h; ⟨x, k _ _ hl a, b, e⟩
theorem Nms.same {H H' : Hp} {l : Addr} {n : Nat} (h : Nms H l n) (k : Same H H') : Nms H' l n := let ⟨x, a, b, e⟩ := h; ⟨x, k _ _ a, b, e⟩
theorem Nms.cast {H : Hp} {l : Addr} {n m : Nat} (h : Nms H l n) (e : n = m) : Nms H l m := e ▸ h
theorem Keep.thin {S S' : List Addr} {H H' : Hp} (k : Keep S' H H') (h : ∀ b ∈ S', b ∈ S ∨ H b = none) : Keep S H H' := fun b o n e => k b o (fun m => by
  rcases h b m with q | q
  · exact n q
  · rw [q] at e; cases e) e
theorem Keep.cat {S S' : List Addr} {H H1 H2 : Hp} (a : Keep S H H1) (b : Keep S' H1 H2) : Keep (S ++ S') H H2 := fun c o n h => b c o (fun m => n (List.mem_append_right _ m)) (a c o (fun m => n (List.mem_append_left _ m)) h)
theorem Keep.free {S : List Addr} {H H' : Hp} {l : Addr} (k : Keep S H H') (h : H' l = none) (n : l ∉ S) : H l = none := by
  cases e : H l with
  | none => rfl
  | some o => rw [k l o n e] at h; cases h
theorem Keep.sm {H H' : Hp} (k : Same H H') : Keep [] H H' := .of_same k
theorem Keep.at1 {H : Hp} {a : Addr} {o : HO} : Keep [a] H (L2.upd H a o) := .upd (by simp)
/-- the list at D: data of acc -/
def Acc {α : Type} (D : Addr) (f : α → PyData) (acc : List α) (H : Hp) : Prop := ∃ vs : List V, H D = some (.lst vs) ∧ LayAll H vs (acc.map f)
theorem Acc.nil {α : Type} {D : Addr} {f : α → PyData} {H : Hp} : Acc D f [] (upd H D (.lst [])) := ⟨[], upd_same, .nil⟩
theorem Acc.keep {α : Type} {D : Addr} {f : α → PyData} {acc : List α} {S : List Addr} {H H' : Hp} (h : Acc D f acc H) (k : Keep S H H') (t : KeepT H H') (n : D ∉ S) : Acc D f acc H' := let ⟨vs, a, b⟩ := h; ⟨vs, k _ _ n a, b.keep' t⟩
theorem Acc.same {α : Type} {D : Addr} {f : α → PyData} {acc : List α} {H H' : Hp} (h : Acc D f acc H) (k : Same H H') : Acc D f acc H' := let ⟨vs, a, b⟩ := h; ⟨vs, k _ _ a, b.keep' (.same k)⟩
theorem Acc.push {α : Type} {D : Addr} {f : α → PyData} {acc : List α} {H : Hp} {y : V} {x : α} (h : Acc D f acc H) (l : Lay H y (f x)) (n : acc.length ≤ 1000) :
    ∃ vs, H D = some (.lst vs) ∧ vs.length < sizeLine ∧ Acc D f (acc ++ [x]) (upd H D (.lst (vs ++ [y]))) ∧ KeepT H (upd H D (.lst (vs ++ [y]))) := by
  obtain ⟨vs, a, b⟩ := h
  have e := b.len
  rw [List.length_map] at e
  have kt : KeepT H (upd H D (.lst (vs ++ [y]))) := .lst a
  refine ⟨vs, a, by rw [e]; exact small1000 n, ⟨_, upd_same, ?_⟩, kt⟩
  rw [List.map_append]
  exact (b.snoc l).keep' kt
theorem Acc.at_ {α : Type} {D : Addr} {f : α → PyData} {acc : List α} {H : Hp} (h : Acc D f acc H) : ∃ l, H D = some (.lst l) := let ⟨vs, a, _⟩ := h; ⟨vs, a⟩

/-! ### a rare case by a draw -/
def spRare : Sp := fun vs H Q _ => ∃ (d c : Addr) (m : Int), vs = [.ref d, .int m] ∧ DS H d c ∧ 1 ≤ m ∧ m < 1000 ∧ ∀ (b : Bool) (H' : Hp), DS H' d c → Keep [d] H H' → Q (.bl b) H'
section
variable {P : Program} {w : World} {K : PySem.W.Frag} {mg : Str → Option Value} {base : Heap} {f : Addr} {fd : FuncData}
theorem ok_rare (F : Fun K "_law_rare" "_law_rare" s_law_rare f fd) (T : Txt mg) (D_law_draw : Dn P w K mg base "_law_draw" ["_law_d", "_law_many"] 1 spDraw) : FnOk P w K mg base CX0 2 f fd ["_law_d", "_law_many"] spRare := by
  refine F.ok sc_law_rare (fun vs H Q E h => ?_) (fun cdv A outer s H vs Q E hr h => ?_)
  · obtain ⟨d, c, m, rfl, _⟩ := h
    rfl
  obtain ⟨d, c, m, rfl, hd, h1, h2, q⟩ := h
  refine ⟨_, (pss_one (ps_ret (pe_cmpR op_eq (pe_dn D_law_draw (hr.mono (by decide)) (by rfl) (pa_cons (pv 0) (pa_cons (pv 1) pa_nil))) (pe_op op_fdiv (pv 1) pe_int) (nomark _)))), ?_⟩
  refine ⟨_, rfl, _, rfl, d, c, m, rfl, hd, h1, by omega, fun r H' r0 r1 hd' k1 => ?_⟩
  exact ⟨_, rfl, m, 2, rfl, rfl, ⟨by decide, by decide⟩, rfl, q _ _ hd' k1⟩
end

/-! ### are they ints -/
def spInts (K : PySem.W.Frag) : Sp := fun vs H Q _ => ∃ (a : Addr) (ns : List Nat), vs = [.ref a] ∧ SqT K H a (ns.map vI) ∧ H a = some (.tup (ns.map vI)) ∧ ns.length ≤ 1000 ∧ ∀ H' : Hp, Same H H' → Q (.bl true) H'
section
variable {P : Program} {w : World} {K : PySem.W.Frag} {mg : Str → Option Value} {base : Heap} {f : Addr} {fd : FuncData}
theorem ok_ints (F : Fun K "_law_is_ints" "_law_is_ints" s_law_is_ints f fd) (T : Txt mg) (D_law_is_int : Dn P w K mg base "_law_is_int" ["_law_thing"] 1 spIsInt) : FnOk P w K mg base CX0 2 f fd ["_law_row"] (spInts K) := by
  refine F.ok sc_law_is_ints (fun vs H Q E h => ?_) (fun cdv A outer s H vs Q E hr h => ?_)
  · obtain ⟨a, ns, rfl, _⟩ := h
    rfl
  obtain ⟨a, ns, rfl, ha, hA, hl, q⟩ := h
  refine ⟨_, (pss_one (ps_ret (pe_and (pe_callB (call_isi : CallR _ _ (rIsi K)) (by rfl) T.n_isinstance (by decide +kernel) (pa_cons (pv 0) (pa_cons (pe_bltn rfl T.n_tuple (by decide +kernel) (v := .ty "tuple") rfl) pa_nil))) (pe_one (pe_callB (cr_all rfl) (by rfl) T.n_all (by decide +kernel) (pa_cons (pe_lc (own := [("_law_part", 1)]) (g := gName 1) (tt := tYes) rfl sc_law_is_ints.nd (pi_tup (pv 0)) (blkOk_by (N := ["_law_row", "_law_part"]) (sc := defScope s_law_is_ints) (by decide +kernel)) (fun _ _ _ _ _ => (pg_name (i := 1) sc_law_is_ints.nd rfl (Or.inl rfl))) (fun _ _ _ _ _ => pts_nil) (fun _ _ _ _ _ => (pe_dn D_law_is_int (hr.mono (by decide)) (by rfl) (pa_cons (pv 1) pa_nil)))) pa_nil)))))), ?_⟩
  refine ⟨_, rfl, _, _, .type "tuple", .type "tuple", true, rfl, .ty "tuple", .base (.tup hA), kit_ty (by decide +kernel), true, rfl, ?_⟩
  refine iteT ?_
  refine ⟨_, rfl, a, rfl, ⟨_, ha⟩, fun D hD => lc_tup (K := K) (a := a) (xs := ns.map vI) (fun i H' => Same H H' ∧ H' D = some (.lst ((List.replicate i true).map V.bl)))
    ⟨same_new hD _, upd_same⟩ (fun i H' _ p => seqT_same p.1 ha) (fun i x H' hx p => ?_) (fun H' p => ?_)⟩
  · obtain ⟨k, hk, rfl⟩ := natAt hx
    have hi := (List.getElem?_eq_some_iff.mp hk).1
    refine ⟨rfl, _, rfl, (k : Int), rfl, _, p.2, ?_, same_two p.1 hD, ?_⟩
    · rw [List.length_map, List.length_replicate]
      exact small1000 (by omega)
    · rw [upd_same, List.replicate_succ', List.map_append]
      rfl
  · refine ⟨D, _, rfl, SqL.of p.2, ?_⟩
    rw [all_true]
    exact q _ p.1
end

/-! ### a word's bits -/
def spBits : Sp := fun vs H Q _ => ∃ n x : Nat, vs = [vI n, vI x] ∧ n ≤ 1000 ∧ ∀ (t : Addr) (H' : Hp), Same H H' → H t = none → H' t = some (.tup ((bitsN n x).map vI)) → Q (.ref t) H'
section
variable {P : Program} {w : World} {K : PySem.W.Frag} {mg : Str → Option Value} {base : Heap} {f : Addr} {fd : FuncData}
theorem ok_bits (F : Fun K "to_bits" "to_bits" s_to_bits f fd) (T : Txt mg) : FnOk P w K mg base CX0 1 f fd ["width", "word"] spBits := by
  refine F.ok sc_to_bits (fun vs H Q E h => ?_) (fun cdv A outer s H vs Q E hr h => ?_)
  · obtain ⟨n, x, rfl, _⟩ := h
    rfl
  obtain ⟨n, x, rfl, hn, q⟩ := h
  refine ⟨_, (pss_one (ps_ret (pe_callTy call_tuple_of (by rfl) T.n_tuple (by decide +kernel) (pa_cons (pe_lc (own := [("at", 2)]) (g := gName 2) (tt := tYes) rfl sc_to_bits.nd (pi_range1 rfl T.n_range (pa_cons (pv 0) pa_nil)) (blkOk_by (N := ["width", "word", "at"]) (sc := defScope s_to_bits) (by decide +kernel)) (fun _ _ _ _ _ => (pg_name (i := 2) sc_to_bits.nd rfl (Or.inl rfl))) (fun _ _ _ _ _ => pts_nil) (fun _ _ _ _ _ => (pe_op op_odd (pe_op op_shrN (pv 1) (pv 2)) pe_int))) pa_nil)))), ?_⟩
  refine ⟨_, rfl, (n : Int), rfl, (i62 hn).1, (i62 hn).2, fun D hD => lc_range (lo := 0) (n := n) (fun i H' => Same H H' ∧ H' D = some (.lst ((bitsN i x).map vI)))
    ⟨same_new hD _, upd_same⟩ (fun i H' hi p => ?_) (fun H' p => ?_)⟩
  · refine ⟨rfl, _, rfl, _, rfl, (x : Int), i, rfl, congrArg V.int (by omega), x / 2 ^ i, congrArg V.int (by simp), rfl, _, p.2, ?_, same_two p.1 hD, ?_⟩
    · rw [List.length_map, bitsN_len]
      exact small1000 (by omega)
    · rw [upd_same, bitsN_succ, List.map_append]
      rfl
  · exact ⟨D, _, rfl, .inl ⟨SqL.of p.2, fun l hl => q l _ (p.1.trans (same_new hl _)) (p.1.free hl) upd_same⟩⟩
end

end Bf

set_option Elab.async false
set_option linter.all false
set_option maxRecDepth 100000
set_option maxHeartbeats 4000000
namespace Bf
open PySem PySem.Spec PyProof.Rows L2
/-! ### the program's defs -/
def spNums : Sp := fun vs H Q _ => ∃ many : Nat, vs = [vI many] ∧ many ≤ 1000 ∧ ∀ (p : Addr) (H' : Hp), Same H H' → H p = none → H' p = some (.lst ((numsOf many).map vI)) → (numsOf many).length = many → Q (.ref p) H'
def spWidth : Sp := fun vs H Q _ => ∃ many : Nat, vs = [vI many] ∧ 1 ≤ many ∧ many ≤ 1000 ∧ ∀ H' : Hp, Same H H' → 1 ≤ widthN many → Q (vI (widthN many)) H'
def spWord (K : PySem.W.Frag) : Sp := fun vs H Q _ => ∃ (a : Addr) (bs : List Nat), vs = [.ref a] ∧ SqT K H a (bs.map vI) ∧ bs.length ≤ 1000 ∧ ∀ H' : Hp, Same H H' → Q (vI (checkN bs)) H'
def spFrame (K : PySem.W.Frag) : Sp := fun vs H Q _ => ∃ (a : Addr) (bs : List Nat), vs = [.ref a] ∧ SqT K H a (bs.map vI) ∧ 1 ≤ bs.length ∧ bs.length ≤ 500 ∧ ∀ (p : Addr) (H' : Hp), Same H H' → H p = none → H' p = some (.tup ((frameN bs).map vI)) → Q (.ref p) H'
theorem wh_ends {t many m L : Nat} {b : Bool} (h : t + m ≤ 2 * many) (hm : m = 2 * (many - L) + (if b then 0 else 1)) (h2 : L ≤ many) : t ≤ 2 * many := by omega
section
variable {P : Program} {w : World} {K : PySem.W.Frag} {mg : Str → Option Value} {base : Heap} {f : Addr} {fd : FuncData}
theorem ok_nums (F : Fun K "data_numbers" "data_numbers" s_data_numbers f fd) (T : Txt mg) : FnOk P w K mg base CX0 1 f fd ["many"] spNums := by
  refine F.ok sc_data_numbers (fun vs H Q E h => ?_) (fun cdv A outer s H vs Q E hr h => ?_)
  · obtain ⟨many, rfl, _⟩ := h
    rfl
  obtain ⟨many, rfl, hm, q⟩ := h
  refine ⟨_, (pss_cons (ps_set (i := 1) sc_data_numbers.nd rfl (Or.inl rfl) (pe_lst pa_nil))
      (pss_cons (ps_set (i := 2) sc_data_numbers.nd rfl (Or.inl rfl) pe_int)
      (pss_cons (ps_while PassesOwn.never (pt_cmpR op_lt (pe_callB call_len_seq (by rfl) T.n_len (by decide +kernel) (pa_cons (pv 1) pa_nil)) (pv 0) (nomark _)) (pss_cons (ps_if (pt_cmpR op_ne (pe_op op_andB (pv 2) (pe_op op_sub (pv 2) pe_int)) pe_int (nomark _)) (pss_one (ps_expr (pe_bm PySem.F.plainAttrs_list PySem.F.slot_list_append PySem.F.type_list_append mt_append (pv 1) (pa_cons (pv 2) pa_nil)))) pss_nil)
      (pss_one (ps_aug (i := 2) sc_data_numbers.nd rfl (Or.inl rfl) pe_int ip_add))))
      (pss_one (ps_ret (pv 1)))))), ?_⟩
  refine ⟨Nat.zero_le _, fun p hp => ?_⟩
  refine ⟨fun m σ' H' => ∃ t : Nat, σ' = [some (vI many), some (.ref p), some (vI (3 + t))] ∧ Same H H' ∧ H' p = some (.lst ((numsTo t).map vI)) ∧ t + m ≤ 2 * many ∧ (numsTo t).length ≤ many ∧ m = 2 * (many - (numsTo t).length) + (if np (3 + t) then 0 else 1),
    ⟨2 * many, 0, rfl, same_new hp _, upd_same, by omega, Nat.zero_le _, rfl⟩, fun m σ' H' pv => ?_⟩
  obtain ⟨t, rfl, sm, hf, b1, b2, bm⟩ := pv
  refine ⟨_, rfl, p, _, rfl, .inl (SqL.of hf), _, rfl, _, _, rfl, rfl, _, rfl, ?_⟩
  by_cases hc : (numsTo t).length < many
  · refine ifY (by rw [List.length_map]; simpa using hc) ⟨_, fun _ _ h => h, ?_⟩
    have hl : ((numsTo t).map vI).length < sizeLine := by rw [List.length_map]; exact small1000 (by omega)
    refine ⟨_, rfl, _, rfl, _, _, rfl, rfl, _, _, rfl, congrArg V.int (show (((3 + t : Nat) : Int) - 1) = ((3 + t - 1 : Nat) : Int) by omega), ?_⟩
    refine ⟨rfl, _, rfl, ?_⟩
    cases hn : np (3 + t)
    · have e0 : 3 + t &&& (3 + t - 1) = 0 := by unfold np at hn; simpa using hn
      refine ifN (by rw [e0]; rfl) ?_
      have h1 := np_next (by omega) hn
      have es : numsTo (t + 1) = numsTo t := by rw [numsTo_succ, hn]; simp
      refine ⟨_, rfl, _, _, rfl, rfl, 2 * (many - (numsTo t).length), ?_, t + 1, ?_, sm, ?_, ?_, ?_, ?_⟩
      · rw [bm, hn]; simp
      · show _ = [_, _, some (vI (3 + t + 1))]
        rfl
      · rw [es]; exact hf
      · rw [bm, hn] at b1; simp at b1; omega
      · rw [es]; exact b2
      · rw [es, show 3 + (t + 1) = 3 + t + 1 from rfl, h1]; simp
    · have e0 : 3 + t &&& (3 + t - 1) ≠ 0 := by unfold np at hn; simpa using hn
      refine ifY (by show (!decide (vI _ = vI 0)) = true; rw [decide_eq_false (fun z => e0 (by have := V.int.inj z; omega))]; rfl) ?_
      refine ⟨_, rfl, .inl ⟨rfl, _, SqL.of hf⟩, _, rfl, p, _, _, rfl, rfl, hf, hl, ?_⟩
      have es : numsTo (t + 1) = numsTo t ++ [3 + t] := by rw [numsTo_succ, hn]; simp
      have el : (numsTo (t + 1)).length = (numsTo t).length + 1 := by rw [es]; simp
      refine ⟨_, rfl, _, _, rfl, rfl, 2 * (many - (numsTo (t + 1)).length) + (if np (3 + (t + 1)) then 0 else 1), ?_, t + 1, ?_, same_two sm hp, ?_, ?_, ?_, rfl⟩
      · rw [bm, hn, el]; split <;> simp <;> omega
      · show _ = [_, _, some (vI (3 + t + 1))]
        rfl
      · rw [upd_same, es, List.map_append]
        rfl
      · rw [bm, hn, ] at b1
        rw [el]
        simp at b1
        split <;> omega
      · rw [el]; omega
  · refine ifN (by rw [List.length_map]; simpa using hc) ?_
    have e : (numsTo t).length = many := by omega
    have e2 := numsOf_of (show t ≤ 2 * many by omega) e
    rw [e2] at e hf
    exact ⟨_, rfl, q p _ sm hp hf e⟩
theorem ok_cwidth (F : Fun K "check_width" "check_width" s_check_width f fd) (T : Txt mg) (D_data_numbers : Dn P w K mg base "data_numbers" ["many"] 1 spNums) : FnOk P w K mg base CX0 2 f fd ["many"] spWidth := by
  refine F.ok sc_check_width (fun vs H Q E h => ?_) (fun cdv A outer s H vs Q E hr h => ?_)
  · obtain ⟨many, rfl, _⟩ := h
    rfl
  obtain ⟨many, rfl, h1, hm, q⟩ := h
  refine ⟨_, (pss_one (ps_ret (pe_bits (pe_ix ix_list (pe_dn D_data_numbers (hr.mono (by decide)) (by rfl) (pa_cons (pv 0) pa_nil)) (pe_un un_neg pe_int) (fun _ _ => rfl))))), ?_⟩
  refine ⟨_, rfl, many, rfl, hm, fun p H' sm hp hf hl => ?_⟩
  obtain ⟨r, x, e, ew⟩ := numsOf_last hl h1
  rw [e, List.map_append] at hf
  refine ⟨_, rfl, p, _, _, _, rfl, rfl, SqL.of hf, atI_last _ _, _, rfl, ?_⟩
  have := q H' sm (widthN_pos hl h1)
  rw [ew] at this
  exact this
theorem ok_cword (F : Fun K "check_word" "check_word" s_check_word f fd) (T : Txt mg) (D_data_numbers : Dn P w K mg base "data_numbers" ["many"] 1 spNums) : FnOk P w K mg base CX0 2 f fd ["data"] (spWord K) := by
  refine F.ok sc_check_word (fun vs H Q E h => ?_) (fun cdv A outer s H vs Q E hr h => ?_)
  · obtain ⟨a, bs, rfl, _⟩ := h
    rfl
  obtain ⟨a, bs, rfl, ha, hm, q⟩ := h
  refine ⟨_, (pss_cons (ps_set (i := 1) sc_check_word.nd rfl (Or.inl rfl) pe_int)
      (pss_cons (ps_for PassesOwn.never rfl (pi_zipX (by rfl) T.n_zip (pa_cons (pe_dn D_data_numbers (hr.mono (by decide)) (by rfl) (pa_cons (pe_callB call_len_seq (by rfl) T.n_len (by decide +kernel) (pa_cons (pv 0) pa_nil)) pa_nil)) (pa_cons (pv 0) pa_nil))) (pg_tup rfl (pgs_cons (pg_name (i := 2) sc_check_word.nd rfl (Or.inl rfl)) (pgs_cons (pg_name (i := 3) sc_check_word.nd rfl (Or.inl rfl)) pgs_nil))) (pss_one (ps_if (pt_cmpR op_eq (pv 3) pe_int (nomark _)) (pss_one (ps_set (i := 1) sc_check_word.nd rfl (Or.inl rfl) (pe_op op_xorB (pv 1) (pv 2)))) pss_nil)))
      (pss_one (ps_ret (pv 1))))), ?_⟩
  refine ⟨_, rfl, a, _, rfl, .inr ha, bs.length, by rw [List.length_map]; rfl, hm, fun p H1 sm hp hf hl => ?_⟩
  refine ⟨_, rfl, srcL, srcT, p, a, (numsOf bs.length).map vI, bs.map vI, rfl, SqL.of hf, seqT_same sm ha, for_zipG srcL srcT (xs := (numsOf bs.length).map vI) (ys := bs.map vI) (by rw [List.length_map, List.length_map, hl]) (fun (i : Nat) (σ' : L2.St) (H' : Hp) => ∃ v2 v3 : Option V, σ' = [some (.ref a), some (vI (xwTo (numsOf bs.length) bs i)), v2, v3] ∧ Same H1 H')
    ⟨none, none, rfl, Same.refl _⟩ (fun i σ' H' pv => ?_) (fun i x y T' σ' H' hx hy pv hT => ?_) (fun σ' H' pv => ?_)⟩
  · obtain ⟨_, _, _, s2⟩ := pv
    exact ⟨SqL.of (s2 _ _ hf), seqT_same (sm.trans s2) ha⟩
  · obtain ⟨v2, v3, rfl, s2⟩ := pv
    obtain ⟨n, hn, rfl⟩ := natAt hx
    obtain ⟨b, hb, rfl⟩ := natAt hy
    refine ⟨T', _, rfl, SqT.of upd_same, rfl, _, _, rfl, _, _, rfl, rfl, ?_⟩
    refine ⟨_, rfl, rfl, _, rfl, ite2 (fun z => ?_) (fun z => ?_)⟩
    · have eb : b = 1 := one_of z
      refine ⟨_, rfl, _, rfl, _, _, rfl, rfl, some (vI n), some (vI b), ?_, s2.trans (same_new hT _)⟩
      rw [xwTo_yes hn hb eb]
      rfl
    · have eb : b ≠ 1 := not_one (Bool.eq_false_iff.mpr z)
      refine ⟨some (vI n), some (vI b), ?_, s2.trans (same_new hT _)⟩
      rw [xwTo_no hb eb]
      rfl
  · obtain ⟨v2, v3, rfl, s2⟩ := pv
    refine ⟨_, rfl, ?_⟩
    rw [List.length_map, hl]
    exact q _ (sm.trans s2)
theorem ok_frame (F : Fun K "frame_of" "frame_of" s_frame_of f fd) (T : Txt mg) (D_to_bits : Dn P w K mg base "to_bits" ["width", "word"] 1 spBits) (D_check_width : Dn P w K mg base "check_width" ["many"] 2 spWidth)
    (D_check_word : Dn P w K mg base "check_word" ["data"] 2 (spWord K)) : FnOk P w K mg base CX0 3 f fd ["data"] (spFrame K) := by
  refine F.ok sc_frame_of (fun vs H Q E h => ?_) (fun cdv A outer s H vs Q E hr h => ?_)
  · obtain ⟨a, bs, rfl, _⟩ := h
    rfl
  obtain ⟨a, bs, rfl, ha, h1, hm, q⟩ := h
  refine ⟨_, (pss_cons (ps_set (i := 1) sc_frame_of.nd rfl (Or.inl rfl) (pe_op op_catA (pe_callTy call_tuple_of (by rfl) T.n_tuple (by decide +kernel) (pa_cons (pv 0) pa_nil)) (pe_dn D_to_bits (hr.mono (by decide)) (by rfl) (pa_cons (pe_dn D_check_width (hr.mono (by decide)) (by rfl) (pa_cons (pe_callB call_len_seq (by rfl) T.n_len (by decide +kernel) (pa_cons (pv 0) pa_nil)) pa_nil)) (pa_cons (pe_dn D_check_word (hr.mono (by decide)) (by rfl) (pa_cons (pv 0) pa_nil)) pa_nil)))))
      (pss_one (ps_ret (pe_op op_catA (pv 1) (pe_tup (pa_cons (pe_op op_odd (pe_callB (cr_sumT rfl) (by rfl) T.n_sum (by decide +kernel) (pa_cons (pv 1) pa_nil)) pe_int) pa_nil)))))), ?_⟩
  have w20 := widthN_le (show bs.length ≤ 1000 by omega)
  refine ⟨_, rfl, a, _, rfl, .inr ⟨ha, ?_⟩⟩
  refine ⟨_, rfl, a, _, rfl, .inr ha, bs.length, by rw [List.length_map]; rfl, h1, by omega, fun H1 s1 wp => ?_⟩
  refine ⟨_, rfl, a, bs, rfl, seqT_same s1 ha, by omega, fun H2 s2 => ?_⟩
  have s12 := s1.trans s2
  refine ⟨_, _, rfl, by omega, fun t H3 s3 ht et => ?_⟩
  have s13 := s12.trans s3
  have nb : bs.map vI ≠ [] := by
    cases bs with
    | nil => simp at h1
    | cons x l => simp
  refine ⟨a, t, _, _, rfl, rfl, seqT_same s13 ha, SqT.of et, ?_, fun z => absurd z nb, fun _ z => ?_, fun _ _ p hp => ?_⟩
  · rw [List.length_map, List.length_map, bitsN_len]
    exact le1000 (by omega)
  · have := congrArg List.length z
    rw [List.length_map, bitsN_len] at this
    simp at this
    omega
  have s4 := s13.trans (same_new hp (.tup (bs.map vI ++ (bitsN (widthN bs.length) (checkN bs)).map vI)))
  have eB : bs.map vI ++ (bitsN (widthN bs.length) (checkN bs)).map vI = (bodyN bs).map vI := by rw [← List.map_append]; rfl
  rw [eB] at s4 ⊢
  have lB : (bodyN bs).length = bs.length + widthN bs.length := by rw [bodyN, List.length_append, bitsN_len]
  refine ⟨_, rfl, _, rfl, p, _, rfl, by rw [← map_int]; exact SqT.of upd_same, (bodyN bs).sum, by rw [sum_cast], rfl, ?_⟩
  refine ⟨by show 1 ≤ sizeLine; decide, fun u hu => ?_⟩
  have s5 := same_new hu (.tup [V.int (((bodyN bs).sum % 2 : Nat) : Int)])
  refine ⟨p, u, (bodyN bs).map vI, [V.int (((bodyN bs).sum % 2 : Nat) : Int)], rfl, rfl, SqT.of (s5 _ _ upd_same), SqT.of upd_same, ?_, fun z => ?_, fun _ z => ?_, fun _ _ r hr => ?_⟩
  · rw [List.length_map, lB]
    exact le1000 (by show _ + 1 ≤ _; omega)
  · have := congrArg List.length z
    rw [List.length_map, lB] at this
    simp at this
    omega
  · simp at z
  · refine q r _ ((s4.trans s5).trans (same_new hr _)) ((s4.trans s5).free hr) ?_
    rw [upd_same]
    show some (HO.tup (_ ++ [vI ((bodyN bs).sum % 2)])) = _
    rw [frameN, List.map_append]
    rfl
end
end Bf

set_option Elab.async false
set_option linter.all false
set_option maxRecDepth 100000
set_option maxHeartbeats 4000000
namespace Bf
open PySem PySem.Spec PyProof.Rows L2
/-! ### the law's defs -/
def spSize : Sp := fun vs H Q _ => ∃ d c : Addr, vs = [.ref d] ∧ DS H d c ∧ ∀ (m : Nat) (H' : Hp), 1 ≤ m → m ≤ 500 → DS H' d c → Keep [d] H H' → Q (vI m) H'
def spData : Sp := fun vs H Q _ => ∃ (d c : Addr) (many : Nat), vs = [.ref d, vI many] ∧ DS H d c ∧ 1 ≤ many ∧ many ≤ 500 ∧ ∀ (t : Addr) (bs : List Nat) (H' : Hp), bs.length = many → (∀ b ∈ bs, b < 2) → H t = none → H' t = some (.tup (bs.map vI)) → DS H' d c → Keep [d] H H' → Q (.ref t) H'
theorem kfree {S : List Addr} {H H' : Hp} {l : Addr} (k : Keep S H H') (h : H' l = none) (n : l ∉ S) : H l = none := by
  cases e : H l with
  | none => rfl
  | some o => rw [k l o n e] at h; cases h
theorem keep_two {S : List Addr} {H H' : Hp} {p : Addr} {o : HO} (k : Keep S H H') (hp : H p = none) : Keep S H (upd H' p o) := fun b u n q => by
  rw [upd_ne (ne_of_none q hp)]
  exact k _ _ n q
def BI (d c D : Addr) (H0 : Hp) (i : Nat) (H' : Hp) : Prop := ∃ bs : List Nat, bs.length = i ∧ (∀ b ∈ bs, b < 2) ∧ H' D = some (.lst (bs.map vI)) ∧ DS H' d c ∧ Keep [d] H0 H'
theorem BI.push {d c D : Addr} {H0 H' : Hp} {i b : Nat} (h : BI d c D H0 i H') (hD : H0 D = none) (nd : D ≠ d) (nc : D ≠ c) (hi : i < 1000) (hb : b < 2) : ∃ acc, H' D = some (.lst acc) ∧ acc.length < sizeLine ∧ BI d c D H0 (i + 1) (upd H' D (.lst (acc ++ [vI b]))) := by
  obtain ⟨bs, l, z, e, ds, k⟩ := h
  refine ⟨_, e, by rw [List.length_map, l]; exact small1000 (by omega), bs ++ [b], by rw [List.length_append, l]; rfl, fun x hx => ?_, ?_, ds.keep (S := [D]) (Keep.upd (by simp)) (by simp [nd.symm]) (by simp [nc.symm]), keep_two k hD⟩
  · rcases List.mem_append.mp hx with q | q
    · exact z x q
    · rw [List.mem_singleton.mp q]; exact hb
  · rw [upd_same, List.map_append]
    rfl
theorem BI.start {d c D : Addr} {H0 H : Hp} (ds : DS H d c) (k : Keep [d] H0 H) (hD : H D = none) (hD0 : H0 D = none) : BI d c D H0 0 (upd H D (.lst [])) :=
  ⟨[], rfl, fun _ h => by simp at h, upd_same, ds.same (same_new hD _), keep_two k hD0⟩
theorem xor_lt2 {x y : Nat} (hx : x < 2) (hy : y < 2) : x ^^^ y < 2 := Nat.xor_lt_two_pow (n := 1) hx hy
theorem pick_nat {ms : List Nat} {k : Nat} {y : V} (h : (ms.map vI)[k]? = some y) (b : ∀ m ∈ ms, 1 ≤ m ∧ m ≤ 500) : ∃ m : Nat, y = vI m ∧ 1 ≤ m ∧ m ≤ 500 := by
  obtain ⟨m, hm, rfl⟩ := natAt h
  exact ⟨m, rfl, b m (List.mem_of_getElem? hm)⟩
section
variable {P : Program} {w : World} {K : PySem.W.Frag} {mg : Str → Option Value} {base : Heap} {f : Addr} {fd : FuncData}
theorem ok_lnums (F : Fun K "_law_numbers" "_law_numbers" s_law_numbers f fd) (T : Txt mg) : FnOk P w K mg base CX0 1 f fd ["_law_many"] spNums := by
  refine F.ok sc_law_numbers (fun vs H Q E h => ?_) (fun cdv A outer s H vs Q E hr h => ?_)
  · obtain ⟨many, rfl, _⟩ := h
    rfl
  obtain ⟨many, rfl, hm, q⟩ := h
  refine ⟨_, (pss_cons (ps_set (i := 1) sc_law_numbers.nd rfl (Or.inl rfl) (pe_lst pa_nil))
      (pss_cons (ps_set (i := 2) sc_law_numbers.nd rfl (Or.inl rfl) pe_int)
      (pss_cons (ps_while PassesOwn.never (pt_cmpR op_lt (pe_callB call_len_seq (by rfl) T.n_len (by decide +kernel) (pa_cons (pv 1) pa_nil)) (pv 0) (nomark _)) (pss_cons (ps_if (pt_cmpR op_ne (pe_op op_andB (pv 2) (pe_op op_sub (pv 2) pe_int)) pe_int (nomark _)) (pss_one (ps_expr (pe_bm PySem.F.plainAttrs_list PySem.F.slot_list_append PySem.F.type_list_append mt_append (pv 1) (pa_cons (pv 2) pa_nil)))) pss_nil)
      (pss_one (ps_aug (i := 2) sc_law_numbers.nd rfl (Or.inl rfl) pe_int ip_add))))
      (pss_one (ps_ret (pv 1)))))), ?_⟩
  refine ⟨Nat.zero_le _, fun p hp => ?_⟩
  refine ⟨fun m σ' H' => ∃ t : Nat, σ' = [some (vI many), some (.ref p), some (vI (3 + t))] ∧ Same H H' ∧ H' p = some (.lst ((numsTo t).map vI)) ∧ t + m ≤ 2 * many ∧ (numsTo t).length ≤ many ∧ m = 2 * (many - (numsTo t).length) + (if np (3 + t) then 0 else 1),
    ⟨2 * many, 0, rfl, same_new hp _, upd_same, by omega, Nat.zero_le _, rfl⟩, fun m σ' H' pv => ?_⟩
  obtain ⟨t, rfl, sm, hf, b1, b2, bm⟩ := pv
  refine ⟨_, rfl, p, _, rfl, .inl (SqL.of hf), _, rfl, _, _, rfl, rfl, _, rfl, ?_⟩
  by_cases hc : (numsTo t).length < many
  · refine ifY (by rw [List.length_map]; simpa using hc) ⟨_, fun _ _ h => h, ?_⟩
    have hl : ((numsTo t).map vI).length < sizeLine := by rw [List.length_map]; exact small1000 (by omega)
    refine ⟨_, rfl, _, rfl, _, _, rfl, rfl, _, _, rfl, congrArg V.int (show (((3 + t : Nat) : Int) - 1) = ((3 + t - 1 : Nat) : Int) by omega), ?_⟩
    refine ⟨rfl, _, rfl, ?_⟩
    cases hn : np (3 + t)
    · have e0 : 3 + t &&& (3 + t - 1) = 0 := by unfold np at hn; simpa using hn
      refine ifN (by rw [e0]; rfl) ?_
      have h1 := np_next (by omega) hn
      have es : numsTo (t + 1) = numsTo t := by rw [numsTo_succ, hn]; simp
      refine ⟨_, rfl, _, _, rfl, rfl, 2 * (many - (numsTo t).length), ?_, t + 1, ?_, sm, ?_, ?_, ?_, ?_⟩
      · rw [bm, hn]; simp
      · show _ = [_, _, some (vI (3 + t + 1))]
        rfl
      · rw [es]; exact hf
      · rw [bm, hn] at b1; simp at b1; omega
      · rw [es]; exact b2
      · rw [es, show 3 + (t + 1) = 3 + t + 1 from rfl, h1]; simp
    · have e0 : 3 + t &&& (3 + t - 1) ≠ 0 := by unfold np at hn; simpa using hn
      refine ifY (by show (!decide (vI _ = vI 0)) = true; rw [decide_eq_false (fun z => e0 (by have := V.int.inj z; omega))]; rfl) ?_
      refine ⟨_, rfl, .inl ⟨rfl, _, SqL.of hf⟩, _, rfl, p, _, _, rfl, rfl, hf, hl, ?_⟩
      have es : numsTo (t + 1) = numsTo t ++ [3 + t] := by rw [numsTo_succ, hn]; simp
      have el : (numsTo (t + 1)).length = (numsTo t).length + 1 := by rw [es]; simp
      refine ⟨_, rfl, _, _, rfl, rfl, 2 * (many - (numsTo (t + 1)).length) + (if np (3 + (t + 1)) then 0 else 1), ?_, t + 1, ?_, same_two sm hp, ?_, ?_, ?_, rfl⟩
      · rw [bm, hn, el]; split <;> simp <;> omega
      · show _ = [_, _, some (vI (3 + t + 1))]
        rfl
      · rw [upd_same, es, List.map_append]
        rfl
      · rw [bm, hn, ] at b1
        rw [el]
        simp at b1
        split <;> omega
      · rw [el]; omega
  · refine ifN (by rw [List.length_map]; simpa using hc) ?_
    have e : (numsTo t).length = many := by omega
    have e2 := numsOf_of (show t ≤ 2 * many by omega) e
    rw [e2] at e hf
    exact ⟨_, rfl, q p _ sm hp hf e⟩
theorem ok_size (F : Fun K "_law_size_of_data" "_law_size_of_data" s_law_size_of_data f fd) (T : Txt mg) (D_law_draw : Dn P w K mg base "_law_draw" ["_law_d", "_law_many"] 1 spDraw)
    (D_law_pick : Dn P w K mg base "_law_pick" ["_law_d", "_law_row"] 2 (spPick K)) (D_law_rare : Dn P w K mg base "_law_rare" ["_law_d", "_law_many"] 2 spRare) :
    FnOk P w K mg base CX0 3 f fd ["_law_d"] spSize := by
  refine F.ok sc_law_size_of_data (fun vs H Q E h => ?_) (fun cdv A outer s H vs Q E hr h => ?_)
  · obtain ⟨d, c, rfl, _⟩ := h
    rfl
  obtain ⟨d, c, rfl, hd, q⟩ := h
  refine ⟨_, (pss_cons (ps_set (i := 1) sc_law_size_of_data.nd rfl (Or.inl rfl) (pe_dn D_law_draw (hr.mono (by decide)) (by rfl) (pa_cons (pv 0) (pa_cons pe_int pa_nil))))
      (pss_cons (ps_if (pt_cmpR op_eq (pv 1) pe_int (nomark _)) (pss_one (ps_ret (pe_dn D_law_pick (hr.mono (by decide)) (by rfl) (pa_cons (pv 0) (pa_cons (pe_lst (pa_cons pe_int (pa_cons pe_int (pa_cons pe_int (pa_cons pe_int (pa_cons pe_int (pa_cons pe_int (pa_cons pe_int (pa_cons pe_int (pa_cons pe_int (pa_cons pe_int pa_nil))))))))))) pa_nil))))) pss_nil)
      (C8.pss_cut (ps_if (PW.pt (pw_and (pt_cmpR op_eq (pv 1) pe_int (nomark _)) (pw_and1 (pt_val (pe_dn D_law_rare (hr.mono (by decide)) (by rfl) (pa_cons (pv 0) (pa_cons pe_int pa_nil))))))) (pss_one (ps_ret (pe_dn D_law_pick (hr.mono (by decide)) (by rfl) (pa_cons (pv 0) (pa_cons (pe_lst (pa_cons (pe_op op_add pe_int (pe_dn D_law_draw (hr.mono (by decide)) (by rfl) (pa_cons (pv 0) (pa_cons pe_int pa_nil)))) (pa_cons pe_int (pa_cons pe_int (pa_cons pe_int (pa_cons pe_int (pa_cons pe_int pa_nil))))))) pa_nil))))) pss_nil)
      (pss_one (ps_ret (pe_op op_add pe_int (pe_dn D_law_draw (hr.mono (by decide)) (by rfl) (pa_cons (pv 0) (pa_cons pe_int pa_nil))))))))), ?_⟩
  refine ⟨_, rfl, d, c, 5, rfl, hd, by decide, by decide, fun r H1 r0 r1 hd1 k1 => ?_⟩
  refine ⟨_, rfl, rfl, _, rfl, ite2 (fun z => ?_) (fun z => ?_)⟩
  · refine ⟨_, rfl, by show 10 ≤ sizeLine; decide, fun l hl => ?_⟩
    have nl := hd1.new hl
    refine ⟨d, c, l, _, rfl, hd1.same (same_new hl _), nl.1, SqL.of upd_same, by decide, by decide, fun k y H2 hy hd2 k2 => ?_⟩
    obtain ⟨m, rfl, m1, m2⟩ := pick_nat (ms := [1, 2, 4, 5, 11, 12, 26, 27, 57, 58]) hy (by decide)
    exact q m H2 m1 m2 hd2 (k1.trans ((Keep.of_same (same_new hl _)).trans k2))
  refine ⟨fun σ' H' => ∃ v : Option V, σ' = [some (.ref d), v] ∧ DS H' d c ∧ Keep [d] H H', ?_, ?_⟩
  · refine ⟨_, rfl, rfl, _, rfl, ite2 (fun z => ?_) (fun z => ?_)⟩
    · refine ⟨_, rfl, d, c, 5, rfl, hd1, by decide, by decide, fun b H2 hd2 k2 => ⟨b, rfl, ?_⟩⟩
      have k12 := k1.trans k2
      cases b with
      | false => exact iteF ⟨_, rfl, hd2, k12⟩
      | true =>
        refine iteT ?_
        refine ⟨_, rfl, _, rfl, d, c, 500, rfl, hd2, by decide, by decide, fun r H3 r0 r1 hd3 k3 => ?_⟩
        obtain ⟨x, rfl⟩ := Int.eq_ofNat_of_zero_le r0
        refine ⟨_, _, rfl, rfl, by show 6 ≤ sizeLine; decide, fun l hl => ?_⟩
        have nl := hd3.new hl
        refine ⟨d, c, l, _, rfl, hd3.same (same_new hl _), nl.1, SqL.of upd_same, by simp, by simp, fun k y H4 hy hd4 k4 => ?_⟩
        obtain ⟨m, rfl, m1, m2⟩ := pick_nat (k := k) (ms := [1 + x, 120, 121, 247, 248, 500]) (by rw [← hy]; simp [vI]) (by simp; omega)
        exact q m H4 m1 m2 hd4 ((k12.trans k3).trans ((Keep.of_same (same_new hl _)).trans k4))
    · exact iteF ⟨_, rfl, hd1, k1⟩
  rintro σ' H' ⟨v, rfl, hd2, k2⟩
  refine ⟨_, rfl, d, c, 24, rfl, hd2, by decide, by decide, fun r H3 r0 r1 hd3 k3 => ?_⟩
  obtain ⟨x, rfl⟩ := Int.eq_ofNat_of_zero_le r0
  refine ⟨_, _, rfl, rfl, ?_⟩
  have := q (1 + x) H3 (by omega) (by omega) hd3 (k2.trans k3)
  rwa [show vI (1 + x) = V.int (1 + (x : Int)) from congrArg V.int (by omega)] at this
theorem ok_data (F : Fun K "_law_data" "_law_data" s_law_data f fd) (T : Txt mg) (D_law_draw : Dn P w K mg base "_law_draw" ["_law_d", "_law_many"] 1 spDraw) :
    FnOk P w K mg base CX0 2 f fd ["_law_d", "_law_many"] spData := by
  refine F.ok sc_law_data (fun vs H Q E h => ?_) (fun cdv A outer s H vs Q E hr h => ?_)
  · obtain ⟨d, c, many, rfl, _⟩ := h
    rfl
  obtain ⟨d, c, many, rfl, hd, m1, m2, q⟩ := h
  refine ⟨_, (pss_cons (ps_set (i := 2) sc_law_data.nd rfl (Or.inl rfl) (pe_dn D_law_draw (hr.mono (by decide)) (by rfl) (pa_cons (pv 0) (pa_cons pe_int pa_nil))))
      (pss_cons (ps_if (pt_cmpR op_eq (pv 2) pe_int (nomark _)) (pss_one (ps_ret (pe_callTy call_tuple_of (by rfl) T.n_tuple (by decide +kernel) (pa_cons (pe_lc (own := [("_law_k", 5)]) (g := gName 5) (tt := tYes) rfl sc_law_data.nd (pi_range1 rfl T.n_range (pa_cons (pv 1) pa_nil)) (blkOk_by (N := ["_law_d", "_law_many", "_law_turn", "_law_side", "_law_at", "_law_k"]) (sc := defScope s_law_data) (by decide +kernel)) (fun _ _ _ _ _ => (pg_name (i := 5) sc_law_data.nd rfl (Or.inl rfl))) (fun _ _ _ _ _ => pts_nil) (fun _ _ _ _ _ => pe_int)) pa_nil)))) pss_nil)
      (pss_cons (ps_if (pt_cmpR op_eq (pv 2) pe_int (nomark _)) (pss_one (ps_ret (pe_callTy call_tuple_of (by rfl) T.n_tuple (by decide +kernel) (pa_cons (pe_lc (own := [("_law_k", 5)]) (g := gName 5) (tt := tYes) rfl sc_law_data.nd (pi_range1 rfl T.n_range (pa_cons (pv 1) pa_nil)) (blkOk_by (N := ["_law_d", "_law_many", "_law_turn", "_law_side", "_law_at", "_law_k"]) (sc := defScope s_law_data) (by decide +kernel)) (fun _ _ _ _ _ => (pg_name (i := 5) sc_law_data.nd rfl (Or.inl rfl))) (fun _ _ _ _ _ => pts_nil) (fun _ _ _ _ _ => pe_int)) pa_nil)))) pss_nil)
      (pss_cons (ps_if (pt_cmpR op_eq (pv 2) pe_int (nomark _)) (pss_cons (ps_set (i := 3) sc_law_data.nd rfl (Or.inr rfl) (pe_dn D_law_draw (hr.mono (by decide)) (by rfl) (pa_cons (pv 0) (pa_cons pe_int pa_nil))))
      (pss_cons (ps_set (i := 4) sc_law_data.nd rfl (Or.inr rfl) (pe_dn D_law_draw (hr.mono (by decide)) (by rfl) (pa_cons (pv 0) (pa_cons (pv 1) pa_nil))))
      (pss_one (ps_ret (pe_callTy call_tuple_of (by rfl) T.n_tuple (by decide +kernel) (pa_cons (pe_lc (own := [("_law_k", 5)]) (g := gName 5) (tt := tYes) rfl sc_law_data.nd (pi_range1 rfl T.n_range (pa_cons (pv 1) pa_nil)) (blkOk_by (N := ["_law_d", "_law_many", "_law_turn", "_law_side", "_law_at", "_law_k"]) (sc := defScope s_law_data) (by decide +kernel)) (fun _ _ _ _ _ => (pg_name (i := 5) sc_law_data.nd rfl (Or.inl rfl))) (fun _ _ _ _ _ => pts_nil) (fun _ _ _ _ _ => (pe_op op_xorB (pv 3) (pe_callTy call_int1 (by rfl) T.n_int (by decide +kernel) (pa_cons (pe_cmpR op_eq (pv 5) (pv 4) (nomark _)) pa_nil))))) pa_nil)))))) pss_nil)
      (pss_one (ps_ret (pe_callTy call_tuple_of (by rfl) T.n_tuple (by decide +kernel) (pa_cons (pe_lc (own := [("_law_k", 5)]) (g := gName 5) (tt := tYes) rfl sc_law_data.nd (pi_range1 rfl T.n_range (pa_cons (pv 1) pa_nil)) (blkOk_by (N := ["_law_d", "_law_many", "_law_turn", "_law_side", "_law_at", "_law_k"]) (sc := defScope s_law_data) (by decide +kernel)) (fun _ _ _ _ _ => (pg_name (i := 5) sc_law_data.nd rfl (Or.inl rfl))) (fun _ _ _ _ _ => pts_nil) (fun _ _ _ _ _ => (pe_dn D_law_draw (hr.mono (by decide)) (by rfl) (pa_cons (pv 0) (pa_cons pe_int pa_nil))))) pa_nil)))))))), ?_⟩
  have fin : ∀ (D : Addr) (H' : Hp), BI d c D H many H' → ∃ bs : List Nat, H' D = some (.lst (bs.map vI)) ∧ ∀ l, H' l = none → Q (.ref l) (upd H' l (.tup (bs.map vI))) := by
    rintro D H' ⟨bs, l, z, e, ds, k⟩
    refine ⟨bs, e, fun u hu => q u bs _ l z (kfree k hu (by simp [(ds.new hu).1])) upd_same (ds.same (same_new hu _)) (keep_two k (kfree k hu (by simp [(ds.new hu).1])))⟩
  refine ⟨_, rfl, d, c, 7, rfl, hd, by decide, by decide, fun r H1 r0 r1 hd1 k1 => ?_⟩
  have b62 := i62 (show many ≤ 1000 by omega)
  refine ⟨_, rfl, rfl, _, rfl, ite2 (fun z => ?_) (fun z => ?_)⟩
  · refine ⟨_, rfl, (many : Int), rfl, b62.1, b62.2, fun D hD => ?_⟩
    have n := hd1.new hD
    have hD0 := kfree k1 hD (by simp [n.1])
    refine lc_range (lo := 0) (n := many) (BI d c D H) (BI.start hd1 k1 hD hD0) (fun i H' hi p => ?_) (fun H' p => ?_)
    · obtain ⟨acc, e, l, p2⟩ := p.push (b := 1) hD0 n.1 n.2 (by omega) (by decide)
      exact ⟨rfl, acc, e, l, p2⟩
    · obtain ⟨bs, e, z⟩ := fin D H' p
      exact ⟨D, _, rfl, .inl ⟨SqL.of e, z⟩⟩
  refine ⟨_, rfl, rfl, _, rfl, ite2 (fun z => ?_) (fun z => ?_)⟩
  · refine ⟨_, rfl, (many : Int), rfl, b62.1, b62.2, fun D hD => ?_⟩
    have n := hd1.new hD
    have hD0 := kfree k1 hD (by simp [n.1])
    refine lc_range (lo := 0) (n := many) (BI d c D H) (BI.start hd1 k1 hD hD0) (fun i H' hi p => ?_) (fun H' p => ?_)
    · obtain ⟨acc, e, l, p2⟩ := p.push (b := 0) hD0 n.1 n.2 (by omega) (by decide)
      exact ⟨rfl, acc, e, l, p2⟩
    · obtain ⟨bs, e, z⟩ := fin D H' p
      exact ⟨D, _, rfl, .inl ⟨SqL.of e, z⟩⟩
  refine ⟨_, rfl, rfl, _, rfl, ite2 (fun z => ?_) (fun z => ?_)⟩
  · refine ⟨_, rfl, d, c, 2, rfl, hd1, by decide, by decide, fun r2 H2 r20 r21 hd2 k2 => ?_⟩
    obtain ⟨x, rfl⟩ := Int.eq_ofNat_of_zero_le r20
    refine ⟨_, rfl, _, rfl, d, c, many, rfl, hd2, by omega, by omega, fun r3 H3 r30 r31 hd3 k3 => ?_⟩
    have k13 := (k1.trans k2).trans k3
    refine ⟨_, rfl, (many : Int), rfl, b62.1, b62.2, fun D hD => ?_⟩
    have n := hd3.new hD
    have hD0 := kfree k13 hD (by simp [n.1])
    refine lc_range (lo := 0) (n := many) (BI d c D H) (BI.start hd3 k13 hD hD0) (fun i H' hi p => ?_) (fun H' p => ?_)
    · obtain ⟨y, hy, ey⟩ : ∃ y : Nat, y < 2 ∧ b2i (decide (V.int (0 + (i : Int)) = V.int r3)) = (y : Int) := by
        cases decide (V.int (0 + (i : Int)) = V.int r3)
        · exact ⟨0, by decide, rfl⟩
        · exact ⟨1, by decide, rfl⟩
      obtain ⟨acc, e, l, p2⟩ := p.push (b := x ^^^ y) hD0 n.1 n.2 (by omega) (xor_lt2 (by omega) hy)
      exact ⟨rfl, _, rfl, _, rfl, _, rfl, rfl, .inr ⟨_, rfl, x, y, rfl, congrArg V.int ey, acc, e, l, p2⟩⟩
    · obtain ⟨bs, e, z⟩ := fin D H' p
      exact ⟨D, _, rfl, .inl ⟨SqL.of e, z⟩⟩
  · refine ⟨_, rfl, (many : Int), rfl, b62.1, b62.2, fun D hD => ?_⟩
    have n := hd1.new hD
    have hD0 := kfree k1 hD (by simp [n.1])
    refine lc_range (lo := 0) (n := many) (BI d c D H) (BI.start hd1 k1 hD hD0) (fun i H' hi p => ?_) (fun H' p => ?_)
    · obtain ⟨bs, lb, zb, eb, ds, kk⟩ := p
      refine ⟨rfl, _, rfl, d, c, 2, rfl, ds, by decide, by decide, fun r4 H4 r40 r41 hd4 k4 => ?_⟩
      obtain ⟨x, rfl⟩ := Int.eq_ofNat_of_zero_le r40
      obtain ⟨acc, e, l, p2⟩ := BI.push (d := d) (c := c) (D := D) (H0 := H) (i := i) (b := x) (H' := H4) ⟨bs, lb, zb, k4 _ _ (by simp [n.1]) eb, hd4, kk.trans k4⟩ hD0 n.1 n.2 (by omega) (by omega)
      exact ⟨acc, e, l, p2⟩
    · obtain ⟨bs, e, z⟩ := fin D H' p
      exact ⟨D, _, rfl, .inl ⟨SqL.of e, z⟩⟩
end
end Bf

set_option Elab.async false
set_option linter.all false
set_option maxRecDepth 100000
set_option maxHeartbeats 4000000
namespace Bf
open PySem PySem.Spec PyProof.Rows L2
/-! ### the law -/
def spLaw (K : PySem.W.Frag) : Sp := fun vs H Q _ => ∃ (a : Addr) (ns : List Int), vs = [.ref a] ∧ SqL K H a (ns.map V.int) ∧ ns.length ≤ 63 ∧ ∀ H', Q (.bl true) H'
theorem bits_turn (x k : Nat) : vI (x / 2 ^ k % 2) = V.int (((x / 2 ^ k % 2 : Nat)) : Int) := rfl
/-- rows of bits: at each address a tuple -/
def Rows (H : Hp) (ts : List Addr) (bss : List (List Nat)) : Prop := ts.length = bss.length ∧ ∀ (i : Nat) (t : Addr) (bs : List Nat), ts[i]? = some t → bss[i]? = some bs → H t = some (.tup (bs.map vI))
theorem Rows.keepT {H H' : Hp} {ts : List Addr} {bss : List (List Nat)} (h : Rows H ts bss) (k : KeepT H H') : Rows H' ts bss := ⟨h.1, fun i t bs a b => k _ _ (h.2 i t bs a b)⟩
theorem Rows.nil {H : Hp} : Rows H [] [] := ⟨rfl, fun i t bs a => by simp at a⟩
theorem Rows.snoc {H : Hp} {ts : List Addr} {bss : List (List Nat)} {t : Addr} {bs : List Nat} (h : Rows H ts bss) (e : H t = some (.tup (bs.map vI))) : Rows H (ts ++ [t]) (bss ++ [bs]) :=
  ⟨by rw [List.length_append, List.length_append, h.1]; rfl, fun i u v a b => by
    by_cases hi : i < ts.length
    · rw [List.getElem?_append_left hi] at a
      rw [List.getElem?_append_left (by rw [← h.1]; exact hi)] at b
      exact h.2 i u v a b
    · rw [List.getElem?_append_right (by omega)] at a
      rw [List.getElem?_append_right (by rw [← h.1]; omega)] at b
      obtain ⟨h1, rfl⟩ : i - ts.length = 0 ∧ t = u := by
        cases q : i - ts.length with
        | zero => rw [q] at a; exact ⟨rfl, Option.some.inj a⟩
        | succ m => rw [q] at a; simp at a
      rw [← h.1, h1] at b
      obtain rfl : bs = v := Option.some.inj b
      exact e⟩
theorem Rows.get {H : Hp} {ts : List Addr} {bss : List (List Nat)} (h : Rows H ts bss) {i : Nat} {t : Addr} (ht : ts[i]? = some t) : ∃ bs, bss[i]? = some bs ∧ H t = some (.tup (bs.map vI)) := by
  have q := (List.getElem?_eq_some_iff.mp ht).1
  have q2 : i < bss.length := by rw [← h.1]; exact q
  exact ⟨_, List.getElem?_eq_getElem q2, h.2 i t _ ht (List.getElem?_eq_getElem q2)⟩
theorem frame_len {bs : List Nat} (h : bs.length ≤ 500) : (frameN bs).length ≤ 1000 := by
  have := widthN_le (show bs.length ≤ 1000 by omega)
  rw [frameN, bodyN, List.length_append, List.length_append, bitsN_len]
  show _ + _ + 1 ≤ _
  omega
section
variable {P : Program} {w : World} {K : PySem.W.Frag} {mg : Str → Option Value} {base : Heap} {f : Addr} {fd : FuncData}
theorem ok_lframe (F : Fun K "_law_frame" "_law_frame" s_law_frame f fd) (T : Txt mg) (D_law_numbers : Dn P w K mg base "_law_numbers" ["_law_many"] 1 spNums) : FnOk P w K mg base CX0 2 f fd ["_law_data_here"] (spFrame K) := by
  refine F.ok sc_law_frame (fun vs H Q E h => ?_) (fun cdv A outer s H vs Q E hr h => ?_)
  · obtain ⟨a, bs, rfl, _⟩ := h
    rfl
  obtain ⟨a, bs, rfl, ha, h1, hm, q⟩ := h
  refine ⟨_, (pss_cons (ps_set (i := 1) sc_law_frame.nd rfl (Or.inl rfl) (pe_dn D_law_numbers (hr.mono (by decide)) (by rfl) (pa_cons (pe_callB call_len_seq (by rfl) T.n_len (by decide +kernel) (pa_cons (pv 0) pa_nil)) pa_nil)))
      (pss_cons (ps_set (i := 2) sc_law_frame.nd rfl (Or.inr rfl) pe_int)
      (pss_cons (ps_for PassesOwn.never rfl (pi_zipX (by rfl) T.n_zip (pa_cons (pv 1) (pa_cons (pv 0) pa_nil))) (pg_tup rfl (pgs_cons (pg_name (i := 3) sc_law_frame.nd rfl (Or.inl rfl)) (pgs_cons (pg_name (i := 4) sc_law_frame.nd rfl (Or.inl rfl)) pgs_nil))) (pss_one (ps_if (pt_cmpR op_eq (pv 4) pe_int (nomark _)) (pss_one (ps_set (i := 2) sc_law_frame.nd rfl (Or.inr rfl) (pe_op op_xorB (pv 2) (pv 3)))) pss_nil)))
      (pss_cons (ps_set (i := 5) sc_law_frame.nd rfl (Or.inl rfl) (pe_bits (pe_ix ix_list (pv 1) (pe_un un_neg pe_int) (fun _ _ => rfl))))
      (pss_cons (ps_set (i := 6) sc_law_frame.nd rfl (Or.inl rfl) (pe_op op_cat (pe_callTy call_list_of (by rfl) T.n_list (by decide +kernel) (pa_cons (pv 0) pa_nil)) (pe_lc (own := [("_law_k", 7)]) (g := gName 7) (tt := tYes) rfl sc_law_frame.nd (pi_range1 rfl T.n_range (pa_cons (pv 5) pa_nil)) (blkOk_by (N := ["_law_data_here", "_law_numbers_here", "_law_word", "_law_number", "_law_bit", "_law_size", "_law_body", "_law_k"]) (sc := defScope s_law_frame) (by decide +kernel)) (fun _ _ _ _ _ => (pg_name (i := 7) sc_law_frame.nd rfl (Or.inl rfl))) (fun _ _ _ _ _ => pts_nil) (fun _ _ _ _ _ => (pe_op op_odd (pe_op op_shrN (pv 2) (pv 7)) pe_int)))))
      (pss_one (ps_ret (pe_callTy call_tuple_of (by rfl) T.n_tuple (by decide +kernel) (pa_cons (pe_op op_cat (pv 6) (pe_lst (pa_cons (pe_op op_odd (pe_callB (cr_sum rfl) (by rfl) T.n_sum (by decide +kernel) (pa_cons (pv 6) pa_nil)) pe_int) pa_nil))) pa_nil))))))))), ?_⟩
  have w20 := widthN_le (show bs.length ≤ 1000 by omega)
  refine ⟨_, rfl, a, _, rfl, .inr ha, bs.length, by rw [List.length_map]; rfl, by omega, fun p H1 sm hp hf hl => ?_⟩
  refine ⟨_, rfl, _, rfl, srcL, srcT, p, a, (numsOf bs.length).map vI, bs.map vI, rfl, SqL.of hf, seqT_same sm ha, for_zipG srcL srcT (xs := (numsOf bs.length).map vI) (ys := bs.map vI) (by rw [List.length_map, List.length_map, hl]) (fun (i : Nat) (σ' : L2.St) (H' : Hp) => ∃ v3 v4 : Option V, σ' = [some (.ref a), some (.ref p), some (vI (xwTo (numsOf bs.length) bs i)), v3, v4, none, none, none] ∧ Same H1 H')
    ⟨none, none, rfl, Same.refl _⟩ (fun i σ' H' pv => ?_) (fun i x y T' σ' H' hx hy pv hT => ?_) (fun σ' H' pv => ?_)⟩
  · obtain ⟨_, _, _, s2⟩ := pv
    exact ⟨SqL.of (s2 _ _ hf), seqT_same (sm.trans s2) ha⟩
  · obtain ⟨v3, v4, rfl, s2⟩ := pv
    obtain ⟨n, hn, rfl⟩ := natAt hx
    obtain ⟨b, hb, rfl⟩ := natAt hy
    refine ⟨T', _, rfl, SqT.of upd_same, rfl, _, _, rfl, _, _, rfl, rfl, ?_⟩
    refine ⟨_, rfl, rfl, _, rfl, ite2 (fun z => ?_) (fun z => ?_)⟩
    · have eb : b = 1 := one_of z
      refine ⟨_, rfl, _, rfl, _, _, rfl, rfl, some (vI n), some (vI b), ?_, s2.trans (same_new hT _)⟩
      rw [xwTo_yes hn hb eb]
      rfl
    · have eb : b ≠ 1 := not_one (Bool.eq_false_iff.mpr z)
      refine ⟨some (vI n), some (vI b), ?_, s2.trans (same_new hT _)⟩
      rw [xwTo_no hb eb]
      rfl
  · obtain ⟨v3, v4, rfl, s2⟩ := pv
    rw [List.length_map, hl]
    obtain ⟨r, x, e, ew⟩ := numsOf_last hl h1
    have hf2 := s2 _ _ hf
    rw [e, List.map_append] at hf2
    refine ⟨_, rfl, _, rfl, p, _, _, _, rfl, rfl, SqL.of hf2, atI_last _ _, _, rfl, ?_⟩
    have s02 := sm.trans s2
    refine ⟨_, rfl, a, _, rfl, .inr (seqT_same s02 ha), fun L hL => ?_⟩
    have s3 := s02.trans (same_new hL (.lst (bs.map vI)))
    have eS : sizeN x = widthN bs.length := ew.symm
    have b62 := i62 (show sizeN x ≤ 1000 by omega)
    refine ⟨_, rfl, (sizeN x : Int), rfl, b62.1, b62.2, fun D hD => ?_⟩
    have nLD : L ≠ D := ne_of_none upd_same hD
    refine lc_range (lo := 0) (n := sizeN x) (fun i H3 => Same (upd H' L (.lst (bs.map vI))) H3 ∧ H3 D = some (.lst ((bitsN i (checkN bs)).map vI))) ⟨same_new hD _, upd_same⟩ (fun i H3 hi pv => ?_) (fun H3 pv => ?_)
    · refine ⟨rfl, _, rfl, _, rfl, (checkN bs : Int), i, rfl, congrArg V.int (by omega), checkN bs / 2 ^ i, congrArg V.int (by simp), rfl, _, pv.2, ?_, same_two pv.1 hD, ?_⟩
      · rw [List.length_map, bitsN_len]
        exact small1000 (by omega)
      · rw [upd_same, bitsN_succ, List.map_append]
        rfl
    obtain ⟨s4, eD⟩ := pv
    rw [eS] at eD
    have eL := s4 _ _ (upd_same (a := L) (o := .lst (bs.map vI)))
    refine ⟨L, D, _, _, rfl, rfl, eL, eD, ?_, fun B hB => ?_⟩
    · rw [List.length_map, List.length_map, bitsN_len]
      exact le1000 (by omega)
    have eB : bs.map vI ++ (bitsN (widthN bs.length) (checkN bs)).map vI = (bodyN bs).map vI := by rw [← List.map_append]; rfl
    rw [eB]
    have lB : (bodyN bs).length = bs.length + widthN bs.length := by rw [bodyN, List.length_append, bitsN_len]
    have s5 := (s3.trans s4).trans (same_new hB (.lst ((bodyN bs).map vI)))
    refine ⟨_, rfl, _, rfl, B, _, rfl, by rw [← map_int]; exact SqL.of upd_same, (bodyN bs).sum, by rw [sum_cast], rfl, ?_⟩
    refine ⟨by show 1 ≤ sizeLine; decide, fun u hu => ?_⟩
    have s6 := same_new hu (.lst [V.int (((bodyN bs).sum % 2 : Nat) : Int)])
    refine ⟨B, u, (bodyN bs).map vI, [V.int (((bodyN bs).sum % 2 : Nat) : Int)], rfl, rfl, s6 _ _ upd_same, upd_same, ?_, fun z hz => ?_⟩
    · rw [List.length_map, lB]
      exact le1000 (by show _ + 1 ≤ _; omega)
    refine ⟨z, _, rfl, .inl ⟨SqL.of upd_same, fun t ht => ?_⟩⟩
    have s8 := ((s5.trans s6).trans (same_new hz (.lst ((bodyN bs).map vI ++ [V.int (((bodyN bs).sum % 2 : Nat) : Int)]))))
    refine q t _ (s8.trans (same_new ht _)) (s8.free ht) ?_
    rw [upd_same]
    show some (HO.tup (_ ++ [vI ((bodyN bs).sum % 2)])) = _
    rw [frameN, List.map_append]
    rfl
def GoodB (bs : List Nat) : Prop := 1 ≤ bs.length ∧ bs.length ≤ 500 ∧ ∀ b ∈ bs, b < 2
theorem ok_law (F : Fun K "law" "law" s_law f fd) (T : Txt mg) (D_law_begin : Dn P w K mg base "_law_begin" ["_law_script"] 1 (spBegin K)) (D_law_size_of_data : Dn P w K mg base "_law_size_of_data" ["_law_d"] 3 spSize)
    (D_law_data : Dn P w K mg base "_law_data" ["_law_d", "_law_many"] 2 spData) (D_law_frame : Dn P w K mg base "_law_frame" ["_law_data_here"] 2 (spFrame K)) (D_frame_of : Dn P w K mg base "frame_of" ["data"] 3 (spFrame K))
    (D_law_is_ints : Dn P w K mg base "_law_is_ints" ["_law_row"] 2 (spInts K)) :
    FnOk P w K mg base CX0 4 f fd ["_law_script"] (spLaw K) := by
  refine F.ok sc_law (fun vs H Q E h => ?_) (fun cdv A outer s H vs Q E hr h => ?_)
  · obtain ⟨a, ns, rfl, _⟩ := h
    rfl
  obtain ⟨a, ns, rfl, hS, h63, q⟩ := h
  refine ⟨_, (pss_cons (ps_set (i := 1) sc_law.nd rfl (Or.inl rfl) (pe_dn D_law_begin (hr.mono (by decide)) (by rfl) (pa_cons (pv 0) pa_nil)))
      (pss_cons (ps_set (i := 2) sc_law.nd rfl (Or.inl rfl) (pe_lst pa_nil))
      (pss_cons (ps_for PassesOwn.never rfl (pi_range1 rfl T.n_range (pa_cons pe_int pa_nil)) (pg_name (i := 3) sc_law.nd rfl (Or.inl rfl)) (pss_cons (ps_set (i := 4) sc_law.nd rfl (Or.inl rfl) (pe_dn D_law_size_of_data (hr.mono (by decide)) (by rfl) (pa_cons (pv 1) pa_nil)))
      (pss_one (ps_expr (pe_bm PySem.F.plainAttrs_list PySem.F.slot_list_append PySem.F.type_list_append mt_append (pv 2) (pa_cons (pe_dn D_law_data (hr.mono (by decide)) (by rfl) (pa_cons (pv 1) (pa_cons (pv 4) pa_nil))) pa_nil))))))
      (pss_cons (ps_setLc (i := 6) (own := [("_law_data_here", 5)]) (g := gName 5) (tt := tYes) rfl sc_law.nd rfl rfl (sw_true rfl rfl rfl (by decide +kernel)) (pi_list (pv 2)) (blkOk_by (N := ["_law_script", "_law_d", "_law_rows", "_law_turn", "_law_many", "_law_data_here", "_law_dues", "_law_due", "_law_told"]) (sc := defScope s_law) (by decide +kernel)) (fun _ _ _ _ _ => (pg_name (i := 5) sc_law.nd rfl (Or.inl rfl))) (fun _ _ _ _ _ => pts_nil) (fun _ _ _ _ _ => (pe_dn D_law_frame (hr.mono (by decide)) (by rfl) (pa_cons (pv 5) pa_nil))))
      (pss_cons (ps_for PassesOwn.never rfl (pi_zipX (by rfl) T.n_zip (pa_cons (pv 2) (pa_cons (pv 6) pa_nil))) (pg_tup rfl (pgs_cons (pg_name (i := 5) sc_law.nd rfl (Or.inl rfl)) (pgs_cons (pg_name (i := 7) sc_law.nd rfl (Or.inl rfl)) pgs_nil))) (pss_cons (ps_set (i := 8) sc_law.nd rfl (Or.inl rfl) (pe_dn D_frame_of (hr.mono (by decide)) (by rfl) (pa_cons (pv 5) pa_nil)))
      (pss_one (ps_if (PW.pt (pw_or (pt_not (pt_val (pe_dn D_law_is_ints (hr.mono (by decide)) (by rfl) (pa_cons (pv 8) pa_nil)))) (pw_or1 (pt_cmpR (op_neI hr.units) (pv 8) (pv 7) (nomark _))))) (pss_one (ps_ret pe_bl)) pss_nil))))
      (pss_cons (ps_for PassesOwn.never rfl (pi_list (pe_lst (pa_cons pe_int (pa_cons pe_int (pa_cons pe_int pa_nil))))) (pg_name (i := 3) sc_law.nd rfl (Or.inl rfl)) (pss_one (ps_if (pt_cmpR (op_neI hr.units) (pe_dn D_frame_of (hr.mono (by decide)) (by rfl) (pa_cons (pe_ix ix_list (pv 2) (pv 3) (fun _ _ => rfl)) pa_nil)) (pe_ix ix_list (pv 6) (pv 3) (fun _ _ => rfl)) (nomark _)) (pss_one (ps_ret pe_bl)) pss_nil)))
      (pss_one (ps_ret pe_bl)))))))), ?_⟩
  refine ⟨_, rfl, a, ns, rfl, hS, h63, fun d c H1 nd nc hd1 s1 => ?_⟩
  refine ⟨Nat.zero_le _, fun R hR => ?_⟩
  obtain ⟨nRd, nRc⟩ := hd1.new hR
  refine ⟨3, rfl, by decide, by decide, for_it walk_range (fun i σ' H' => ∃ (v3 v4 : Option V) (ts : List Addr) (bss : List (List Nat)), σ' = [some (.ref a), some (.ref d), some (.ref R), v3, v4, none, none, none, none] ∧ DS H' d c ∧ H' R = some (.lst (ts.map V.ref)) ∧ Rows H' ts bss ∧ ts.length = i ∧ ∀ bs ∈ bss, GoodB bs)
    ⟨_, _, [], [], rfl, hd1.same (same_new hR _), upd_same, .nil, rfl, fun N hN => by simp at hN⟩ (fun _ _ _ _ _ => trivial) (fun i x σ' H' H3 hi p y => ?_) (fun σ' H' p => ?_)⟩
  · obtain ⟨v3, v4, ts, bss, rfl, hd3, eR, rw3, lt, gb⟩ := p
    obtain ⟨rfl, rfl⟩ := y
    have hi : i < 3 := hi
    refine ⟨_, rfl, d, c, rfl, hd3, fun m H4 m1 m2 hd4 k4 => ?_⟩
    have eR4 := k4 _ _ (by simp [nRd]) eR
    refine ⟨_, rfl, .inl ⟨rfl, _, SqL.of eR4⟩, _, rfl, _, rfl, d, c, m, rfl, hd4, m1, m2, fun t bs H5 lb zb ht et hd5 k5 => ?_⟩
    have eR5 := k5 _ _ (by simp [nRd]) eR4
    have kt : KeepT H3 H5 := (k4.tups fun b hb => by rw [List.mem_singleton.mp hb]; exact hd3.at_).trans (k5.tups fun b hb => by rw [List.mem_singleton.mp hb]; exact hd4.at_)
    refine ⟨R, _, _, rfl, rfl, eR5, by rw [List.length_map]; exact small1000 (by omega), some (.int (0 + (i : Int))), some (vI m), ts ++ [t], bss ++ [bs], rfl, hd5.keep (S := [R]) (Keep.upd (by simp)) (by simp [nRd.symm]) (by simp [nRc.symm]), ?_, ?_, by rw [List.length_append, lt]; rfl, fun x hx => ?_⟩
    · rw [upd_same, List.map_append]
      rfl
    · exact ((rw3.keepT kt).snoc et).keepT (.lst eR5)
    · rcases List.mem_append.mp hx with z | z
      · exact gb x z
      · rw [List.mem_singleton.mp z]
        exact ⟨by omega, by omega, zb⟩
  obtain ⟨v3, v4, ts, bss, rfl, hd3, eR, rw3, lt, gb⟩ := p
  have lt : ts.length = 3 := lt
  have lb : bss.length = 3 := by rw [← rw3.1, lt]
  refine ⟨_, rfl, R, rfl, ⟨_, SqL.of eR⟩, fun D hD => ?_⟩
  refine lc_list (xs := ts.map V.ref) (fun i H4 => Same H' H4 ∧ ∃ us : List Addr, H4 D = some (.lst (us.map V.ref)) ∧ Rows H4 us ((bss.take i).map frameN)) ⟨same_new hD _, [], upd_same, .nil⟩ (fun i H4 hi p => SqL.of (p.1 _ _ eR)) (fun i x H4 hx p => ?_) (fun H4 p => ?_)
  · obtain ⟨sm, us, eD, ru⟩ := p
    obtain ⟨t, ht, rfl⟩ := refAt hx
    obtain ⟨bs, hb, et⟩ := rw3.get ht
    have g := gb bs (List.mem_of_getElem? hb)
    refine ⟨rfl, _, rfl, t, bs, rfl, SqT.of (sm _ _ et), g.1, g.2.1, fun p H5 s5 hp ep => ?_⟩
    have eD5 := s5 _ _ eD
    have lu := ru.1
    rw [List.length_map, List.length_take] at lu
    refine ⟨_, eD5, by rw [List.length_map]; exact small1000 (by omega), same_two (sm.trans s5) hD, us ++ [p], ?_, ?_⟩
    · rw [upd_same, List.map_append]
      rfl
    · rw [take_snoc hb, List.map_append]
      exact ((ru.keepT (.same s5)).snoc ep).keepT (.lst eD5)
  obtain ⟨sm, us, eD, ru⟩ := p
  rw [List.length_map, lt, ← lb, List.take_length] at ru
  have lu := ru.1
  rw [List.length_map, lb] at lu
  have rw4 : Rows H4 ts bss := rw3.keepT (.same sm)
  have eR4 := sm _ _ eR
  refine ⟨_, rfl, _, rfl, srcL, srcL, R, D, ts.map V.ref, us.map V.ref, rfl, SqL.of eR4, SqL.of eD, for_zipG srcL srcL (xs := ts.map V.ref) (ys := us.map V.ref) (by rw [List.length_map, List.length_map, lt, lu]) (fun (i : Nat) (σ' : L2.St) (H' : Hp) => ∃ v3 v4 v5 v7 v8 : Option V, σ' = [some (.ref a), some (.ref d), some (.ref R), v3, v4, v5, some (.ref D), v7, v8] ∧ Same H4 H')
    ⟨_, _, _, _, _, rfl, Same.refl _⟩ (fun i σ' H' pv => ?_) (fun i x y T' σ' H' hx hy pv hT => ?_) (fun σ' H' pv => ?_)⟩
  · obtain ⟨_, _, _, _, _, _, s2⟩ := pv
    exact ⟨SqL.of (s2 _ _ eR4), SqL.of (s2 _ _ eD)⟩
  · obtain ⟨v3, v4, v5, v7, v8, rfl, s2⟩ := pv
    obtain ⟨t, ht, rfl⟩ := refAt hx
    obtain ⟨u, hu, rfl⟩ := refAt hy
    obtain ⟨bs, hb, et⟩ := rw4.get ht
    obtain ⟨fs, hf, eu⟩ := ru.get hu
    have efs : fs = frameN bs := by
      rw [List.getElem?_map, hb] at hf
      exact (Option.some.inj hf).symm
    subst efs
    have g := gb bs (List.mem_of_getElem? hb)
    have s3 := s2.trans (same_new hT (.tup [V.ref t, V.ref u]))
    refine ⟨T', _, rfl, SqT.of upd_same, rfl, _, _, rfl, _, _, rfl, rfl, ?_⟩
    refine ⟨_, rfl, t, bs, rfl, SqT.of (s3 _ _ et), g.1, g.2.1, fun p H6 s6 hp ep => ?_⟩
    refine ⟨_, rfl, p, frameN bs, rfl, SqT.of ep, ep, frame_len g.2.1, fun H7 s7 => ⟨true, rfl, iteF ?_⟩⟩
    have s37 := s3.trans (s6.trans s7)
    refine ⟨_, rfl, _, rfl, p, u, frameN bs, rfl, rfl, SqT.of (s7 _ _ ep), SqT.of (s37 _ _ eu), _, rfl, iteF ?_⟩
    exact ⟨_, _, _, _, _, rfl, s37⟩
  obtain ⟨v3, v4, v5, v7, v8, rfl, s2⟩ := pv
  refine ⟨by show 3 ≤ sizeLine; decide, fun L hL => ?_⟩
  have s3 := s2.trans (same_new hL (.lst [V.int 2, V.int 0, V.int 1]))
  refine ⟨L, rfl, ⟨_, SqL.of upd_same⟩, for_it (walk_list (xs := [vI 2, vI 0, vI 1])) (fun i σ' H'' => ∃ (v3 v4 v5 v7 v8 : Option V), σ' = [some (.ref a), some (.ref d), some (.ref R), v3, v4, v5, some (.ref D), v7, v8] ∧ Same (upd H' L (.lst [V.int 2, V.int 0, V.int 1])) H'')
    ⟨_, _, _, _, _, rfl, Same.refl _⟩ (fun i σ' H5 hi p => ?_) (fun i x σ' H5 H6 hi p y => ?_) (fun σ' H5 p => ?_)⟩
  · obtain ⟨_, _, _, _, _, _, s4⟩ := p
    exact SqL.of (s4 _ _ upd_same)
  · obtain ⟨v3, v4, v5, v7, v8, rfl, s4⟩ := p
    obtain ⟨rfl, ex⟩ := y
    have hx : ∃ k : Nat, x = vI k ∧ k < 3 := by
      have hm := List.mem_of_getElem? ex
      simp only [List.mem_cons, List.not_mem_nil, or_false] at hm
      rcases hm with rfl | rfl | rfl
      · exact ⟨2, rfl, by decide⟩
      · exact ⟨0, rfl, by decide⟩
      · exact ⟨1, rfl, by decide⟩
    obtain ⟨k, rfl, hk⟩ := hx
    have s34 := s3.trans s4
    obtain ⟨t, ht⟩ : ∃ t, ts[k]? = some t := ⟨_, List.getElem?_eq_getElem (by omega)⟩
    obtain ⟨u, hu⟩ : ∃ u, us[k]? = some u := ⟨_, List.getElem?_eq_getElem (by omega)⟩
    obtain ⟨bs, hb, et⟩ := rw4.get ht
    obtain ⟨fs, hf, eu⟩ := ru.get hu
    have efs : fs = frameN bs := by
      rw [List.getElem?_map, hb] at hf
      exact (Option.some.inj hf).symm
    subst efs
    have g := gb bs (List.mem_of_getElem? hb)
    refine ⟨_, rfl, _, rfl, R, _, _, .ref t, rfl, rfl, SqL.of (s34 _ _ eR4), atI_nat (by rw [List.getElem?_map, ht]; rfl), t, bs, rfl, SqT.of (s34 _ _ et), g.1, g.2.1, fun p H7 s7 hp ep => ?_⟩
    have s37 := s34.trans s7
    refine ⟨_, rfl, _, rfl, D, _, _, .ref u, rfl, rfl, SqL.of (s37 _ _ eD), atI_nat (by rw [List.getElem?_map, hu]; rfl), ?_⟩
    refine ⟨p, u, frameN bs, rfl, rfl, SqT.of ep, SqT.of (s37 _ _ eu), _, rfl, iteF ?_⟩
    exact ⟨_, _, _, _, _, rfl, s4.trans s7⟩
  · exact q _
end
end Bf

set_option Elab.async false
set_option linter.all false
set_option maxRecDepth 100000
set_option maxHeartbeats 4000000
namespace Bf
open PySem PySem.Spec PyProof.Rows L2
/-! ### what the top has written -/
theorem all_mk {l : PySem.W.OpenLaw} {w : World} {K : PySem.W.Frag} {h : Heap} {mg : Str → Option Value} {fa f__law_draw f__law_begin f__law_pick f__law_rare f__law_is_int f__law_is_ints f_to_bits f_data_numbers f_check_width f_check_word f_frame_of f__law_numbers f__law_frame f__law_size_of_data f__law_data f_law : Addr} (X : K.In h) (G : h.Ns mainGlobals mg) (hfa : mg "law" = some (.ref fa))
    {od2 an2 : Option Addr} {sl2 : Array (Option Value)} {oc2 kV2 dc2 pm2 cd2 ct2 : Value}
    {od4 an4 : Option Addr} {sl4 : Array (Option Value)} {oc4 kV4 dc4 pm4 cd4 ct4 : Value}
    {od6 an6 : Option Addr} {sl6 : Array (Option Value)} {oc6 kV6 dc6 pm6 cd6 ct6 : Value}
    {od8 an8 : Option Addr} {sl8 : Array (Option Value)} {oc8 kV8 dc8 pm8 cd8 ct8 : Value}
    {od10 an10 : Option Addr} {sl10 : Array (Option Value)} {oc10 kV10 dc10 pm10 cd10 ct10 : Value}
    {od12 an12 : Option Addr} {sl12 : Array (Option Value)} {oc12 kV12 dc12 pm12 cd12 ct12 : Value}
    {od14 an14 : Option Addr} {sl14 : Array (Option Value)} {oc14 kV14 dc14 pm14 cd14 ct14 : Value}
    {od16 an16 : Option Addr} {sl16 : Array (Option Value)} {oc16 kV16 dc16 pm16 cd16 ct16 : Value}
    {od18 an18 : Option Addr} {sl18 : Array (Option Value)} {oc18 kV18 dc18 pm18 cd18 ct18 : Value}
    {od20 an20 : Option Addr} {sl20 : Array (Option Value)} {oc20 kV20 dc20 pm20 cd20 ct20 : Value}
    {od22 an22 : Option Addr} {sl22 : Array (Option Value)} {oc22 kV22 dc22 pm22 cd22 ct22 : Value}
    {od24 an24 : Option Addr} {sl24 : Array (Option Value)} {oc24 kV24 dc24 pm24 cd24 ct24 : Value}
    {od26 an26 : Option Addr} {sl26 : Array (Option Value)} {oc26 kV26 dc26 pm26 cd26 ct26 : Value}
    {od28 an28 : Option Addr} {sl28 : Array (Option Value)} {oc28 kV28 dc28 pm28 cd28 ct28 : Value}
    {od30 an30 : Option Addr} {sl30 : Array (Option Value)} {oc30 kV30 dc30 pm30 cd30 ct30 : Value}
    {od32 an32 : Option Addr} {sl32 : Array (Option Value)} {oc32 kV32 dc32 pm32 cd32 ct32 : Value}
    (a1 : PySem.W.nsIn K mainGlobals "_law_draw" = some (some (.ref f__law_draw)))
    (l2 : K.lookup f__law_draw = some ⟨oc2, od2, .func (PySem.W.fnOf "_law_draw" "_law_draw" (defArgs s_law_draw) (defBody s_law_draw) (defScope s_law_draw) .none kV2 dc2 pm2 an2 cd2 ct2), sl2⟩) (c2 : PySem.W.codeIn K cd2 "_law_draw" = true) (k2 : PySem.W.keepIn K (.ref f__law_draw) = true)
    (a3 : PySem.W.nsIn K mainGlobals "_law_begin" = some (some (.ref f__law_begin)))
    (l4 : K.lookup f__law_begin = some ⟨oc4, od4, .func (PySem.W.fnOf "_law_begin" "_law_begin" (defArgs s_law_begin) (defBody s_law_begin) (defScope s_law_begin) .none kV4 dc4 pm4 an4 cd4 ct4), sl4⟩) (c4 : PySem.W.codeIn K cd4 "_law_begin" = true) (k4 : PySem.W.keepIn K (.ref f__law_begin) = true)
    (a5 : PySem.W.nsIn K mainGlobals "_law_pick" = some (some (.ref f__law_pick)))
    (l6 : K.lookup f__law_pick = some ⟨oc6, od6, .func (PySem.W.fnOf "_law_pick" "_law_pick" (defArgs s_law_pick) (defBody s_law_pick) (defScope s_law_pick) .none kV6 dc6 pm6 an6 cd6 ct6), sl6⟩) (c6 : PySem.W.codeIn K cd6 "_law_pick" = true) (k6 : PySem.W.keepIn K (.ref f__law_pick) = true)
    (a7 : PySem.W.nsIn K mainGlobals "_law_rare" = some (some (.ref f__law_rare)))
    (l8 : K.lookup f__law_rare = some ⟨oc8, od8, .func (PySem.W.fnOf "_law_rare" "_law_rare" (defArgs s_law_rare) (defBody s_law_rare) (defScope s_law_rare) .none kV8 dc8 pm8 an8 cd8 ct8), sl8⟩) (c8 : PySem.W.codeIn K cd8 "_law_rare" = true) (k8 : PySem.W.keepIn K (.ref f__law_rare) = true)
    (a9 : PySem.W.nsIn K mainGlobals "_law_is_int" = some (some (.ref f__law_is_int)))
    (l10 : K.lookup f__law_is_int = some ⟨oc10, od10, .func (PySem.W.fnOf "_law_is_int" "_law_is_int" (defArgs s_law_is_int) (defBody s_law_is_int) (defScope s_law_is_int) .none kV10 dc10 pm10 an10 cd10 ct10), sl10⟩) (c10 : PySem.W.codeIn K cd10 "_law_is_int" = true) (k10 : PySem.W.keepIn K (.ref f__law_is_int) = true)
    (a11 : PySem.W.nsIn K mainGlobals "_law_is_ints" = some (some (.ref f__law_is_ints)))
    (l12 : K.lookup f__law_is_ints = some ⟨oc12, od12, .func (PySem.W.fnOf "_law_is_ints" "_law_is_ints" (defArgs s_law_is_ints) (defBody s_law_is_ints) (defScope s_law_is_ints) .none kV12 dc12 pm12 an12 cd12 ct12), sl12⟩) (c12 : PySem.W.codeIn K cd12 "_law_is_ints" = true) (k12 : PySem.W.keepIn K (.ref f__law_is_ints) = true)
    (a13 : PySem.W.nsIn K mainGlobals "to_bits" = some (some (.ref f_to_bits)))
    (l14 : K.lookup f_to_bits = some ⟨oc14, od14, .func (PySem.W.fnOf "to_bits" "to_bits" (defArgs s_to_bits) (defBody s_to_bits) (defScope s_to_bits) .none kV14 dc14 pm14 an14 cd14 ct14), sl14⟩) (c14 : PySem.W.codeIn K cd14 "to_bits" = true) (k14 : PySem.W.keepIn K (.ref f_to_bits) = true)
    (a15 : PySem.W.nsIn K mainGlobals "data_numbers" = some (some (.ref f_data_numbers)))
    (l16 : K.lookup f_data_numbers = some ⟨oc16, od16, .func (PySem.W.fnOf "data_numbers" "data_numbers" (defArgs s_data_numbers) (defBody s_data_numbers) (defScope s_data_numbers) .none kV16 dc16 pm16 an16 cd16 ct16), sl16⟩) (c16 : PySem.W.codeIn K cd16 "data_numbers" = true) (k16 : PySem.W.keepIn K (.ref f_data_numbers) = true)
    (a17 : PySem.W.nsIn K mainGlobals "check_width" = some (some (.ref f_check_width)))
    (l18 : K.lookup f_check_width = some ⟨oc18, od18, .func (PySem.W.fnOf "check_width" "check_width" (defArgs s_check_width) (defBody s_check_width) (defScope s_check_width) .none kV18 dc18 pm18 an18 cd18 ct18), sl18⟩) (c18 : PySem.W.codeIn K cd18 "check_width" = true) (k18 : PySem.W.keepIn K (.ref f_check_width) = true)
    (a19 : PySem.W.nsIn K mainGlobals "check_word" = some (some (.ref f_check_word)))
    (l20 : K.lookup f_check_word = some ⟨oc20, od20, .func (PySem.W.fnOf "check_word" "check_word" (defArgs s_check_word) (defBody s_check_word) (defScope s_check_word) .none kV20 dc20 pm20 an20 cd20 ct20), sl20⟩) (c20 : PySem.W.codeIn K cd20 "check_word" = true) (k20 : PySem.W.keepIn K (.ref f_check_word) = true)
    (a21 : PySem.W.nsIn K mainGlobals "frame_of" = some (some (.ref f_frame_of)))
    (l22 : K.lookup f_frame_of = some ⟨oc22, od22, .func (PySem.W.fnOf "frame_of" "frame_of" (defArgs s_frame_of) (defBody s_frame_of) (defScope s_frame_of) .none kV22 dc22 pm22 an22 cd22 ct22), sl22⟩) (c22 : PySem.W.codeIn K cd22 "frame_of" = true) (k22 : PySem.W.keepIn K (.ref f_frame_of) = true)
    (a23 : PySem.W.nsIn K mainGlobals "_law_numbers" = some (some (.ref f__law_numbers)))
    (l24 : K.lookup f__law_numbers = some ⟨oc24, od24, .func (PySem.W.fnOf "_law_numbers" "_law_numbers" (defArgs s_law_numbers) (defBody s_law_numbers) (defScope s_law_numbers) .none kV24 dc24 pm24 an24 cd24 ct24), sl24⟩) (c24 : PySem.W.codeIn K cd24 "_law_numbers" = true) (k24 : PySem.W.keepIn K (.ref f__law_numbers) = true)
    (a25 : PySem.W.nsIn K mainGlobals "_law_frame" = some (some (.ref f__law_frame)))
    (l26 : K.lookup f__law_frame = some ⟨oc26, od26, .func (PySem.W.fnOf "_law_frame" "_law_frame" (defArgs s_law_frame) (defBody s_law_frame) (defScope s_law_frame) .none kV26 dc26 pm26 an26 cd26 ct26), sl26⟩) (c26 : PySem.W.codeIn K cd26 "_law_frame" = true) (k26 : PySem.W.keepIn K (.ref f__law_frame) = true)
    (a27 : PySem.W.nsIn K mainGlobals "_law_size_of_data" = some (some (.ref f__law_size_of_data)))
    (l28 : K.lookup f__law_size_of_data = some ⟨oc28, od28, .func (PySem.W.fnOf "_law_size_of_data" "_law_size_of_data" (defArgs s_law_size_of_data) (defBody s_law_size_of_data) (defScope s_law_size_of_data) .none kV28 dc28 pm28 an28 cd28 ct28), sl28⟩) (c28 : PySem.W.codeIn K cd28 "_law_size_of_data" = true) (k28 : PySem.W.keepIn K (.ref f__law_size_of_data) = true)
    (a29 : PySem.W.nsIn K mainGlobals "_law_data" = some (some (.ref f__law_data)))
    (l30 : K.lookup f__law_data = some ⟨oc30, od30, .func (PySem.W.fnOf "_law_data" "_law_data" (defArgs s_law_data) (defBody s_law_data) (defScope s_law_data) .none kV30 dc30 pm30 an30 cd30 ct30), sl30⟩) (c30 : PySem.W.codeIn K cd30 "_law_data" = true) (k30 : PySem.W.keepIn K (.ref f__law_data) = true)
    (a31 : PySem.W.nsIn K mainGlobals "law" = some (some (.ref f_law)))
    (l32 : K.lookup f_law = some ⟨oc32, od32, .func (PySem.W.fnOf "law" "law" (defArgs s_law) (defBody s_law) (defScope s_law) .none kV32 dc32 pm32 an32 cd32 ct32), sl32⟩) (c32 : PySem.W.codeIn K cd32 "law" = true) (k32 : PySem.W.keepIn K (.ref f_law) = true)
    (z33 : PySem.W.nsIn K mainGlobals "int" = some none)
    (z34 : PySem.W.nsIn K mainGlobals "len" = some none)
    (z35 : PySem.W.nsIn K mainGlobals "abs" = some none)
    (z36 : PySem.W.nsIn K mainGlobals "isinstance" = some none)
    (z37 : PySem.W.nsIn K mainGlobals "range" = some none)
    (z38 : PySem.W.nsIn K mainGlobals "tuple" = some none)
    (z39 : PySem.W.nsIn K mainGlobals "all" = some none)
    (z40 : PySem.W.nsIn K mainGlobals "zip" = some none)
    (z41 : PySem.W.nsIn K mainGlobals "sum" = some none)
    (z42 : PySem.W.nsIn K mainGlobals "list" = some none)
    (z43 : PySem.W.nsIn K mainGlobals "bool" = some none) :
    ∃ fd : FuncData, (∀ (s : Shared) (v : Value), BindsTo s fd ⟨[v], []⟩ [("_law_script", v)]) ∧ ∀ base : Heap, K.In base → base.Ns mainGlobals mg → FnOk l.prog w K mg base CX0 4 fa fd ["_law_script"] (spLaw K) := by
  have e := hfa.symm.trans (PySem.W.mg_of X G a31)
  cases e
  have T : Txt mg := ⟨PySem.W.mg_none_of X G z33, PySem.W.mg_none_of X G z34, PySem.W.mg_none_of X G z35, PySem.W.mg_none_of X G z36, PySem.W.mg_none_of X G z37, PySem.W.mg_none_of X G z38, PySem.W.mg_none_of X G z39, PySem.W.mg_none_of X G z40, PySem.W.mg_none_of X G z41, PySem.W.mg_none_of X G z42, PySem.W.mg_none_of X G z43⟩
  have F_law_draw := fun_mk (st := s_law_draw) l2 c2 k2
  have F_law_begin := fun_mk (st := s_law_begin) l4 c4 k4
  have F_law_pick := fun_mk (st := s_law_pick) l6 c6 k6
  have F_law_rare := fun_mk (st := s_law_rare) l8 c8 k8
  have F_law_is_int := fun_mk (st := s_law_is_int) l10 c10 k10
  have F_law_is_ints := fun_mk (st := s_law_is_ints) l12 c12 k12
  have F_to_bits := fun_mk (st := s_to_bits) l14 c14 k14
  have F_data_numbers := fun_mk (st := s_data_numbers) l16 c16 k16
  have F_check_width := fun_mk (st := s_check_width) l18 c18 k18
  have F_check_word := fun_mk (st := s_check_word) l20 c20 k20
  have F_frame_of := fun_mk (st := s_frame_of) l22 c22 k22
  have F_law_numbers := fun_mk (st := s_law_numbers) l24 c24 k24
  have F_law_frame := fun_mk (st := s_law_frame) l26 c26 k26
  have F_law_size_of_data := fun_mk (st := s_law_size_of_data) l28 c28 k28
  have F_law_data := fun_mk (st := s_law_data) l30 c30 k30
  have F_law := fun_mk (st := s_law) l32 c32 k32
  refine ⟨PySem.W.fnOf "law" "law" (defArgs s_law) (defBody s_law) (defScope s_law) .none kV32 dc32 pm32 an32 cd32 ct32, fun s v => .of_eq rfl, fun base _ _ => ?_⟩
  have D_law_draw : Dn l.prog w K mg base "_law_draw" ["_law_d", "_law_many"] 1 spDraw := ⟨f__law_draw, _, ok_draw F_law_draw T, PySem.W.mg_of X G a1, k2, (F_law_draw.binds (ps := ["_law_d", "_law_many"]) fun _ _ _ _ _ _ us hl => match us, hl with | [_, _], _ => rfl)⟩
  have D_law_begin : Dn l.prog w K mg base "_law_begin" ["_law_script"] 1 (spBegin K) := ⟨f__law_begin, _, ok_begin F_law_begin T, PySem.W.mg_of X G a3, k4, (F_law_begin.binds (ps := ["_law_script"]) fun _ _ _ _ _ _ us hl => match us, hl with | [_], _ => rfl)⟩
  have D_law_pick : Dn l.prog w K mg base "_law_pick" ["_law_d", "_law_row"] 2 (spPick K) := ⟨f__law_pick, _, ok_pick F_law_pick T D_law_draw, PySem.W.mg_of X G a5, k6, (F_law_pick.binds (ps := ["_law_d", "_law_row"]) fun _ _ _ _ _ _ us hl => match us, hl with | [_, _], _ => rfl)⟩
  have D_law_rare : Dn l.prog w K mg base "_law_rare" ["_law_d", "_law_many"] 2 spRare := ⟨f__law_rare, _, ok_rare F_law_rare T D_law_draw, PySem.W.mg_of X G a7, k8, (F_law_rare.binds (ps := ["_law_d", "_law_many"]) fun _ _ _ _ _ _ us hl => match us, hl with | [_, _], _ => rfl)⟩
  have D_law_is_int : Dn l.prog w K mg base "_law_is_int" ["_law_thing"] 1 spIsInt := ⟨f__law_is_int, _, ok_isInt F_law_is_int T, PySem.W.mg_of X G a9, k10, (F_law_is_int.binds (ps := ["_law_thing"]) fun _ _ _ _ _ _ us hl => match us, hl with | [_], _ => rfl)⟩
  have D_law_is_ints : Dn l.prog w K mg base "_law_is_ints" ["_law_row"] 2 (spInts K) := ⟨f__law_is_ints, _, ok_ints F_law_is_ints T D_law_is_int, PySem.W.mg_of X G a11, k12, (F_law_is_ints.binds (ps := ["_law_row"]) fun _ _ _ _ _ _ us hl => match us, hl with | [_], _ => rfl)⟩
  have D_to_bits : Dn l.prog w K mg base "to_bits" ["width", "word"] 1 spBits := ⟨f_to_bits, _, ok_bits F_to_bits T, PySem.W.mg_of X G a13, k14, (F_to_bits.binds (ps := ["width", "word"]) fun _ _ _ _ _ _ us hl => match us, hl with | [_, _], _ => rfl)⟩
  have D_data_numbers : Dn l.prog w K mg base "data_numbers" ["many"] 1 spNums := ⟨f_data_numbers, _, ok_nums F_data_numbers T, PySem.W.mg_of X G a15, k16, (F_data_numbers.binds (ps := ["many"]) fun _ _ _ _ _ _ us hl => match us, hl with | [_], _ => rfl)⟩
  have D_check_width : Dn l.prog w K mg base "check_width" ["many"] 2 spWidth := ⟨f_check_width, _, ok_cwidth F_check_width T D_data_numbers, PySem.W.mg_of X G a17, k18, (F_check_width.binds (ps := ["many"]) fun _ _ _ _ _ _ us hl => match us, hl with | [_], _ => rfl)⟩
  have D_check_word : Dn l.prog w K mg base "check_word" ["data"] 2 (spWord K) := ⟨f_check_word, _, ok_cword F_check_word T D_data_numbers, PySem.W.mg_of X G a19, k20, (F_check_word.binds (ps := ["data"]) fun _ _ _ _ _ _ us hl => match us, hl with | [_], _ => rfl)⟩
  have D_frame_of : Dn l.prog w K mg base "frame_of" ["data"] 3 (spFrame K) := ⟨f_frame_of, _, ok_frame F_frame_of T D_to_bits D_check_width D_check_word, PySem.W.mg_of X G a21, k22, (F_frame_of.binds (ps := ["data"]) fun _ _ _ _ _ _ us hl => match us, hl with | [_], _ => rfl)⟩
  have D_law_numbers : Dn l.prog w K mg base "_law_numbers" ["_law_many"] 1 spNums := ⟨f__law_numbers, _, ok_lnums F_law_numbers T, PySem.W.mg_of X G a23, k24, (F_law_numbers.binds (ps := ["_law_many"]) fun _ _ _ _ _ _ us hl => match us, hl with | [_], _ => rfl)⟩
  have D_law_frame : Dn l.prog w K mg base "_law_frame" ["_law_data_here"] 2 (spFrame K) := ⟨f__law_frame, _, ok_lframe F_law_frame T D_law_numbers, PySem.W.mg_of X G a25, k26, (F_law_frame.binds (ps := ["_law_data_here"]) fun _ _ _ _ _ _ us hl => match us, hl with | [_], _ => rfl)⟩
  have D_law_size_of_data : Dn l.prog w K mg base "_law_size_of_data" ["_law_d"] 3 spSize := ⟨f__law_size_of_data, _, ok_size F_law_size_of_data T D_law_draw D_law_pick D_law_rare, PySem.W.mg_of X G a27, k28, (F_law_size_of_data.binds (ps := ["_law_d"]) fun _ _ _ _ _ _ us hl => match us, hl with | [_], _ => rfl)⟩
  have D_law_data : Dn l.prog w K mg base "_law_data" ["_law_d", "_law_many"] 2 spData := ⟨f__law_data, _, ok_data F_law_data T D_law_draw, PySem.W.mg_of X G a29, k30, (F_law_data.binds (ps := ["_law_d", "_law_many"]) fun _ _ _ _ _ _ us hl => match us, hl with | [_, _], _ => rfl)⟩
  exact ok_law F_law T D_law_begin D_law_size_of_data D_law_data D_law_frame D_frame_of D_law_is_ints
end Bf
open PySem PySem.W PyProof.Rows
set_option maxRecDepth 100000 in
set_option maxHeartbeats 0 in
theorem PySem.Challenge.cw_beatfabric_k76_frames_holds : PySem.Challenge.rw_beatfabric_k76_frames.Holds := by
  w_on; o_law; k_head; (case hw => w_witness2)
  k_fill
  refine L2.walk_of (l := PySem.Challenge.rw_beatfabric_k76_frames) (n := 63) (k := 4) (x := "_law_script") (CX := fun _ => L2.CX0) (sp := fun w => Bf.spLaw _) rfl (by decide) rfl ⟨rfl, by decide, by decide⟩ (fun w h Y => PySem.W.kIn_of Y) ?F (fun _ _ a ns hl _ hS => ⟨a, ns, rfl, hS, hl, fun _ => rfl⟩) (fun _ _ _ _ _ h => h)
  case F =>
    intro w mg fa h KX G hmg
    refine' Bf.all_mk KX G hmg ?a1 ?l2 ?c2 ?k2 ?a3 ?l4 ?c4 ?k4 ?a5 ?l6 ?c6 ?k6 ?a7 ?l8 ?c8 ?k8 ?a9 ?l10 ?c10 ?k10 ?a11 ?l12 ?c12 ?k12 ?a13 ?l14 ?c14 ?k14 ?a15 ?l16 ?c16 ?k16 ?a17 ?l18 ?c18 ?k18 ?a19 ?l20 ?c20 ?k20 ?a21 ?l22 ?c22 ?k22 ?a23 ?l24 ?c24 ?k24 ?a25 ?l26 ?c26 ?k26 ?a27 ?l28 ?c28 ?k28 ?a29 ?l30 ?c30 ?k30 ?a31 ?l32 ?c32 ?k32 ?z33 ?z34 ?z35 ?z36 ?z37 ?z38 ?z39 ?z40 ?z41 ?z42 ?z43
    (case a1 => k_is)
    (case l2 => k_is)
    (case c2 => k_is)
    (case k2 => k_is)
    (case a3 => k_is)
    (case l4 => k_is)
    (case c4 => k_is)
    (case k4 => k_is)
    (case a5 => k_is)
    (case l6 => k_is)
    (case c6 => k_is)
    (case k6 => k_is)
    (case a7 => k_is)
    (case l8 => k_is)
    (case c8 => k_is)
    (case k8 => k_is)
    (case a9 => k_is)
    (case l10 => k_is)
    (case c10 => k_is)
    (case k10 => k_is)
    (case a11 => k_is)
    (case l12 => k_is)
    (case c12 => k_is)
    (case k12 => k_is)
    (case a13 => k_is)
    (case l14 => k_is)
    (case c14 => k_is)
    (case k14 => k_is)
    (case a15 => k_is)
    (case l16 => k_is)
    (case c16 => k_is)
    (case k16 => k_is)
    (case a17 => k_is)
    (case l18 => k_is)
    (case c18 => k_is)
    (case k18 => k_is)
    (case a19 => k_is)
    (case l20 => k_is)
    (case c20 => k_is)
    (case k20 => k_is)
    (case a21 => k_is)
    (case l22 => k_is)
    (case c22 => k_is)
    (case k22 => k_is)
    (case a23 => k_is)
    (case l24 => k_is)
    (case c24 => k_is)
    (case k24 => k_is)
    (case a25 => k_is)
    (case l26 => k_is)
    (case c26 => k_is)
    (case k26 => k_is)
    (case a27 => k_is)
    (case l28 => k_is)
    (case c28 => k_is)
    (case k28 => k_is)
    (case a29 => k_is)
    (case l30 => k_is)
    (case c30 => k_is)
    (case k30 => k_is)
    (case a31 => k_is)
    (case l32 => k_is)
    (case c32 => k_is)
    (case k32 => k_is)
    (case z33 => k_is)
    (case z34 => k_is)
    (case z35 => k_is)
    (case z36 => k_is)
    (case z37 => k_is)
    (case z38 => k_is)
    (case z39 => k_is)
    (case z40 => k_is)
    (case z41 => k_is)
    (case z42 => k_is)
    (case z43 => k_is)
