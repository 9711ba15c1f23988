import PyProof.Rows.All
import Wide.All
import OpenK.AllK
import Wide.FinOn
import HandS.Base
import HandS.Call
import HandS.List
import HandS.Comp
import HandS.Ends
import HandS.Words
import HandS.Wide
import HandS.WideBits
import HandS.More
import HandS.IsInst
import HandS.CallLocal
import HandS.Text
import HandS.Iter
import HandS.Dict
import HandS.Defaults
import HandS.DeepEq
import HandS.Codes
import HandS.SortKw
import KE.DataMinMax
import HandS.Zip
import HandS.Walk
import HandS.TupAny
import KE.GoesEnum
import KE.GoesMore
import HandS.Style
import HandS.Conv
import HandS.Rev
import HandS.Strs
import HandS.DictComp
import PyProof.DictUpdate
import KE.DatumOrd
import PyProof.FString5
import PyProof.Rows.SortStr
import KE.KDictPairs
import HandS.SortInts
import KE.BitLaws
import HandS.SortRule
import KE.SortData
import KE.KDictList
import HandS.SetKeys
import HandS.WordsDict
import PySem.Challenge.RW_beatfabric_k19_shortest_rings
set_option Elab.async false
set_option linter.all false
set_option maxRecDepth 100000
set_option maxHeartbeats 4000000
namespace Bf
open PySem PySem.Spec PyProof.Rows L2

/-! ### rules that the layer lacks -/
section
variable {X : Cx}
def rGetL : V → V → Hp → VK → Prop := fun o i H Q => ∃ p xs k v, o = .ref p ∧ i = .int k ∧ H p = some (.lst xs) ∧ atI xs k = some v ∧ Q v H
theorem get_list : PGet X rGetL := by
  intro pins s σ H o i ov iv Q I ro ri h
  obtain ⟨p, xs, k, z, rfl, rfl, hp, he, q⟩ := h
  cases ro
  obtain ⟨t, rfl⟩ := ri
  obtain ⟨its, r, pl, hz⟩ := I.list (SqL.of hp)
  obtain ⟨j, h1, h2, h3, h4, h5⟩ := atI_get he
  obtain ⟨w, ew, rw'⟩ := r.get h2
  have hl := r.length
  have hn := line63
  have fin : EP X pins σ Q w s := ⟨z, H, I, rw', q⟩
  by_cases h0 : 0 ≤ k
  · have hj : k.toNat = j := by
      rw [seqIndex_of h0 h5] at h1
      exact Option.some.inj h1
    refine PySem.wpAny_getItem_list pl.isList h0 (by omega) (by rw [hj]; simpa using ew) fin
  · have hj : (k + (its.toArray.size : Int)).toNat = j := by
      rw [seqIndex_neg (by omega) h4] at h1
      rw [List.size_toArray, ← hl]
      exact Option.some.inj h1
    exact wpAny_getItem_list_neg pl.isList (by omega) (by rw [List.size_toArray] <;> omega) (by omega) (by rw [hj]; simpa using ew) fin

/-- max, min of two numbers that are not negative -/
theorem cr_maxN (hc : X.calm = true) : CallR X (.builtin "max") (fun xs H Q => ∃ i j : Nat, xs = [V.int i, V.int j] ∧ Q (V.int ((max i j : Nat) : Int)) H) := by
  intro pins s σ H vs us Q I r h
  obtain ⟨i, j, rfl, q⟩ := h
  refine call_max2 hc pins s σ H _ us Q I r ⟨i, j, rfl, ?_⟩
  have e : (if (j : Int) > (i : Int) then (j : Int) else (i : Int)) = ((max i j : Nat) : Int) := by
    by_cases h : (j : Int) > i
    · rw [if_pos h, Nat.max_eq_right (by omega)]
    · rw [if_neg h, Nat.max_eq_left (by omega)]
  rw [e]
  exact q
theorem cr_minN (hc : X.calm = true) : CallR X (.builtin "min") (fun xs H Q => ∃ i j : Nat, xs = [V.int i, V.int j] ∧ Q (V.int ((min i j : Nat) : Int)) H) := by
  intro pins s σ H vs us Q I r h
  obtain ⟨i, j, rfl, q⟩ := h
  refine call_min2 hc pins s σ H _ us Q I r ⟨i, j, rfl, ?_⟩
  have e : (if (j : Int) < (i : Int) then (j : Int) else (i : Int)) = ((min i j : Nat) : Int) := by
    by_cases h : (j : Int) < i
    · rw [if_pos h, Nat.min_eq_right (by omega)]
    · rw [if_neg h, Nat.min_eq_left (by omega)]
  rw [e]
  exact q
/-- sum of a tuple of ints -/
def rSumT (K : PySem.W.Frag) : List V → Hp → VK → Prop := fun vs H Q => ∃ (a : Addr) (ns : List Int), vs = [V.ref a] ∧ SqT K H a (ns.map V.int) ∧ Q (.int ns.sum) H
theorem cr_sumT (hc : X.calm = true) : CallR X (.builtin "sum") (rSumT X.K) := by
  intro pins s σ H vs us Q I r h
  obtain ⟨a, ns, rfl, hs, q⟩ := h
  obtain ⟨its, rv, hl, _⟩ := I.tuple hs
  rw [Vals.ref1 r]
  obtain ⟨xs, e⟩ := rv.ints.allInts.items
  have hn : numsOf (intItems xs).toList = ns := by rw [← e]; exact rv.ints.numsOf
  rw [nums_intItems] at hn
  have hl' : s.heap.IsTuple a (intItems xs) := by
    rw [← e]
    exact hl
  refine PySem.W.ktm_sumG (I.ok.hd hc) hl' fun h' tk t' hk => ?_
  rw [preSum_eq, List.take_of_length_le (by simp), hn]
  exact ⟨.int _, H, I.kept hk, ⟨_, rfl⟩, q⟩
end

/-- a def that stands, with its promise -/
def vI (n : Nat) : V := .int (n : Int)
structure Dn (P : Program) (w : World) (K : PySem.W.Frag) (mg : Str → Option Value) (base : Heap) (x : Str) (ps : List Str) (k : Nat) (sp : Sp) : Prop where
  ex : ∃ (f : Addr) (fd : FuncData), FnOk P w K mg base CX0 k f fd ps sp ∧ mg x = some (.ref f) ∧ PySem.W.keepIn K (.ref f) = true ∧ Binds K fd ps []
def tCallD (sp : Sp) (t : TA) : TE := fun σ H Q => t σ H fun vs H1 => sp vs H1 Q E0
section
variable {X : Cx} {x : Str} {ps : List Str} {k : Nat} {sp : Sp} {e : Expr} {es : List Expr} {t : TA} {p pos : Pos}
theorem pe_dn (D : Dn X.prog X.w X.K X.mg X.base x ps k sp) (hr : Room k X.A) (hg : Gl X x) (ha : PA X (e :: es) t) (hdb : (x == ("__debug__" : Str)) = false := by decide)
    (he : starEach (e :: es) X.env = (false, eval e X.env) :: starEach es X.env := by rfl) (hpl : (backTo pos (starEach es X.env)).any (·.1) = false := by rfl) :
    PE X (.Call (.Name x p) (e :: es) [] pos) (tCallD sp t) := by
  obtain ⟨f, fd, F, hm, hk, hb⟩ := D.ex
  refine ⟨fun pins s σ H Q I h => (pe_call (E := E0) F hr hg hm hk hb .nil pass0 ha hdb he hpl).run pins s σ H Q I ?_⟩
  have e0 : (fun (vs : List V) (H1 : Hp) => sp (vs ++ []) H1 Q E0) = fun vs H1 => sp vs H1 Q E0 := by
    funext vs H1
    rw [List.append_nil]
  show t σ H (fun vs H1 => sp (vs ++ []) H1 Q E0)
  rw [e0]
  exact h
theorem pe_dn0 (D : Dn X.prog X.w X.K X.mg X.base x ps k sp) (hr : Room k X.A) (hg : Gl X x) (hdb : (x == ("__debug__" : Str)) = false := by decide) :
    PE X (.Call (.Name x p) [] [] pos) (tCallD sp tNil) := by
  obtain ⟨f, fd, F, hm, hk, hb⟩ := D.ex
  exact ⟨fun pins s σ H Q I h => (pe_call0 (E := E0) F hr hg hm hk hb .nil pass0 hdb).run pins s σ H Q I h⟩
end
/-- the same where the last arguments are defaults -/
structure DnD (P : Program) (w : World) (K : PySem.W.Frag) (mg : Str → Option Value) (base : Heap) (x : Str) (ps : List Str) (dvs : List V) (k : Nat) (sp : Sp) : Prop where
  ex : ∃ (f : Addr) (fd : FuncData) (ds : List Value), FnOk P w K mg base CX0 k f fd ps sp ∧ mg x = some (.ref f) ∧ PySem.W.keepIn K (.ref f) = true ∧ Binds K fd ps ds ∧ Vals dvs ds
theorem pe_dnD {X : Cx} {x : Str} {ps : List Str} {dvs : List V} {k : Nat} {sp : Sp} {e : Expr} {es : List Expr} {t : TA} {p pos : Pos} (D : DnD X.prog X.w X.K X.mg X.base x ps dvs k sp) (hr : Room k X.A) (hg : Gl X x) (ha : PA X (e :: es) t) (hdb : (x == ("__debug__" : Str)) = false := by decide)
    (he : starEach (e :: es) X.env = (false, eval e X.env) :: starEach es X.env := by rfl) (hpl : (backTo pos (starEach es X.env)).any (·.1) = false := by rfl) :
    PE X (.Call (.Name x p) (e :: es) [] pos) (tCall sp dvs E0 t) := by
  obtain ⟨f, fd, ds, F, hm, hk, hb, hv⟩ := D.ex
  exact pe_call (E := E0) F hr hg hm hk hb hv pass0 ha hdb he hpl
/-- a def of the text, its promise: the level a letter -/
theorem Dn.mk' {P : Program} {w : World} {K : PySem.W.Frag} {mg : Str → Option Value} {base : Heap} {x : Str} {st : Stmt} {ps : List Str} {k : Nat} {sp : Sp} {f : Addr} {fd : FuncData}
    (F : Fun K x x st f fd) (hm : mg x = some (.ref f)) (hb : Binds K fd ps []) (ok : FnOk P w K mg base CX0 k f fd ps sp) : Dn P w K mg base x ps k sp :=
  ⟨f, fd, ok, hm, F.kp, hb⟩
end Bf
namespace Bf
open PySem PySem.Spec PyProof.Rows L2
section
variable {X : Cx} {d : Addr} {es : Array DictEntry} {n : Nat}
/-- d[k], d a dict of the module with text keys -/
theorem ix_kd (D : KDict X.K X.w d es n) : IxR X (fun x y H Q => ∃ (z : Str) (u0 : Value) (v0 : V), x = .ref d ∧ y = .str z ∧ PySem.W.nsIn X.K d z = some (some u0) ∧ RelV v0 u0 ∧ Q v0 H) := by
  intro value slice pins s σ H x y v u Q I rx ry h hs
  have h0 := h
  obtain ⟨z, u0, v0, rfl, rfl, e, r, q⟩ := h
  cases rx
  exact tail_any (kd_type D I) PySem.slot_dict_getitem.lookup (op_item_kd D pins s σ H (V.ref d) (V.str z) _ u Q I (show RelV (V.ref d) (Value.ref d) from rfl) ry h0) hs
/-- of several defs that the slot may hold: the def and its promise are told in the reading -/
def tCallH (P : Program) (w : World) (K : PySem.W.Frag) (mg : Str → Option Value) (base : Heap) (k i : Nat) (t : TA) : TE := fun σ H Q => ∃ f sp fd ps, σ[i]? = some (some (.ref f)) ∧ FnOk P w K mg base CX0 k f fd ps sp ∧ PySem.W.keepIn K (.ref f) = true ∧ Binds K fd ps [] ∧ t σ H fun vs H1 => sp vs H1 Q E0
theorem pe_held {i k : Nat} {x : Str} {p pos : Pos} {e : Expr} {es : List Expr} {t : TA} (hr : Room k X.A) (hN : X.N[i]? = some x) (hv : Vis X.env.scope x) (ha : PA X (e :: es) t)
    (hdb : (x == ("__debug__" : Str)) = false := by decide) (hcd : (x == ("__classdict__" : Str)) = false := by decide)
    (he : starEach (e :: es) X.env = (false, eval e X.env) :: starEach es X.env := by rfl) (hpl : (backTo pos (starEach es X.env)).any (·.1) = false := by rfl) : PE X (.Call (.Name x p) (e :: es) [] pos) (tCallH X.prog X.w X.K X.mg X.base k i t) := by
  refine ⟨fun pins s σ H Q I h => ?_⟩
  obtain ⟨f, sp, fd, ps, hs, F, hk, hb, ht⟩ := h
  refine (pe_callL (i := i) (f := f) (sp := sp) (dvs := []) (E := E0) F hr hN hv hk hb .nil pass0 ha hdb hcd he hpl).run pins s σ H Q I ⟨hs, ?_⟩
  have e0 : (fun (vs : List V) (H1 : Hp) => sp (vs ++ []) H1 Q E0) = fun vs H1 => sp vs H1 Q E0 := by
    funext vs H1
    rw [List.append_nil]
  show t σ H (fun vs H1 => sp (vs ++ []) H1 Q E0)
  rw [e0]
  exact ht
end
end Bf

set_option Elab.async false
set_option linter.all false
set_option maxRecDepth 100000
set_option maxHeartbeats 4000000
namespace Bf
open PySem PySem.Spec PyProof.Rows L2
/-! ### small steps of a reading -/
theorem ifY {c : Bool} {A B : Prop} (e : c = true) (h : A) : if c = true then A else B := by
  rw [if_pos e]
  exact h
theorem ifN {c : Bool} {A B : Prop} (e : c = false) (h : B) : if c = true then A else B := by
  rw [e]
  exact iteF h
theorem rdL {K : PySem.W.Frag} {H : Hp} {a : Addr} {xs : List V} {i : Int} {v : V} {Q : VK} (h : SqL K H a xs) (e : atI xs i = some v) (k : Q v H) : rIxL K (.ref a) (.int i) H Q := ⟨a, xs, _, v, rfl, rfl, h, e, k⟩
theorem rdC {v : V} {σ : L2.St} {H : Hp} {Q : VK} (k : Q v H) : tC v σ H Q := k
theorem seqNew {K : PySem.W.Frag} {H : Hp} {a p : Addr} {o : HO} {xs : List V} (hp : H p = none) (h : SqL K H a xs) : SqL K (upd H p o) a xs := by
  rcases h with (h | ⟨u, h⟩) | h
  · exact .inl (.inl (by rw [upd_ne (ne_of_none h hp)]; exact h))
  · exact .inl (.inr ⟨u, by rw [upd_ne (ne_of_none h hp)]; exact h⟩)
  · exact .inr h
theorem le1000 {n : Nat} (h : n ≤ 1000) : n ≤ sizeLine := Nat.le_of_lt (small1000 h)
end Bf

set_option Elab.async false
set_option linter.all false
set_option maxRecDepth 100000
set_option maxHeartbeats 4000000
namespace Bf
open PySem PySem.Spec PyProof.Rows L2 PySem.W
/-! ### max and min of a list of ints, with default= -/
def maxOr (d : Int) : List Int → Int
  | [] => d
  | n :: ns => ns.foldl max n
def minOr (d : Int) : List Int → Int
  | [] => d
  | n :: ns => ns.foldl min n
theorem alikeInts (ns : List Int) : AlikeAll (ns.map PyData.int) := by
  refine ⟨fun x hx y hy => ?_, fun x hx e => ?_⟩
  · obtain ⟨a, _, rfl⟩ := List.mem_map.mp hx
    obtain ⟨b, _, rfl⟩ := List.mem_map.mp hy
    rfl
  · obtain ⟨a, _, rfl⟩ := List.mem_map.mp hx
    cases e
theorem depthInts : ∀ ns : List Int, PyData.depthAll (ns.map PyData.int) ≤ 1
  | [] => by
    rw [List.map_nil]
    simp only [PyData.depthAll]
    omega
  | n :: ns => by
    have := depthInts ns
    rw [List.map_cons]
    simp only [PyData.depthAll, PyData.depth]
    omega
theorem dpInts {K : PySem.W.Frag} {H : Hp} : ∀ ns : List Int, DpAll K H (ns.map V.int) (ns.map PyData.int)
  | [] => .nil
  | n :: ns => .cons (.int n) (dpInts ns)
def rMaxD (K : PySem.W.Frag) : List V → List V → Hp → VK → Prop := fun vs zs H Q => ∃ (l : Addr) (ns : List Int) (d : Int), vs = [.ref l] ∧ zs = [.int d] ∧ SqL K H l (ns.map V.int) ∧ Q (.int (maxOr d ns)) H
def rMinD (K : PySem.W.Frag) : List V → List V → Hp → VK → Prop := fun vs zs H Q => ∃ (l : Addr) (ns : List Int) (d : Int), vs = [.ref l] ∧ zs = [.int d] ∧ SqL K H l (ns.map V.int) ∧ Q (.int (minOr d ns)) H
theorem reads_int {h : Heap} {v : Value} {n : Int} {bs : List Addr} (r : Reads h v (.int n) bs) : ∃ t, v = .int n t := by
  cases r
  exact ⟨_, rfl⟩
section
variable {X : Cx}
theorem cr_maxDef (hc : X.calm = true) (hu : X.A.units + 64 < cLine) : CallRK X (.builtin "max") [Str.ofString "default"] (rMaxD X.K) := by
  intro pins s σ H vs zs us ws Q I r rz h
  obtain ⟨l, ns, d, rfl, rfl, hs, q⟩ := h
  obtain rfl := Vals.ref1 r
  obtain ⟨w1, rfl, e1⟩ := vals1 rz
  obtain ⟨tk, rfl⟩ := e1
  obtain ⟨its, rv, pl, _⟩ := I.list hs
  obtain ⟨as, hr⟩ := Dp.readsAll I (ns.map PyData.int) _ _ (dpInts ns) rv
  refine max_list_default (I.ok.hd hc) pl.isList hr (alikeInts ns) (by have := depthInts ns; omega) (fun h0 h' t' k => ?_) fun y ys i v h' t' bs e hv rd k => ?_
  · have : ns = [] := by simpa using h0
    subst this
    exact ⟨.int d, H, I.kept k, ⟨tk, rfl⟩, q⟩
  · obtain ⟨n, ms, rfl⟩ : ∃ n ms, ns = n :: ms := by
      cases ns with
      | nil => cases e
      | cons n ms => exact ⟨n, ms, rfl⟩
    cases e
    rw [maxD_ints] at rd
    obtain ⟨t, rfl⟩ := reads_int rd
    exact ⟨.int (ms.foldl max n), H, I.kept k, ⟨t, rfl⟩, q⟩
theorem cr_minDef (hc : X.calm = true) (hu : X.A.units + 64 < cLine) : CallRK X (.builtin "min") [Str.ofString "default"] (rMinD X.K) := by
  intro pins s σ H vs zs us ws Q I r rz h
  obtain ⟨l, ns, d, rfl, rfl, hs, q⟩ := h
  obtain rfl := Vals.ref1 r
  obtain ⟨w1, rfl, e1⟩ := vals1 rz
  obtain ⟨tk, rfl⟩ := e1
  obtain ⟨its, rv, pl, _⟩ := I.list hs
  obtain ⟨as, hr⟩ := Dp.readsAll I (ns.map PyData.int) _ _ (dpInts ns) rv
  refine min_list_default (I.ok.hd hc) pl.isList hr (alikeInts ns) (by have := depthInts ns; omega) (fun h0 h' t' k => ?_) fun y ys i v h' t' bs e hv rd k => ?_
  · have : ns = [] := by simpa using h0
    subst this
    exact ⟨.int d, H, I.kept k, ⟨tk, rfl⟩, q⟩
  · obtain ⟨n, ms, rfl⟩ : ∃ n ms, ns = n :: ms := by
      cases ns with
      | nil => cases e
      | cons n ms => exact ⟨n, ms, rfl⟩
    cases e
    rw [minD_ints] at rd
    obtain ⟨t, rfl⟩ := reads_int rd
    exact ⟨.int (ms.foldl min n), H, I.kept k, ⟨t, rfl⟩, q⟩
end
end Bf

set_option Elab.async false
set_option linter.all false
set_option maxRecDepth 100000
set_option maxHeartbeats 4000000
namespace Bf
open PySem PySem.Spec PyProof.Rows L2

/-! ### what enumerate and zip walk: a list or a tuple -/
structure Src where
  sq : PySem.W.Frag → Hp → Addr → List V → Prop
  itr : Heap → Addr → Addr → Nat → Prop
  isS : Heap → Addr → Array Value → Prop
  ob : Addr → Obj
  inv : ∀ {X : Cx} {pins : List (Addr × Obj)} {σ : L2.St} {H : Hp} {s : Shared} {a : Addr} {xs : List V}, Inv X pins σ H s → sq X.K H a xs → ∃ its : List Value, Vals xs its ∧ isS s.heap a its.toArray
  inj : ∀ {X : Cx} {pins : List (Addr × Obj)} {σ : L2.St} {H : Hp} {s : Shared} {a : Addr} {xs ys : List V}, Inv X pins σ H s → sq X.K H a xs → sq X.K H a ys → xs = ys
  draws : ∀ {prog : Program} {w : World} {A : Around}, A.handled = none → ∀ (it l : Addr), l ≠ it → ∀ (items : Array Value), Draws prog w A it [it, l] items.size (fun i v => items[i]? = some v) (fun i h => itr h it l i ∧ isS h l items)
  obj : ∀ {h : Heap} {it a : Addr} {i : Nat}, itr h it a i → ∃ o, h.get? it = some o ∧ ∀ v, o.data ≠ .cell v
  at_ : ∀ {h h' : Heap} {it a : Addr} {i : Nat}, itr h it a i → (∀ o, h.get? it = some o → h'.get? it = some o) → itr h' it a i
  beg : ∀ (a : Addr) (items : Array Value), Begins (.ref a) (ob a) (fun h => isS h a items)
  start : ∀ {h : Heap} {it a : Addr}, h.get? it = some (ob a) → itr h it a 0
  lt : ∀ {h : Heap} {a : Addr} {items : Array Value}, isS h a items → a < h.objs.size
  keep : ∀ {K : PySem.W.Frag} {H H' : Hp} {a : Addr} {xs : List V}, Same H H' → sq K H a xs → sq K H' a xs
theorem seqT_same {K : PySem.W.Frag} {H H' : Hp} {a : Addr} {xs : List V} (k : Same H H') (h : SqT K H a xs) : SqT K H' a xs := by
  rcases h with (h | ⟨u, h⟩) | h
  · exact .inl (.inl (k _ _ h))
  · exact .inl (.inr ⟨u, k _ _ h⟩)
  · exact .inr h

def srcL : Src where
  sq := fun K H a xs => SqL K H a xs
  itr := fun h it a i => h.IsListIter it a i
  isS := fun h a items => h.IsList a items
  ob := fun a => { cls := .type "list_iterator", data := .fields #[.ref a, .int 0 0] }
  inv := fun I h => let ⟨its, r, p, _⟩ := I.list h; ⟨its, r, p.isList⟩
  inj := fun I h h' => I.list_inj h h'
  draws := fun hh it l hne items => Draws.list hh it l hne items
  obj := fun ⟨o, e, c, d⟩ => ⟨o, e, fun v z => by rw [d] at z; cases z⟩
  at_ := fun x k => x.at k
  beg := fun a items => begins_list a items
  start := fun e => ⟨_, e, rfl, rfl⟩
  lt := fun ⟨o, e, _⟩ => Heap.lt_size e
  keep := fun k h => k.seq h

def srcT : Src where
  sq := fun K H a xs => SqT K H a xs
  itr := fun h it a i => h.IsTupleIter it a i
  isS := fun h a items => h.IsTuple a items
  ob := fun a => { cls := .type "tuple_iterator", data := .fields #[.ref a, .int 0 0] }
  inv := fun I h => let ⟨its, r, p, _⟩ := I.tuple h; ⟨its, r, p⟩
  inj := fun I h h' => I.tuple_inj h h'
  draws := fun hh it l hne items => Draws.tuple hh it l hne items
  obj := fun ⟨o, e, c, d⟩ => ⟨o, e, fun v z => by rw [d] at z; cases z⟩
  at_ := fun x k => x.at k
  beg := fun a items => begins_tuple a items
  start := fun e => ⟨_, e, rfl, rfl⟩
  lt := fun ⟨o, e, _⟩ => Heap.lt_size e
  keep := fun k h => seqT_same k h

/-! ### enumerate -/
def ItE (S : Src) (K : PySem.W.Frag) (a : Addr) : It :=
  ⟨fun i H => ∃ (xs : List V) (x : V), S.sq K H a xs ∧ xs[i]? = some x, fun i H v H' => ∃ T x, v = .ref T ∧ H T = none ∧ H' = upd H T (.tup [.int (i : Nat), x]) ∧ ∀ xs, S.sq K H a xs → xs[i]? = some x, fun i H => ∃ xs : List V, S.sq K H a xs ∧ xs.length = i⟩

theorem turn_enumG (S : Src) {P : Program} {w : World} {K : PySem.W.Frag} {elts : List Expr} {kk : Nat} {tpos : Pos} (a e it : Addr) :
    Turn P w K (.Tuple elts kk tpos) (ItE S K a) [e, it] e (fun i h => (∃ old, IsEnum h e it ((i : Nat) : Int) old) ∧ S.itr h it a i ∧ e ≠ it ∧ e ≠ a ∧ a ≠ it) where
  mem := by simp
  obj := fun i h st b hb => by
    obtain ⟨⟨old, he⟩, hi, _⟩ := st
    have e' : b = e ∨ b = it := by simpa using hb
    rcases e' with z | z
    · rw [z]; exact ⟨_, he, fun v q => nomatch q⟩
    · rw [z]; exact S.obj hi
  keep := fun i h h' st k => let ⟨⟨old, he⟩, hi, r⟩ := st; ⟨⟨old, k e (by simp) _ he⟩, S.at_ hi fun o q => k it (by simp) o q, r⟩
  item := by
    intro X hP hw hK hc i pins s σ H E I hf st hg
    subst hP hw hK
    obtain ⟨⟨old, he⟩, hit, hne, hea, hai⟩ := st
    obtain ⟨xs, x, hq, hx⟩ := hg
    obtain ⟨its, rv, p⟩ := S.inv I hq
    obtain ⟨u, hu, ru⟩ := rv.get hx
    have hel : e < s.heap.objs.size := Heap.lt_size he
    have hil : it < s.heap.objs.size := by obtain ⟨_, q, _⟩ := S.obj hit; exact Heap.lt_size q
    have hlt : i < its.toArray.size := by
      have q := (List.getElem?_eq_some_iff.mp hu).1
      simpa using q
    refine wpAny_pyNext_enum_itemD (S.draws (show X.A.in1.handled = none from I.ok.hd hc) it a hai its.toArray) he ⟨hit, p⟩ hlt hne (by simp [hne, hea]) fun v h' tk hv ho hst hT hsz hk => ?_
    have ev : u = v := by
      have q : its[i]? = some v := by simpa using hv
      rw [hu] at q; cases q; rfl
    subst ev
    refine ⟨_, rfl, wpAny_letOwnedTupleGo_enum (s := { s with heap := h', toks := tk + 1 }) ho fun h'' he' sb => ?_⟩
    have hT2 : h''.get? s.heap.objs.size = some { cls := .type "tuple", data := .seq #[.int i tk, u] } := (sb.2 _ (Nat.ne_of_gt hel)).trans hT
    have new : ObjOk X.prog X.w (upd H s.heap.objs.size (.tup [.int (i : Nat), x])) h'' s.heap.objs.size (.tup [.int (i : Nat), x]) :=
      ⟨by show 2 ≤ sizeLine; decide, [.int i tk, u], .cons ⟨_, rfl⟩ (.cons ru .nil), ⟨_, hT2, rfl, _, rfl⟩⟩
    have I1 : Inv X pins σ (upd H s.heap.objs.size (.tup [.int (i : Nat), x])) { s with heap := h'', toks := tk + 1 } :=
      I.turnedNew (ch := [e, it]) (fun b ob hb q => (sb.2 b (fun z => hb (by simp [z]))).trans (hk b ob (fun z => hb (by simp [z])) (fun z => hb (by simp [z])) q)) hf (Nat.le_refl _) new
    refine ⟨.ref s.heap.objs.size, _, I1, rfl, ⟨_, x, rfl, I.hok.fresh (Nat.le_refl _), rfl, fun ys hy => by rw [S.inj I hy hq]; exact hx⟩, ⟨⟨u, ?_⟩, S.at_ hst.1 fun o q => (sb.2 it (Ne.symm hne)).trans q, hne, hea, hai⟩, fun b hb => ?_⟩
    · have e1 : ((i + 1 : Nat) : Int) = (i : Int) + 1 := by omega
      rw [e1]; exact he'
    · have hb' : b < s.heap.objs.size := by
        have e' : b = e ∨ b = it := by simpa using hb
        rcases e' with z | z
        · rw [z]; exact hel
        · rw [z]; exact hil
      rw [upd_ne (Nat.ne_of_lt hb')]
      exact (hf b hb).1
  done := by
    intro X hP hw hK hc i pins s σ H E I hf st hg
    subst hP hw hK
    obtain ⟨⟨old, he⟩, hit, hne, hea, hai⟩ := st
    obtain ⟨xs, hq, hx⟩ := hg
    obtain ⟨its, rv, p⟩ := S.inv I hq
    obtain ⟨f0, f1, f2, f3, f4, f5⟩ := hf it (by simp)
    have hl := rv.length
    have hn : its.toArray.size = i := by rw [List.size_toArray]; omega
    subst hn
    exact wpAny_pyNext_enum_endD (S.draws (show X.A.in1.handled = none from I.ok.hd hc) it a hai its.toArray) he ⟨hit, p⟩ fun h' eb => ⟨rfl, I.turned (t' := s.toks) (fun b o hb q => eb b o hb q) f0 f1 f3 f4 f5⟩
  self := fun A i s Q E st h => let ⟨⟨_, he⟩, _⟩ := st; wpAny_pyIter_enum he h

theorem meets_enum_new0 {v : Value} {o : Obj} {H : Heap → Prop} (B : Begins v o H) :
    Meets (Builtin.«enumerate.__new__» ⟨[.type "enumerate", v], []⟩) (fun _ R s => H s.heap ∧
      R (.ok (.ret (.ref (s.heap.push o).objs.size))) { s with heap := (s.heap.push o).push { cls := .type "enumerate", data := .fields #[.none, .bool false, .ref s.heap.objs.size, rawInt 0, .none, .none] } }) :=
  .of_wp fun prog w A R s h => by
    obtain ⟨hp, g, d, tk, os⟩ := s; obtain ⟨h1, h⟩ := h
    have hsub := sub_enumerate
    have q1 : ∀ {A' : Around} {E : Value → Shared → Prop} {Q : Value → Shared → Prop}, Q (.ref hp.objs.size) ⟨hp.push o, g, d, tk, os⟩ → wpAny (model prog w) A' (pyIter v) Q E ⟨hp, g, d, tk, os⟩ :=
      fun q => B.iter prog w _ _ ⟨hp, g, d, tk, os⟩ _ h1 q
    wp_walk using q1
    refine wpAny_stack_any fun st => wpAny_pure ?_
    split
    · rename_i c _ _ _ _ _
      cases (c == Value.type "enumerate")
      · wp_walk using q1
        exact ⟨_, rfl, h⟩
      · wp_walk using q1
        exact ⟨_, rfl, h⟩
    · wp_walk using q1
      exact ⟨_, rfl, h⟩
section
variable {prog : Program} {w : World} {A : Around} {E : Value → Shared → Prop} {s : Shared}
theorem enum_begins0 {v : Value} {o : Obj} {H : Heap → Prop} {Q : Value → Shared → Prop} (B : Begins v o H) (h1 : H s.heap)
    (h : ∀ h', IsEnum h' (s.heap.objs.size + 1) s.heap.objs.size 0 .none → h'.get? s.heap.objs.size = some o → h'.objs.size = s.heap.objs.size + 2 →
      (∀ b o, s.heap.get? b = some o → h'.get? b = some o) → Q (.ref (s.heap.objs.size + 1)) { s with heap := h' }) :
    wpAny (model prog w) A (call (.type "enumerate") [v]) Q E s := by
  refine callType_new F.called_enumerate (by decide) (F.typeCall_enumerate_1 _) (F.newCall_enumerate_1 _) (fun obj => F.args_object_init_2 obj _) F.entry_enumerate_new
    (meets_enum_new0 B) ⟨h1, ?_⟩
  have hz : (s.heap.push o).objs.size = s.heap.objs.size + 1 := Heap.size_push ..
  show _ ∧ _
  rw [hz]
  have he : IsEnum ((s.heap.push o).push { cls := .type "enumerate", data := .fields #[.none, .bool false, .ref s.heap.objs.size, rawInt 0, .none, .none] }) (s.heap.objs.size + 1) s.heap.objs.size 0 .none := by
    have := Heap.get?_push_size (s.heap.push o) (o := { cls := .type "enumerate", data := .fields #[.none, .bool false, .ref s.heap.objs.size, rawInt 0, .none, .none] }) rfl
    rw [hz] at this; exact this
  exact ⟨⟨_, he, rfl⟩, h _ he (Heap.get?_push_of_some _ (Heap.get?_push_size _ B.free)) (by rw [Heap.size_push, hz]) fun b o x => Heap.get?_push_of_some _ (Heap.get?_push_of_some _ x)⟩
end
def iEnG (S : Src) (K : PySem.W.Frag) (ta : TA) : TI := fun σ H R => ta σ H fun vs H1 => ∃ a xs, vs = [.ref a] ∧ S.sq K H1 a xs ∧ R (ItE S K a) H1
theorem enumG_run (S : Src) {X : Cx} {pins : List (Addr × Obj)} {σ : L2.St} {H1 : Hp} {s1 : Shared} {us : List Value} {vs : List V} {elts : List Expr} {kk : Nat} {tpos : Pos} {R : It → Hp → Prop} (I1 : Inv X pins σ H1 s1) (r1 : Vals vs us)
    (q1 : ∃ (a : Addr) (xs : List V), vs = [.ref a] ∧ S.sq X.K H1 a xs ∧ R (ItE S X.K a) H1) :
    wpAny (model X.prog X.w) X.A (call (.type "enumerate") us) (fun v s1 => wpAny (model X.prog X.w) X.A (pyIter v) (PIE X pins σ (.Tuple elts kk tpos) R) X.xe s1) X.xe s1 := by
  obtain ⟨a, xs, ex, hq, q⟩ := q1
  subst ex
  cases r1 with
  | cons r rr =>
    cases rr
    cases r
    obtain ⟨its, rv, p'⟩ := S.inv I1 hq
    have la := S.lt p'
    refine enum_begins0 (S.beg a its.toArray) p' fun h' he hit hsz hk => wpAny_pyIter_enum he ?_
    have I2 : Inv X pins σ H1 { s1 with heap := h' } := I1.kept (t' := s1.toks) hk
    refine ⟨s1.heap.objs.size + 1, [s1.heap.objs.size + 1, s1.heap.objs.size], _, _, H1, rfl, I2, turn_enumG S a (s1.heap.objs.size + 1) s1.heap.objs.size, ⟨⟨.none, he⟩, S.start hit, Nat.succ_ne_self _, Nat.ne_of_gt (Nat.lt_succ_of_lt la), Nat.ne_of_lt la⟩, fun b hb => ?_, q⟩
    have e' : b = s1.heap.objs.size + 1 ∨ b = s1.heap.objs.size := by simpa using hb
    have hle : s1.heap.objs.size ≤ b := by
      rcases e' with z | z
      · rw [z]; exact Nat.le_add_right _ _
      · rw [z]; exact Nat.le_refl _
    exact I1.fpOk hle (I1.hok.fresh hle)

/-! ### zip of two -/
def ItZ (S1 S2 : Src) (K : PySem.W.Frag) (a b : Addr) : It :=
  ⟨fun i H => ∃ (xs ys : List V) (x y : V), S1.sq K H a xs ∧ S2.sq K H b ys ∧ xs[i]? = some x ∧ ys[i]? = some y,
    fun i H v H' => ∃ T x y, v = .ref T ∧ H T = none ∧ H' = upd H T (.tup [x, y]) ∧ (∀ xs, S1.sq K H a xs → xs[i]? = some x) ∧ ∀ ys, S2.sq K H b ys → ys[i]? = some y,
    fun i H => ∃ xs ys : List V, S1.sq K H a xs ∧ S2.sq K H b ys ∧ i ≤ xs.length ∧ i ≤ ys.length ∧ (i = xs.length ∨ i = ys.length)⟩
theorem turn_zipG (S1 S2 : Src) {P : Program} {w : World} {K : PySem.W.Frag} {elts : List Expr} {kk : Nat} {tpos : Pos} {a b z TI TO i1 i2 : Addr} (D : ZipSep2 z TI TO i1 i2 [i1, a] [i2, b]) (ha1 : a ≠ i1) (hb2 : b ≠ i2) :
    Turn P w K (.Tuple elts kk tpos) (ItZ S1 S2 K a b) [z, TI, TO, i1, i2] z (fun i h => IsZip h z TI TO .none ∧ IsTupOf2 h TI (.ref i1) (.ref i2) ∧ (∃ x y, IsTupOf2 h TO x y) ∧ S1.itr h i1 a i ∧ S2.itr h i2 b i) where
  mem := by simp
  obj := fun i h st c hc => by
    obtain ⟨hz, hTI, ⟨x, y, hTO⟩, h1, h2⟩ := st
    have e' : c = z ∨ c = TI ∨ c = TO ∨ c = i1 ∨ c = i2 := by simpa using hc
    rcases e' with q | q | q | q | q
    · rw [q]; exact ⟨_, hz, fun v q => nomatch q⟩
    · rw [q]; exact ⟨_, hTI, fun v q => nomatch q⟩
    · rw [q]; exact ⟨_, hTO, fun v q => nomatch q⟩
    · rw [q]; exact S1.obj h1
    · rw [q]; exact S2.obj h2
  keep := fun i h h' st k => by
    obtain ⟨hz, hTI, ⟨x, y, hTO⟩, h1, h2⟩ := st
    exact ⟨k z (by simp) _ hz, k TI (by simp) _ hTI, ⟨x, y, k TO (by simp) _ hTO⟩, S1.at_ h1 fun o q => k i1 (by simp) o q, S2.at_ h2 fun o q => k i2 (by simp) o q⟩
  item := by
    intro X hP hw hK hc i pins s σ H E I hf st hg
    subst hP hw hK
    obtain ⟨hz, hTI, ⟨x0, y0, hTO⟩, h1, h2⟩ := st
    obtain ⟨xs, ys, x, y, hqx, hqy, hx, hy⟩ := hg
    obtain ⟨its, rv, p⟩ := S1.inv I hqx
    obtain ⟨its2, rv2, p2⟩ := S2.inv I hqy
    obtain ⟨u, hu, ru⟩ := rv.get hx
    obtain ⟨u2, hu2, ru2⟩ := rv2.get hy
    have hzl : z < s.heap.objs.size := Heap.lt_size hz
    have hlt : i < its.toArray.size := by
      have q := (List.getElem?_eq_some_iff.mp hu).1
      simpa using q
    have hlt2 : i < its2.toArray.size := by
      have q := (List.getElem?_eq_some_iff.mp hu2).1
      simpa using q
    have hh : X.A.in1.handled = none := I.ok.hd hc
    refine wpAny_pyNext_zipD2_item D (S1.draws hh i1 a ha1 its.toArray) (S2.draws hh i2 b hb2 its2.toArray) hz hTI hTO ⟨h1, p⟩ ⟨h2, p2⟩ hlt hlt2 fun v v2 h' tk hv hv2 z' TO' st1 st2 hT hsz hk => ?_
    have ev : u = v := by
      have q : its[i]? = some v := by simpa using hv
      rw [hu] at q; cases q; rfl
    have ev2 : u2 = v2 := by
      have q : its2[i]? = some v2 := by simpa using hv2
      rw [hu2] at q; cases q; rfl
    subst ev ev2
    refine ⟨_, rfl, wpAny_letOwnedTupleGo_zip (s := { s with heap := h', toks := tk }) z' fun h'' z'' sb => ?_⟩
    have hT2 : h''.get? s.heap.objs.size = some { cls := .type "tuple", data := .seq #[u, u2] } := (sb.2 _ (Nat.ne_of_gt hzl)).trans hT
    have new : ObjOk X.prog X.w (upd H s.heap.objs.size (.tup [x, y])) h'' s.heap.objs.size (.tup [x, y]) :=
      ⟨by show 2 ≤ sizeLine; decide, [u, u2], .cons ru (.cons ru2 .nil), ⟨_, hT2, rfl, _, rfl⟩⟩
    have I1 : Inv X pins σ (upd H s.heap.objs.size (.tup [x, y])) { s with heap := h'', toks := tk } :=
      I.turnedNew (ch := [z, TI, TO, i1, i2]) (fun c o hb q => (sb.2 c (fun q' => hb (by simp [q']))).trans (hk c o (fun q' => hb (by simp [q'])) (fun q' => hb (by simp [q'])) (fun q' => hb (by simp [q'])) (fun q' => hb (by simp [q'])) q)) hf (Nat.le_refl _) new
    have zi1 : i1 ≠ z := fun q => D.zf1 (by simp [q])
    have zi2 : i2 ≠ z := fun q => D.zf2 (by simp [q])
    refine ⟨.ref s.heap.objs.size, _, I1, rfl, ⟨_, x, y, rfl, I.hok.fresh (Nat.le_refl _), rfl, fun l hl => by rw [S1.inj I hl hqx]; exact hx, fun l hl => by rw [S2.inj I hl hqy]; exact hy⟩, ⟨z'', ?_, ⟨u, u2, ?_⟩, ?_, ?_⟩, fun c hcm => ?_⟩
    · exact (sb.2 _ D.TIz).trans (hk _ _ D.TIz D.TITO D.TIi1 D.TIi2 hTI)
    · exact (sb.2 _ D.TOz).trans TO'
    · exact S1.at_ st1.1 fun o q => (sb.2 _ zi1).trans q
    · exact S2.at_ st2.1 fun o q => (sb.2 _ zi2).trans q
    · have hlt : c < s.heap.objs.size := by
        have e' : c = z ∨ c = TI ∨ c = TO ∨ c = i1 ∨ c = i2 := by simpa using hcm
        rcases e' with q | q | q | q | q
        · rw [q]; exact hzl
        · rw [q]; exact Heap.lt_size hTI
        · rw [q]; exact Heap.lt_size hTO
        · rw [q]; obtain ⟨_, e1, _⟩ := S1.obj h1; exact Heap.lt_size e1
        · rw [q]; obtain ⟨_, e2, _⟩ := S2.obj h2; exact Heap.lt_size e2
      rw [upd_ne (Nat.ne_of_lt hlt)]
      exact (hf c hcm).1
  done := by
    intro X hP hw hK hc i pins s σ H E I hf st hg
    subst hP hw hK
    obtain ⟨hz, hTI, ⟨x0, y0, hTO⟩, h1, h2⟩ := st
    obtain ⟨xs, ys, hqx, hqy, le1, le2, hend⟩ := hg
    obtain ⟨its, rv, p⟩ := S1.inv I hqx
    obtain ⟨its2, rv2, p2⟩ := S2.inv I hqy
    have l1 := rv.length
    have l2 := rv2.length
    have hh : X.A.in1.handled = none := I.ok.hd hc
    exact wpAny_pyNext_zipD2_end D (S1.draws hh i1 a ha1 its.toArray) (S2.draws hh i2 b hb2 its2.toArray) hz hTI hTO ⟨h1, p⟩ ⟨h2, p2⟩ (by rw [List.size_toArray]; omega) (by rw [List.size_toArray]; omega)
      (by rw [List.size_toArray, List.size_toArray]; omega) fun h' tk hk => ⟨rfl, I.turnedL (t' := tk) (ch := [z, TI, TO, i1, i2]) (fun c o hb q =>
      hk c o (fun q' => hb (by simp [q'])) (fun q' => hb (by simp [q'])) (fun q' => hb (by simp [q'])) (fun q' => hb (by simp [q'])) q) hf⟩
  self := fun A i s Q E st h => wpAny_pyIter_zip st.1 h
def iZpG (S1 S2 : Src) (K : PySem.W.Frag) (ta : TA) : TI := fun σ H R => ta σ H fun vs H1 => ∃ a b xs ys, vs = [.ref a, .ref b] ∧ S1.sq K H1 a xs ∧ S2.sq K H1 b ys ∧ R (ItZ S1 S2 K a b) H1
theorem zipG_run (S1 S2 : Src) {X : Cx} {pins : List (Addr × Obj)} {σ : L2.St} {H1 : Hp} {s1 : Shared} {us : List Value} {vs : List V} {elts : List Expr} {kk : Nat} {tpos : Pos} {R : It → Hp → Prop} (I1 : Inv X pins σ H1 s1) (r1 : Vals vs us)
    (q1 : ∃ (a b : Addr) (xs ys : List V), vs = [.ref a, .ref b] ∧ S1.sq X.K H1 a xs ∧ S2.sq X.K H1 b ys ∧ R (ItZ S1 S2 X.K a b) H1) :
    wpAny (model X.prog X.w) X.A (call (.type "zip") us) (fun v s1 => wpAny (model X.prog X.w) X.A (pyIter v) (PIE X pins σ (.Tuple elts kk tpos) R) X.xe s1) X.xe s1 := by
  obtain ⟨a, b, xs, ys, ex, hqx, hqy, q⟩ := q1
  subst ex
  cases r1 with
  | cons r rr =>
    cases rr with
    | cons r' rr =>
      cases rr
      cases r
      cases r'
      obtain ⟨its, rv, p1⟩ := S1.inv I1 hqx
      obtain ⟨its2, rv2, p2⟩ := S2.inv I1 hqy
      have la := S1.lt p1
      have lb := S2.lt p2
      refine zip_begins2 (S1.beg a its.toArray) (S2.beg b its2.toArray) p1 p2 fun h' hz hTI hTO h1 h2 hsz hk => wpAny_pyIter_zip hz ?_
      have I2 : Inv X pins σ H1 { s1 with heap := h' } := I1.kept (t' := s1.toks) hk
      refine ⟨s1.heap.objs.size + 4, [s1.heap.objs.size + 4, s1.heap.objs.size + 2, s1.heap.objs.size + 3, s1.heap.objs.size, s1.heap.objs.size + 1], _, _, H1, rfl, I2,
        turn_zipG S1 S2 (zip_sep2 (fp1 := [a]) (fp2 := [b]) (by intro c hc; rw [List.mem_singleton.mp hc]; exact la) (by intro c hc; rw [List.mem_singleton.mp hc]; exact lb)) (Nat.ne_of_lt la) (Nat.ne_of_lt (Nat.lt_succ_of_lt lb)),
        ⟨hz, hTI, ⟨_, _, hTO⟩, S1.start h1, S2.start h2⟩, fun c hcm => ?_, q⟩
      have e' : c = s1.heap.objs.size + 4 ∨ c = s1.heap.objs.size + 2 ∨ c = s1.heap.objs.size + 3 ∨ c = s1.heap.objs.size ∨ c = s1.heap.objs.size + 1 := by simpa using hcm
      have hle : s1.heap.objs.size ≤ c := by
        rcases e' with z | z | z | z | z
        · rw [z]; exact Nat.le_add_right _ _
        · rw [z]; exact Nat.le_add_right _ _
        · rw [z]; exact Nat.le_add_right _ _
        · rw [z]; exact Nat.le_refl _
        · rw [z]; exact Nat.le_add_right _ _
      exact I1.fpOk hle (I1.hok.fresh hle)

/-! ### for over them -/
theorem for_enumG (S : Src) {K : PySem.W.Frag} {a : Addr} {xs : List V} {g : TG} {tb : TS} {D : Ends} {σ : L2.St} {H : Hp} (Pv : Nat → L2.St → Hp → Prop) (h0 : Pv 0 σ H) (hq : ∀ i σ H, Pv i σ H → S.sq K H a xs)
    (hs : ∀ (i : Nat) (x : V) (T : Addr) (σ : L2.St) (H : Hp), xs[i]? = some x → Pv i σ H → H T = none → g (.ref T) σ (upd H T (.tup [.int (i : Nat), x])) fun σ2 H2 => tb { D with nx := Pv (i + 1), ct := Pv (i + 1), bk := D.nx } σ2 H2) (hd : ∀ σ H, Pv xs.length σ H → D.nx σ H) :
    ∃ W : Nat → Nat → L2.St → Hp → Prop, (∃ m, W 0 m σ H) ∧ ∀ i m σ H, W i m σ H →
      ((ItE S K a).stop i H ∧ D.nx σ H) ∨ ((ItE S K a).go i H ∧ ∃ N : L2.St → Hp → Prop, (∀ σ' H', N σ' H' → ∃ m', m' < m ∧ W (i + 1) m' σ' H') ∧ ∀ v H', (ItE S K a).yld i H v H' → g v σ H' fun σ2 H2 => tb { D with nx := N, ct := N, bk := D.nx } σ2 H2) := by
  refine ⟨fun i m σ H => m = xs.length - i ∧ i ≤ xs.length ∧ Pv i σ H, ⟨xs.length, rfl, Nat.zero_le _, h0⟩, ?_⟩
  rintro i m σ H ⟨rfl, hi, p⟩
  have qx := hq i σ H p
  by_cases hlt : i < xs.length
  · have hx : xs[i]? = some xs[i] := List.getElem?_eq_getElem hlt
    refine .inr ⟨⟨xs, _, qx, hx⟩, Pv (i + 1), fun σ' H' p' => ⟨xs.length - (i + 1), by omega, rfl, hlt, p'⟩, fun v H' y => ?_⟩
    obtain ⟨T, x', rfl, hT, rfl, f1⟩ := y
    exact hs i x' T σ H (f1 xs qx) p hT
  · have e : i = xs.length := by omega
    subst e
    exact .inl ⟨⟨xs, qx, rfl⟩, hd σ H p⟩
theorem for_zipG (S1 S2 : Src) {K : PySem.W.Frag} {a b : Addr} {xs ys : List V} {g : TG} {tb : TS} {D : Ends} {σ : L2.St} {H : Hp} (hl : xs.length = ys.length) (Pv : Nat → L2.St → Hp → Prop) (h0 : Pv 0 σ H) (hq : ∀ i σ H, Pv i σ H → S1.sq K H a xs ∧ S2.sq K H b ys)
    (hs : ∀ (i : Nat) (x y : V) (T : Addr) (σ : L2.St) (H : Hp), xs[i]? = some x → ys[i]? = some y → Pv i σ H → H T = none → g (.ref T) σ (upd H T (.tup [x, y])) fun σ2 H2 => tb { D with nx := Pv (i + 1), ct := Pv (i + 1), bk := D.nx } σ2 H2) (hd : ∀ σ H, Pv xs.length σ H → D.nx σ H) :
    ∃ W : Nat → Nat → L2.St → Hp → Prop, (∃ m, W 0 m σ H) ∧ ∀ i m σ H, W i m σ H →
      ((ItZ S1 S2 K a b).stop i H ∧ D.nx σ H) ∨ ((ItZ S1 S2 K a b).go i H ∧ ∃ N : L2.St → Hp → Prop, (∀ σ' H', N σ' H' → ∃ m', m' < m ∧ W (i + 1) m' σ' H') ∧ ∀ v H', (ItZ S1 S2 K a b).yld i H v H' → g v σ H' fun σ2 H2 => tb { D with nx := N, ct := N, bk := D.nx } σ2 H2) := by
  refine ⟨fun i m σ H => m = xs.length - i ∧ i ≤ xs.length ∧ Pv i σ H, ⟨xs.length, rfl, Nat.zero_le _, h0⟩, ?_⟩
  rintro i m σ H ⟨rfl, hi, p⟩
  obtain ⟨qx, qy⟩ := hq i σ H p
  by_cases hlt : i < xs.length
  · have hx : xs[i]? = some xs[i] := List.getElem?_eq_getElem hlt
    have hlt2 : i < ys.length := by omega
    have hy : ys[i]? = some ys[i] := List.getElem?_eq_getElem hlt2
    refine .inr ⟨⟨xs, ys, _, _, qx, qy, hx, hy⟩, Pv (i + 1), fun σ' H' p' => ⟨xs.length - (i + 1), by omega, rfl, hlt, p'⟩, fun v H' y => ?_⟩
    obtain ⟨T, x', y', rfl, hT, rfl, f1, f2⟩ := y
    exact hs i x' y' T σ H (f1 xs qx) (f2 ys qy) p hT
  · have e : i = xs.length := by omega
    subst e
    exact .inl ⟨⟨xs, ys, qx, qy, Nat.le_refl _, by omega, .inl rfl⟩, hd σ H p⟩

theorem for_zipLe (S1 S2 : Src) {K : PySem.W.Frag} {a b : Addr} {xs ys : List V} {g : TG} {tb : TS} {D : Ends} {σ : L2.St} {H : Hp} (hl : xs.length ≤ ys.length) (Pv : Nat → L2.St → Hp → Prop) (h0 : Pv 0 σ H) (hq : ∀ i σ H, Pv i σ H → S1.sq K H a xs ∧ S2.sq K H b ys)
    (hs : ∀ (i : Nat) (x y : V) (T : Addr) (σ : L2.St) (H : Hp), xs[i]? = some x → ys[i]? = some y → Pv i σ H → H T = none → g (.ref T) σ (upd H T (.tup [x, y])) fun σ2 H2 => tb { D with nx := Pv (i + 1), ct := Pv (i + 1), bk := D.nx } σ2 H2) (hd : ∀ σ H, Pv xs.length σ H → D.nx σ H) :
    ∃ W : Nat → Nat → L2.St → Hp → Prop, (∃ m, W 0 m σ H) ∧ ∀ i m σ H, W i m σ H →
      ((ItZ S1 S2 K a b).stop i H ∧ D.nx σ H) ∨ ((ItZ S1 S2 K a b).go i H ∧ ∃ N : L2.St → Hp → Prop, (∀ σ' H', N σ' H' → ∃ m', m' < m ∧ W (i + 1) m' σ' H') ∧ ∀ v H', (ItZ S1 S2 K a b).yld i H v H' → g v σ H' fun σ2 H2 => tb { D with nx := N, ct := N, bk := D.nx } σ2 H2) := by
  refine ⟨fun i m σ H => m = xs.length - i ∧ i ≤ xs.length ∧ Pv i σ H, ⟨xs.length, rfl, Nat.zero_le _, h0⟩, ?_⟩
  rintro i m σ H ⟨rfl, hi, p⟩
  obtain ⟨qx, qy⟩ := hq i σ H p
  by_cases hlt : i < xs.length
  · have hx : xs[i]? = some xs[i] := List.getElem?_eq_getElem hlt
    have hlt2 : i < ys.length := by omega
    have hy : ys[i]? = some ys[i] := List.getElem?_eq_getElem hlt2
    refine .inr ⟨⟨xs, ys, _, _, qx, qy, hx, hy⟩, Pv (i + 1), fun σ' H' p' => ⟨xs.length - (i + 1), by omega, rfl, hlt, p'⟩, fun v H' y => ?_⟩
    obtain ⟨T, x', y', rfl, hT, rfl, f1, f2⟩ := y
    exact hs i x' y' T σ H (f1 xs qx) (f2 ys qy) p hT
  · have e : i = xs.length := by omega
    subst e
    exact .inl ⟨⟨xs, ys, qx, qy, Nat.le_refl _, by omega, .inl rfl⟩, hd σ H p⟩

/-! ### two tuples of the same numbers -/
theorem canLay_ints : ∀ ns : List Nat, PyData.canLayAll0 (ns.map fun n : Nat => PyData.int (n : Int)) = true
  | [] => by simp [PyData.canLayAll0]
  | n :: r => by
    rw [List.map_cons, PyData.canLayAll0, canLay_ints r]
    simp [PyData.canLay0]
theorem depth_ints : ∀ ns : List Nat, PyData.depthAll (ns.map fun n : Nat => PyData.int (n : Int)) ≤ 1
  | [] => by simp [PyData.depthAll]
  | n :: r => by
    have := depth_ints r
    rw [List.map_cons, PyData.depthAll]
    simp [PyData.depth] <;> omega
theorem dp_ints {K : PySem.W.Frag} {H : Hp} : ∀ ns : List Nat, DpAll K H (ns.map vI) (ns.map fun n : Nat => PyData.int (n : Int))
  | [] => .nil
  | n :: r => .cons (.int _) (dp_ints r)
theorem shaped_ints (ns : List Nat) : SeqAt.shaped (.tuple (ns.map fun n : Nat => PyData.int (n : Int))) = true := by
  have h := depth_ints ns
  unfold SeqAt.shaped
  rw [PyData.canLay0, canLay_ints, Bool.true_and]
  refine decide_eq_true ?_
  rw [PyData.depth]
  omega
def rNeI (K : PySem.W.Frag) : R2 := fun x y H Q => ∃ (a b : Addr) (ns : List Nat), x = .ref a ∧ y = .ref b ∧ SqT K H a (ns.map vI) ∧ SqT K H b (ns.map vI) ∧ Q (.bl false) H
theorem op_neI {X : Cx} (hu : X.A.units + 64 < cLine) : OpR X (compareOp .NotEq) (rNeI X.K) := by
  intro pins s σ H x y v u Q I rx ry h
  obtain ⟨a, b, ns, rfl, rfl, ha, hb, q⟩ := h
  refine op_neD hu pins s σ H _ _ v u Q I rx ry ⟨_, _, .tup ha (dp_ints ns), .tup hb (dp_ints ns), shaped_ints ns, shaped_ints ns, ?_⟩
  rw [SeqAt.eqv_refl _ (SeqAt.canLay_of_shaped (shaped_ints ns))]
  exact q
def rEqI (K : PySem.W.Frag) : R2 := fun x y H Q => ∃ (a b : Addr) (ns : List Nat), x = .ref a ∧ y = .ref b ∧ SqT K H a (ns.map vI) ∧ SqT K H b (ns.map vI) ∧ Q (.bl true) H
theorem op_eqI {X : Cx} (hu : X.A.units + 64 < cLine) : OpR X (compareOp .Eq) (rEqI X.K) := by
  intro pins s σ H x y v u Q I rx ry h
  obtain ⟨a, b, ns, rfl, rfl, ha, hb, q⟩ := h
  refine op_eqD hu pins s σ H _ _ v u Q I rx ry ⟨_, _, .tup ha (dp_ints ns), .tup hb (dp_ints ns), shaped_ints ns, shaped_ints ns, ?_⟩
  rw [SeqAt.eqv_refl _ (SeqAt.canLay_of_shaped (shaped_ints ns))]
  exact q

/-! ### list.extend(tuple) -/
theorem ext_tupA (l : Addr) (items : Array Value) (n : Nat) (b : Addr) (items2 : Array Value) (n2 : Nat) (dd : Option Addr) (sl : Array (Option Value)) (hs0 : ¬(!items.isEmpty && Builtin.List.listTooLong (items.size + items2.size)) = true) (hs1 : items.size ≤ sizeLine) (hs2 : items.size + items2.size ≤ sizeLine + 1) :
    Meets (Builtin.«list.extend» ⟨[.ref l, .ref b], []⟩) (fun _ R s => s.heap.get? l = some { cls := .type "list", dict := none, data := .seq items n, slots := #[] } ∧ s.heap.get? b = some { cls := .type "tuple", dict := dd, data := .seq items2 n2, slots := sl } ∧ R (.ok (.ret Value.none)) { s with heap := s.heap.update l (Obj.mapSeq fun x => x ++ items2), toks := s.toks }) :=
  .of_wp fun prog w A R s h => by
    obtain ⟨hp, g, d, tk, os⟩ := s; obtain ⟨hl, hb, h⟩ := h; have f2 := sub_tuple_tuple; have f3 := sub_list_list; have f4 := sub_tuple_list; have f5 := sub_list_tuple
    have hz' : (items ++ items2).size ≤ sizeLine + 1 := by rw [Array.size_append]; exact hs2
    wp_walk using (wpAny_updateSeq hl rfl (hz := hs1) (_hz' := hz')), wpAny_loadPart' hl, wpAny_loadPart' hb
    exact ⟨_, rfl, h⟩
def rExtT (K : PySem.W.Frag) : V → List V → Hp → VK → Prop := fun x vs H Q => ∃ l b xs zs, x = .ref l ∧ vs = [.ref b] ∧ H l = some (.lst xs) ∧ SqT K H b zs ∧ xs.length + zs.length ≤ sizeLine ∧ Q .non (upd H l (.lst (xs ++ zs)))
theorem mt_extT {X : Cx} : MtM X "list.extend" (rExtT X.K) := by
  intro pins s σ H x vs v us Q I rx rv h
  obtain ⟨l, b, xs, zs, rfl, rfl, hH, hB, hz, q⟩ := h
  cases rx
  obtain ⟨u, rfl, ru⟩ := rv.one
  cases ru
  obtain ⟨z, its, n, r, hl, e⟩ := I.lstM hH
  obtain ⟨its2, r2, p2, hl2⟩ := I.tuple hB
  obtain ⟨⟨cls, dd, data, sl⟩, ho, hc, n2, hd⟩ := id p2
  simp only at hc hd
  subst hc hd
  have len2 := r2.length
  have hsz : its.toArray.size + its2.toArray.size ≤ sizeLine := by rw [List.size_toArray, List.size_toArray]; omega
  have hlong : ¬ (!its.toArray.isEmpty && Builtin.List.listTooLong (its.toArray.size + its2.toArray.size)) = true := by
    rw [notLongL hsz, Bool.and_false]
    exact Bool.false_ne_true
  refine call_meets F.slot_list_extend ⟨_, e, rfl⟩ F.entry_list_extend (F.args_list_extend_2 _ _)
    (ext_tupA l its.toArray n b its2.toArray n2 dd sl hlong (by rw [List.size_toArray]; omega) (by omega)) ⟨e, ho, ?_⟩
  refine ⟨.non, _, I.lset (its' := its ++ its2) hH e (by simp) (r.append r2) ?_, rfl, q⟩
  rw [List.length_append]
  omega

/-! ### the source as it comes -/
def iEnX (K : PySem.W.Frag) (ta : TA) : TI := fun σ H R => ta σ H fun vs H1 => ∃ (S : Src) (a : Addr) (xs : List V), vs = [.ref a] ∧ S.sq K H1 a xs ∧ R (ItE S K a) H1
theorem pi_enumX {X : Cx} {e : Expr} {ta : TA} {p pos tpos : Pos} {elts : List Expr} {kk : Nat} (hg : Gl X "enumerate") (hm : X.mg "enumerate" = none) (ha : PA X [e] ta) (hs : starEach [e] X.env = [(false, eval e X.env)] := by rfl) :
    PI X (.Tuple elts kk tpos) (.Call (.Name "enumerate" p) [e] [] pos) (iEnX X.K ta) := by
  refine ⟨fun pins s σ H R I h => ?_⟩
  have h' : ta σ H fun vs H1 => ∃ S : Src, ∃ (a : Addr) (xs : List V), vs = [.ref a] ∧ S.sq X.K H1 a xs ∧ R (ItE S X.K a) H1 := h
  refine Call_ (ld_blt I hg hm boot_enumerate (PyProof.Rows.callWith_type1 (thn (ha.run pos pins s σ H _ I h') fun us s1 ⟨vs, H1, I1, r1, q1⟩ => ?_) hs rfl))
  obtain ⟨S, a, xs, ex, hq, q⟩ := q1
  exact enumG_run S I1 r1 ⟨a, xs, ex, hq, q⟩
def iZpX (K : PySem.W.Frag) (ta : TA) : TI := fun σ H R => ta σ H fun vs H1 => ∃ (S1 S2 : Src) (a b : Addr) (xs ys : List V), vs = [.ref a, .ref b] ∧ S1.sq K H1 a xs ∧ S2.sq K H1 b ys ∧ R (ItZ S1 S2 K a b) H1
theorem pi_zipX {X : Cx} {e e2 : Expr} {ta : TA} {p pos tpos : Pos} {elts : List Expr} {kk : Nat} (hg : Gl X "zip") (hm : X.mg "zip" = none) (ha : PA X [e, e2] ta)
    (hs : starEach [e, e2] X.env = (false, eval e X.env) :: starEach [e2] X.env := by rfl) (hpl : (backTo pos (starEach [e2] X.env)).any (·.1) = false := by rfl) :
    PI X (.Tuple elts kk tpos) (.Call (.Name "zip" p) [e, e2] [] pos) (iZpX X.K ta) := by
  refine ⟨fun pins s σ H R I h => ?_⟩
  have h' : ta σ H fun vs H1 => ∃ S1 S2 : Src, ∃ (a b : Addr) (xs ys : List V), vs = [.ref a, .ref b] ∧ S1.sq X.K H1 a xs ∧ S2.sq X.K H1 b ys ∧ R (ItZ S1 S2 X.K a b) H1 := h
  refine Call_ (ld_blt I hg hm PyProof.Rows.boot_zip (PyProof.Rows.callWith_type1 (thn (ha.run pos pins s σ H _ I h') fun us s1 ⟨vs, H1, I1, r1, q1⟩ => ?_) hs hpl))
  obtain ⟨S1, S2, a, b, xs, ys, ex, hqx, hqy, q⟩ := q1
  exact zipG_run S1 S2 I1 r1 ⟨a, b, xs, ys, ex, hqx, hqy, q⟩
end Bf

set_option Elab.async false
set_option linter.all false
set_option maxRecDepth 100000
set_option maxHeartbeats 4000000
namespace Bf
open PySem PySem.Spec PyProof.Rows L2
/-! ### data of tuples, ints and texts, as they lie -/
mutual
inductive Lay (H : Hp) : V → PyData → Prop
  | non : Lay H .non .none
  | bl (b : Bool) : Lay H (.bl b) (.bool b)
  | int (i : Int) : Lay H (.int i) (.int i)
  | str (x : Str) : Lay H (.str x) (.str x)
  | tup {a : Addr} {xs : List V} {ds : List PyData} : H a = some (.tup xs) → LayAll H xs ds → Lay H (.ref a) (.tuple ds)
inductive LayAll (H : Hp) : List V → List PyData → Prop
  | nil : LayAll H [] []
  | cons {v : V} {vs : List V} {d : PyData} {ds : List PyData} : Lay H v d → LayAll H vs ds → LayAll H (v :: vs) (d :: ds)
end
/-- what is tracked as a tuple in H is so in H' -/
def KeepT (H H' : Hp) : Prop := ∀ b xs, H b = some (.tup xs) → H' b = some (.tup xs)
theorem KeepT.refl (H : Hp) : KeepT H H := fun _ _ h => h
theorem KeepT.same {H H' : Hp} (k : Same H H') : KeepT H H' := fun b xs h => k _ _ h
theorem KeepT.trans {H H1 H2 : Hp} (a : KeepT H H1) (b : KeepT H1 H2) : KeepT H H2 := fun c o h => b c o (a c o h)
theorem KeepT.new {H : Hp} {p : Addr} {o : HO} (h : H p = none) : KeepT H (upd H p o) := fun b u q => by rw [upd_ne (ne_of_none q h)]; exact q
theorem KeepT.lst {H : Hp} {p : Addr} {o : HO} {l : List V} (h : H p = some (.lst l)) : KeepT H (upd H p o) := fun b u q => by
  rw [upd_ne (fun e => by rw [e, h] at q; cases q)]
  exact q
mutual
theorem Lay.keep {H H' : Hp} (k : KeepT H H') : ∀ (d : PyData) (v : V), Lay H v d → Lay H' v d
  | .none, _, h => by cases h; exact .non
  | .bool b, _, h => by cases h; exact .bl b
  | .int i, _, h => by cases h; exact .int i
  | .str x, _, h => by cases h; exact .str x
  | .list ds, _, h => by cases h
  | .tuple ds, _, h => by
    cases h with
    | tup e a => exact .tup (k _ _ e) (LayAll.keep k ds _ a)
  | .dict _, _, h => by cases h
theorem LayAll.keep {H H' : Hp} (k : KeepT H H') : ∀ (ds : List PyData) (vs : List V), LayAll H vs ds → LayAll H' vs ds
  | [], _, h => by cases h; exact .nil
  | d :: ds, _, h => by
    cases h with
    | cons a b => exact .cons (Lay.keep k d _ a) (LayAll.keep k ds _ b)
end
mutual
theorem Lay.dp {K : PySem.W.Frag} {H : Hp} : ∀ (d : PyData) (v : V), Lay H v d → Dp K H v d
  | .none, _, h => by cases h; exact .non
  | .bool b, _, h => by cases h; exact .bl b
  | .int i, _, h => by cases h; exact .int i
  | .str x, _, h => by cases h; exact .str x
  | .list ds, _, h => by cases h
  | .tuple ds, _, h => by
    cases h with
    | tup e a => exact .tup (SqT.of e) (LayAll.dp ds _ a)
  | .dict _, _, h => by cases h
theorem LayAll.dp {K : PySem.W.Frag} {H : Hp} : ∀ (ds : List PyData) (vs : List V), LayAll H vs ds → DpAll K H vs ds
  | [], _, h => by cases h; exact .nil
  | d :: ds, _, h => by
    cases h with
    | cons a b => exact .cons (Lay.dp d _ a) (LayAll.dp ds _ b)
end
theorem Lay.keep' {H H' : Hp} {d : PyData} {v : V} (h : Lay H v d) (k : KeepT H H') : Lay H' v d := Lay.keep k d v h
theorem LayAll.keep' {H H' : Hp} {ds : List PyData} {vs : List V} (h : LayAll H vs ds) (k : KeepT H H') : LayAll H' vs ds := LayAll.keep k ds vs h
theorem Lay.dp' {K : PySem.W.Frag} {H : Hp} {d : PyData} {v : V} (h : Lay H v d) : Dp K H v d := Lay.dp d v h
theorem LayAll.len {H : Hp} : ∀ {vs : List V} {ds : List PyData}, LayAll H vs ds → vs.length = ds.length
  | _, _, .nil => rfl
  | _, _, .cons _ h => by rw [List.length_cons, List.length_cons, h.len]
theorem LayAll.get {H : Hp} {v : V} : ∀ {vs : List V} {ds : List PyData} (i : Nat), LayAll H vs ds → vs[i]? = some v → ∃ d, ds[i]? = some d ∧ Lay H v d
  | [], _, _, _, e => by simp at e
  | _ :: _, _, 0, h, e => by
    cases h with
    | cons a b => cases e; exact ⟨_, rfl, a⟩
  | x :: vs, ds, i + 1, h, e => by
    cases h with
    | cons a b =>
      obtain ⟨d, q, l⟩ := LayAll.get (vs := vs) i b (by simpa using e)
      exact ⟨d, by simpa using q, l⟩
theorem LayAll.at_ {H : Hp} {d : PyData} : ∀ {vs : List V} {ds : List PyData} (i : Nat), LayAll H vs ds → ds[i]? = some d → ∃ v, vs[i]? = some v ∧ Lay H v d
  | _, [], _, _, e => by simp at e
  | _, _ :: _, 0, h, e => by
    cases h with
    | cons a b => cases e; exact ⟨_, rfl, a⟩
  | vs, x :: ds, i + 1, h, e => by
    cases h with
    | cons a b =>
      obtain ⟨d, q, l⟩ := LayAll.at_ (ds := ds) i b (by simpa using e)
      exact ⟨d, by simpa using q, l⟩
theorem LayAll.app {H : Hp} : ∀ {vs us : List V} {ds es : List PyData}, LayAll H vs ds → LayAll H us es → LayAll H (vs ++ us) (ds ++ es)
  | _, _, _, _, .nil, h => h
  | _, _, _, _, .cons a b, h => .cons a (b.app h)
theorem LayAll.snoc {H : Hp} {vs : List V} {ds : List PyData} {v : V} {d : PyData} (h : LayAll H vs ds) (a : Lay H v d) : LayAll H (vs ++ [v]) (ds ++ [d]) := h.app (.cons a .nil)
theorem LayAll.ints {H : Hp} : ∀ ns : List Nat, LayAll H (ns.map vI) (ns.map fun n : Nat => PyData.int (n : Int))
  | [] => .nil
  | n :: ns => .cons (.int _) (LayAll.ints ns)
theorem LayAll.ints_inv {H : Hp} : ∀ {ns : List Nat} {vs : List V}, LayAll H vs (ns.map fun n : Nat => PyData.int (n : Int)) → vs = ns.map vI
  | [], _, .nil => rfl
  | n :: ns, _, .cons (.int _) h => by rw [LayAll.ints_inv h]; rfl
theorem LayAll.strs_inv {H : Hp} : ∀ {ns : List Str} {vs : List V}, LayAll H vs (ns.map PyData.str) → vs = ns.map V.str
  | [], _, .nil => rfl
  | n :: ns, _, .cons (.str _) h => by rw [LayAll.strs_inv h]; rfl
theorem LayAll.strs {H : Hp} : ∀ ns : List Str, LayAll H (ns.map V.str) (ns.map PyData.str)
  | [] => .nil
  | n :: ns => .cons (.str _) (LayAll.strs ns)
theorem Lay.tup_inv {H : Hp} {v : V} {ds : List PyData} (h : Lay H v (.tuple ds)) : ∃ p vs, v = .ref p ∧ H p = some (.tup vs) ∧ LayAll H vs ds := by
  cases h with
  | tup e a => exact ⟨_, _, rfl, e, a⟩
theorem Lay.int_inv {H : Hp} {v : V} {i : Int} (h : Lay H v (.int i)) : v = .int i := by cases h; rfl
theorem Lay.str_inv {H : Hp} {v : V} {z : Str} (h : Lay H v (.str z)) : v = .str z := by cases h; rfl
theorem LayAll.nil_inv {H : Hp} {vs : List V} (h : LayAll H vs []) : vs = [] := by cases h; rfl
theorem LayAll.cons_inv {H : Hp} {vs : List V} {d : PyData} {ds : List PyData} (h : LayAll H vs (d :: ds)) : ∃ v us, vs = v :: us ∧ Lay H v d ∧ LayAll H us ds := by
  cases h with
  | cons a b => exact ⟨_, _, rfl, a, b⟩
/-! ### the shapes that == serves -/
def Sh (k : Nat) (d : PyData) : Prop := d.canLay0 = true ∧ d.depth ≤ k
theorem Sh.int (k : Nat) (i : Int) : Sh k (.int i) := ⟨by simp only [PyData.canLay0], by simp only [PyData.depth]; omega⟩
theorem Sh.all {k : Nat} : ∀ {ds : List PyData}, (∀ d ∈ ds, Sh k d) → PyData.canLayAll0 ds = true ∧ PyData.depthAll ds ≤ k
  | [], _ => ⟨by simp only [PyData.canLayAll0], by simp only [PyData.depthAll]; omega⟩
  | d :: ds, h => by
    have a := h d (by simp)
    have b := Sh.all (ds := ds) fun e he => h e (by simp [he])
    refine ⟨?_, ?_⟩
    · simp only [PyData.canLayAll0]
      rw [a.1, b.1]
      rfl
    · simp only [PyData.depthAll]
      have := a.2
      have := b.2
      omega
theorem Sh.tup {k : Nat} {ds : List PyData} (h : ∀ d ∈ ds, Sh k d) : Sh (k + 1) (.tuple ds) := by
  have q := Sh.all h
  exact ⟨by simp only [PyData.canLay0]; exact q.1, by simp only [PyData.depth]; omega⟩
theorem Sh.lst {k : Nat} {ds : List PyData} (h : ∀ d ∈ ds, Sh k d) : Sh (k + 1) (.list ds) := by
  have q := Sh.all h
  exact ⟨by simp only [PyData.canLay0]; exact q.1, by simp only [PyData.depth]; omega⟩
theorem Sh.shaped {k : Nat} {d : PyData} (h : Sh k d) (hk : k ≤ 64) : SeqAt.shaped d = true := by
  show (d.canLay0 && decide (d.depth ≤ 64)) = true
  rw [Bool.and_eq_true]
  exact ⟨h.1, decide_eq_true (by have := h.2; omega)⟩
mutual
theorem eqv_self : ∀ d : PyData, d.canLay0 = true → PyData.eqv d d = true
  | .none, _ => by simp [PyData.eqv]
  | .bool b, _ => by simp [PyData.eqv]
  | .int i, _ => by simp [PyData.eqv]
  | .str x, _ => by simp [PyData.eqv]
  | .list ds, h => by
    simp only [PyData.canLay0] at h
    simp only [PyData.eqv]
    exact eqvAll_self ds h
  | .tuple ds, h => by
    simp only [PyData.canLay0] at h
    simp only [PyData.eqv]
    exact eqvAll_self ds h
  | .dict _, h => by simp [PyData.canLay0] at h
theorem eqvAll_self : ∀ ds : List PyData, PyData.canLayAll0 ds = true → PyData.eqvAll ds ds = true
  | [], _ => by simp [PyData.eqvAll]
  | d :: ds, h => by
    simp only [PyData.canLayAll0, Bool.and_eq_true] at h
    simp only [PyData.eqvAll, Bool.and_eq_true]
    exact ⟨eqv_self d h.1, eqvAll_self ds h.2⟩
end
/-! ### bits of numbers that are not negative -/
section
variable {X : Cx}
theorem op_xorB : OpR X (binaryOp .BitXor) (fun x y H Q => ∃ n m : Nat, x = .int (n : Int) ∧ y = .int (m : Int) ∧ Q (vI (n ^^^ m)) H) := by
  intro pins s σ H x y v u Q I rx ry h
  obtain ⟨n, m, rfl, rfl, q⟩ := h
  refine op_xor pins s σ H _ _ v u Q I rx ry ⟨_, _, rfl, rfl, ?_⟩
  show Q (V.int (Builtin.bitXor (n : Int) (m : Int))) H
  rw [Bits.bitXor_pp (Int.natCast_nonneg _) (Int.natCast_nonneg _)]
  exact q
theorem op_andB : OpR X (binaryOp .BitAnd) (fun x y H Q => ∃ n m : Nat, x = .int (n : Int) ∧ y = .int (m : Int) ∧ Q (vI (n &&& m)) H) := by
  intro pins s σ H x y v u Q I rx ry h
  obtain ⟨n, m, rfl, rfl, q⟩ := h
  refine op_and pins s σ H _ _ v u Q I rx ry ⟨_, _, rfl, rfl, ?_⟩
  show Q (V.int (Builtin.bitAnd (n : Int) (m : Int))) H
  rw [bitAnd_pp (Int.natCast_nonneg _) (Int.natCast_nonneg _)]
  exact q
theorem op_orB : OpR X (binaryOp .BitOr) (fun x y H Q => ∃ n m : Nat, x = .int (n : Int) ∧ y = .int (m : Int) ∧ Q (vI (n ||| m)) H) := by
  intro pins s σ H x y v u Q I rx ry h
  obtain ⟨n, m, rfl, rfl, q⟩ := h
  refine op_or pins s σ H _ _ v u Q I rx ry ⟨_, _, rfl, rfl, ?_⟩
  show Q (V.int (Builtin.bitOr (n : Int) (m : Int))) H
  rw [Bits.bitOr_pp (Int.natCast_nonneg _) (Int.natCast_nonneg _)]
  exact q
end
/-! ### wide numbers that are not negative -/
theorem natAbs_cast (n : Nat) : ((n : Int)).natAbs = n := rfl
section
variable {X : Cx}
theorem op_fdivNW : OpR X (binaryOp .FloorDiv) (fun x y H Q => ∃ n m : Nat, x = .int (n : Int) ∧ y = .int (m : Int) ∧ (1 ≤ m ∧ m < 2 ^ 9000) ∧ Q (vI (n / m)) H) := by
  intro pins s σ H x y v u Q I rx ry h
  obtain ⟨n, m, rfl, rfl, ⟨h1, h2⟩, q⟩ := h
  exact op_fdivW pins s σ H _ _ v u Q I rx ry ⟨_, _, rfl, rfl, wide_div (b := 9000) (by omega) h2 (by omega) (by omega), q⟩
theorem op_mulNW : OpR X (binaryOp .Mult) (fun x y H Q => ∃ n m : Nat, x = .int (n : Int) ∧ y = .int (m : Int) ∧ (n < 2 ^ 100000 ∧ m < 2 ^ 100000) ∧ Q (vI (n * m)) H) := by
  intro pins s σ H x y v u Q I rx ry h
  obtain ⟨n, m, rfl, rfl, ⟨h1, h2⟩, q⟩ := h
  refine op_mulW pins s σ H _ _ v u Q I rx ry ⟨_, _, rfl, rfl, wide_mul (a := 100000) (b := 100000) h1 h2 (by omega) (by omega) (by omega), ?_⟩
  show Q (V.int ((n : Int) * (m : Int))) H
  rw [← Int.natCast_mul]
  exact q
theorem op_shlNN : OpR X (binaryOp .LShift) (fun x y H Q => ∃ n k : Nat, x = .int (n : Int) ∧ y = .int (k : Int) ∧ (n < 2 ^ 100000 ∧ k ≤ 100000) ∧ Q (vI (n * 2 ^ k)) H) := by
  intro pins s σ H x y v u Q I rx ry h
  obtain ⟨n, k, rfl, rfl, ⟨h1, h2⟩, q⟩ := h
  refine op_shlN pins s σ H _ _ v u Q I rx ry ⟨_, k, rfl, rfl, shl_ok (n := 100000) h1 (by omega), ?_⟩
  have e : ((n : Int) * 2 ^ k) = ((n * 2 ^ k : Nat) : Int) := by simp
  rw [e]
  exact q
theorem op_oneShlN : OpR X (binaryOp .LShift) (fun x y H Q => ∃ k : Nat, x = .int 1 ∧ y = .int (k : Int) ∧ k ≤ 134217727 ∧ Q (vI (2 ^ k)) H) := by
  intro pins s σ H x y v u Q I rx ry h
  obtain ⟨k, rfl, rfl, h1, q⟩ := h
  refine op_oneShl pins s σ H _ _ v u Q I rx ry ⟨k, rfl, rfl, h1, ?_⟩
  have e : ((2 : Int) ^ k) = ((2 ^ k : Nat) : Int) := by simp
  rw [e]
  exact q
end
/-! ### walks -/
theorem walk_enumG (S : Src) {K : PySem.W.Frag} {a : Addr} {xs : List V} : Walk (ItE S K a) xs.length (fun H => S.sq K H a xs) (YPair (fun i => some (.int (i : Nat))) (fun i => xs[i]?)) := by
  refine ⟨fun i _ hi q => ⟨xs, xs[i], q, by simp [hi]⟩, fun _ q => ⟨xs, q, rfl⟩, fun i H v H' _ q y => ?_⟩
  obtain ⟨T, x, h1, h2, h3, h4⟩ := y
  exact ⟨T, .int (i : Nat), x, h1, h2, h3, rfl, h4 xs q⟩
def rLenK (K : PySem.W.Frag) (xs : List V) (H : Hp) (Q : V → Hp → Prop) : Prop := ∃ p ys, xs = [.ref p] ∧ (SqL K H p ys ∨ SqT K H p ys) ∧ Q (.int ys.length) H
theorem call_lenK {X : Cx} : CallR X (.builtin "len") (rLenK X.K) := call_len_seq
/-! ### small facts -/
theorem refAt {ts : List Addr} {i : Nat} {x : V} (h : (ts.map V.ref)[i]? = some x) : ∃ t, ts[i]? = some t ∧ x = .ref t := by
  rw [List.getElem?_map] at h
  cases e : ts[i]? with
  | none => rw [e] at h; cases h
  | some k => rw [e] at h; exact ⟨k, rfl, (Option.some.inj h).symm⟩
theorem natAt {xs : List Nat} {i : Nat} {x : V} (h : (xs.map vI)[i]? = some x) : ∃ k, xs[i]? = some k ∧ x = vI k := by
  rw [List.getElem?_map] at h
  cases e : xs[i]? with
  | none => rw [e] at h; cases h
  | some k => rw [e] at h; exact ⟨k, rfl, (Option.some.inj h).symm⟩
theorem mapAt {α : Type} {f : α → V} {xs : List α} {i : Nat} {x : V} (h : (xs.map f)[i]? = some x) : ∃ k, xs[i]? = some k ∧ x = f k := by
  rw [List.getElem?_map] at h
  cases e : xs[i]? with
  | none => rw [e] at h; cases h
  | some k => rw [e] at h; exact ⟨k, rfl, (Option.some.inj h).symm⟩
theorem mapAtD {α : Type} {f : α → PyData} {xs : List α} {i : Nat} {x : PyData} (h : (xs.map f)[i]? = some x) : ∃ k, xs[i]? = some k ∧ x = f k := by
  rw [List.getElem?_map] at h
  cases e : xs[i]? with
  | none => rw [e] at h; cases h
  | some k => rw [e] at h; exact ⟨k, rfl, (Option.some.inj h).symm⟩
theorem take_snoc {α : Type} {l : List α} {i : Nat} {x : α} (h : l[i]? = some x) : l.take (i + 1) = l.take i ++ [x] := by
  rw [List.take_add_one, h]
  rfl
theorem same_two {H H' : Hp} {p : Addr} {o : HO} (k : Same H H') (hp : H p = none) : Same H (upd H' p o) := fun b u q => by
  rw [upd_ne (ne_of_none q hp)]
  exact k _ _ q
theorem i62 {n : Nat} (h : n ≤ 1000) : -(2 ^ 62) ≤ (n : Int) ∧ (n : Int) < 2 ^ 62 := by
  have a : (-(2 ^ 62) : Int) ≤ 0 := by decide
  have b : (1001 : Int) ≤ 2 ^ 62 := by decide
  exact ⟨Int.le_trans a (Int.natCast_nonneg _), Int.lt_of_lt_of_le (by omega) b⟩
theorem vInt {i : Int} {n : Nat} (h : i = (n : Int)) : V.int i = vI n := by rw [h]; rfl
theorem all_true : ∀ n : Nat, (List.replicate n true).all id = true
  | 0 => rfl
  | n + 1 => by
    rw [List.replicate_succ, List.all_cons, all_true n]
    rfl
theorem len1000 {n : Nat} (h : n ≤ 1000) : n < sizeLine := small1000 h
end Bf

set_option Elab.async false
set_option linter.all false
set_option maxRecDepth 100000
set_option maxHeartbeats 4000000
namespace Bf
open PySem PySem.Spec PyProof.Rows L2
/-! ### ints in sequences; slices of tuples -/
theorem eqV_int (a b : Nat) : eqV (vI a) (vI b) = decide (a = b) := by
  show (((a : Int)) == (b : Int)) = _
  by_cases h : a = b
  · subst h; simp
  · rw [decide_eq_false h]
    simp
    omega
theorem inV_int (x : Nat) (xs : List Nat) : inV (vI x) (xs.map vI) = decide (x ∈ xs) := by
  induction xs with
  | nil => rfl
  | cons a r ih =>
    show (eqV (vI a) (vI x) || inV (vI x) (r.map vI)) = decide (x ∈ a :: r)
    rw [ih, eqV_int]
    by_cases h : a = x
    · subst h; simp
    · by_cases h2 : x ∈ r
      · simp [h2]
      · have : x ≠ a := fun e => h e.symm
        simp [h, h2, this]
theorem flat_ints : ∀ xs : List Nat, (xs.map vI).all flatV = true
  | [] => rfl
  | a :: r => by
    rw [List.map_cons, List.all_cons, flat_ints r]
    rfl
theorem rdIndex {xs : List Nat} {f j : Nat} (hj : xs[j]? = some f) (hn : ∀ m, m < j → xs[m]? ≠ some f) :
    ∃ z : V, (xs.map vI)[j]? = some z ∧ eqV z (vI f) = true ∧ ∀ (m : Nat) (z' : V), m < j → (xs.map vI)[m]? = some z' → eqV z' (vI f) = false := by
  refine ⟨vI f, by rw [List.getElem?_map, hj]; rfl, by rw [eqV_int]; simp, fun m z' hm hz => ?_⟩
  obtain ⟨k, hk, rfl⟩ := natAt hz
  rw [eqV_int]
  exact decide_eq_false fun e => hn m hm (by rw [hk, e])
theorem cut_map {xs : List Nat} {lo hi : Option Int} {i j : Nat} (h1 : HT.sIx xs.length 0 lo = i) (h2 : HT.sIx xs.length xs.length hi = j) : cutV (xs.map vI) lo hi = ((xs.drop i).take (j - i)).map vI := by
  unfold cutV
  rw [List.length_map, h1, h2, ← List.map_drop, ← List.map_take]
theorem rdCut {K : PySem.W.Frag} {H : Hp} {b : Addr} {xs : List Nat} {lo hi : Option Int} {i j : Nat} {Q : VK} (hb : SqT K H b (xs.map vI)) (h1 : HT.sIx xs.length 0 lo = i) (h2 : HT.sIx xs.length xs.length hi = j)
    (k : ∀ (t : Addr) (H' : Hp), Same H H' → SqT K H' t (((xs.drop i).take (j - i)).map vI) → Q (.ref t) H') : rSlA K (.ref b) lo hi H Q := by
  refine ⟨b, xs.map vI, rfl, hb, fun hw => ?_, fun hw p hp => ?_⟩
  · rw [List.length_map, h1, h2] at hw
    obtain ⟨w1, w2⟩ := hw
    subst w1 w2
    refine k b H (Same.refl _) ?_
    rw [List.drop_zero, Nat.sub_zero, List.take_length]
    exact hb
  · refine k p _ (fun b u q => by rw [upd_ne (ne_of_none q hp)]; exact q) ?_
    rw [← cut_map h1 h2]
    exact SqT.of upd_same
theorem sIx_neg {n d k : Nat} (h : 1 ≤ k) : HT.sIx n d (some (-(k : Int))) = n - k := by
  show (if (-(k : Int)) < 0 then ((-(k : Int)) + (n : Int)).toNat else min (-(k : Int)).toNat n) = n - k
  rw [if_pos (by omega)]
  omega
theorem qI {Q : VK} {H : Hp} {i : Int} {n : Nat} (h : i = (n : Int)) (q : Q (vI n) H) : Q (V.int i) H := by
  rw [h]
  exact q
end Bf

set_option Elab.async false
set_option linter.all false
set_option maxRecDepth 100000
set_option maxHeartbeats 4000000
namespace Bf
open PySem PySem.Spec PyProof.Rows L2
/-! ### comprehensions over rows that lie there; each row gives a datum -/
theorem lc_rows {J : It} {xs : List V} {G : Hp → Prop} (w : Walk J xs.length G (YAt xs)) {α β : Type} {rows : List α} {f : α → PyData} {g : α → β} {h : β → PyData} {tg : TG} {te : TE} {vs : List Nat} {σ : L2.St} {H1 : Hp} {D : Addr} {Qd : Hp → Prop}
    (hG : ∀ H', Same H1 H' → G H') (hD : H1 D = none) (lay : LayAll H1 xs (rows.map f)) (hl : rows.length ≤ 1000)
    (hs : ∀ (i : Nat) (x : V) (r : α) (H' : Hp) (R : V → Hp → Prop) (Z : Hp → Prop), rows[i]? = some r → Same H1 H' → Lay H' x (f r) → (∀ y H4, Same H' H4 → Lay H4 y (h (g r)) → R y H4) →
      tg x (wipe σ vs) H' fun σ2 H2 => wipe σ2 vs = wipe σ vs ∧ tYes σ2 H2 fun b H3 => if b = true then te σ2 H3 R else Z H3)
    (hd : ∀ us H', Same H1 H' → H' D = some (.lst us) → LayAll H' us ((rows.map g).map h) → Qd H') :
    ∃ W : Nat → Nat → Hp → Prop, (∃ m, W 0 m (upd H1 D (.lst []))) ∧ ∀ i m H, W i m H →
      (J.stop i H ∧ Qd H) ∨ (J.go i H ∧ ∃ Nx : Hp → Prop, (∀ H', Nx H' → ∃ m', m' < m ∧ W (i + 1) m' H') ∧ ∀ x H', J.yld i H x H' → tg x (wipe σ vs) H' fun σ2 H2 => wipe σ2 vs = wipe σ vs ∧ tYes σ2 H2 fun b H3 =>
        if b = true then te σ2 H3 fun y H4 => ∃ acc, H4 D = some (.lst acc) ∧ acc.length < sizeLine ∧ Nx (upd H4 D (.lst (acc ++ [y]))) else Nx H3) := by
  have ll := lay.len
  rw [List.length_map] at ll
  refine lc_it w (fun i H' => Same H1 H' ∧ ∃ us, H' D = some (.lst us) ∧ LayAll H' us (((rows.take i).map g).map h)) ⟨same_two (.refl _) hD, [], upd_same, .nil⟩ (fun i H' _ p => hG _ p.1) (fun i x H' H2 hi p y => ?_) (fun H' p => ?_)
  · obtain ⟨sm, us, eD, lu⟩ := p
    obtain ⟨rfl, hx⟩ := y
    obtain ⟨d, hd', ld⟩ := (lay.keep' (.same sm)).get i hx
    obtain ⟨r, hr, rfl⟩ := mapAtD hd'
    refine hs i x r H2 _ _ hr sm ld (fun y H4 s4 ly => ?_)
    have lul := lu.len
    rw [List.length_map, List.length_map, List.length_take] at lul
    refine ⟨us, s4 _ _ eD, len1000 (by omega), same_two (sm.trans s4) hD, us ++ [y], upd_same, ?_⟩
    rw [take_snoc hr, List.map_append, List.map_append]
    exact ((lu.keep' (.same s4)).snoc ly).keep' (.lst (s4 _ _ eD))
  · obtain ⟨sm, us, eD, lu⟩ := p
    rw [ll, List.take_length] at lu
    exact hd us H' sm eD lu
theorem lay_ints {H : Hp} {us : List V} {ns : List Nat} (h : LayAll H us (ns.map fun n : Nat => PyData.int (n : Int))) : us = ns.map vI := h.ints_inv
/-- range(n) gives data -/
theorem lc_rangeL {n : Nat} {β : Type} {g : Nat → β} {h : β → PyData} {tg : TG} {te : TE} {vs : List Nat} {σ : L2.St} {H1 : Hp} {D : Addr} {Qd : Hp → Prop} (hD : H1 D = none) (hl : n ≤ 1000)
    (hs : ∀ (i : Nat) (H' : Hp) (R : V → Hp → Prop) (Z : Hp → Prop), i < n → Same H1 H' → (∀ y H4, Same H' H4 → Lay H4 y (h (g i)) → R y H4) →
      tg (.int (0 + (i : Int))) (wipe σ vs) H' fun σ2 H2 => wipe σ2 vs = wipe σ vs ∧ tYes σ2 H2 fun b H3 => if b = true then te σ2 H3 R else Z H3)
    (hd : ∀ us H', Same H1 H' → H' D = some (.lst us) → LayAll H' us (((List.range n).map g).map h) → Qd H') :
    ∃ W : Nat → Nat → Hp → Prop, (∃ m, W 0 m (upd H1 D (.lst []))) ∧ ∀ i m H, W i m H →
      ((Itr 0 n).stop i H ∧ Qd H) ∨ ((Itr 0 n).go i H ∧ ∃ Nx : Hp → Prop, (∀ H', Nx H' → ∃ m', m' < m ∧ W (i + 1) m' H') ∧ ∀ x H', (Itr 0 n).yld i H x H' → tg x (wipe σ vs) H' fun σ2 H2 => wipe σ2 vs = wipe σ vs ∧ tYes σ2 H2 fun b H3 =>
        if b = true then te σ2 H3 fun y H4 => ∃ acc, H4 D = some (.lst acc) ∧ acc.length < sizeLine ∧ Nx (upd H4 D (.lst (acc ++ [y]))) else Nx H3) := by
  refine lc_it walk_range (fun i H' => Same H1 H' ∧ ∃ us, H' D = some (.lst us) ∧ LayAll H' us (((List.range i).map g).map h)) ⟨same_two (.refl _) hD, [], upd_same, .nil⟩ (fun i H' _ p => trivial) (fun i x H' H2 hi p y => ?_) (fun H' p => ?_)
  · obtain ⟨sm, us, eD, lu⟩ := p
    obtain ⟨rfl, rfl⟩ := y
    refine hs i H2 _ _ hi sm (fun y H4 s4 ly => ?_)
    have lul := lu.len
    rw [List.length_map, List.length_map, List.length_range] at lul
    refine ⟨us, s4 _ _ eD, len1000 (by omega), same_two (sm.trans s4) hD, us ++ [y], upd_same, ?_⟩
    rw [List.range_succ, List.map_append, List.map_append]
    exact ((lu.keep' (.same s4)).snoc ly).keep' (.lst (s4 _ _ eD))
  · obtain ⟨sm, us, eD, lu⟩ := p
    exact hd us H' sm eD lu
theorem flat_rep (n : Nat) : (List.replicate n [V.int 0]).flatten = (List.replicate n 0).map vI := by
  induction n with
  | zero => rfl
  | succ n ih =>
    rw [List.replicate_succ, List.flatten_cons, ih, List.replicate_succ]
    rfl
theorem set_vI (l : List Nat) (i x : Nat) : (l.map vI).set i (vI x) = (l.set i x).map vI := by rw [List.map_set]
theorem ixN_nat {n i : Nat} (h : i < n) : ixN n (i : Int) = some i := by
  have : atI (List.range n) (i : Int) = some i := atI_nat (by rw [List.getElem?_range h])
  unfold atI at this
  cases e : ixN n (i : Int) with
  | none => rw [List.length_range, e] at this; cases this
  | some j =>
    rw [List.length_range, e] at this
    have q : (List.range n)[j]? = some i := this
    have hj : j < n := by
      have := (List.getElem?_eq_some_iff.mp q).1
      simpa using this
    rw [List.getElem?_range hj] at q
    rw [Option.some.inj q]
end Bf

set_option Elab.async false
set_option linter.all false
set_option maxRecDepth 100000
set_option maxHeartbeats 4000000
namespace Bf
open PySem PySem.Spec PyProof.Rows L2
/-! ### set(list of ints), so that it can be sorted: what set() has, member by member -/
theorem ints_at : ∀ {us : List Value} {xs : List Int}, IntsAre us xs → ∀ (i : Nat) (v : Value), us[i]? = some v → ∃ t, v = .int (xs.getD i 0) t
  | _, _, .nil, i, v, h => by simp at h
  | _, _, .cons n t hr, 0, v, h => by simp at h; exact ⟨t, by rw [← h] <;> rfl⟩
  | _, _, .cons n t hr, i + 1, v, h => by
    simp only [List.getElem?_cons_succ] at h
    obtain ⟨t', e⟩ := ints_at hr i v h
    exact ⟨t', by rw [e] <;> rfl⟩
section
variable {prog : Program} {w : World} {A : Around} {E : Value → Shared → Prop} {s : Shared}
theorem code_set_led1 (a : Value) {Q₁ : Value → Shared → Prop}
    (h : Q₁ (.ref s.heap.objs.size) { s with heap := s.heap.push { cls := .type "set", dict := none, data := .set #[] 0 (.fresh 0 0 (!w.params.followText "set-order")) } }) :
    codeAny (model prog w) A (.call (.builtin "set.__new__") ⟨[.type "set", a], []⟩) (wants Q₁ E) s := by
  refine codeAny_of_tree ?_
  show wpAny _ A.in1 (do checkBuiltinCall "set.__new__" ⟨[.type "set", a], []⟩; again (.builtin "set.__new__" ⟨[.type "set", a], []⟩)) _ _ s
  refine wpAny_bind (wpAny_of_eq (F.newCall_set_1 a) (wpAny_pure ⟨plainId_quiet F.plain_set_new _, codeAny_builtin F.entry_set_new ?_⟩))
  rw [Around.under_plainId F.plain_set_new _]
  unfold Builtin.«set.__new__» Builtin.Frozenset.newClass
  have hsub := sub_set_self
  obtain ⟨hp, g, d, tk, os⟩ := s
  dsimp only
  wp_walk
  refine wpAny_askSetting (wpAny_pure ?_)
  dsimp only
  simp only [newObj]
  refine wpAny_bind (wpAny_alloc (wpAny_pure ?_))
  exact wpAny_pure h
end
section
variable {prog : Program} {w : World} {A : Around} {R : Result → Shared → Prop} {I : Addr} {fp wr : List Addr} {G : Array GenState → Array GenState → Prop} {n : Nat} {P : Nat → Value → Prop} {St : Nat → Shared → Prop}
theorem loopInt (W : WalksS prog w A.in1 I fp wr G n P St) (S : Addr) (hSf : S ∉ fp) (xs : List Int) (hsz : xs.length = n) (hn : n ≤ 4000)
    (hval : ∀ i v, P i v → ∃ t, v = .int (xs.getD i 0) t) :
    ∀ (k i m : Nat) (s : Shared) (Sb : Int → Bool), n - i = k → i ≤ n → m ≤ i → St i s → SetR w s.heap S Sb m → (∀ x, Sb x = true ↔ x ∈ xs.take i) →
      (∀ s' Sb' m', Moved (S :: wr) G s s' → SetR w s'.heap S Sb' m' → m' ≤ n → (∀ x, Sb' x = true ↔ x ∈ xs) → R (.ok (.ret .none)) s') →
      codeAny (model prog w) A (.builtin "set.update.loop" ⟨[.ref S, .ref I], []⟩) R s := by
  have hSw : S ∉ wr := fun h => hSf (W.sub _ h)
  have hsub : ∀ b ∈ wr, b ∈ S :: wr := fun b hb => List.mem_cons_of_mem _ hb
  intro k
  induction k with
  | zero =>
    intro i m s Sb hk hi hm hst hS hSb hR
    have hin : i = n := by omega
    subst hin
    refine codeAny_builtin PyProof.Rows.F.entry_set_update_loop ?_
    rw [Around.under_plainId PyProof.Rows.F.plain_set_update_loop _]
    show wpAny _ A.in1 (pyNext (.ref I) >>= _) _ _ s
    refine wpAny_bind (W.done s _ _ hst fun s' hm' => ?_)
    show wpAny _ A.in1 (ret Value.none) _ _ s'
    refine wpAny_pure (hR s' Sb m (hm'.mono hsub) (hS.at fun o ho => hm'.heap S _ hSw ho) hm fun x => ?_)
    rw [hSb, List.take_of_length_le (by omega)]
  | succ k ih =>
    intro i m s Sb hk hi hm hst hS hSb hR
    have hlt : i < n := by omega
    refine codeAny_builtin PyProof.Rows.F.entry_set_update_loop ?_
    rw [Around.under_plainId PyProof.Rows.F.plain_set_update_loop _]
    show wpAny _ A.in1 (pyNext (.ref I) >>= _) _ _ s
    refine wpAny_bind (W.item i s _ _ hlt hst fun v s' hP hst' hm' => ?_)
    obtain ⟨t, rfl⟩ := hval i v hP
    have hS' : SetR w s'.heap S Sb m := hS.at fun o ho => hm'.heap S _ hSw ho
    show wpAny _ A.in1 (holding [Value.int (xs.getD i 0) t] (setAdd S (.int (xs.getD i 0) t)) >>= _) _ _ s'
    refine wpAny_bind (wpAny_holding ?_)
    unfold setAdd
    refine wpAny_holding ?_
    refine wpAny_bind ((intKind prog w).pyHash (k := xs.getD i 0) (intKind_is _ _ _ _) ?_)
    refine setR_add_hashed (P := prog) (s := { s' with toks := s'.toks + 1 }) hS' (by unfold scanBound; omega) fun h' hsb hS2 => ?_
    have hx : xs[i]? = some (xs.getD i 0) := by
      rw [List.getD_eq_getElem?_getD, List.getElem?_eq_getElem (by omega)]
      rfl
    refine wpAny_pure ⟨plainId_quiet PyProof.Rows.F.plain_set_update_loop _, ih (i + 1) _ _ _ (by omega) hlt (by split <;> omega) (W.frame _ s' _ _ hst' (Nat.le_succ _) fun b hb o e => ?_) hS2 (fun x => ?_) fun s'' Sb' m' hm'' hS'' => ?_⟩
    · rw [hsb.2 b (fun h : b = S => hSf (by rw [← h]; exact hb))]; exact e
    · rw [List.take_add_one, hx, Bool.or_eq_true, hSb, decide_eq_true_iff, List.mem_append]
      simp
    · refine hR s'' Sb' m' (Moved.trans W.gtrans ((hm'.mono hsub).then_heap (Nat.le_succ _) fun b o hb e => ?_) hm'') hS''
      rw [hsb.2 b (fun h : b = S => hb (by rw [h]; exact List.mem_cons_self))]; exact e
end
section
variable {prog : Program} {w : World} {A : Around} {E : Value → Shared → Prop} {s : Shared}
set_option maxHeartbeats 3200000 in
theorem call_set_listI {l : Addr} {items : Array Value} {xs : List Int} {Q : Value → Shared → Prop}
    (hh : A.handled = none) (hl : s.heap.IsList l items) (hi : IntsAre items.toList xs) (hn1 : xs.length ≤ 4000)
    (h : ∀ (h' : Heap) (tk : Nat) (Sb : Int → Bool) (m : Nat), SetR w h' s.heap.objs.size Sb m → m ≤ xs.length → (∀ x, Sb x = true ↔ x ∈ xs) →
      (∀ b o, b < s.heap.objs.size → s.heap.get? b = some o → h'.get? b = some o) → Q (.ref s.heap.objs.size) { s with heap := h', toks := tk }) :
    wpAny (model prog w) A (call (.type "set") [.ref l]) Q E s := by
  obtain ⟨c, tl, hmro⟩ := PySem.F.called_set.mro
  have hmade := PySem.F.called_set.made
  have hsub := PySem.F.called_set.sub
  refine wpAny_call (codeAny_of_tree ?_)
  show wpAny _ _ (callAny (.type "set") _) _ _ _
  refine wpAny_pure ⟨Code.quiet_builtin _ (by decide +kernel), codeAny_builtin PySem.F.entry_type_call ?_⟩
  rw [Around.under_plain (weight_type_call_type "set" [.ref l] []) rfl]
  have h1 := PySem.F.called_set.notType
  have h2 := PySem.F.called_set.canCreate
  have hct := PySem.F.typeCall_set_1 (.ref l)
  repeat (any_goals (first | assumption | wp_step))
  refine codeAny_mono (code_set_led1 (.ref l) (E := E) (Q₁ := fun obj s₁ => obj = .ref s.heap.objs.size ∧ s₁ = { s with heap := s.heap.push { cls := .type "set", dict := none, data := .set #[] 0 (.fresh 0 0 (!w.params.followText "set-order")) } }) ⟨rfl, rfl⟩) fun r s₁ hr => ?_
  cases r with
  | error e => exact hr
  | ok fl =>
    cases fl with
    | ret obj =>
      obtain ⟨rfl, rfl⟩ := hr
      have hF := setR_fresh (h := s.heap) w
      generalize (!w.params.followText "set-order") = led at hF ⊢
      have hS : (s.heap.push { cls := .type "set", dict := none, data := .set #[] 0 (.fresh 0 0 led) }).get? s.heap.objs.size = some { cls := .type "set", dict := none, data := .set #[] 0 (.fresh 0 0 led) } := Heap.get?_push_size _ rfl
      have hT : Shared.TypeIs { s with heap := s.heap.push { cls := .type "set", dict := none, data := .set #[] 0 (.fresh 0 0 led) } } (.ref s.heap.objs.size) "set" := ⟨_, hS, rfl⟩
      have hli := PySem.F.called_set.init.lookup
      have hbi := PySem.F.called_set.init.bind (.ref s.heap.objs.size)
      repeat (any_goals (first | assumption | wp_step))
      refine codeAny_mono (codeAny_call_builtin (R := wants (fun r s₂ => r = .none ∧ ∃ h' tk Sb m, s₂ = { s with heap := h', toks := tk } ∧
          SetR w h' s.heap.objs.size Sb m ∧ m ≤ xs.length ∧ (∀ x, Sb x = true ↔ x ∈ xs) ∧
          (∀ b o, b < s.heap.objs.size → s.heap.get? b = some o → h'.get? b = some o)) E) PySem.F.called_set.init.plain PySem.F.entry_set_init (check_set_init_1 hT ?_)) fun r₂ s₂ hr₂ => ?_
      · obtain ⟨ol, hol, hcl, nl, hdl⟩ := hl
        obtain ⟨ocls, odict, odata, oslots⟩ := ol
        simp only at hcl hdl
        subst hcl; subst hdl
        have hol' : (s.heap.push { cls := .type "set", dict := none, data := .set #[] 0 (.fresh 0 0 led) }).get? l = some { cls := .type "list", dict := odict, data := .seq items nl, slots := oslots } := Heap.get?_push_of_some _ hol
        have hsls := PySem.F.sub_list_set
        have hslf := PySem.F.sub_list_frozenset
        have hne : (Value.type "list" == Value.type "dict") = false := by decide
        have hl1 : (s.heap.push { cls := .type "set", dict := none, data := .set #[] 0 (.fresh 0 0 led) }).IsList l items := ⟨_, hol', rfl, nl, rfl⟩
        unfold Builtin.«set.__init__» noKeywords Builtin.Frozenset.updateFrom
        generalize hPI : pyIter = PI
        wp_walk
        subst hPI
        refine wpAny_pyIter_list hl1 ?_
        refine wpAny_bind (wpAny_runValue ?_)
        have hlS : l < s.heap.objs.size := Heap.lt_size hol
        have hh3 : A.in1.in1.in1.handled = none := by simp [hh]
        have hneI : l ≠ (s.heap.push { cls := .type "set", dict := none, data := .set #[] 0 (.fresh 0 0 led) }).objs.size := by
          rw [Heap.size_push]; exact Nat.ne_of_lt (Nat.lt_succ_of_lt hlS)
        have hSf : s.heap.objs.size ∉ [(s.heap.push { cls := .type "set", dict := none, data := .set #[] 0 (.fresh 0 0 led) }).objs.size, l] := by
          rw [Heap.size_push]; simp only [List.mem_cons, List.mem_singleton, List.not_mem_nil, or_false, not_or]
          exact ⟨Nat.ne_of_lt (Nat.lt_succ_self _), Nat.ne_of_gt hlS⟩
        have hsz : xs.length = items.size := by rw [← IntsAre.length hi, Array.length_toList]
        have hval : ∀ (i : Nat) (v : Value), items[i]? = some v → ∃ t, v = .int (xs.getD i 0) t := fun i v hv => ints_at hi i v (by rw [Array.getElem?_toList]; exact hv)
        refine loopInt ((Walks.list hh3 _ l hneI items).toS) s.heap.objs.size
          hSf xs hsz (by rw [← hsz]; exact hn1) hval (items.size - 0) 0 0 _ (fun _ => false) (by omega) (Nat.zero_le _) (Nat.le_refl _)
          ⟨⟨_, Heap.get?_push_size _ rfl, rfl, rfl⟩, (hl1.push _)⟩ (hF.at fun o ho => Heap.get?_push_of_some _ ho) (fun x => by simp) ?hR
        case hR =>
          intro s' Sb' m' hm hS' hm' hSb'
          obtain ⟨h', g', d', tk', os'⟩ := s'
          have eg : g' = s.gens := hm.gens
          have ed : d' = s.drawn := hm.drawn
          have eo : os' = s.os := hm.os
          subst eg; subst ed; subst eo
          show wpAny _ _ _ _ _ _
          refine wpAny_pure ?_
          show wpAny _ _ (ret Value.none) _ _ _
          refine wpAny_pure ⟨rfl, h', tk', Sb', m', rfl, hS', by omega, hSb', fun b o hb e => ?_⟩
          have hb1 : b ≠ s.heap.objs.size := Nat.ne_of_lt hb
          have hb2 : b ≠ (s.heap.push { cls := .type "set", dict := none, data := .set #[] 0 (.fresh 0 0 led) }).objs.size := by
            rw [Heap.size_push]; exact Nat.ne_of_lt (Nat.lt_succ_of_lt hb)
          exact hm.heap b o (by simp only [List.mem_cons, List.mem_singleton, List.not_mem_nil, or_false, not_or]; exact ⟨hb1, hb2⟩) (Heap.get?_push_of_some _ (Heap.get?_push_of_some _ e))
      · cases r₂ with
        | error e => exact hr₂
        | ok fl₂ =>
          cases fl₂ with
          | ret r =>
            obtain ⟨rfl, h', tk, Sb, m, rfl, hS', hm', hSb', hk'⟩ := hr₂
            repeat (any_goals (first | assumption | wp_step))
            exact h _ _ _ _ hS' hm' hSb' hk'
          | _ => exact hr₂.elim
    | _ => exact hr.elim
end
/-- set(xs), xs a list of ints -/
def rSetI (K : PySem.W.Frag) (w : World) : List V → Hp → VK → Prop := fun vs H Q => ∃ (l : Addr) (xs : List Int), vs = [.ref l] ∧ SqL K H l (xs.map V.int) ∧ xs.length ≤ 4000 ∧
  ∀ (p : Addr) (Sb : Int → Bool) (m : Nat), H p = none → m ≤ xs.length → (∀ x, Sb x = true ↔ x ∈ xs) → Q (.ref p) (upd H p (SetO w p Sb m))
section
variable {X : Cx}
theorem cr_setI (hc : X.calm = true) : CallR X (.type "set") (rSetI X.K X.w) := by
  intro pins s σ H vs us Q I r h
  obtain ⟨l, xs, rfl, hq, hz, q⟩ := h
  rw [Vals.ref1 r]
  obtain ⟨its, rv, pl, _⟩ := I.list hq
  refine call_set_listI (I.ok.hd hc) pl.isList (by simpa using L2.intsAre_of rv) hz fun h' tk Sb m R hm hS k => ?_
  exact ⟨.ref _, upd H s.heap.objs.size (SetO X.w s.heap.objs.size Sb m), I.laid (t' := tk) (fun b u e => k b u (Heap.lt_size e) e) (Nat.le_refl _) (setO_new R), rfl, q _ _ _ (I.hok.fresh (Nat.le_refl _)) hm hS⟩
end
end Bf

set_option Elab.async false
set_option linter.all false
set_option maxRecDepth 100000
set_option maxHeartbeats 4000000
namespace Bf
open PySem PySem.Spec PyProof.Rows L2
/-! ### [x for x in xs if p x]; sorted(set(xs)) -/
theorem lc_filt {J : It} {xs : List Nat} {G : Hp → Prop} (w : Walk J (xs.map vI).length G (YAt (xs.map vI))) {p : Nat → Bool} {tg : TG} {tt : TT} {te : TE} {vs : List Nat} {σ : L2.St} {H1 : Hp} {D : Addr} {Qd : Hp → Prop}
    (hG : ∀ H', Same H1 H' → G H') (hD : H1 D = none) (hl : xs.length ≤ 1000)
    (hs : ∀ (x : Nat) (H' : Hp) (R : V → Hp → Prop) (Z : Hp → Prop), x ∈ xs → Same H1 H' → (p x = true → R (vI x) H') → (p x = false → Z H') →
      tg (vI x) (wipe σ vs) H' fun σ2 H2 => wipe σ2 vs = wipe σ vs ∧ tt σ2 H2 fun b H3 => if b = true then te σ2 H3 R else Z H3)
    (hd : ∀ H', Same H1 H' → H' D = some (.lst ((xs.filter p).map vI)) → Qd H') :
    ∃ W : Nat → Nat → Hp → Prop, (∃ m, W 0 m (upd H1 D (.lst []))) ∧ ∀ i m H, W i m H →
      (J.stop i H ∧ Qd H) ∨ (J.go i H ∧ ∃ Nx : Hp → Prop, (∀ H', Nx H' → ∃ m', m' < m ∧ W (i + 1) m' H') ∧ ∀ x H', J.yld i H x H' → tg x (wipe σ vs) H' fun σ2 H2 => wipe σ2 vs = wipe σ vs ∧ tt σ2 H2 fun b H3 =>
        if b = true then te σ2 H3 fun y H4 => ∃ acc, H4 D = some (.lst acc) ∧ acc.length < sizeLine ∧ Nx (upd H4 D (.lst (acc ++ [y]))) else Nx H3) := by
  refine lc_it w (fun i H' => Same H1 H' ∧ H' D = some (.lst (((xs.take i).filter p).map vI))) ⟨same_two (.refl _) hD, by simp [upd_same]⟩ (fun i H' _ q => hG _ q.1) (fun i x H' H2 hi q y => ?_) (fun H' q => ?_)
  · obtain ⟨sm, eD⟩ := q
    obtain ⟨rfl, hx⟩ := y
    obtain ⟨k, hk, rfl⟩ := natAt hx
    have hlen : ((xs.take i).filter p).length ≤ 1000 := Nat.le_trans (List.length_filter_le _ _) (by rw [List.length_take]; omega)
    refine hs k H2 _ _ (List.mem_of_getElem? hk) sm (fun hp => ⟨_, eD, by rw [List.length_map]; exact small1000 hlen, same_two sm hD, ?_⟩) (fun hp => ⟨sm, ?_⟩)
    · rw [upd_same, take_snoc hk, List.filter_append, List.map_append]
      simp [List.filter, hp]
    · rw [take_snoc hk, List.filter_append]
      simpa [List.filter, hp] using eD
  · obtain ⟨sm, eD⟩ := q
    rw [List.length_map, List.take_length] at eD
    exact hd H' sm eD
theorem ints_nat {ns : List Int} {xs : List Nat} (h : ∀ k ∈ ns, ∃ x : Nat, k = (x : Int) ∧ x ∈ xs) : ∃ zs : List Nat, ns.map V.int = zs.map vI ∧ ns = zs.map fun n : Nat => (n : Int) := by
  induction ns with
  | nil => exact ⟨[], rfl, rfl⟩
  | cons a r ih =>
    obtain ⟨zs, e1, e2⟩ := ih fun k hk => h k (by simp [hk])
    obtain ⟨x, rfl, _⟩ := h a (by simp)
    exact ⟨x :: zs, by rw [List.map_cons, e1]; rfl, by rw [e2]; rfl⟩
def castL (xs : List Nat) : List Int := xs.map fun n : Nat => (n : Int)
theorem castL_V (xs : List Nat) : (castL xs).map V.int = xs.map vI := by
  unfold castL
  rw [List.map_map]
  rfl
theorem castL_len (xs : List Nat) : (castL xs).length = xs.length := by simp [castL]
theorem setSorted {xs : List Nat} {ns : List Int} {Sb : Int → Bool} {m : Nat} (hS : ∀ x, Sb x = true ↔ x ∈ castL xs) (pw : ns.Pairwise (· < ·)) (hk : ∀ k : Int, k ∈ ns ↔ Sb k = true) (hn : ns.length = m) (hm : m ≤ (castL xs).length) :
    ∃ zs : List Nat, ns.map V.int = zs.map vI ∧ zs.Pairwise (· < ·) ∧ (∀ x, x ∈ zs ↔ x ∈ xs) ∧ zs.length ≤ xs.length := by
  rw [castL_len] at hm
  have hx : ∀ z : Int, z ∈ ns ↔ ∃ x : Nat, z = (x : Int) ∧ x ∈ xs := fun z => by
    rw [hk z, hS z, castL, List.mem_map]
    exact ⟨fun ⟨x, a, b⟩ => ⟨x, b.symm, a⟩, fun ⟨x, a, b⟩ => ⟨x, b, a.symm⟩⟩
  obtain ⟨zs, e1, e2⟩ := ints_nat fun z hz => (hx z).mp hz
  refine ⟨zs, e1, ?_, fun x => ?_, ?_⟩
  · rw [e2] at pw
    exact (List.pairwise_map.mp pw).imp fun h => by omega
  · have := hx (x : Int)
    rw [e2] at this
    refine ⟨fun h => ?_, fun h => ?_⟩
    · obtain ⟨y, hy, hm⟩ := this.mp (List.mem_map_of_mem h)
      rwa [show x = y by omega]
    · obtain ⟨y, hy, e⟩ := List.mem_map.mp (this.mpr ⟨x, rfl, h⟩)
      have e : (y : Int) = (x : Int) := e
      rwa [show x = y by omega]
  · have : ns.length = zs.length := by rw [e2, List.length_map]
    omega
/-- [g x for x in rows if p x], rows that lie there; the test may make objects -/
theorem lc_frows {J : It} {xs : List V} {G : Hp → Prop} (w : Walk J xs.length G (YAt xs)) {α β : Type} {rows : List α} {f : α → PyData} {g : α → β} {h : β → PyData} {p : α → Bool} {tg : TG} {tt : TT} {te : TE} {vs : List Nat} {σ : L2.St} {H1 : Hp} {D : Addr} {Qd : Hp → Prop}
    (hG : ∀ H', Same H1 H' → G H') (hD : H1 D = none) (lay : LayAll H1 xs (rows.map f)) (hl : rows.length ≤ 1000)
    (hs : ∀ (x : V) (r : α) (H' : Hp) (R : V → Hp → Prop) (Z : Hp → Prop), r ∈ rows → Same H1 H' → Lay H' x (f r) → (p r = true → ∀ y H4, Same H' H4 → Lay H4 y (h (g r)) → R y H4) → (p r = false → ∀ H4, Same H' H4 → Z H4) →
      tg x (wipe σ vs) H' fun σ2 H2 => wipe σ2 vs = wipe σ vs ∧ tt σ2 H2 fun b H3 => if b = true then te σ2 H3 R else Z H3)
    (hd : ∀ us H', Same H1 H' → H' D = some (.lst us) → LayAll H' us (((rows.filter p).map g).map h) → Qd H') :
    ∃ W : Nat → Nat → Hp → Prop, (∃ m, W 0 m (upd H1 D (.lst []))) ∧ ∀ i m H, W i m H →
      (J.stop i H ∧ Qd H) ∨ (J.go i H ∧ ∃ Nx : Hp → Prop, (∀ H', Nx H' → ∃ m', m' < m ∧ W (i + 1) m' H') ∧ ∀ x H', J.yld i H x H' → tg x (wipe σ vs) H' fun σ2 H2 => wipe σ2 vs = wipe σ vs ∧ tt σ2 H2 fun b H3 =>
        if b = true then te σ2 H3 fun y H4 => ∃ acc, H4 D = some (.lst acc) ∧ acc.length < sizeLine ∧ Nx (upd H4 D (.lst (acc ++ [y]))) else Nx H3) := by
  have ll := lay.len
  rw [List.length_map] at ll
  refine lc_it w (fun i H' => Same H1 H' ∧ ∃ us, H' D = some (.lst us) ∧ LayAll H' us ((((rows.take i).filter p).map g).map h)) ⟨same_two (.refl _) hD, [], upd_same, by simp; exact .nil⟩ (fun i H' _ q => hG _ q.1) (fun i x H' H2 hi q y => ?_) (fun H' q => ?_)
  · obtain ⟨sm, us, eD, lu⟩ := q
    obtain ⟨rfl, hx⟩ := y
    obtain ⟨d, hd', ld⟩ := (lay.keep' (.same sm)).get i hx
    obtain ⟨r, hr, rfl⟩ := mapAtD hd'
    have lul := lu.len
    rw [List.length_map, List.length_map] at lul
    have hlen : ((rows.take i).filter p).length ≤ 1000 := Nat.le_trans (List.length_filter_le _ _) (by rw [List.length_take]; omega)
    refine hs x r H2 _ _ (List.mem_of_getElem? hr) sm ld (fun hp y H4 s4 ly => ?_) (fun hp H4 s4 => ⟨sm.trans s4, us, s4 _ _ eD, ?_⟩)
    · refine ⟨us, s4 _ _ eD, len1000 (by omega), same_two (sm.trans s4) hD, us ++ [y], upd_same, ?_⟩
      rw [take_snoc hr, List.filter_append, List.map_append, List.map_append, show [r].filter p = [r] by simp [List.filter, hp]]
      exact ((lu.keep' (.same s4)).snoc ly).keep' (.lst (s4 _ _ eD))
    · rw [take_snoc hr, List.filter_append, show [r].filter p = [] by simp [List.filter, hp], List.append_nil]
      exact lu.keep' (.same s4)
  · obtain ⟨sm, us, eD, lu⟩ := q
    rw [ll, List.take_length] at lu
    exact hd us H' sm eD lu
def blD (b : Bool) : PyData := .bool b
theorem lay_bls {H : Hp} : ∀ {bs : List Bool} {us : List V}, LayAll H us (bs.map blD) → us = bs.map V.bl
  | [], _, h => by cases h; rfl
  | b :: r, _, h => by
    cases h with
    | cons a t =>
      rw [lay_bls t]
      cases a
      rfl
end Bf

set_option Elab.async false
set_option linter.all false
set_option maxRecDepth 100000
set_option maxHeartbeats 4000000
namespace Bf
open PySem PySem.Spec PyProof.Rows L2
/-! ### d.update(e), both with int and text keys -/
def rUpd : V → List V → Hp → VK → Prop := fun x vs H Q => ∃ (d b : Addr) (xs zs : List (Key × V)), x = .ref d ∧ vs = [.ref b] ∧ d ≠ b ∧ H d = some (.dK xs) ∧ H b = some (.dK zs) ∧ xs.length + zs.length ≤ sizeLine ∧ Q .non (upd H d (.dK (mergeK xs zs)))
theorem mt_update {X : Cx} : MtM X "dict.update" rUpd := by
  intro pins s σ H x vs v us Q I rx rv h
  obtain ⟨d, b, xs, zs, rfl, rfl, hne, hH, hB, hz, q⟩ := h
  cases rx
  obtain ⟨u, rfl, ru⟩ := rv.one
  cases ru
  obtain ⟨z, hd, ws, rel, dd⟩ := dk_of I.hok hH
  obtain ⟨z2, hd2, ws2, rel2, dd2⟩ := dk_of I.hok hB
  refine call_meetsIn PySem.F.slot_dict_update dd.typeIs PySem.F.entry_dict_update (PySem.F.args_dict_update_2 _ _) (meets_dict_update (mixKind X.prog X.w) d b hne hd2) ⟨ws, ws2, dd, dd2, by rw [← Paired.length rel, ← Paired.length rel2]; exact hz, fun h' dd' _ hs => ?_⟩
  have hl := length_mergeK zs xs
  have he : ∃ q, h'.get? d = some q := let ⟨q, _, _, hq, _⟩ := dd'; ⟨q, hq⟩
  exact ⟨.non, _, d_write I (by rw [hH]; exact True.intro) hs he (dk_new (by omega) hd (rel2.merge rel) dd'), rfl, q⟩
/-! ### dicts as sets of numbers -/
def setZ (M : List Int) : List (Key × V) := M.map fun x => (Sum.inl x, .bl true)
def addZ (M : List Int) (x : Int) : List Int := if x ∈ M then M else M ++ [x]
theorem mem_addZ {M : List Int} {x y : Int} : y ∈ addZ M x ↔ y ∈ M ∨ y = x := by
  unfold addZ
  by_cases h : x ∈ M
  · rw [if_pos h]
    exact ⟨.inl, fun q => q.elim id fun e => e ▸ h⟩
  · rw [if_neg h]
    simp
theorem addZ_len {M : List Int} {x : Int} : (addZ M x).length ≤ M.length + 1 := by
  unfold addZ
  split
  · omega
  · rw [List.length_append]; exact Nat.le_refl _
theorem addZ_nodup {M : List Int} {x : Int} (h : M.Nodup) : (addZ M x).Nodup := by
  unfold addZ
  by_cases q : x ∈ M
  · rw [if_pos q]; exact h
  · rw [if_neg q]
    exact List.nodup_append.mpr ⟨h, by simp, fun a ha b hb e => q (by rw [← List.mem_singleton.mp hb, ← e]; exact ha)⟩
theorem setZ_len (M : List Int) : (setZ M).length = M.length := by simp [setZ]
theorem setZ_put (M : List Int) (x : Int) : putK (setZ M) (Sum.inl x) (.bl true) = setZ (addZ M x) := by
  unfold putK addZ setZ
  by_cases h : x ∈ M
  · rw [if_pos h, if_pos]
    · conv => rhs; rw [← List.map_id (M.map _)]
      refine List.map_congr_left fun kv hkv => ?_
      obtain ⟨y, _, rfl⟩ := List.mem_map.mp hkv
      by_cases e : (Sum.inl y : Key) = Sum.inl x
      · rw [if_pos e]; rfl
      · rw [if_neg e]; rfl
    · rw [List.any_eq_true]
      exact ⟨(Sum.inl x, .bl true), List.mem_map_of_mem (f := fun x => ((Sum.inl x : Key), V.bl true)) h, decide_eq_true rfl⟩
  · rw [if_neg h, if_neg, List.map_append]
    · rfl
    · rw [List.any_eq_true]
      rintro ⟨kv, hkv, q⟩
      obtain ⟨y, hy, rfl⟩ := List.mem_map.mp hkv
      exact h (Sum.inl.inj (of_decide_eq_true q) ▸ hy)
theorem setZ_val : ∀ (M : List Int) (x : Int), (valV (setZ M) (Sum.inl x)).isSome = decide (x ∈ M)
  | [], x => by unfold setZ; rw [List.map_nil, valV_nil]; simp
  | y :: M, x => by
    have ih := setZ_val M x
    unfold setZ at ih ⊢
    rw [List.map_cons]
    by_cases e : (Sum.inl y : Key) = Sum.inl x
    · rw [valV_pos e]
      have : y = x := Sum.inl.inj e
      simp [this]
    · rw [valV_neg e, ih]
      have : ¬ x = y := fun q => e (congrArg Sum.inl q.symm)
      simp [this]
theorem setZ_merge (M : List Int) : ∀ N : List Int, mergeK (setZ M) (setZ N) = setZ (N.foldl addZ M)
  | [] => rfl
  | x :: N => by
    have := setZ_merge (addZ M x) N
    show mergeK (putK (setZ M) (Sum.inl x) (.bl true)) (setZ N) = _
    rw [setZ_put, this]
    rfl
theorem mem_addsZ : ∀ (N : List Int) {M : List Int} {x : Int}, x ∈ N.foldl addZ M ↔ x ∈ M ∨ x ∈ N
  | [], M, x => by simp
  | y :: N, M, x => by
    show x ∈ N.foldl addZ (addZ M y) ↔ _
    rw [mem_addsZ N, mem_addZ, List.mem_cons]
    constructor
    · rintro ((h | h) | h)
      · exact .inl h
      · exact .inr (.inl h)
      · exact .inr (.inr h)
    · rintro (h | h | h)
      · exact .inl (.inl h)
      · exact .inl (.inr h)
      · exact .inr h
theorem addsZ_len : ∀ (N M : List Int), (N.foldl addZ M).length ≤ M.length + N.length
  | [], M => by simp
  | y :: N, M => by
    have h1 := addsZ_len N (addZ M y)
    have h2 := addZ_len (M := M) (x := y)
    show (N.foldl addZ (addZ M y)).length ≤ _
    rw [List.length_cons]
    omega
theorem setZ_get {H : Hp} {a : Addr} {M : List Int} (h : H a = some (.dK (setZ M))) (x : Int) : DGet H a (.int x) (valV (setZ M) (Sum.inl x)) := DGet.k (k := Sum.inl x) h
theorem setZ_dput {H : Hp} {a : Addr} {M : List Int} (h : H a = some (.dK (setZ M))) (x : Int) (hl : M.length ≤ 2000) : DPut H a (.int x) (.bl true) (upd H a (.dK (setZ (addZ M x)))) := by
  have := DPut.k (k := Sum.inl x) (v := .bl true) h (by rw [setZ_len]; exact Nat.lt_of_le_of_lt hl (by show 2000 < sizeLine; decide))
  rwa [setZ_put] at this
/-- {key: True for x in rows} -/
theorem dc_setZ {J : It} {xs : List V} {G : Hp → Prop} (w : Walk J xs.length G (YAt xs)) {α : Type} {rows : List α} {f : α → PyData} {k : α → Int} {g : TG} {tt : TT} {tk tv : TE} {vs : List Nat} {σ : L2.St} {H1 : Hp} {D : Addr} {Qd : Hp → Prop}
    (hG : ∀ H', Same H1 H' → G H') (hD : H1 D = none) (lay : LayAll H1 xs (rows.map f)) (hl : rows.length ≤ 1000)
    (hs : ∀ (x : V) (r : α) (H' : Hp) (R : V → V → Hp → Prop) (Z : Hp → Prop), r ∈ rows → Same H1 H' → Lay H' x (f r) → (∀ H4, Same H' H4 → R (.int (k r)) (.bl true) H4) →
      g x (wipe σ vs) H' fun σ2 H2 => wipe σ2 vs = wipe σ vs ∧ tt σ2 H2 fun b H3 => if b = true then tk σ2 H3 fun y H4 => tv σ2 H4 fun z H5 => R y z H5 else Z H3)
    (hd : ∀ (M : List Int) H', Same H1 H' → H' D = some (.dK (setZ M)) → (∀ x, x ∈ M ↔ x ∈ rows.map k) → M.length ≤ rows.length → Qd H') :
    ∃ W : Nat → Nat → Hp → Prop, (∃ m, W 0 m (upd H1 D (.dK []))) ∧ ∀ i m H, W i m H →
      (J.stop i H ∧ Qd H) ∨ (J.go i H ∧ ∃ Nx : Hp → Prop, (∀ H', Nx H' → ∃ m', m' < m ∧ W (i + 1) m' H') ∧ ∀ x H', J.yld i H x H' → g x (wipe σ vs) H' fun σ2 H2 => wipe σ2 vs = wipe σ vs ∧ tt σ2 H2 fun b H3 =>
        if b = true then tk σ2 H3 fun y H4 => tv σ2 H4 fun z H5 => ∃ kvs k, y = kV k ∧ H5 D = some (.dK kvs) ∧ kvs.length < sizeLine ∧ Nx (upd H5 D (.dK (putK kvs k z))) else Nx H3) := by
  have ll := lay.len
  rw [List.length_map] at ll
  let Pv : Nat → Hp → Prop := fun i H' => Same H1 H' ∧ ∃ M : List Int, H' D = some (.dK (setZ M)) ∧ (∀ x, x ∈ M ↔ x ∈ (rows.take i).map k) ∧ M.length ≤ i
  refine ⟨fun i m H => m = xs.length - i ∧ i ≤ xs.length ∧ Pv i H, ⟨xs.length, by simp, Nat.zero_le _, same_two (.refl _) hD, [], upd_same, by simp, Nat.le_refl _⟩, ?_⟩
  rintro i m H ⟨rfl, hi, sm, M, eD, hM, hML⟩
  have q := hG H sm
  by_cases hlt : i < xs.length
  · refine .inr ⟨w.goes i H hlt q, Pv (i + 1), fun H' p' => ⟨xs.length - (i + 1), by omega, rfl, hlt, p'⟩, fun x H' y => ?_⟩
    obtain ⟨rfl, hx⟩ := w.yields i H x H' hlt q y
    obtain ⟨d, hd', ld⟩ := (lay.keep' (.same sm)).get i hx
    obtain ⟨r, hr, rfl⟩ := mapAtD hd'
    refine hs x r H' _ _ (List.mem_of_getElem? hr) sm ld (fun H4 s4 => ?_)
    refine ⟨setZ M, Sum.inl (k r), rfl, s4 _ _ eD, by rw [setZ_len]; exact len1000 (by omega), ?_⟩
    rw [setZ_put]
    refine ⟨same_two (sm.trans s4) hD, addZ M (k r), upd_same, fun x => ?_, by have := addZ_len (M := M) (x := k r); omega⟩
    rw [mem_addZ, hM, take_snoc hr, List.map_append, List.mem_append]
    simp
  · have e : i = xs.length := by omega
    subst e
    refine .inl ⟨w.stops H q, hd M H sm eD (fun x => ?_) (by omega)⟩
    rw [hM, ll, List.take_length]
/-- [.. for x in d], d a locked set of numbers, each giving a bool -/
theorem lc_keysB {o : Obj} {d : Addr} {M : List Int} {p : Int → Bool} {tg : TG} {te : TE} {vs : List Nat} {σ : L2.St} {H1 : Hp} {D : Addr} {Qd : Hp → Prop}
    (hd : H1 d = some (.frz o (.dK (setZ M)))) (hD : H1 D = none) (hl : M.length ≤ 1000)
    (hs : ∀ (x : Int) (H' : Hp) (R : V → Hp → Prop) (Z : Hp → Prop), x ∈ M → Same H1 H' → (∀ H4, Same H' H4 → R (.bl (p x)) H4) →
      tg (.int x) (wipe σ vs) H' fun σ2 H2 => wipe σ2 vs = wipe σ vs ∧ tYes σ2 H2 fun b H3 => if b = true then te σ2 H3 R else Z H3)
    (hq : ∀ H', Same H1 H' → H' D = some (.lst ((M.map p).map V.bl)) → Qd H') :
    ∃ W : Nat → Nat → Hp → Prop, (∃ m, W 0 m (upd H1 D (.lst []))) ∧ ∀ i m H, W i m H →
      ((Itk d o (setZ M)).stop i H ∧ Qd H) ∨ ((Itk d o (setZ M)).go i H ∧ ∃ Nx : Hp → Prop, (∀ H', Nx H' → ∃ m', m' < m ∧ W (i + 1) m' H') ∧ ∀ x H', (Itk d o (setZ M)).yld i H x H' → tg x (wipe σ vs) H' fun σ2 H2 => wipe σ2 vs = wipe σ vs ∧ tYes σ2 H2 fun b H3 =>
        if b = true then te σ2 H3 fun y H4 => ∃ acc, H4 D = some (.lst acc) ∧ acc.length < sizeLine ∧ Nx (upd H4 D (.lst (acc ++ [y]))) else Nx H3) := by
  refine lc_it (walk_keys (d := d) (o := o) (kvs := setZ M)) (fun i H' => Same H1 H' ∧ H' D = some (.lst (((M.take i).map p).map V.bl))) ⟨same_two (.refl _) hD, upd_same⟩ (fun i H' _ q => q.1 _ _ hd) (fun i x H' H2 hi q y => ?_) (fun H' q => ?_)
  · obtain ⟨sm, eD⟩ := q
    obtain ⟨rfl, kk, v, hk, rfl⟩ := y
    rw [setZ_len] at hi
    have e : M[i]? = some M[i] := List.getElem?_eq_getElem hi
    have e2 : (setZ M)[i]? = some (Sum.inl M[i], .bl true) := by unfold setZ; rw [List.getElem?_map, e]; rfl
    rw [e2] at hk
    cases hk
    refine hs M[i] H2 _ _ (List.getElem_mem _) sm (fun H4 s4 => ⟨_, s4 _ _ eD, ?_, same_two (sm.trans s4) hD, ?_⟩)
    · rw [List.length_map, List.length_map, List.length_take]
      exact len1000 (by omega)
    · rw [upd_same, take_snoc e, List.map_append, List.map_append]
      rfl
  · obtain ⟨sm, eD⟩ := q
    rw [setZ_len, List.take_length] at eD
    exact hq H' sm eD
end Bf

set_option Elab.async false
set_option linter.all false
set_option maxRecDepth 100000
set_option maxHeartbeats 4000000
namespace Bf
open PySem PySem.Spec PyProof.Rows L2
/-! ### texts in their order: >, min, sorted, dict of pairs -/
def sl (a b : Str) : Prop := a.cps.toList < b.cps.toList
instance (a b : Str) : Decidable (sl a b) := inferInstanceAs (Decidable (a.cps.toList < b.cps.toList))
theorem sl_irrefl (a : Str) : ¬ sl a a := List.lt_irrefl _
theorem sl_trans {a b c : Str} (h : sl a b) (k : sl b c) : sl a c := List.lt_trans h k
theorem str_ext {a b : Str} (h : a.cps.toList = b.cps.toList) : a = b := by
  cases a
  cases b
  congr
  exact Array.toList_inj.mp h
theorem sl_total {a b : Str} (h : a ≠ b) : sl a b ∨ sl b a := by
  by_cases h1 : sl a b
  · exact .inl h1
  · right
    by_cases h2 : sl b a
    · exact h2
    · exact absurd (str_ext (List.le_antisymm (List.not_lt.mp h2) (List.not_lt.mp h1))) h
theorem op_gt_str {X : Cx} : OpR X (compareOp .Gt) (fun x y H Q => ∃ i j, x = .str i ∧ y = .str j ∧ Q (.bl (decide (sl j i))) H) := by
  intro pins s σ H x y v u Q I rx ry h
  obtain ⟨i, j, rfl, rfl, q⟩ := h
  obtain ⟨t, rfl⟩ := rx
  obtain ⟨t', rfl⟩ := ry
  exact P.gt_str (fin_bl I q rfl)
/-- minimal in its order -/
def IsMinS (m : Str) (xs : List Str) : Prop := m ∈ xs ∧ ∀ y ∈ xs, ¬ sl y m
theorem IsMinS.uniq {m n : Str} {xs : List Str} (h : IsMinS m xs) (k : IsMinS n xs) : m = n := by
  by_cases e : m = n
  · exact e
  · rcases sl_total e with q | q
    · exact absurd q (k.2 m h.1)
    · exact absurd q (h.2 n k.1)
theorem minOf_is (x : Str) (xs : List Str) : IsMinS (PySem.W.minOf x xs) (x :: xs) := by
  unfold PySem.W.minOf
  induction xs generalizing x with
  | nil => exact ⟨by simp, fun y hy => by rw [List.mem_singleton.mp hy]; exact sl_irrefl _⟩
  | cons y ys ih =>
    rw [List.foldl_cons]
    by_cases h : sl y x
    · have e : PySem.W.DatumOrd.lt y x = true := decide_eq_true h
      rw [if_pos e]
      obtain ⟨a, b⟩ := ih y
      refine ⟨List.mem_cons_of_mem _ a, fun z hz => ?_⟩
      rcases List.mem_cons.mp hz with rfl | hz
      · exact fun k => b y (by simp) (sl_trans h k)
      · exact b z hz
    · have e : ¬ PySem.W.DatumOrd.lt y x = true := fun q => h (of_decide_eq_true q)
      rw [if_neg e]
      obtain ⟨a, b⟩ := ih x
      refine ⟨?_, fun z hz => ?_⟩
      · rcases List.mem_cons.mp a with q | q
        · rw [q]; simp
        · simp [q]
      · rcases List.mem_cons.mp hz with rfl | hz
        · exact b z (by simp)
        · rcases List.mem_cons.mp hz with rfl | hz
          · intro k
            by_cases q : x = List.foldl (fun a y => if PySem.W.DatumOrd.lt y a = true then y else a) x ys
            · exact h (by rw [q]; exact k)
            · rcases sl_total q with q | q
              · exact b x (by simp) q
              · exact h (sl_trans k q)
          · exact b z (by simp [hz])
theorem reads_str {h : Heap} {v : Value} {n : Str} {bs : List Addr} (r : Reads h v (.str n) bs) : ∃ t, v = .str n t := by
  cases r
  exact ⟨_, rfl⟩
theorem dpStrs {K : PySem.W.Frag} {H : Hp} : ∀ ns : List Str, DpAll K H (ns.map V.str) (ns.map PyData.str)
  | [] => .nil
  | n :: ns => .cons (.str n) (dpStrs ns)
def rMinS (K : PySem.W.Frag) : List V → Hp → VK → Prop := fun vs H Q => ∃ (l : Addr) (x : Str) (xs : List Str), vs = [.ref l] ∧ SqL K H l ((x :: xs).map V.str) ∧ ∀ m, IsMinS m (x :: xs) → Q (.str m) H
theorem cr_minS {X : Cx} (hc : X.calm = true) (hu : X.A.units + 64 < cLine) : CallR X (.builtin "min") (rMinS X.K) := by
  intro pins s σ H vs us Q I r h
  obtain ⟨l, x, xs, rfl, hs, q⟩ := h
  obtain rfl := Vals.ref1 r
  obtain ⟨its, rv, pl, _⟩ := I.list hs
  obtain ⟨as, hr⟩ := Dp.readsAll I ((x :: xs).map PyData.str) _ _ (dpStrs (x :: xs)) rv
  refine PySem.W.min_list_datum (α := Str) (I.ok.hd hc) pl.isList ⟨as, hr⟩ ((fun (d : Nat) (h : d ≤ 1) => (by omega : X.A.units + 1 + d < cLine)) _ (by decide)) fun i v h' t' hv hd k => ?_
  obtain ⟨bs, rd⟩ := hd
  obtain ⟨t, rfl⟩ := reads_str rd
  exact ⟨.str _, H, I.kept k, ⟨t, rfl⟩, q _ (minOf_is x xs)⟩
end Bf

set_option Elab.async false
set_option linter.all false
set_option maxRecDepth 100000
set_option maxHeartbeats 4000000
namespace Bf
open PySem PySem.Spec PyProof.Rows L2
/-! ### tuples that are known to have no dict of their own: dict(t) of one of pairs -/
def tObj (its : Array Value) : Obj := { cls := .type "tuple", data := .seq its }
def FT (H : Hp) (a : Addr) (xs : List V) : Prop := ∃ its, H a = some (.frz (tObj its) (.tup xs))
theorem FT.seq {K : PySem.W.Frag} {H : Hp} {a : Addr} {xs : List V} (h : FT H a xs) : SqT K H a xs := let ⟨_, e⟩ := h; .inl (.inr ⟨_, e⟩)
/-- tuple(l) of a list, new -/
theorem cr_tupleF {X : Cx} : CallR X (.type "tuple") (fun xs H Q => ∃ p ys, xs = [.ref p] ∧ SqL X.K H p ys ∧ ∀ l its, H l = none → Q (.ref l) (upd H l (.frz (tObj its) (.tup ys)))) := by
  intro pins s σ H xs us Q I r h
  obtain ⟨p, ys, rfl, hq, q⟩ := h
  obtain ⟨u, rfl, rx⟩ := vals1 r
  cases rx
  obtain ⟨its, r', pl, hz⟩ := I.list hq
  have hlen := r'.length
  refine call_tuple_list pl.isList (fun h' kp => ?_) (by simp only [List.size_toArray] <;> omega)
  have I1 : Inv X pins σ H { s with heap := h' } := I.kept (t' := s.toks) kp
  have I2 : Inv X pins σ (upd H h'.objs.size (.frz (tObj its.toArray) (.tup ys))) { s with heap := h'.push { cls := .type "tuple", data := .seq its.toArray } } :=
    I1.laid (t' := s.toks) (fun b o e => Heap.get?_push_of_some _ e) (Nat.le_refl _) (show ObjOk X.prog X.w _ _ _ (.frz (tObj its.toArray) (.tup ys)) from ⟨Heap.get?_push_size _ rfl, hz, its, r', IsTup.new _ _⟩)
  exact ⟨.ref h'.objs.size, _, I2, rfl, q _ its.toArray (I1.hok.fresh (Nat.le_refl _))⟩
def tTupF (t : TA) : TE := fun σ H Q => t σ H fun xs H1 => xs.length ≤ sizeLine ∧ ∀ l its, H1 l = none → Q (.ref l) (upd H1 l (.frz (tObj its) (.tup xs)))
theorem pe_tupF {X : Cx} {es : List Expr} {t : TA} {pos : Pos} {x1} (h : PA X es t) : PE X (.Tuple es x1 pos) (tTupF t) := by
  refine ⟨fun pins s σ H Q I hq => ?_⟩
  refine wpAny_Tuple_spliced (thn (h.run pos pins s σ H _ I hq) fun us s1 ⟨xs, H1, I1, r, z, q⟩ => ⟨by rw [← r.length]; exact z, ?_⟩)
  have hf : H1 s1.heap.objs.size = none := I1.hok.fresh (Nat.le_refl _)
  refine ⟨.ref s1.heap.objs.size, upd H1 s1.heap.objs.size (.frz (tObj us.toArray) (.tup xs)), I1.laid (t' := s1.toks) (fun b u e => Heap.get?_push_of_some _ e) (Nat.le_refl _) ?_, rfl, q _ _ hf⟩
  exact ⟨Heap.get?_push_size _ rfl, z, us, r, ⟨_, Heap.get?_push_size _ rfl, rfl, _, rfl⟩⟩
def rCatF (K : PySem.W.Frag) : R2 := fun x y H Q => ∃ a b xs ys, x = .ref a ∧ y = .ref b ∧ SqT K H a xs ∧ SqT K H b ys ∧ xs.length + ys.length ≤ sizeLine ∧
  (xs = [] → Q (.ref b) H) ∧ (xs ≠ [] → ys = [] → Q (.ref a) H) ∧ (xs ≠ [] → ys ≠ [] → ∀ p its, H p = none → Q (.ref p) (upd H p (.frz (tObj its) (.tup (xs ++ ys)))))
theorem op_catF {X : Cx} : OpR X (binaryOp .Add) (rCatF X.K) := by
  intro pins s σ H x y v u Q I rx ry h
  obtain ⟨a, b, xs, ys, rfl, rfl, ha, hb, hz, q0, q1, q2⟩ := h
  by_cases hx : xs = []
  · exact op_catA pins s σ H _ _ v u Q I rx ry ⟨a, b, xs, ys, rfl, rfl, ha, hb, hz, q0, q1, fun k => absurd hx k⟩
  cases rx
  cases ry
  obtain ⟨its, r1, p1, _⟩ := I.tuple ha
  obtain ⟨its2, r2, p2, _⟩ := I.tuple hb
  refine HT.cat_tup p1 p2 (fun z => hx (r1.nil_iff.mp z)) (fun z => ⟨.ref a, H, I, rfl, q1 hx (r2.nil_iff.mp z)⟩) (fun z => ?_) (by rw [← r1.length, ← r2.length]; exact hz)
  refine ⟨.ref s.heap.objs.size, _, I.laid (t' := s.toks) (o := .frz (tObj (its ++ its2).toArray) (.tup (xs ++ ys))) (fun b ob q => Heap.get?_push_of_some _ q) (Nat.le_refl _) ?_, rfl, q2 hx (fun w => z (r2.nil_iff.mpr w)) _ _ (I.hok.fresh (Nat.le_refl _))⟩
  exact ⟨Heap.get?_push_size _ rfl, by rw [List.length_append]; exact hz, _, r1.append r2, IsTup.new _ _⟩
/-! ### dict(t) -/
theorem pairsV {X : Cx} {pins : List (Addr × Obj)} {σ : L2.St} {H : Hp} {s : Shared} (I : Inv X pins σ H s) : ∀ {ps : List Addr} {kvs : List (Key × V)}, Paired (fun p kv => SqT X.K H p [kV kv.1, kv.2]) ps kvs →
    ∃ (vv : List (Value × Value)) (prs : List (Key × Value)), KV kvs prs ∧ vv.length = ps.length ∧ prs.length = ps.length ∧ ∀ (j : Nat) (k v : Value), vv[j]? = some (k, v) → ∃ (b : Addr) (key : Key), ps[j]? = some b ∧ IsTup s.heap b #[k, v] ∧ prs[j]? = some (key, v) ∧ keyIs key k = true
  | _, _, .nil => ⟨[], [], .nil, rfl, rfl, fun j k v e => by simp at e⟩
  | _, _, .cons (a := p) (b := kv) h t => by
    obtain ⟨vv, prs, r, hl, hl2, hp⟩ := pairsV I t
    obtain ⟨its, rv, ht, _⟩ := I.tuple h
    obtain ⟨u, y, ei, ru, ry⟩ := vals2 rv
    subst ei
    refine ⟨(u, y) :: vv, (kv.1, y) :: prs, .cons ⟨rfl, ry⟩ r, by rw [List.length_cons, List.length_cons, hl], by rw [List.length_cons, List.length_cons, hl2], fun j k v e => ?_⟩
    cases j with
    | zero =>
      have e' : (u, y) = (k, v) := Option.some.inj e
      cases e'
      exact ⟨p, kv.1, rfl, ht, rfl, kV_is (P := X.prog) (w := X.w) ru⟩
    | succ j =>
      obtain ⟨b, key, e1, e2, e3, e4⟩ := hp j k v (by simpa using e)
      exact ⟨b, key, by simpa using e1, e2, by simpa using e3, e4⟩
def rDictF (K : PySem.W.Frag) : List V → Hp → VK → Prop := fun xs H Q => ∃ (a : Addr) (ps : List Addr) (kvs : List (Key × V)), xs = [.ref a] ∧ FT H a (ps.map V.ref) ∧ Paired (fun p kv => SqT K H p [kV kv.1, kv.2]) ps kvs ∧
  ∀ p, H p = none → Q (.ref p) (upd H p (.dK (mergeK [] kvs)))
theorem cr_dictF {X : Cx} (hcalm : X.calm = true) : CallR X (.type "dict") (rDictF X.K) := by
  intro pins s σ H xs us Q I r q
  obtain ⟨a, ps, kvs, rfl, ⟨ob, hq⟩, hp, q⟩ := q
  obtain ⟨u, rfl, rx⟩ := vals1 r
  cases rx
  obtain ⟨hob, hz, its, rv, ht⟩ := I.hok a _ hq
  obtain ⟨o', ho', hc', n', hd'⟩ := ht
  rw [hob] at ho'
  cases ho'
  have ei := refs_at rv
  subst ei
  rw [List.length_map] at hz
  obtain ⟨vv, prs, rel, hl, hl2, hpr⟩ := pairsV I hp
  have hd'' : (tObj ob).data = .seq (ps.map Value.ref).toArray n' := hd'
  refine PySem.call_dict_pairs (knd := mixKind X.prog X.w) (kvs := prs) (PairArg.tuple a (ps.map Value.ref).toArray (fun j => ps.getD j 0) vv) (I.ok.hd hcalm) ⟨⟨tObj ob, n', hob, rfl, rfl, hd''⟩, ?_, fun j k v e => ?_⟩ ⟨by rw [hl2, hl], fun j k v e => ?_⟩ (by rw [hl]; exact hz) fun h' tk hd2 k => ?_
  · rw [List.size_toArray, List.length_map, hl]
  · obtain ⟨b, key, e1, e2, _⟩ := hpr j k v e
    have e3 : ps.getD j 0 = b := by rw [List.getD_eq_getElem?_getD, e1]; rfl
    refine ⟨?_, ?_⟩
    · simp [e1, e3]
    · show PairAt s.heap (ps.getD j 0) k v
      rw [e3]
      exact .inl e2
  · obtain ⟨b, key, _, _, e3, e4⟩ := hpr j k v e
    exact ⟨key, e3, e4⟩
  · have hm : (s.heap.objs.size == sysModules) = false := beq_eq_false_iff_ne.mpr (Nat.ne_of_gt I.big)
    have hlen : (mergeK [] kvs).length ≤ sizeLine := by
      refine Nat.le_trans (length_mergeK kvs []) ?_
      rw [List.length_nil, Nat.zero_add, rel.length, hl2]
      exact hz
    exact ⟨.ref s.heap.objs.size, upd H s.heap.objs.size (.dK (mergeK [] kvs)), I.laid (t' := tk) (fun b o e => k b o (by simp) e) (Nat.le_refl _) (show ObjOk X.prog X.w _ _ _ (.dK (mergeK [] kvs)) from ⟨hlen, hm, merged [] prs, KV.merge rel .nil, hd2⟩), rfl, q _ (I.hok.fresh (Nat.le_refl _))⟩
end Bf

set_option Elab.async false
set_option linter.all false
set_option maxRecDepth 100000
set_option maxHeartbeats 4000000
namespace Bf
open PySem PySem.Spec PyProof.Rows L2
/-! ### zip of a list or tuple and a text -/
theorem strAt {h h' : Heap} {a : Addr} {ty : String} {x : Str} {t : Tok} {i : Nat} (y : h.IsStrIter a ty x t i) (k : ∀ o, h.get? a = some o → h'.get? a = some o) : h'.IsStrIter a ty x t i := let ⟨o, e, r⟩ := y; ⟨o, k o e, r⟩
def ItZS (S1 : Src) (K : PySem.W.Frag) (a : Addr) (zt : Str) : It :=
  ⟨fun i H => ∃ (xs : List V) (x : V) (c : Nat), S1.sq K H a xs ∧ xs[i]? = some x ∧ zt.cps[i]? = some c,
    fun i H v H' => ∃ T x c, v = .ref T ∧ H T = none ∧ H' = upd H T (.tup [x, .str ⟨#[c]⟩]) ∧ (∀ xs, S1.sq K H a xs → xs[i]? = some x) ∧ zt.cps[i]? = some c,
    fun i H => ∃ xs : List V, S1.sq K H a xs ∧ i ≤ xs.length ∧ i ≤ zt.cps.size ∧ (i = xs.length ∨ i = zt.cps.size)⟩
theorem turn_zipS (S1 : Src) {P : Program} {w : World} {K : PySem.W.Frag} {elts : List Expr} {kk : Nat} {tpos : Pos} {a z TI TO i1 i2 : Addr} {zt : Str} {tz : Tok} (D : ZipSep2 z TI TO i1 i2 [i1, a] [i2]) (ha1 : a ≠ i1) :
    Turn P w K (.Tuple elts kk tpos) (ItZS S1 K a zt) [z, TI, TO, i1, i2] z (fun i h => IsZip h z TI TO .none ∧ IsTupOf2 h TI (.ref i1) (.ref i2) ∧ (∃ x y, IsTupOf2 h TO x y) ∧ S1.itr h i1 a i ∧ h.IsStrIter i2 (strIterType zt) zt tz i) where
  mem := by simp
  obj := fun i h st c hc => by
    obtain ⟨hz, hTI, ⟨x, y, hTO⟩, h1, h2⟩ := st
    have e' : c = z ∨ c = TI ∨ c = TO ∨ c = i1 ∨ c = i2 := by simpa using hc
    rcases e' with q | q | q | q | q
    · rw [q]; exact ⟨_, hz, fun v q => nomatch q⟩
    · rw [q]; exact ⟨_, hTI, fun v q => nomatch q⟩
    · rw [q]; exact ⟨_, hTO, fun v q => nomatch q⟩
    · rw [q]; exact S1.obj h1
    · rw [q]; obtain ⟨o, e, _, d⟩ := h2; exact ⟨o, e, fun v z => by rw [d] at z; cases z⟩
  keep := fun i h h' st k => by
    obtain ⟨hz, hTI, ⟨x, y, hTO⟩, h1, h2⟩ := st
    exact ⟨k z (by simp) _ hz, k TI (by simp) _ hTI, ⟨x, y, k TO (by simp) _ hTO⟩, S1.at_ h1 fun o q => k i1 (by simp) o q, strAt h2 fun o q => k i2 (by simp) o q⟩
  item := by
    intro X hP hw hK hc i pins s σ H E I hf st hg
    subst hP hw hK
    obtain ⟨hz, hTI, ⟨x0, y0, hTO⟩, h1, h2⟩ := st
    obtain ⟨xs, x, c0, hqx, hx, hy⟩ := hg
    obtain ⟨its, rv, p⟩ := S1.inv I hqx
    obtain ⟨u, hu, ru⟩ := rv.get hx
    have hzl : z < s.heap.objs.size := Heap.lt_size hz
    have hlt : i < its.toArray.size := by
      have q := (List.getElem?_eq_some_iff.mp hu).1
      simpa using q
    have hlt2 : i < zt.cps.size := (Array.getElem?_eq_some_iff.mp hy).1
    have hh : X.A.in1.handled = none := I.ok.hd hc
    refine wpAny_pyNext_zipD2_item D (S1.draws hh i1 a ha1 its.toArray) (Draws.text hh i2 zt tz) hz hTI hTO ⟨h1, p⟩ h2 hlt hlt2 fun v v2 h' tk hv hv2 z' TO' st1 st2 hT hsz hk => ?_
    have ev : u = v := by
      have q : its[i]? = some v := by simpa using hv
      rw [hu] at q; cases q; rfl
    obtain ⟨c, uu, hcc, rfl⟩ := hv2
    obtain rfl : c0 = c := Option.some.inj (hy.symm.trans hcc)
    subst ev
    refine ⟨_, rfl, wpAny_letOwnedTupleGo_zip (s := { s with heap := h', toks := tk }) z' fun h'' z'' sb => ?_⟩
    have hT2 : h''.get? s.heap.objs.size = some { cls := .type "tuple", data := .seq #[u, .str ⟨#[c0]⟩ uu] } := (sb.2 _ (Nat.ne_of_gt hzl)).trans hT
    have new : ObjOk X.prog X.w (upd H s.heap.objs.size (.tup [x, .str ⟨#[c0]⟩])) h'' s.heap.objs.size (.tup [x, .str ⟨#[c0]⟩]) :=
      ⟨by show 2 ≤ sizeLine; decide, [u, .str ⟨#[c0]⟩ uu], .cons ru (.cons ⟨_, rfl⟩ .nil), ⟨_, hT2, rfl, _, rfl⟩⟩
    have I1 : Inv X pins σ (upd H s.heap.objs.size (.tup [x, .str ⟨#[c0]⟩])) { s with heap := h'', toks := tk } :=
      I.turnedNew (ch := [z, TI, TO, i1, i2]) (fun c o hb q => (sb.2 c (fun q' => hb (by simp [q']))).trans (hk c o (fun q' => hb (by simp [q'])) (fun q' => hb (by simp [q'])) (fun q' => hb (by simp [q'])) (fun q' => hb (by simp [q'])) q)) hf (Nat.le_refl _) new
    have zi1 : i1 ≠ z := fun q => D.zf1 (by simp [q])
    have zi2 : i2 ≠ z := fun q => D.zf2 (by simp [q])
    refine ⟨.ref s.heap.objs.size, _, I1, rfl, ⟨_, x, c0, rfl, I.hok.fresh (Nat.le_refl _), rfl, fun l hl => by rw [S1.inj I hl hqx]; exact hx, hy⟩, ⟨z'', ?_, ⟨u, .str ⟨#[c0]⟩ uu, ?_⟩, ?_, ?_⟩, fun c hcm => ?_⟩
    · exact (sb.2 _ D.TIz).trans (hk _ _ D.TIz D.TITO D.TIi1 D.TIi2 hTI)
    · exact (sb.2 _ D.TOz).trans TO'
    · exact S1.at_ st1.1 fun o q => (sb.2 _ zi1).trans q
    · exact strAt st2 fun o q => (sb.2 _ zi2).trans q
    · have hlt : c < s.heap.objs.size := by
        have e' : c = z ∨ c = TI ∨ c = TO ∨ c = i1 ∨ c = i2 := by simpa using hcm
        rcases e' with q | q | q | q | q
        · rw [q]; exact hzl
        · rw [q]; exact Heap.lt_size hTI
        · rw [q]; exact Heap.lt_size hTO
        · rw [q]; obtain ⟨_, e1, _⟩ := S1.obj h1; exact Heap.lt_size e1
        · rw [q]; obtain ⟨_, e2, _⟩ := h2; exact Heap.lt_size e2
      rw [upd_ne (Nat.ne_of_lt hlt)]
      exact (hf c hcm).1
  done := by
    intro X hP hw hK hc i pins s σ H E I hf st hg
    subst hP hw hK
    obtain ⟨hz, hTI, ⟨x0, y0, hTO⟩, h1, h2⟩ := st
    obtain ⟨xs, hqx, le1, le2, hend⟩ := hg
    obtain ⟨its, rv, p⟩ := S1.inv I hqx
    have l1 := rv.length
    have hh : X.A.in1.handled = none := I.ok.hd hc
    exact wpAny_pyNext_zipD2_end D (S1.draws hh i1 a ha1 its.toArray) (Draws.text hh i2 zt tz) hz hTI hTO ⟨h1, p⟩ h2 (by rw [List.size_toArray]; omega) le2
      (by rw [List.size_toArray]; omega) fun h' tk hk => ⟨rfl, I.turnedL (t' := tk) (ch := [z, TI, TO, i1, i2]) (fun c o hb q =>
      hk c o (fun q' => hb (by simp [q'])) (fun q' => hb (by simp [q'])) (fun q' => hb (by simp [q'])) (fun q' => hb (by simp [q'])) q) hf⟩
  self := fun A i s Q E st h => wpAny_pyIter_zip st.1 h
theorem zipS_run (S1 : Src) {X : Cx} {pins : List (Addr × Obj)} {σ : L2.St} {H1 : Hp} {s1 : Shared} {us : List Value} {vs : List V} {elts : List Expr} {kk : Nat} {tpos : Pos} {R : It → Hp → Prop} (I1 : Inv X pins σ H1 s1) (r1 : Vals vs us)
    (q1 : ∃ (a : Addr) (zt : Str) (xs : List V), vs = [.ref a, .str zt] ∧ S1.sq X.K H1 a xs ∧ R (ItZS S1 X.K a zt) H1) :
    wpAny (model X.prog X.w) X.A (call (.type "zip") us) (fun v s1 => wpAny (model X.prog X.w) X.A (pyIter v) (PIE X pins σ (.Tuple elts kk tpos) R) X.xe s1) X.xe s1 := by
  obtain ⟨a, zt, xs, ex, hqx, q⟩ := q1
  subst ex
  cases r1 with
  | cons r rr =>
    cases rr with
    | cons r' rr =>
      cases rr
      cases r
      obtain ⟨tz, rfl⟩ := r'
      obtain ⟨its, rv, p1⟩ := S1.inv I1 hqx
      have la := S1.lt p1
      refine zip_begins2 (S1.beg a its.toArray) (begins_text zt tz) p1 trivial fun h' hz hTI hTO h1 h2 hsz hk => wpAny_pyIter_zip hz ?_
      have I2 : Inv X pins σ H1 { s1 with heap := h' } := I1.kept (t' := s1.toks) hk
      refine ⟨s1.heap.objs.size + 4, [s1.heap.objs.size + 4, s1.heap.objs.size + 2, s1.heap.objs.size + 3, s1.heap.objs.size, s1.heap.objs.size + 1], _, _, H1, rfl, I2,
        turn_zipS S1 (zip_sep2 (fp1 := [a]) (fp2 := []) (by intro c hc; rw [List.mem_singleton.mp hc]; exact la) (by intro c hc; cases hc)) (Nat.ne_of_lt la),
        ⟨hz, hTI, ⟨_, _, hTO⟩, S1.start h1, ⟨_, h2, rfl, rfl⟩⟩, fun c hcm => ?_, q⟩
      have e' : c = s1.heap.objs.size + 4 ∨ c = s1.heap.objs.size + 2 ∨ c = s1.heap.objs.size + 3 ∨ c = s1.heap.objs.size ∨ c = s1.heap.objs.size + 1 := by simpa using hcm
      have hle : s1.heap.objs.size ≤ c := by
        rcases e' with z | z | z | z | z
        · rw [z]; exact Nat.le_add_right _ _
        · rw [z]; exact Nat.le_add_right _ _
        · rw [z]; exact Nat.le_add_right _ _
        · rw [z]; exact Nat.le_refl _
        · rw [z]; exact Nat.le_add_right _ _
      exact I1.fpOk hle (I1.hok.fresh hle)
def iZpS (K : PySem.W.Frag) (ta : TA) : TI := fun σ H R => ta σ H fun vs H1 => ∃ (S1 : Src) (a : Addr) (zt : Str) (xs : List V), vs = [.ref a, .str zt] ∧ S1.sq K H1 a xs ∧ R (ItZS S1 K a zt) H1
theorem pi_zipS {X : Cx} {e e2 : Expr} {ta : TA} {p pos tpos : Pos} {elts : List Expr} {kk : Nat} (hg : Gl X "zip") (hm : X.mg "zip" = none) (ha : PA X [e, e2] ta)
    (hs : starEach [e, e2] X.env = (false, eval e X.env) :: starEach [e2] X.env := by rfl) (hpl : (backTo pos (starEach [e2] X.env)).any (·.1) = false := by rfl) :
    PI X (.Tuple elts kk tpos) (.Call (.Name "zip" p) [e, e2] [] pos) (iZpS X.K ta) := by
  refine ⟨fun pins s σ H R I h => ?_⟩
  have h' : ta σ H fun vs H1 => ∃ S1 : Src, ∃ (a : Addr) (zt : Str) (xs : List V), vs = [.ref a, .str zt] ∧ S1.sq X.K H1 a xs ∧ R (ItZS S1 X.K a zt) H1 := h
  refine Call_ (ld_blt I hg hm PyProof.Rows.boot_zip (PyProof.Rows.callWith_type1 (thn (ha.run pos pins s σ H _ I h') fun us s1 ⟨vs, H1, I1, r1, q1⟩ => ?_) hs hpl))
  obtain ⟨S1, a, zt, xs, ex, hqx, q⟩ := q1
  exact zipS_run S1 I1 r1 ⟨a, zt, xs, ex, hqx, q⟩
theorem walk_zipS (S1 : Src) {K : PySem.W.Frag} {a : Addr} {xs : List V} {zt : Str} (h : xs.length = zt.cps.size) : Walk (ItZS S1 K a zt) xs.length (fun H => S1.sq K H a xs) (YPair (fun i => xs[i]?) (fun i => zt.cps[i]?.map fun c => V.str ⟨#[c]⟩)) := by
  refine ⟨fun i _ hi q => ⟨xs, xs[i], zt.cps[i]'(by omega), q, by simp [hi], by simp [show i < zt.cps.size by omega]⟩, fun _ q => ⟨xs, q, Nat.le_refl _, by omega, .inl rfl⟩, fun i H v H' _ q y => ?_⟩
  obtain ⟨T, x, c, h1, h2, h3, h4, h5⟩ := y
  exact ⟨T, x, _, h1, h2, h3, h4 xs q, by show (zt.cps[i]?.map fun c => V.str ⟨#[c]⟩) = _; rw [h5]; rfl⟩
end Bf

set_option Elab.async false
set_option linter.all false
set_option maxRecDepth 100000
set_option maxHeartbeats 4000000
namespace Bf
open PySem PySem.Spec PyProof.Rows L2
section
variable {X : Cx}
/-- sorted(d), d a dict with int keys, of any length -/
theorem cr_sortedKeysI (hcalm : X.calm = true) : CallR X (.builtin "sorted") (fun xs H Q => ∃ (a : Addr) (kvs : List (Key × V)) (ks : List Int), xs = [.ref a] ∧ Rd H a (.dK kvs) ∧ kvs.map (·.1) = ks.map Sum.inl ∧
    ∀ (ys : List Int) (p : Addr), ys.Perm ks → ys.Pairwise (· ≤ ·) → H p = none → Q (.ref p) (upd H p (.lst (ys.map V.int)))) := by
  intro pins s σ H xs us Q I r q
  obtain ⟨a, kvs, ks, ex, hd, hks, q⟩ := q
  subst ex
  obtain ⟨u, eu, rx⟩ := vals1 r
  subst eu
  cases rx
  obtain ⟨z, lo, vs, rel, dd⟩ := dk_rd I.hok hd
  obtain ⟨ep, hat⟩ := dd.dictAt
  have hkeys : vs.map (·.1) = ks.map Sum.inl := rel.keys.symm.trans hks
  have hl : vs.length = ks.length := by
    have e := congrArg List.length hkeys
    rw [List.length_map, List.length_map] at e
    exact e
  have h16 : vs.length ≤ sizeLine := by
    rw [← Paired.length rel]
    exact z
  refine Calls.call_function_entry PyProof.Rows.kind_sorted PyProof.Rows.plain_sorted PyProof.Rows.entry_sorted (PyProof.Rows.args_sorted1 _) ?_
  unfold Builtin.«sorted»
  refine wpAny_bind (m := checkCount "sorted" 1 1 _) (wpAny_pure ?_)
  refine wpAny_bind (PySem.W.kdu_collect (A := X.A.in1) (PySem.W.kdl_dict (knd := mixKind X.prog X.w) (kvs := vs) (ep := ep) lo) (I.ok.hd hcalm) hat h16 fun h' tk acc hk hacc => ?_)
  have hal : acc.toList.length = ks.length := by rw [Array.length_toList, hacc.1, hl]
  have hS : IntsAre acc.toList ks := ints_each hal fun j v e => by
    obtain ⟨k, x, e1, e2⟩ := hacc.2 j v (by rw [← Array.getElem?_toList]; exact e)
    have e3 : (vs.map (·.1))[j]? = some k := by rw [List.getElem?_map, e1]; rfl
    rw [hkeys, List.getElem?_map] at e3
    cases e4 : ks[j]? with
    | none => rw [e4] at e3; cases e3
    | some y =>
      rw [e4] at e3
      have e5 : Sum.inl y = k := Option.some.inj e3
      subst e5
      rcases keyIs_shape (show keyIs (Sum.inl y) v = true from e2) with ⟨i, t, ek, ev⟩ | ⟨z, t, ek, ev⟩
      · cases ek
        exact ⟨y, t, rfl, ev⟩
      · cases ek
  have I1 : Inv X pins σ H { s with heap := h', toks := tk } := I.kept hk
  have hal2 : acc.toList.length ≤ sizeLine := by rw [hal, ← hl]; exact h16
  refine wpAny_bind (wpAny_newList ?_ (by rw [hal, ← hl]; exact h16))
  have hoL : (h'.push (seqObj "list" acc.toList.toArray 0)).get? h'.objs.size = some (seqObj "list" acc.toList.toArray 0) := Heap.get?_push_size _ rfl
  show wpAny _ _ _ _ _ { s with heap := h'.push (seqObj "list" acc.toList.toArray 0), toks := tk }
  refine wpAny_bind (wpAny_holding (wpAny_call_entry PyProof.Rows.slot_list_sort ⟨_, hoL, rfl⟩ PyProof.Rows.entry_list_sort
    (SrtO.list_sort_ord (s := { s with heap := h'.push (seqObj "list" acc.toList.toArray 0), toks := tk }) SrtO.swo_int hoL hal2 (fun h2 => SrtO.ints_sortable hS h2) fun out h1 h2 => ⟨_, rfl, ?_⟩) (PyProof.Rows.args_list_sort _)))
  obtain ⟨g1, g2, g3⟩ := SrtO.ints_out hS h1 h2
  obtain ⟨e', he'⟩ := PyProof.Rows.sortedHeap_at (vs := acc.toList) (out := out.toArray) hoL
  have hlen : ((out.map SrtO.iv).map V.int).length ≤ sizeLine := by
    rw [List.length_map, g2.length_eq, ← hl]
    exact h16
  refine wpAny_pure ⟨_, rfl, .ref h'.objs.size, upd H h'.objs.size (.lst ((out.map SrtO.iv).map V.int)), I1.laid (t' := tk) (fun b u e => ?_) (Nat.le_refl _)
    (show ObjOk X.prog X.w _ _ _ (.lst ((out.map SrtO.iv).map V.int)) from ⟨hlen, out, e', vals_of_ints g1, he'⟩), rfl, q _ _ g2 g3 (I1.hok.fresh (Nat.le_refl _))⟩
  have hb : b < h'.objs.size := Heap.lt_size e
  rw [PyProof.Rows.sortedHeap_old (Nat.ne_of_lt hb) (by rw [size_push']; exact Nat.lt_succ_of_lt hb)]
  exact Heap.get?_push_of_some _ e
end
/-- two ascending lists of the same numbers are one -/
theorem sorted_same {xs ys : List Int} (hx : xs.Pairwise (· ≤ ·)) (hy : ys.Pairwise (· ≤ ·)) (h : xs.Perm ys) : xs = ys :=
  h.eq_of_pairwise (fun a b _ _ h1 h2 => Int.le_antisymm h1 h2) hx hy
end Bf

set_option Elab.async false
set_option linter.all false
set_option maxRecDepth 100000
set_option maxHeartbeats 4000000
namespace Bf
open PySem PySem.Spec PyProof.Rows L2
/-! ### zip of a list and a shorter one -/
theorem walk_zipMin (S1 S2 : Src) {K : PySem.W.Frag} {a b : Addr} {xs ys : List V} (h : ys.length ≤ xs.length) : Walk (ItZ S1 S2 K a b) ys.length (fun H => S1.sq K H a xs ∧ S2.sq K H b ys) (YPair (fun i => xs[i]?) (fun i => ys[i]?)) := by
  refine ⟨fun i _ hi q => ⟨xs, ys, xs[i], ys[i], q.1, q.2, by simp [show i < xs.length by omega], by simp [hi]⟩, fun _ q => ⟨xs, ys, q.1, q.2, h, Nat.le_refl _, .inr rfl⟩, fun i H v H' _ q y => ?_⟩
  obtain ⟨T, x, y, h1, h2, h3, h4, h5⟩ := y
  exact ⟨T, x, y, h1, h2, h3, h4 xs q.1, h5 ys q.2⟩
/-! ### slices -/
theorem cutV_from (xs : List V) (k : Nat) : cutV xs (some (k : Int)) none = xs.drop k := by
  unfold cutV
  rw [HT.sIx_nat, HT.sIx_none]
  by_cases h : k ≤ xs.length
  · rw [Nat.min_eq_left h]
    exact List.take_of_length_le (by rw [List.length_drop]; exact Nat.le_refl _)
  · rw [Nat.min_eq_right (by omega), Nat.sub_self, List.take_zero, List.drop_eq_nil_of_le (by omega)]
theorem cutV_to (xs : List V) (k : Nat) : cutV xs none (some (k : Int)) = xs.take k := by
  unfold cutV
  rw [HT.sIx_nat, HT.sIx_none, List.drop_zero, Nat.sub_zero]
  by_cases h : k ≤ xs.length
  · rw [Nat.min_eq_left h]
  · rw [Nat.min_eq_right (by omega), List.take_of_length_le (Nat.le_refl _), List.take_of_length_le (by omega)]
/-- a tuple's slice, as a list of values -/
theorem rdSl {K : PySem.W.Frag} {H : Hp} {b : Addr} {xs : List V} {lo hi : Option Int} {Q : VK} (hb : SqT K H b xs) (k : ∀ (t : Addr) (H' : Hp), Same H H' → SqT K H' t (cutV xs lo hi) → Q (.ref t) H') : rSlA K (.ref b) lo hi H Q := by
  refine ⟨b, xs, rfl, hb, fun hw => ?_, fun hw p hp => k p _ (fun b u q => by rw [upd_ne (ne_of_none q hp)]; exact q) (SqT.of upd_same)⟩
  refine k b H (Same.refl _) ?_
  unfold cutV
  rw [hw.1, hw.2, List.drop_zero, Nat.sub_zero, List.take_length]
  exact hb
/-! ### whole numbers as data -/
def zD (i : Int) : PyData := .int i
theorem lay_zs {H : Hp} : ∀ {ns : List Int} {us : List V}, LayAll H us (ns.map zD) → us = ns.map V.int
  | [], _, h => by cases h; rfl
  | n :: r, _, h => by
    cases h with
    | cons a t =>
      rw [lay_zs t]
      cases a
      rfl
theorem zs_lay {H : Hp} : ∀ ns : List Int, LayAll H (ns.map V.int) (ns.map zD)
  | [] => .nil
  | n :: r => .cons (.int _) (zs_lay r)
theorem dp_zs {K : PySem.W.Frag} {H : Hp} (ns : List Int) : DpAll K H (ns.map V.int) (ns.map zD) := (zs_lay ns).dp
theorem eqv_zs : ∀ ns ms : List Int, PyData.eqvAll (ns.map zD) (ms.map zD) = decide (ns = ms)
  | [], [] => by simp [PyData.eqvAll]
  | [], _ :: _ => by simp [PyData.eqvAll]
  | _ :: _, [] => by simp [PyData.eqvAll]
  | n :: ns, m :: ms => by
    rw [List.map_cons, List.map_cons, PyData.eqvAll, eqv_zs ns ms]
    by_cases h : n = m
    · subst h
      simp [PyData.eqv, zD]
    · simp [PyData.eqv, zD, h]
theorem sh_zs (ns : List Int) : Sh 1 (.list (ns.map zD)) := Sh.lst fun d hd => by
  obtain ⟨n, _, rfl⟩ := List.mem_map.mp hd
  exact Sh.int _ _
theorem sh_zt (ns : List Int) : Sh 1 (.tuple (ns.map zD)) := Sh.tup fun d hd => by
  obtain ⟨n, _, rfl⟩ := List.mem_map.mp hd
  exact Sh.int _ _
/-- two lists of numbers, != -/
theorem rdNeZ {K : PySem.W.Frag} {H : Hp} {a b : Addr} {ns ms : List Int} {Q : VK} (ha : SqL K H a (ns.map V.int)) (hb : SqL K H b (ms.map V.int)) (q : Q (.bl (!decide (ns = ms))) H) : rNeD K (.ref a) (.ref b) H Q := by
  refine ⟨.list (ns.map zD), .list (ms.map zD), .lst ha (dp_zs ns), .lst hb (dp_zs ms), (sh_zs ns).shaped (by decide), (sh_zs ms).shaped (by decide), ?_⟩
  rw [PyData.eqv, eqv_zs]
  exact q
theorem inV_z (x : Int) : ∀ xs : List Int, inV (.int x) (xs.map V.int) = decide (x ∈ xs)
  | [] => rfl
  | y :: xs => by
    have ih := inV_z x xs
    show (eqV (.int y) (.int x) || inV (.int x) (xs.map V.int)) = _
    rw [ih]
    have e : eqV (.int y) (.int x) = decide (y = x) := by
      show (y == x) = decide (y = x)
      by_cases h : y = x
      · subst h; simp
      · rw [decide_eq_false h]
        exact beq_eq_false_iff_ne.mpr h
    rw [e]
    by_cases q : y = x
    · subst q; simp
    · have : ¬ x = y := fun h => q h.symm
      simp [q, this]
theorem flat_zs : ∀ xs : List Int, (xs.map V.int).all flatV = true
  | [] => rfl
  | a :: r => by
    rw [List.map_cons, List.all_cons, flat_zs r]
    rfl
theorem rdInZ {K : PySem.W.Frag} {H : Hp} {a : Addr} {xs : List Int} {x : Int} {Q : VK} (h : SqL K H a (xs.map V.int)) (q : Q (.bl (decide (x ∈ xs))) H) : rIn K false (.int x) (.ref a) H Q := by
  refine ⟨a, _, rfl, .inl h, rfl, flat_zs xs, ?_⟩
  rw [if_neg (by decide), inV_z]
  exact q
theorem rdNotInZ {K : PySem.W.Frag} {H : Hp} {a : Addr} {xs : List Int} {x : Int} {Q : VK} (h : SqL K H a (xs.map V.int)) (q : Q (.bl (!decide (x ∈ xs))) H) : rIn K true (.int x) (.ref a) H Q := by
  refine ⟨a, _, rfl, .inl h, rfl, flat_zs xs, ?_⟩
  rw [if_pos rfl, inV_z]
  exact q
/-- ascending lists of the same numbers -/
theorem ascZ_same {xs ys : List Int} (hx : xs.Pairwise (· < ·)) (hy : ys.Pairwise (· < ·)) (h : ∀ v, v ∈ xs ↔ v ∈ ys) : xs = ys := by
  have nx : xs.Nodup := hx.imp fun h => Int.ne_of_lt h
  have ny : ys.Nodup := hy.imp fun h => Int.ne_of_lt h
  exact ((List.perm_ext_iff_of_nodup nx ny).mpr h).eq_of_pairwise (fun a b _ _ h1 h2 => absurd h1 (Int.lt_asymm h2)) hx hy
theorem sorted_eq {xs ns : List Int} (pw : ns.Pairwise (· < ·)) (h : ∀ v, v ∈ ns ↔ v ∈ xs) : xs = ns ↔ xs.Pairwise (· < ·) := by
  constructor
  · intro e
    rw [e]
    exact pw
  · intro hx
    exact ascZ_same hx pw fun v => (h v).symm
/-! ### ascending? -/
def ascB (xs : List Int) : List Bool := (xs.zip xs.tail).map fun p => decide (p.1 < p.2)
theorem ascB_iff : ∀ xs : List Int, (ascB xs).all id = true ↔ xs.Pairwise (· < ·)
  | [] => by simp [ascB]
  | [a] => by simp [ascB]
  | a :: b :: r => by
    have ih := ascB_iff (b :: r)
    have e : ascB (a :: b :: r) = decide (a < b) :: ascB (b :: r) := rfl
    rw [e, List.all_cons, Bool.and_eq_true, ih]
    constructor
    · rintro ⟨h1, h2⟩
      refine List.pairwise_cons.mpr ⟨fun c hc => ?_, h2⟩
      have h1 : a < b := of_decide_eq_true h1
      rcases List.mem_cons.mp hc with rfl | hc
      · exact h1
      · have := (List.pairwise_cons.mp h2).1 c hc
        omega
    · intro h
      obtain ⟨h1, h2⟩ := List.pairwise_cons.mp h
      exact ⟨decide_eq_true (h1 b (by simp)), h2⟩
theorem ascB_at {xs : List Int} {i : Nat} {a b : Int} (h1 : xs[i]? = some a) (h2 : xs.tail[i]? = some b) : (ascB xs)[i]? = some (decide (a < b)) := by
  unfold ascB
  rw [List.getElem?_map]
  have : (xs.zip xs.tail)[i]? = some (a, b) := List.getElem?_zip_eq_some.mpr ⟨h1, h2⟩
  rw [this]
  rfl
theorem ascB_len (xs : List Int) : (ascB xs).length = xs.tail.length := by
  unfold ascB
  rw [List.length_map, List.length_zip, List.length_tail]
  omega
/-- a bool as it is told -/
theorem qB {Q : VK} {H : Hp} {b c : Bool} (h : b = c) (q : Q (.bl c) H) : Q (V.bl b) H := by
  rw [h]
  exact q
theorem decB {P : Prop} [Decidable P] {b : Bool} (h : b = true ↔ P) : b = decide P := by
  rw [Bool.eq_iff_iff, decide_eq_true_iff]
  exact h
theorem all_map_dec {α : Type} {p : α → Prop} [DecidablePred p] (xs : List α) : ((xs.map fun x => decide (p x)).all id = true) ↔ ∀ x ∈ xs, p x := by
  rw [List.all_map, List.all_eq_true]
  constructor
  · intro h x hx
    exact of_decide_eq_true (h x hx)
  · intro h x hx
    exact decide_eq_true (h x hx)
/-- [p x for x in rows]: bools -/
theorem lc_rowsB {J : It} {xs : List V} {G : Hp → Prop} (w : Walk J xs.length G (YAt xs)) {α : Type} {rows : List α} {f : α → PyData} {p : α → Bool} {tg : TG} {te : TE} {vs : List Nat} {σ : L2.St} {H1 : Hp} {D : Addr} {Qd : Hp → Prop}
    (hG : ∀ H', Same H1 H' → G H') (hD : H1 D = none) (lay : LayAll H1 xs (rows.map f)) (hl : rows.length ≤ 1000)
    (hs : ∀ (x : V) (r : α) (H' : Hp) (R : V → Hp → Prop) (Z : Hp → Prop), r ∈ rows → Same H1 H' → Lay H' x (f r) → (∀ H4, Same H' H4 → R (.bl (p r)) H4) →
      tg x (wipe σ vs) H' fun σ2 H2 => wipe σ2 vs = wipe σ vs ∧ tYes σ2 H2 fun b H3 => if b = true then te σ2 H3 R else Z H3)
    (hd : ∀ H', Same H1 H' → H' D = some (.lst ((rows.map p).map V.bl)) → Qd H') :
    ∃ W : Nat → Nat → Hp → Prop, (∃ m, W 0 m (upd H1 D (.lst []))) ∧ ∀ i m H, W i m H →
      (J.stop i H ∧ Qd H) ∨ (J.go i H ∧ ∃ Nx : Hp → Prop, (∀ H', Nx H' → ∃ m', m' < m ∧ W (i + 1) m' H') ∧ ∀ x H', J.yld i H x H' → tg x (wipe σ vs) H' fun σ2 H2 => wipe σ2 vs = wipe σ vs ∧ tYes σ2 H2 fun b H3 =>
        if b = true then te σ2 H3 fun y H4 => ∃ acc, H4 D = some (.lst acc) ∧ acc.length < sizeLine ∧ Nx (upd H4 D (.lst (acc ++ [y]))) else Nx H3) :=
  lc_rows w hG hD lay hl (g := p) (h := blD) (fun i x r H' R Z hr sm lx k => hs x r H' R Z (List.mem_of_getElem? hr) sm lx fun H4 s4 => k _ _ s4 (.bl _)) fun us H' sm eD lus => hd H' sm (by rw [← lay_bls lus]; exact eD)
theorem useB {R : V → Hp → Prop} {H : Hp} {b c : Bool} (k : R (.bl b) H) (e : b = c) : R (.bl c) H := e ▸ k
theorem rdCatT {K : PySem.W.Frag} {H : Hp} {a b : Addr} {xs ys : List V} {Q : VK} (ha : SqT K H a xs) (hb : SqT K H b ys) (hl : xs.length + ys.length ≤ 1000) (k : ∀ (t : Addr) (H' : Hp), Same H H' → SqT K H' t (xs ++ ys) → Q (.ref t) H') : rCatA K (.ref a) (.ref b) H Q := by
  refine ⟨a, b, xs, ys, rfl, rfl, ha, hb, le1000 hl, fun e => ?_, fun _ e => ?_, fun _ _ p hp => k p _ (fun b u q => by rw [upd_ne (ne_of_none q hp)]; exact q) (SqT.of upd_same)⟩
  · subst e
    exact k b H (.refl _) hb
  · subst e
    exact k a H (.refl _) (by rw [List.append_nil]; exact ha)
theorem vInt_eq (i j : Int) : decide (V.int i = V.int j) = decide (i = j) := by
  by_cases h : i = j
  · subst h; simp
  · rw [decide_eq_false h, decide_eq_false fun e => h (V.int.inj e)]
theorem sortedN {M : List Nat} {ys : List Int} (h : ys.Perm (castL M)) (hp : ys.Pairwise (· ≤ ·)) (nd : M.Nodup) : ∃ zs : List Nat, ys.map V.int = zs.map vI ∧ zs.Pairwise (· < ·) ∧ (∀ v, v ∈ zs ↔ v ∈ M) ∧ zs.length = M.length := by
  have e : ∀ y ∈ ys, y = ((y.toNat : Nat) : Int) := fun y hy => by
    obtain ⟨x, _, rfl⟩ := List.mem_map.mp (h.mem_iff.mp hy)
    simp
  have pz : (ys.map Int.toNat).Perm M := by
    have := h.map Int.toNat
    unfold castL at this
    rw [List.map_map] at this
    have q : M.map (Int.toNat ∘ fun x : Nat => (x : Int)) = M := by
      conv => rhs; rw [← List.map_id M]
      exact List.map_congr_left fun x _ => by simp
    rwa [q] at this
  refine ⟨ys.map Int.toNat, ?_, ?_, fun v => pz.mem_iff, pz.length_eq⟩
  · rw [List.map_map]
    exact List.map_congr_left fun y hy => congrArg V.int (e y hy)
  · have n : (ys.map Int.toNat).Pairwise (· ≠ ·) := pz.nodup_iff.mpr nd
    have l : (ys.map Int.toNat).Pairwise (· ≤ ·) := List.pairwise_map.mpr (hp.imp fun h => Int.toNat_le_toNat h)
    exact (l.and n).imp fun h => Nat.lt_of_le_of_ne h.1 h.2
theorem setZ_keys (M : List Int) : (setZ M).map (·.1) = M.map Sum.inl := by unfold setZ; rw [List.map_map]; rfl
theorem mem_castL {M : List Nat} {x : Nat} : ((x : Int) ∈ castL M) ↔ x ∈ M := by
  unfold castL
  rw [List.mem_map]
  constructor
  · rintro ⟨y, hy, e⟩
    have : y = x := by omega
    rwa [← this]
  · intro h
    exact ⟨x, h, rfl⟩
theorem addZ_cast {M : List Nat} {x : Nat} (h : x ∉ M) : addZ (castL M) (x : Int) = castL (M ++ [x]) := by
  unfold addZ
  rw [if_neg fun q => h (mem_castL.mp q)]
  unfold castL
  rw [List.map_append]
  rfl
end Bf

set_option Elab.async false
set_option linter.all false
set_option maxRecDepth 100000
set_option maxHeartbeats 4000000
namespace Bf
open PySem PySem.Spec PyProof.Rows L2
/-! ### sorted of a list of data that are alike, any number of them -/
theorem each_of {H : Hp} {β : Type} {enc : β → PyData} : ∀ {vs : List V} {its : List Value} {bs : List β}, Vals vs its → LayAll H vs (bs.map enc) → PySem.W.EachIs (fun (u : Value) (b : β) => ∃ x : V, RelV x u ∧ Lay H x (enc b)) its bs
  | [], its, [], r, _ => by cases r; exact .nil
  | v :: vs, its, b :: bs, r, .cons a l => by
    cases r with
    | cons ra rl => exact .cons ⟨v, ra, a⟩ (each_of rl l)
theorem each_back {H : Hp} {β : Type} {enc : β → PyData} : ∀ {its : List Value} {bs : List β}, PySem.W.EachIs (fun (u : Value) (b : β) => ∃ x : V, RelV x u ∧ Lay H x (enc b)) its bs → ∃ vs : List V, Vals vs its ∧ LayAll H vs (bs.map enc)
  | _, _, .nil => ⟨[], .nil, .nil⟩
  | _, _, .cons ⟨x, r, l⟩ t => by
    obtain ⟨vs, r2, l2⟩ := each_back t
    exact ⟨x :: vs, .cons r r2, .cons l l2⟩
def rSortedD (K : PySem.W.Frag) : List V → Hp → VK → Prop := fun xs H Q => ∃ (β : Type) (a : Addr) (vs : List V) (bs : List β) (enc : β → PyData), xs = [V.ref a] ∧ SqL K H a vs ∧ LayAll H vs (bs.map enc) ∧ PySem.W.AllAlike (bs.map enc) ∧ PySem.W.Sortable (bs.map enc) ∧ (∀ b ∈ bs, (enc b).depth ≤ 32) ∧
  ∀ us p, LayAll H us ((bs.mergeSort (PySem.W.dataLe false enc)).map enc) → H p = none → Q (.ref p) (upd H p (.lst us))
section
variable {X : Cx}
theorem cr_sortedD (hu : X.A.units + 64 < cLine) : CallR X (.builtin "sorted") (rSortedD X.K) := by
  intro pins s σ H vs us Q I r h
  obtain ⟨β, a, xs, bs, enc, rfl, hs, hl, hal, hk, hd, q⟩ := h
  obtain ⟨its, rv, hpl, hz⟩ := I.list hs
  obtain ⟨u, rfl, ru⟩ := vals1 r
  obtain rfl : u = Value.ref a := ru
  have e := each_of rv hl
  have hlen : xs.length = bs.length := by simpa using hl.len
  refine PySem.W.sorted_data (R := fun (u : Value) (b : β) => ∃ x : V, RelV x u ∧ Lay H x (enc b)) hpl.isList e (e.mono fun u b ⟨x, rx, lx⟩ => Dp.reads I _ _ _ lx.dp' rx) hal hk (by omega) (fun b hb => by have := hd b hb; omega) fun out hol ho => ?_
  obtain ⟨ys, ry, ly⟩ := each_back ho
  obtain ⟨n, hn⟩ := sortedAll_at s.heap its (List.toArray out)
  have hyl : ys.length ≤ sizeLine := by
    have e1 : ys.length = out.length := ry.length
    omega
  refine ⟨.ref (s.heap.objs.size + 1), upd H (s.heap.objs.size + 1) (.lst ys), I.laid (t' := s.toks) (fun b o e => sortedAll_old e) (Nat.le_succ _) ⟨hyl, out, n, ry, hn⟩, rfl, q _ _ ly (I.hok.fresh (Nat.le_succ _))⟩
end
/-- what was sorted is the same, in an order -/
theorem sortD_perm {β : Type} (enc : β → PyData) (bs : List β) : (bs.mergeSort (PySem.W.dataLe false enc)).Perm bs := List.mergeSort_perm _ _
end Bf

set_option Elab.async false
set_option linter.all false
set_option maxRecDepth 100000
set_option maxHeartbeats 4000000
namespace Bf
open PySem PySem.Spec PyProof.Rows L2
/-! ### data in lists: stored, cut -/
theorem layAt {H : Hp} {v : V} {d : PyData} (l : Lay H v d) : ∀ (ds : List PyData) (vs : List V) (i : Nat), LayAll H vs ds → LayAll H (vs.set i v) (ds.set i d)
  | [], vs, i, h => by
    obtain rfl := h.nil_inv
    exact h
  | e :: ds, vs, i, h => by
    obtain ⟨u, us, rfl, l0, l1⟩ := h.cons_inv
    cases i with
    | zero => exact .cons l l1
    | succ i => exact .cons l0 (layAt l ds us i l1)
theorem layTake {H : Hp} : ∀ (ds : List PyData) (vs : List V) (n : Nat), LayAll H vs ds → LayAll H (vs.take n) (ds.take n)
  | _, _, 0, _ => by rw [List.take_zero, List.take_zero]; exact .nil
  | [], vs, n + 1, h => by
    obtain rfl := h.nil_inv
    rw [List.take_nil, List.take_nil]
    exact .nil
  | e :: ds, vs, n + 1, h => by
    obtain ⟨u, us, rfl, l0, l1⟩ := h.cons_inv
    rw [List.take_succ_cons, List.take_succ_cons]
    exact .cons l0 (layTake ds us n l1)
theorem layDrop {H : Hp} : ∀ (ds : List PyData) (vs : List V) (n : Nat), LayAll H vs ds → LayAll H (vs.drop n) (ds.drop n)
  | _, _, 0, h => h
  | [], vs, n + 1, h => by
    obtain rfl := h.nil_inv
    rw [List.drop_nil, List.drop_nil]
    exact .nil
  | e :: ds, vs, n + 1, h => by
    obtain ⟨u, us, rfl, l0, l1⟩ := h.cons_inv
    rw [List.drop_succ_cons, List.drop_succ_cons]
    exact layDrop ds us n l1
theorem rdCatN {K : PySem.W.Frag} {H : Hp} {a b : Addr} {xs ys : List V} {Q : VK} (ha : SqT K H a xs) (hb : SqT K H b ys) (hl : xs.length + ys.length ≤ 1000) (nx : xs ≠ []) (ny : ys ≠ []) (k : ∀ p : Addr, H p = none → Q (.ref p) (upd H p (.tup (xs ++ ys)))) : rCatA K (.ref a) (.ref b) H Q :=
  ⟨a, b, xs, ys, rfl, rfl, ha, hb, le1000 hl, fun e => absurd e nx, fun _ e => absurd e ny, fun _ _ p hp => k p hp⟩
theorem map_erase {α β : Type} (f : α → β) : ∀ (l : List α) (i : Nat), (l.map f).eraseIdx i = (l.eraseIdx i).map f
  | [], _ => rfl
  | _ :: _, 0 => rfl
  | a :: l, i + 1 => by
    show f a :: (l.map f).eraseIdx i = f a :: (l.eraseIdx i).map f
    rw [map_erase f l i]
/-- sorted of data of one kind -/
theorem rdSortD {K : PySem.W.Frag} {H : Hp} {a : Addr} {vs : List V} {β : Type} {bs : List β} {enc : β → PyData} {Q : VK} (h : SqL K H a vs) (l : LayAll H vs (bs.map enc)) (al : ∀ b b', PySem.W.alike (enc b) (enc b') = true) (so : ∀ b, ∃ x r, enc b = .tuple (x :: r)) (de : ∀ b, (enc b).depth ≤ 32)
    (k : ∀ (cs : List β) (us : List V) (p : Addr), cs.Perm bs → LayAll (upd H p (.lst us)) us (cs.map enc) → H p = none → Q (.ref p) (upd H p (.lst us))) : rSortedD K [.ref a] H Q :=
  ⟨β, a, vs, bs, enc, rfl, h, l, PySem.W.AllAlike.of al, PySem.W.Sortable.tuples so, fun b _ => de b, fun us p lu hp => k _ us p (sortD_perm enc bs) (lu.keep' (.same (same_two (.refl _) hp))) hp⟩
theorem alike_zs : ∀ xs ys : List Int, PySem.W.alikeAll (xs.map zD) (ys.map zD) = true
  | [], _ => by simp [PySem.W.alikeAll]
  | _ :: _, [] => by simp [PySem.W.alikeAll]
  | x :: xs, y :: ys => by
    rw [List.map_cons, List.map_cons, PySem.W.alikeAll, alike_zs xs ys]
    simp [PySem.W.alike, zD]
end Bf

set_option Elab.async false
set_option linter.all false
set_option maxRecDepth 100000
set_option maxHeartbeats 4000000
namespace Bf
open PySem PySem.Spec PyProof.Rows L2
/-! ### slices and sums of tuples, as they lie -/
theorem rdSlX {K : PySem.W.Frag} {H : Hp} {b : Addr} {xs : List V} {lo hi : Option Int} {Q : VK} (hb : H b = some (.tup xs)) (k : ∀ (t : Addr) (H' : Hp), Same H H' → H' t = some (.tup (cutV xs lo hi)) → Q (.ref t) H') : rSlA K (.ref b) lo hi H Q := by
  refine ⟨b, xs, rfl, SqT.of hb, fun hw => ?_, fun hw p hp => k p _ (fun b u q => by rw [upd_ne (ne_of_none q hp)]; exact q) upd_same⟩
  refine k b H (Same.refl _) ?_
  unfold cutV
  rw [hw.1, hw.2, List.drop_zero, Nat.sub_zero, List.take_length]
  exact hb
theorem rdCatX {K : PySem.W.Frag} {H : Hp} {a b : Addr} {xs ys : List V} {Q : VK} (ha : H a = some (.tup xs)) (hb : H b = some (.tup ys)) (hl : xs.length + ys.length ≤ 1000) (k : ∀ (t : Addr) (H' : Hp), Same H H' → H' t = some (.tup (xs ++ ys)) → Q (.ref t) H') : rCatA K (.ref a) (.ref b) H Q := by
  refine ⟨a, b, xs, ys, rfl, rfl, SqT.of ha, SqT.of hb, le1000 hl, fun e => ?_, fun _ e => ?_, fun _ _ p hp => k p _ (fun b u q => by rw [upd_ne (ne_of_none q hp)]; exact q) upd_same⟩
  · subst e
    exact k b H (.refl _) hb
  · subst e
    exact k a H (.refl _) (by rw [List.append_nil]; exact ha)
theorem cutV_succ (xs : List V) (k : Nat) : cutV xs (some ((k : Int) + 1)) none = xs.drop (k + 1) := cutV_from xs (k + 1)
end Bf

set_option Elab.async false
set_option linter.all false
set_option maxRecDepth 100000
set_option maxHeartbeats 4000000
namespace Bf
open PySem PySem.Spec PyProof.Rows L2
/-! ### list(d.values()) -/
def rListVals : V → Hp → VK → Prop := fun x H Q => ∃ (d : Addr) (kvs : List (Key × V)), x = .ref d ∧ H d = some (.dK kvs) ∧ ∀ p, H p = none → Q (.ref p) (upd H p (.lst (kvs.map Prod.snd)))
def tListVals (te : TE) : TE := fun σ H Q => te σ H fun x H1 => rListVals x H1 Q
theorem kv_vals {kvs : List (Key × V)} {vs : List (Key × Value)} (h : KV kvs vs) : ∀ (j : Nat) (x : V) (k : Key) (u : Value), (kvs.map Prod.snd)[j]? = some x → vs[j]? = some (k, u) → RelV x u := by
  induction h with
  | nil => intro j x k u h1 h2; simp at h1
  | cons r t ih =>
    intro j x k u h1 h2
    cases j with
    | zero =>
      simp at h1 h2
      rw [← h1]
      have := r.2
      rw [h2] at this
      exact this
    | succ j => exact ih j x k u (by simpa using h1) (by simpa using h2)
section
variable {X : Cx} {e : Expr} {te : TE} {p apos cpos pos : Pos}
theorem pe_listVals (hc : X.calm = true) (he : PE X e te) (hg : Gl X "list") (hm : X.mg "list" = none) (hv : bootBuiltins "list" = some (.type "list")) (hbase : attributeBase e "values" X.env (eval e X.env) = eval e X.env := by rfl) (hline : (apos.endLine == cpos.line) = true := by rfl)
    (hs : starEach [.Call (.Attribute e "values" apos) [] [] cpos] X.env = (false, eval (.Call (.Attribute e "values" apos) [] [] cpos) X.env) :: starEach [] X.env := by rfl) :
    PE X (.Call (.Name "list" p) [.Call (.Attribute e "values" apos) [] [] cpos] [] pos) (tListVals te) := by
  refine ⟨fun pins s σ H Q I hq => ?_⟩
  refine wpAny_Call_Name_kw (ld_blt I hg hm hv ?_)
  refine PyProof.Rows.callWith_type1 ?_ hs rfl
  rw [hs]
  show wpAny _ _ (spliced ((false, eval (.Call (.Attribute e "values" apos) [] [] cpos) X.env) :: backTo pos (starEach [] X.env))) _ _ s
  refine Calls.spliced_cons ?_
  refine wpAny_Call_method (T := "dict") (id := "dict.values") hbase rfl hline F.plainAttrs_dict F.slot_dict_values F.type_dict_values (thn (he.run pins s σ H _ I hq) fun u s1 ⟨x, H1, I1, rx, d, kvs, ex, hd, q⟩ => ?_)
  subst ex
  obtain rfl : u = Value.ref d := rx
  obtain ⟨hz, hs0, vs, kv, hdo⟩ := I1.hok d _ hd
  obtain ⟨ep, hat⟩ := hdo.dictAt
  have lk : kvs.length = vs.length := Paired.length kv
  have I2 : Inv X pins σ H1 { s1 with heap := s1.heap.push { cls := .type "dict_values", data := .fields #[.ref d] } } := I1.kept (t' := s1.toks) fun b ob q => Heap.get?_push_of_some _ q
  refine ⟨hdo.typeIs, hdo.mapOf.noDict, ?_⟩
  show wpAny _ _ (callWith cpos (.builtin "dict.values") [.ref d] [] []) _ X.xe s1
  refine method_meetsIn F.slot_dict_values F.entry_dict_values rfl (PySem.evalArgs_none ⟨rfl, hdo.typeIs, F.args_dict_values_1 _, _, meets_dict_values (mixKind X.prog X.w) d hs0, ⟨vs, hdo⟩, ?_⟩)
  refine Calls.spliced_nil ?_
  refine PySem.W.kdl_call (PySem.W.kdl_values (knd := mixKind X.prog X.w) (r := s1.heap.objs.size) (d := d) (kvs := vs) (ep := ep)) (I1.ok.hd hc) ⟨⟨_, Heap.get?_push_size _ rfl, rfl, rfl⟩, hat.push _⟩ (by rw [← lk]; exact hz) fun h' tk acc c hk hS hacc => ?_
  refine ⟨.ref _, upd H1 _ (.lst (kvs.map Prod.snd)), I2.laid hk (Nat.le_refl _) (show ObjOk X.prog X.w _ _ _ (.lst (kvs.map Prod.snd)) from ⟨?_, acc.toList, c, ?_, ?_⟩), rfl, q _ (I2.hok.fresh (Nat.le_refl _))⟩
  · rw [List.length_map]; exact hz
  · have el : acc.toList.length = acc.size := by simp
    refine vals_of_at (by rw [List.length_map, el, hacc.1, lk]) fun j x w h1 h2 => ?_
    obtain ⟨k, hky⟩ := hacc.2 j w (by rw [← Array.getElem?_toList]; exact h2)
    exact kv_vals kv j x k w h1 hky
  · rw [Array.toArray_toList]; exact hS
end
end Bf

set_option Elab.async false
set_option linter.all false
set_option maxRecDepth 100000
set_option maxHeartbeats 4000000
namespace Bf
open PySem PySem.Spec PyProof.Rows L2
def topS (i : Nat) : Stmt := PySem.Challenge.pw_beatfabric_k19_shortest_rings.main.body.getD i (.Pass ⟨0, 0, 0, 0⟩)
abbrev s_steps_to : Stmt := topS 1
abbrev s_ring_size : Stmt := topS 2
abbrev s_least_ring : Stmt := topS 3
abbrev s_shortest_ring : Stmt := topS 4
abbrev s_law_begin : Stmt := topS 6
abbrev s_law_draw : Stmt := topS 7
abbrev s_law_pick : Stmt := topS 8
abbrev s_law_pop : Stmt := topS 9
abbrev s_law_rare : Stmt := topS 10
abbrev s_law_shuffled : Stmt := topS 11
abbrev s_law_flat_pool : Stmt := topS 12
abbrev s_law_added_rings : Stmt := topS 13
abbrev s_law_hung : Stmt := topS 14
abbrev s_law_links : Stmt := topS 15
abbrev s_law_changed : Stmt := topS 16
abbrev s_law_steps : Stmt := topS 17
abbrev s_law_far : Stmt := topS 18
abbrev s_law_ring : Stmt := topS 19
abbrev s_law : Stmt := topS 20
theorem sc_steps_to : FnScope ["name", "hung", "steps", "found", "at", "here", "other"] ["name", "hung"] (defScope s_steps_to) := ⟨rfl, rfl, rfl, by decide +kernel, rfl, by decide +kernel, by decide +kernel⟩
theorem sc_ring_size : FnScope ["name", "hangs", "steps", "sizes", "other"] ["name", "hangs", "steps"] (defScope s_ring_size) := ⟨rfl, rfl, rfl, by decide +kernel, rfl, by decide +kernel, by decide +kernel⟩
theorem sc_least_ring : FnScope ["name", "hangs", "steps", "size", "ring", "left", "other"] ["name", "hangs", "steps", "size"] (defScope s_least_ring) := ⟨rfl, rfl, rfl, by decide +kernel, rfl, by decide +kernel, by decide +kernel⟩
theorem sc_shortest_ring : FnScope ["links", "hangs", "hung", "name", "others", "other", "best", "ring", "steps", "size"] ["links"] (defScope s_shortest_ring) := ⟨rfl, rfl, rfl, by decide +kernel, rfl, by decide +kernel, by decide +kernel⟩
theorem sc_law_begin : FnScope ["_law_script", "_law_cell"] ["_law_script"] (defScope s_law_begin) := ⟨rfl, rfl, rfl, by decide +kernel, rfl, by decide +kernel, by decide +kernel⟩
theorem sc_law_draw : FnScope ["_law_d", "_law_many", "_law_found", "_law_size", "_law_cell"] ["_law_d", "_law_many"] (defScope s_law_draw) := ⟨rfl, rfl, rfl, by decide +kernel, rfl, by decide +kernel, by decide +kernel⟩
theorem sc_law_pick : FnScope ["_law_d", "_law_row"] ["_law_d", "_law_row"] (defScope s_law_pick) := ⟨rfl, rfl, rfl, by decide +kernel, rfl, by decide +kernel, by decide +kernel⟩
theorem sc_law_pop : FnScope ["_law_d", "_law_row"] ["_law_d", "_law_row"] (defScope s_law_pop) := ⟨rfl, rfl, rfl, by decide +kernel, rfl, by decide +kernel, by decide +kernel⟩
theorem sc_law_rare : FnScope ["_law_d", "_law_many"] ["_law_d", "_law_many"] (defScope s_law_rare) := ⟨rfl, rfl, rfl, by decide +kernel, rfl, by decide +kernel, by decide +kernel⟩
theorem sc_law_shuffled : FnScope ["_law_d", "_law_row", "_law_left", "_law_found", "_law_k"] ["_law_d", "_law_row"] (defScope s_law_shuffled) := ⟨rfl, rfl, rfl, by decide +kernel, rfl, by decide +kernel, by decide +kernel⟩
theorem sc_law_flat_pool : FnScope ["_law_text"] [] (defScope s_law_flat_pool) := ⟨rfl, rfl, rfl, by decide +kernel, rfl, by decide +kernel, by decide +kernel⟩
theorem sc_law_added_rings : FnScope ["_law_d", "_law_many", "_law_found", "_law_size", "_law_j", "_law_ring_here", "_law_one", "_law_other"] ["_law_d", "_law_many", "_law_found"] (defScope s_law_added_rings) := ⟨rfl, rfl, rfl, by decide +kernel, rfl, by decide +kernel, by decide +kernel⟩
theorem sc_law_hung : FnScope ["_law_d", "_law_many", "_law_k", "_law_found", "_law_mode", "_law_j", "_law_at"] ["_law_d", "_law_many"] (defScope s_law_hung) := ⟨rfl, rfl, rfl, by decide +kernel, rfl, by decide +kernel, by decide +kernel⟩
theorem sc_law_links : FnScope ["_law_d", "_law_names", "_law_many", "_law_k", "_law_row", "_law_links_here", "_law_found", "_law_told", "_law_at"] ["_law_d"] (defScope s_law_links) := ⟨rfl, rfl, rfl, by decide +kernel, rfl, by decide +kernel, by decide +kernel⟩
theorem sc_law_changed : FnScope ["_law_d", "_law_links_here", "_law_at", "_law_name", "_law_hung_here", "_law_gone", "_law_other"] ["_law_d", "_law_links_here"] (defScope s_law_changed) := ⟨rfl, rfl, rfl, by decide +kernel, rfl, by decide +kernel, by decide +kernel⟩
theorem sc_law_steps : FnScope ["_law_links_here", "_law_known", "_law_steps_here", "_law_name", "_law_hung_here", "_law_pair", "_law_other"] ["_law_links_here"] (defScope s_law_steps) := ⟨rfl, rfl, rfl, by decide +kernel, rfl, by decide +kernel, by decide +kernel⟩
theorem sc_law_far : FnScope ["_law_steps_here", "_law_goal", "_law_far_here", "_law_turn", "_law_name", "_law_news", "_law_other"] ["_law_steps_here", "_law_goal"] (defScope s_law_far) := ⟨rfl, rfl, rfl, by decide +kernel, rfl, by decide +kernel, by decide +kernel⟩
theorem sc_law_ring : FnScope ["_law_links_here", "_law_steps_here", "_law_best", "_law_start", "_law_far_here", "_law_back", "_law_k", "_law_nexts", "_law_other"] ["_law_links_here"] (defScope s_law_ring) := ⟨rfl, rfl, rfl, by decide +kernel, rfl, by decide +kernel, by decide +kernel⟩
theorem sc_law : FnScope ["_law_script", "_law_d", "_law_first", "_law_second", "_law_one", "_law_two", "_law_links_here", "_law_due", "_law_told"] ["_law_script"] (defScope s_law) := ⟨rfl, rfl, rfl, by decide +kernel, rfl, by decide +kernel, by decide +kernel⟩
structure Txt (mg : Str → Option Value) : Prop where
  n_int : mg "int" = none
  n_len : mg "len" = none
  n_abs : mg "abs" = none
  n_range : mg "range" = none
  n_tuple : mg "tuple" = none
  n_list : mg "list" = none
  n_min : mg "min" = none
  n_any : mg "any" = none
  n_sorted : mg "sorted" = none
  n_zip : mg "zip" = none
  n_dict : mg "dict" = none
  n_isinstance : mg "isinstance" = none
/-! ### the draws -/
/-- what stood elsewhere stands -/
def Keep (S : List Addr) (H H' : Hp) : Prop := ∀ b o, b ∉ S → H b = some o → H' b = some o
theorem Keep.refl (S : List Addr) (H : Hp) : Keep S H H := fun _ _ _ h => h
theorem Keep.trans {S : List Addr} {H H1 H2 : Hp} (a : Keep S H H1) (b : Keep S H1 H2) : Keep S H H2 := fun c o n h => b c o n (a c o n h)
theorem Keep.of_same {S : List Addr} {H H1 : Hp} (a : Same H H1) : Keep S H H1 := fun c o _ h => a c o h
theorem Keep.wide {S S' : List Addr} {H H1 : Hp} (a : Keep S H H1) (h : ∀ b, b ∈ S → b ∈ S') : Keep S' H H1 := fun c o n e => a c o (fun q => n (h c q)) e
theorem Keep.upd {S : List Addr} {H : Hp} {a : Addr} {o : HO} (h : a ∈ S) : Keep S H (upd H a o) := fun b u n e => by
  rw [upd_ne (fun q => n (by rw [q]; exact h))]
  exact e
theorem Keep.new {S : List Addr} {H : Hp} {a : Addr} {o : HO} (h : H a = none) : Keep S H (L2.upd H a o) := fun b u n e => by
  rw [upd_ne (ne_of_none e h)]
  exact e
/-- the state of the draws -/
def DS (H : Hp) (a c : Addr) : Prop := ∃ (at_ left st : Int) (cells : List Int), H a = some (.lst [.ref c, .int at_, .int left, .int st, .int 3]) ∧ 0 ≤ at_ ∧ H c = some (.lst (cells.map V.int))
theorem DS.ne {H : Hp} {a c : Addr} {x : V} {xs : List V} {cells : List Int} (h : H a = some (.lst (.ref c :: xs))) (hc : H c = some (.lst (cells.map V.int))) : c ≠ a := by
  intro e
  rw [e, h] at hc
  have q := HO.lst.inj (Option.some.inj hc)
  cases cells with
  | nil => cases q
  | cons x r => cases (List.cons.inj q).1
theorem DS.keep {S : List Addr} {H H' : Hp} {a c : Addr} (h : DS H a c) (k : Keep S H H') (ha : a ∉ S) (hc : c ∉ S) : DS H' a c := by
  obtain ⟨at_, left, st, cells, h1, h2, h3⟩ := h
  exact ⟨at_, left, st, cells, k _ _ ha h1, h2, k _ _ hc h3⟩
theorem DS.same {H H' : Hp} {a c : Addr} (h : DS H a c) (k : Same H H') : DS H' a c := h.keep (S := []) (Keep.of_same k) (by simp) (by simp)
theorem DS.new {H : Hp} {a c l : Addr} (h : DS H a c) (hl : H l = none) : l ≠ a ∧ l ≠ c := by
  obtain ⟨at_, left, st, cells, h1, h2, h3⟩ := h
  exact ⟨(ne_of_none h1 hl).symm, (ne_of_none h3 hl).symm⟩
theorem pow6000 : (0 : Int) < 1 * 2 ^ (6000 : Int).toNat := by
  rw [Int.one_mul]
  exact Int.pow_pos (by decide)
def spDraw : Sp := fun vs H Q _ => ∃ (a c : Addr) (m : Int), vs = [.ref a, .int m] ∧ DS H a c ∧ 1 ≤ m ∧ m < 1073741824 ∧ ∀ (r : Int) (H' : Hp), 0 ≤ r → r < m → DS H' a c → Keep [a] H H' → Q (.int r) H'
section
variable {P : Program} {w : World} {K : PySem.W.Frag} {mg : Str → Option Value} {base : Heap}
theorem ok_draw {f : Addr} {fd : FuncData} (F : Fun K "_law_draw" "_law_draw" s_law_draw f fd) (T : Txt mg) : FnOk P w K mg base CX0 1 f fd ["_law_d", "_law_many"] spDraw := by
  refine F.ok sc_law_draw (fun vs H Q E h => ?_) (fun cdv A outer s H vs Q E hr h => ?_)
  · obtain ⟨a, c, m, rfl, _⟩ := h
    rfl
  obtain ⟨a, c, m, rfl, ⟨at_, left, st, cells, ha, h0, hc⟩, m1, m2, q⟩ := h
  have hca : c ≠ a := DS.ne (x := .non) ha hc
  refine ⟨_, (pss_cons (ps_if (pt_cmpR op_gt (pe_ix ix_list (pv 0) pe_int (fun _ _ => rfl)) pe_int (nomark _)) (pss_cons (ps_set (i := 2) sc_law_draw.nd rfl (Or.inl rfl) (pe_ix ix_list (pv 0) pe_int (fun _ _ => rfl)))
      (pss_cons (ps_asg (pe_op op_fdiv (pv 2) (pv 1)) (pg_sub (pv 0) pe_int set_list))
      (pss_one (ps_ret (pe_op op_mod (pe_callTy call_int1 (by rfl) T.n_int (by decide +kernel) (pa_cons (pv 2) pa_nil)) (pv 1)))))) pss_nil)
      (pss_cons (ps_set (i := 3) sc_law_draw.nd rfl (Or.inl rfl) pe_int)
      (C8.pss_cut (ps_if (pt_cmpR op_lt (pe_ix ix_list (pv 0) pe_int (fun _ _ => rfl)) (pe_callB call_len_seq (by rfl) T.n_len (by decide +kernel) (pa_cons (pe_ix ix_list (pv 0) pe_int (fun _ _ => rfl)) pa_nil)) (nomark _)) (pss_cons (ps_set (i := 4) sc_law_draw.nd rfl (Or.inl rfl) (pe_ix ix_list (pe_ix ix_list (pv 0) pe_int (fun _ _ => rfl)) (pe_ix ix_list (pv 0) pe_int (fun _ _ => rfl)) (fun _ _ => rfl)))
      (pss_one (ps_set (i := 3) sc_law_draw.nd rfl (Or.inl rfl) (pe_op op_add (pe_op op_mul pe_int (pe_callB call_abs (by rfl) T.n_abs (by decide +kernel) (pa_cons (pv 4) pa_nil))) (pe_callTy call_int1 (by rfl) T.n_int (by decide +kernel) (pa_cons (pe_cmpR op_lt (pv 4) pe_int (nomark _)) pa_nil)))))) pss_nil)
      (C8.pss_cut (ps_augS (pv 0) pe_int get_list pe_int ip_add set_list)
      (pss_cons (ps_if (pt_cmpR op_ge (pv 3) (pe_op op_mul pe_int (pe_op op_pow pe_int pe_int)) (nomark _)) (pss_cons (ps_set (i := 2) sc_law_draw.nd rfl (Or.inl rfl) (pe_op op_mod (pe_callTy call_int1 (by rfl) T.n_int (by decide +kernel) (pa_cons (pe_op op_fdiv (pv 3) pe_int) pa_nil)) (pe_op op_shl pe_int pe_int)))
      (pss_cons (ps_asg (pe_op op_fdiv (pv 2) (pv 1)) (pg_sub (pv 0) pe_int set_list))
      (pss_one (ps_ret (pe_op op_mod (pe_callTy call_int1 (by rfl) T.n_int (by decide +kernel) (pa_cons (pv 2) pa_nil)) (pv 1)))))) pss_nil)
      (pss_cons (ps_asg (pe_op op_mod (pe_callTy call_int1 (by rfl) T.n_int (by decide +kernel) (pa_cons (pe_op op_add (pe_op op_add (pe_op op_add (pe_op op_mul (pe_ix ix_list (pv 0) pe_int (fun _ _ => rfl)) pe_int) (pe_op op_mul (pe_op op_mod (pe_callTy call_int1 (by rfl) T.n_int (by decide +kernel) (pa_cons (pv 3) pa_nil)) pe_int) pe_int)) (pe_op op_mul (pe_ix ix_list (pv 0) pe_int (fun _ _ => rfl)) pe_int)) pe_int) pa_nil)) pe_int) (pg_sub (pv 0) pe_int set_list))
      (pss_one (ps_ret (pe_op op_mod (pe_callTy call_int1 (by rfl) T.n_int (by decide +kernel) (pa_cons (pe_op op_fdiv (pe_ix ix_list (pv 0) pe_int (fun _ _ => rfl)) pe_int) pa_nil)) (pv 1)))))))))), ?_⟩
  refine ⟨_, rfl, a, _, _, _, rfl, rfl, SqL.of ha, atI_nat (j := 2) rfl, _, _, rfl, rfl, _, rfl, ?_⟩
  refine ite2 (fun e => ?_) (fun e => ?_)
  · refine ⟨_, rfl, a, _, _, _, rfl, rfl, SqL.of ha, atI_nat (j := 2) rfl, ?_⟩
    refine ⟨_, rfl, _, rfl, left, m, rfl, rfl, ⟨by omega, by omega⟩, _, rfl, a, _, 2, 2, rfl, rfl, ha, rfl, ?_⟩
    refine ⟨_, rfl, .inl ⟨_, rfl, _, rfl, _, _, rfl, rfl, (by omega), ?_⟩⟩
    exact q _ _ (Int.emod_nonneg _ (by omega)) (Int.emod_lt_of_pos _ (by omega)) ⟨at_, left / m, st, cells, upd_same, h0, by rw [upd_ne hca]; exact hc⟩ (Keep.upd (by simp))
  · refine ⟨fun σ' H' => ∃ (z : Int) (v4 : Option V), σ' = [some (.ref a), some (.int m), none, some (.int z), v4] ∧ H' = H, ?_, ?_⟩
    · refine ⟨_, rfl, a, _, _, _, rfl, rfl, SqL.of ha, atI_nat (j := 1) rfl, _, rfl, a, _, _, _, rfl, rfl, SqL.of ha, atI_nat (j := 0) rfl, c, _, rfl, .inl (SqL.of hc), _, _, rfl, rfl, _, rfl, ?_⟩
      refine ite2 (fun e1 => ?_) (fun e1 => ?_)
      · have e2 : at_ < ((cells.map V.int).length : Nat) := of_decide_eq_true e1
        rw [List.length_map] at e2
        have hk : at_.toNat < cells.length := by omega
        have ek : ((at_.toNat : Nat) : Int) = at_ := by omega
        have q1 : atI (cells.map V.int) ((at_.toNat : Nat) : Int) = some (.int cells[at_.toNat]) := atI_nat (by rw [List.getElem?_map, List.getElem?_eq_getElem hk] <;> rfl)
        rw [ek] at q1
        refine ⟨_, rfl, a, _, _, _, rfl, rfl, SqL.of ha, atI_nat (j := 0) rfl, _, rfl, a, _, _, _, rfl, rfl, SqL.of ha, atI_nat (j := 1) rfl, c, _, _, _, rfl, rfl, SqL.of hc, q1, ?_⟩
        refine ⟨_, rfl, _, rfl, _, _, rfl, rfl, .inl ⟨by decide, by decide⟩, _, rfl, _, _, rfl, rfl, .inr ⟨_, rfl, _, _, rfl, rfl, ?_⟩⟩
        exact ⟨_, _, rfl, rfl⟩
      · exact ⟨_, _, rfl, rfl⟩
    · rintro σ' H' ⟨z, v4, rfl, rfl⟩
      refine ⟨fun σ' H1 => σ' = [some (.ref a), some (.int m), none, some (.int z), v4] ∧ H1 a = some (.lst [.ref c, .int (at_ + 1), .int left, .int st, .int 3]) ∧ H1 c = some (.lst (cells.map V.int)) ∧ Keep [a] H' H1, ?_, ?_⟩
      · exact ⟨_, rfl, a, _, 1, .int at_, rfl, rfl, ha, atI_nat (j := 1) rfl, at_, 1, rfl, rfl, a, _, 1, 1, rfl, rfl, ha, rfl, rfl, upd_same, by rw [upd_ne hca]; exact hc, Keep.upd (by simp)⟩
      rintro σ' H1 ⟨rfl, h1, h2, k1⟩
      refine ⟨_, rfl, _, _, rfl, rfl, ⟨by decide, by decide, by decide⟩, _, _, rfl, rfl, .inl ⟨by decide, by decide⟩, _, _, rfl, rfl, _, rfl, ?_⟩
      refine ite2 (fun e3 => ?_) (fun e3 => ?_)
      · refine ⟨_, rfl, z, 2, rfl, rfl, ⟨by decide, by decide⟩, .inl ⟨_, rfl, 1, 6000, rfl, rfl, ⟨by decide, by decide, by decide⟩, _, _, rfl, rfl, pow6000, ?_⟩⟩
        refine ⟨_, rfl, _, rfl, _, m, rfl, rfl, ⟨by omega, by omega⟩, _, rfl, a, _, 2, 2, rfl, rfl, h1, rfl, ?_⟩
        refine ⟨_, rfl, .inl ⟨_, rfl, _, rfl, _, _, rfl, rfl, (by omega), ?_⟩⟩
        refine q _ _ (Int.emod_nonneg _ (by omega)) (Int.emod_lt_of_pos _ (by omega)) ⟨at_ + 1, _, st, cells, upd_same, by omega, by rw [upd_ne hca]; exact h2⟩ (k1.trans (Keep.upd (by simp)))
      · refine ⟨_, rfl, a, _, _, _, rfl, rfl, SqL.of h1, atI_nat (j := 3) rfl, _, _, rfl, rfl, .inr ⟨by decide, by decide⟩, ?_⟩
        refine ⟨_, rfl, .inl ⟨_, rfl, _, _, rfl, rfl, (by show (0 : Int) < 2147483629; decide), _, _, rfl, rfl, .inr ⟨by decide, by decide⟩, _, _, rfl, rfl, ?_⟩⟩
        refine ⟨_, rfl, a, _, _, _, rfl, rfl, SqL.of h1, atI_nat (j := 1) rfl, _, _, rfl, rfl, .inr ⟨by decide, by decide⟩, _, _, rfl, rfl, _, _, rfl, rfl, .inl ⟨_, rfl, _, _, rfl, rfl, (by show (0 : Int) < 2147483647; decide), ?_⟩⟩
        refine ⟨_, rfl, a, _, 3, 3, rfl, rfl, h1, rfl, ?_⟩
        refine ⟨_, rfl, a, _, _, _, rfl, rfl, SqL.of upd_same, atI_nat (j := 3) rfl, _, _, rfl, rfl, ⟨by decide, by decide⟩, .inl ⟨_, rfl, _, rfl, _, _, rfl, rfl, (by omega), ?_⟩⟩
        exact q _ _ (Int.emod_nonneg _ (by omega)) (Int.emod_lt_of_pos _ (by omega)) ⟨at_ + 1, left, _, cells, upd_same, by omega, by rw [upd_ne hca]; exact h2⟩ (k1.trans (Keep.upd (by simp)))
end

/-! ### the beginning of the draws; a draw out of a list; is it an int -/
theorem same_new {H : Hp} {p : Addr} (h : H p = none) (o : HO) : Same H (upd H p o) := fun b u q => by rw [upd_ne (ne_of_none q h)]; exact q
theorem intAt {xs : List Int} {i : Nat} {x : V} (h : (xs.map V.int)[i]? = some x) : ∃ k, xs[i]? = some k ∧ x = V.int k := by
  rw [List.getElem?_map] at h
  cases e : xs[i]? with
  | none => rw [e] at h; cases h
  | some k => rw [e] at h; exact ⟨k, rfl, (Option.some.inj h).symm⟩
def spBegin (K : PySem.W.Frag) : Sp := fun vs H Q _ => ∃ (a : Addr) (ns : List Int), vs = [.ref a] ∧ SqL K H a (ns.map V.int) ∧ ns.length ≤ 63 ∧ ∀ (d c : Addr) (H' : Hp), H d = none → H c = none → DS H' d c → Same H H' → Q (.ref d) H'
section
variable {P : Program} {w : World} {K : PySem.W.Frag} {mg : Str → Option Value} {base : Heap}
theorem ok_begin {f : Addr} {fd : FuncData} (F : Fun K "_law_begin" "_law_begin" s_law_begin f fd) (T : Txt mg) : FnOk P w K mg base CX0 1 f fd ["_law_script"] (spBegin K) := by
  refine F.ok sc_law_begin (fun vs H Q E h => ?_) (fun cdv A outer s H vs Q E hr h => ?_)
  · obtain ⟨a, ns, rfl, _⟩ := h
    rfl
  obtain ⟨a, ns, rfl, hS, h63, q⟩ := h
  refine ⟨_, (pss_one (ps_ret (pe_lst (pa_cons (pe_lc (own := [("_law_cell", 1)]) (g := (gName 1)) (tt := tYes) rfl sc_law_begin.nd (pi_list (pv 0)) (blkOk_by (N := ["_law_script", "_law_cell"]) (sc := defScope s_law_begin) (by decide +kernel)) (fun _ _ _ _ _ => (pg_name (i := 1) sc_law_begin.nd rfl (Or.inl rfl))) (fun _ _ _ _ _ => pts_nil) (fun _ _ _ _ _ => (pe_callTy call_int1 (by rfl) T.n_int (by decide +kernel) (pa_cons (pv 1) pa_nil)))) (pa_cons pe_int (pa_cons pe_int (pa_cons pe_int (pa_cons pe_int pa_nil)))))))), ?_⟩
  refine ⟨_, rfl, a, rfl, ⟨_, hS⟩, fun D hD => lc_list (K := K) (a := a) (xs := ns.map V.int) (fun i H' => Same H H' ∧ H' D = some (.lst ((ns.take i).map V.int)))
    ⟨same_new hD _, upd_same⟩ (fun i H' _ p => p.1.seq hS) (fun i x H' hx p => ?_) (fun H' p => ?_)⟩
  · obtain ⟨k, hk, rfl⟩ := intAt hx
    refine ⟨rfl, _, rfl, .inl ⟨_, rfl, _, p.2, ?_, ?_, ?_⟩⟩
    · rw [List.length_map, List.length_take]
      exact small1000 (by omega)
    · intro b o e
      rw [upd_ne (ne_of_none e hD)]
      exact p.1 b o e
    · rw [upd_same, List.take_add_one, hk, List.map_append]
      rfl
  · rw [List.length_map, List.take_length] at p
    refine ⟨(by show 5 ≤ sizeLine; decide), fun l hl => ?_⟩
    have nDl : D ≠ l := ne_of_none p.2 hl
    refine q l D _ (p.1.free hl) hD ⟨0, 0, 7, ns, upd_same, Int.le_refl 0, by rw [upd_ne nDl]; exact p.2⟩ (p.1.trans (same_new hl _))
end

/-- a draw of an item of a list, which is taken out -/
def spPop : Sp := fun vs H Q _ => ∃ (d c l : Addr) (xs : List V), vs = [.ref d, .ref l] ∧ DS H d c ∧ H l = some (.lst xs) ∧ l ≠ d ∧ l ≠ c ∧ 1 ≤ xs.length ∧ xs.length ≤ 1000 ∧
  ∀ (k : Nat) (y : V) (H' : Hp), xs[k]? = some y → DS H' d c → H' l = some (.lst (xs.eraseIdx k)) → Keep [d, l] H H' → Q y H'
section
variable {P : Program} {w : World} {K : PySem.W.Frag} {mg : Str → Option Value} {base : Heap}
theorem ok_pop {f : Addr} {fd : FuncData} (F : Fun K "_law_pop" "_law_pop" s_law_pop f fd) (T : Txt mg) (D_law_draw : Dn P w K mg base "_law_draw" ["_law_d", "_law_many"] 1 spDraw) :
    FnOk P w K mg base CX0 2 f fd ["_law_d", "_law_row"] spPop := by
  refine F.ok sc_law_pop (fun vs H Q E h => ?_) (fun cdv A outer s H vs Q E hr h => ?_)
  · obtain ⟨d, c, l, xs, rfl, _⟩ := h
    rfl
  obtain ⟨d, c, l, xs, rfl, hd, hl, nld, nlc, h1, h2, q⟩ := h
  refine ⟨_, (pss_one (ps_ret (pe_bm PySem.F.plainAttrs_list PySem.F.slot_list_pop PySem.F.type_list_pop mt_popAt (pv 1) (pa_cons (pe_dn D_law_draw (hr.mono (by omega)) (by rfl) (pa_cons (pv 0) (pa_cons (pe_callB call_len_seq (by rfl) T.n_len (by decide +kernel) (pa_cons (pv 1) pa_nil)) pa_nil))) pa_nil)))), ?_⟩
  refine ⟨_, rfl, .inl ⟨rfl, _, SqL.of hl⟩, _, rfl, _, rfl, l, _, rfl, .inl (SqL.of hl), d, c, _, rfl, hd, (by omega), (by omega), fun r H' r0 r1 hd' k1 => ?_⟩
  have hl' : H' l = some (.lst xs) := k1 _ _ (by simp [nld]) hl
  have hk : r.toNat < xs.length := by omega
  refine ⟨l, xs, r, r.toNat, xs[r.toNat], rfl, rfl, hl', by omega, by omega, seqIndex_of r0 (by omega), List.getElem?_eq_getElem hk, ?_⟩
  refine q _ _ _ (List.getElem?_eq_getElem hk) (hd'.keep (S := [l]) (Keep.upd (by simp)) (by simp [nld.symm]) (by simp [nlc.symm])) upd_same ((k1.wide (by simp)).trans (Keep.upd (by simp)))
end

/-! ### what stands -/
theorem DS.at_ {H : Hp} {d c : Addr} (h : DS H d c) : ∃ l, H d = some (.lst l) := let ⟨_, _, _, _, e, _⟩ := h; ⟨_, e⟩
theorem Keep.tups {S : List Addr} {H H' : Hp} (k : Keep S H H') (n : ∀ b ∈ S, ∃ l, H b = some (.lst l)) : KeepT H H' := fun b xs h => k _ _ (fun m => by
  obtain ⟨l, q⟩ := n b m
  rw [q] at h
  cases h) h
theorem Keep.tup1 {H H' : Hp} {d c : Addr} (k : Keep [d] H H') (h : DS H d c) : KeepT H H' := k.tups fun b hb => by rw [List.mem_singleton.mp hb]; exact h.at_
theorem Keep.tup2 {H H' : Hp} {d c l : Addr} {xs : List V} (k : Keep [d, l] H H') (h : DS H d c) (hl : H l = some (.lst xs)) : KeepT H H' := k.tups fun b hb => by
  rcases List.mem_cons.mp hb with e | hb
  · rw [e]; exact h.at_
  · rw [List.mem_singleton.mp hb]; exact ⟨_, hl⟩
/-- the names that are left -/
def Nms (H : Hp) (l : Addr) (n : Nat) : Prop := ∃ names : List V, H l = some (.lst names) ∧ (∀ v ∈ names, ∃ z : Str, v = .str z) ∧ names.length = n
theorem Nms.keep {S : List Addr} {H H' : Hp} {l : Addr} {n : Nat} (h : Nms H l n) (k : Keep S H H') (hl : l ∉ S) : Nms H' l n := let ⟨x, a, b, e⟩ := h; ⟨x, k _ _ hl a, b, e⟩
theorem Nms.same {H H' : Hp} {l : Addr} {n : Nat} (h : Nms H l n) (k : Same H H') : Nms H' l n := let ⟨x, a, b, e⟩ := h; ⟨x, k _ _ a, b, e⟩
theorem Nms.cast {H : Hp} {l : Addr} {n m : Nat} (h : Nms H l n) (e : n = m) : Nms H l m := e ▸ h
theorem Keep.thin {S S' : List Addr} {H H' : Hp} (k : Keep S' H H') (h : ∀ b ∈ S', b ∈ S ∨ H b = none) : Keep S H H' := fun b o n e => k b o (fun m => by
  rcases h b m with q | q
  · exact n q
  · rw [q] at e; cases e) e
theorem Keep.cat {S S' : List Addr} {H H1 H2 : Hp} (a : Keep S H H1) (b : Keep S' H1 H2) : Keep (S ++ S') H H2 := fun c o n h => b c o (fun m => n (List.mem_append_right _ m)) (a c o (fun m => n (List.mem_append_left _ m)) h)
theorem Keep.free {S : List Addr} {H H' : Hp} {l : Addr} (k : Keep S H H') (h : H' l = none) (n : l ∉ S) : H l = none := by
  cases e : H l with
  | none => rfl
  | some o => rw [k l o n e] at h; cases h
theorem Keep.sm {H H' : Hp} (k : Same H H') : Keep [] H H' := .of_same k
theorem Keep.at1 {H : Hp} {a : Addr} {o : HO} : Keep [a] H (L2.upd H a o) := .upd (by simp)
/-- the list at D: data of acc -/
def Acc {α : Type} (D : Addr) (f : α → PyData) (acc : List α) (H : Hp) : Prop := ∃ vs : List V, H D = some (.lst vs) ∧ LayAll H vs (acc.map f)
theorem Acc.nil {α : Type} {D : Addr} {f : α → PyData} {H : Hp} : Acc D f [] (upd H D (.lst [])) := ⟨[], upd_same, .nil⟩
theorem Acc.keep {α : Type} {D : Addr} {f : α → PyData} {acc : List α} {S : List Addr} {H H' : Hp} (h : Acc D f acc H) (k : Keep S H H') (t : KeepT H H') (n : D ∉ S) : Acc D f acc H' := let ⟨vs, a, b⟩ := h; ⟨vs, k _ _ n a, b.keep' t⟩
theorem Acc.same {α : Type} {D : Addr} {f : α → PyData} {acc : List α} {H H' : Hp} (h : Acc D f acc H) (k : Same H H') : Acc D f acc H' := let ⟨vs, a, b⟩ := h; ⟨vs, k _ _ a, b.keep' (.same k)⟩
theorem Acc.push {α : Type} {D : Addr} {f : α → PyData} {acc : List α} {H : Hp} {y : V} {x : α} (h : Acc D f acc H) (l : Lay H y (f x)) (n : acc.length ≤ 1000) :
    ∃ vs, H D = some (.lst vs) ∧ vs.length < sizeLine ∧ Acc D f (acc ++ [x]) (upd H D (.lst (vs ++ [y]))) ∧ KeepT H (upd H D (.lst (vs ++ [y]))) := by
  obtain ⟨vs, a, b⟩ := h
  have e := b.len
  rw [List.length_map] at e
  have kt : KeepT H (upd H D (.lst (vs ++ [y]))) := .lst a
  refine ⟨vs, a, by rw [e]; exact small1000 n, ⟨_, upd_same, ?_⟩, kt⟩
  rw [List.map_append]
  exact (b.snoc l).keep' kt
theorem Acc.at_ {α : Type} {D : Addr} {f : α → PyData} {acc : List α} {H : Hp} (h : Acc D f acc H) : ∃ l, H D = some (.lst l) := let ⟨vs, a, _⟩ := h; ⟨vs, a⟩

/-! ### a rare case by a draw -/
def spRare : Sp := fun vs H Q _ => ∃ (d c : Addr) (m : Int), vs = [.ref d, .int m] ∧ DS H d c ∧ 1 ≤ m ∧ m < 1000 ∧ ∀ (b : Bool) (H' : Hp), DS H' d c → Keep [d] H H' → Q (.bl b) H'
section
variable {P : Program} {w : World} {K : PySem.W.Frag} {mg : Str → Option Value} {base : Heap} {f : Addr} {fd : FuncData}
theorem ok_rare (F : Fun K "_law_rare" "_law_rare" s_law_rare f fd) (T : Txt mg) (D_law_draw : Dn P w K mg base "_law_draw" ["_law_d", "_law_many"] 1 spDraw) : FnOk P w K mg base CX0 2 f fd ["_law_d", "_law_many"] spRare := by
  refine F.ok sc_law_rare (fun vs H Q E h => ?_) (fun cdv A outer s H vs Q E hr h => ?_)
  · obtain ⟨d, c, m, rfl, _⟩ := h
    rfl
  obtain ⟨d, c, m, rfl, hd, h1, h2, q⟩ := h
  refine ⟨_, (pss_one (ps_ret (pe_cmpR op_eq (pe_dn D_law_draw (hr.mono (by omega)) (by rfl) (pa_cons (pv 0) (pa_cons (pv 1) pa_nil))) (pe_op op_fdiv (pv 1) pe_int) (nomark _)))), ?_⟩
  refine ⟨_, rfl, _, rfl, d, c, m, rfl, hd, h1, by omega, fun r H' r0 r1 hd' k1 => ?_⟩
  exact ⟨_, rfl, m, 2, rfl, rfl, ⟨by decide, by decide⟩, rfl, q _ _ hd' k1⟩
end

/-! ### an item of a list or a tuple by draws -/
def spPick (K : PySem.W.Frag) : Sp := fun vs H Q _ => ∃ (d c l : Addr) (xs : List V), vs = [.ref d, .ref l] ∧ DS H d c ∧ l ≠ d ∧ SqL K H l xs ∧ 1 ≤ xs.length ∧ xs.length ≤ 1000 ∧
  ∀ (k : Nat) (y : V) (H' : Hp), xs[k]? = some y → DS H' d c → Keep [d] H H' → Q y H'
def spPickA (K : PySem.W.Frag) : Sp := fun vs H Q _ => ∃ (d c l : Addr) (xs : List V), vs = [.ref d, .ref l] ∧ DS H d c ∧ l ≠ d ∧ (SqL K H l xs ∨ SqT K H l xs) ∧ 1 ≤ xs.length ∧ xs.length ≤ 1000 ∧
  ∀ (k : Nat) (y : V) (H' : Hp), xs[k]? = some y → DS H' d c → Keep [d] H H' → Q y H'
theorem Keep.seqL {S : List Addr} {K : PySem.W.Frag} {H H' : Hp} {a : Addr} {xs : List V} (k : Keep S H H') (n : a ∉ S) (h : SqL K H a xs) : SqL K H' a xs := by
  rcases h with (h | ⟨u, h⟩) | h
  · exact .inl (.inl (k _ _ n h))
  · exact .inl (.inr ⟨u, k _ _ n h⟩)
  · exact .inr h
theorem Keep.seqT {S : List Addr} {K : PySem.W.Frag} {H H' : Hp} {a : Addr} {xs : List V} (k : Keep S H H') (n : a ∉ S) (h : SqT K H a xs) : SqT K H' a xs := by
  rcases h with (h | ⟨u, h⟩) | h
  · exact .inl (.inl (k _ _ n h))
  · exact .inl (.inr ⟨u, k _ _ n h⟩)
  · exact .inr h
section
variable {P : Program} {w : World} {K : PySem.W.Frag} {mg : Str → Option Value} {base : Heap} {f : Addr} {fd : FuncData}
theorem ok_pickA (F : Fun K "_law_pick" "_law_pick" s_law_pick f fd) (T : Txt mg) (D_law_draw : Dn P w K mg base "_law_draw" ["_law_d", "_law_many"] 1 spDraw) : FnOk P w K mg base CX0 2 f fd ["_law_d", "_law_row"] (spPickA K) := by
  refine F.ok sc_law_pick (fun vs H Q E h => ?_) (fun cdv A outer s H vs Q E hr h => ?_)
  · obtain ⟨d, c, l, xs, rfl, _⟩ := h
    rfl
  obtain ⟨d, c, l, xs, rfl, hd, nld, hl, h1, h2, q⟩ := h
  refine ⟨_, (pss_one (ps_ret (pe_ix ix_seq (pv 1) (pe_dn D_law_draw (hr.mono (by omega)) (by rfl) (pa_cons (pv 0) (pa_cons (pe_callB call_len_seq (by rfl) T.n_len (by decide +kernel) (pa_cons (pv 1) pa_nil)) pa_nil))) (fun _ _ => rfl)))), ?_⟩
  refine ⟨_, rfl, _, rfl, _, rfl, l, _, rfl, hl, d, c, _, rfl, hd, by omega, by omega, fun r H' r0 r1 hd' k1 => ?_⟩
  obtain ⟨x, rfl⟩ := Int.eq_ofNat_of_zero_le r0
  have hx : x < xs.length := by omega
  rcases hl with hl | hl
  · exact .inl ⟨l, xs, _, _, rfl, rfl, k1.seqL (by simp [nld]) hl, atI_nat (List.getElem?_eq_getElem hx), q _ _ _ (List.getElem?_eq_getElem hx) hd' k1⟩
  · exact .inr (.inl ⟨l, xs, _, _, rfl, rfl, k1.seqT (by simp [nld]) hl, atI_nat (List.getElem?_eq_getElem hx), q _ _ _ (List.getElem?_eq_getElem hx) hd' k1⟩)
end
/-- the same, of a list -/
theorem Dn.pick {P : Program} {w : World} {K : PySem.W.Frag} {mg : Str → Option Value} {base : Heap} {x : Str} {ps : List Str} {k : Nat} (D : Dn P w K mg base x ps k (spPickA K)) : Dn P w K mg base x ps k (spPick K) := by
  obtain ⟨f, fd, ok, r⟩ := D.ex
  refine ⟨f, fd, ok.imp fun vs H Q E h => ?_, r⟩
  obtain ⟨d, c, l, xs, e, hd, n, hl, h⟩ := h
  exact ⟨d, c, l, xs, e, hd, n, .inl hl, h⟩

theorem erase_perm : ∀ (zs : List V) (k : Nat) (y : V), zs[k]? = some y → (y :: zs.eraseIdx k).Perm zs
  | [], _, _, h => by simp at h
  | z :: zs, 0, y, h => by
    cases h
    exact .refl _
  | z :: zs, k + 1, y, h => (List.Perm.swap z y _).trans (.cons z (erase_perm zs k y (by simpa using h)))
def spShuf (K : PySem.W.Frag) : Sp := fun vs H Q _ => ∃ (d c l : Addr) (xs : List V), vs = [.ref d, .ref l] ∧ DS H d c ∧ l ≠ d ∧ (SqL K H l xs ∨ SqT K H l xs) ∧ xs.length ≤ 1000 ∧
  ∀ (p : Addr) (ys : List V) (H' : Hp), ys.Perm xs → H p = none → H' p = some (.lst ys) → DS H' d c → Keep [d] H H' → Q (.ref p) H'
section
variable {P : Program} {w : World} {K : PySem.W.Frag} {mg : Str → Option Value} {base : Heap} {f : Addr} {fd : FuncData}
theorem ok_shuf (F : Fun K "_law_shuffled" "_law_shuffled" s_law_shuffled f fd) (T : Txt mg) (D_law_draw : Dn P w K mg base "_law_draw" ["_law_d", "_law_many"] 1 spDraw) : FnOk P w K mg base CX0 2 f fd ["_law_d", "_law_row"] (spShuf K) := by
  refine F.ok sc_law_shuffled (fun vs H Q E h => ?_) (fun cdv A outer s H vs Q E hr h => ?_)
  · obtain ⟨d, c, l, xs, rfl, _⟩ := h
    rfl
  obtain ⟨d, c, l, xs, rfl, hd, nld, hl, h2, q⟩ := h
  refine ⟨_, (pss_cons (ps_set (i := 2) sc_law_shuffled.nd rfl (Or.inl rfl) (pe_callTy call_list_of (by rfl) T.n_list (by decide +kernel) (pa_cons (pv 1) pa_nil)))
      (pss_cons (ps_set (i := 3) sc_law_shuffled.nd rfl (Or.inl rfl) (pe_lst pa_nil))
      (pss_cons (ps_for PassesOwn.never rfl (pi_range1 rfl T.n_range (pa_cons (pe_callB call_len_seq (by rfl) T.n_len (by decide +kernel) (pa_cons (pv 2) pa_nil)) pa_nil)) (pg_name (i := 4) sc_law_shuffled.nd rfl (Or.inl rfl)) (pss_one (ps_expr (pe_bm PySem.F.plainAttrs_list PySem.F.slot_list_append PySem.F.type_list_append mt_append (pv 3) (pa_cons (pe_bm PySem.F.plainAttrs_list PySem.F.slot_list_pop PySem.F.type_list_pop mt_popAt (pv 2) (pa_cons (pe_dn D_law_draw (hr.mono (by omega)) (by rfl) (pa_cons (pv 0) (pa_cons (pe_callB call_len_seq (by rfl) T.n_len (by decide +kernel) (pa_cons (pv 2) pa_nil)) pa_nil))) pa_nil)) pa_nil)))))
      (pss_one (ps_ret (pv 3)))))), ?_⟩
  refine ⟨_, rfl, l, xs, rfl, hl, fun L hL => ?_⟩
  obtain ⟨nLd, nLc⟩ := hd.new hL
  have hd1 := hd.same (same_new hL (.lst xs))
  refine ⟨Nat.zero_le _, fun F hF => ?_⟩
  obtain ⟨nFd, nFc⟩ := hd1.new hF
  have nFL : F ≠ L := (ne_of_none upd_same hF).symm
  have s2 := (same_new hL (.lst xs)).trans (same_new hF (.lst []))
  refine ⟨_, rfl, L, xs, rfl, .inl (SqL.of (same_new hF _ _ _ upd_same)), ?_⟩
  have f0 : H F = none := (same_new hL _).free hF
  refine ⟨(xs.length : Int), rfl, (i62 (by omega)).1, (i62 (by omega)).2, for_it walk_range (fun i σ' H' => ∃ (v4 : Option V) (zs ys : List V), σ' = [some (.ref d), some (.ref l), some (.ref L), some (.ref F), v4] ∧ DS H' d c ∧ H' L = some (.lst zs) ∧ H' F = some (.lst ys) ∧ (ys ++ zs).Perm xs ∧ ys.length = i ∧ Keep [d] H H')
    ⟨_, xs, [], rfl, hd1.same (same_new hF _), same_new hF _ _ _ upd_same, upd_same, .refl _, rfl, Keep.of_same s2⟩ (fun _ _ _ _ _ => trivial) (fun i x σ' H' H3 hi p y => ?_) (fun σ' H' p => ?_)⟩
  · obtain ⟨v4, zs, ys, rfl, hd3, hL3, hF3, hp, hyl, k3⟩ := p
    obtain ⟨rfl, rfl⟩ := y
    have hi : i < xs.length := by simpa using hi
    have ln := hp.length_eq
    rw [List.length_append] at ln
    refine ⟨_, rfl, .inl ⟨rfl, _, SqL.of hF3⟩, ?_⟩
    refine ⟨_, rfl, .inl ⟨rfl, _, SqL.of hL3⟩, _, rfl, _, rfl, L, zs, rfl, .inl (SqL.of hL3), d, c, _, rfl, hd3, by omega, by omega, fun r H4 r0 r1 hd4 k4 => ?_⟩
    obtain ⟨x, rfl⟩ := Int.eq_ofNat_of_zero_le r0
    have hx : x < zs.length := by omega
    have hL4 := k4 _ _ (by simp [nLd]) hL3
    have hF4 := k4 _ _ (by simp [nFd]) hF3
    refine ⟨L, zs, _, x, zs[x], rfl, rfl, hL4, by omega, by omega, seqIndex_of r0 (by omega), List.getElem?_eq_getElem hx, ?_⟩
    have hF5 : (upd H4 L (.lst (zs.eraseIdx x))) F = some (.lst ys) := by rw [upd_ne nFL]; exact hF4
    refine ⟨F, ys, _, rfl, rfl, hF5, len1000 (by omega), _, zs.eraseIdx x, ys ++ [zs[x]], rfl, ?_, ?_, upd_same, ?_, by rw [List.length_append, hyl]; rfl, ?_⟩
    · exact (hd4.keep (S := [L]) Keep.at1 (by simp [nLd.symm]) (by simp [nLc.symm])).keep (S := [F]) Keep.at1 (by simp [nFd.symm]) (by simp [nFc.symm])
    · rw [upd_ne nFL.symm, upd_same]
    · rw [List.append_assoc]
      exact (List.Perm.append_left ys (erase_perm zs x _ (List.getElem?_eq_getElem hx))).trans hp
    · exact (((k3.cat k4).cat (Keep.at1 (a := L))).cat (Keep.at1 (a := F))).thin (by simp [hL, f0])
  · obtain ⟨v4, zs, ys, rfl, hd3, hL3, hF3, hp, hyl, k3⟩ := p
    have ln := hp.length_eq
    rw [List.length_append] at ln
    have hz : zs = [] := List.eq_nil_of_length_eq_zero (by omega)
    rw [hz, List.append_nil] at hp
    exact ⟨_, rfl, q F ys _ hp f0 hF3 hd3 k3⟩
end

end Bf

set_option Elab.async false
set_option linter.all false
set_option maxRecDepth 100000
set_option maxHeartbeats 4000000
namespace Bf
open PySem PySem.Spec PyProof.Rows L2
/-! ### names that hang on names, shortest rings -/
abbrev Lks := List (Str × List Str)
def nmsL (L : Lks) : List Str := L.map (·.1)
/-- x hangs on y, and y has a row too -/
def Ed (L : Lks) (x y : Str) : Prop := ∃ row, (x, row) ∈ L ∧ y ∈ row ∧ y ∈ nmsL L
theorem Ed.left {L : Lks} {x y : Str} (h : Ed L x y) : x ∈ nmsL L := let ⟨row, h, _⟩ := h; List.mem_map.mpr ⟨(x, row), h, rfl⟩
theorem Ed.right {L : Lks} {x y : Str} (h : Ed L x y) : y ∈ nmsL L := let ⟨_, _, _, h⟩ := h; h
/-- a way of k steps from x to g, over names of P -/
def Wk (L : Lks) (P : Str → Prop) (g : Str) : Nat → Str → Prop
  | 0, x => x = g
  | k + 1, x => P x ∧ ∃ y, Ed L x y ∧ Wk L P g k y
def Top (_ : Str) : Prop := True
def Dst (L : Lks) (P : Str → Prop) (g x : Str) (k : Nat) : Prop := Wk L P g k x ∧ ∀ j, j < k → ¬ Wk L P g j x
theorem Dst.uniq {L : Lks} {P : Str → Prop} {g x : Str} {j k : Nat} (h : Dst L P g x j) (h' : Dst L P g x k) : j = k := by
  rcases Nat.lt_trichotomy j k with q | q | q
  · exact absurd h.1 (h'.2 j q)
  · exact q
  · exact absurd h'.1 (h.2 k q)
theorem least_of {p : Nat → Prop} (k : Nat) (h : p k) : ∃ m, m ≤ k ∧ p m ∧ ∀ j, j < m → ¬ p j := by
  induction k using Nat.strongRecOn with
  | ind k ih =>
    by_cases e : ∃ j, j < k ∧ p j
    · obtain ⟨j, hj, pj⟩ := e
      obtain ⟨m, h1, h2, h3⟩ := ih j hj pj
      exact ⟨m, by omega, h2, h3⟩
    · exact ⟨k, Nat.le_refl _, h, fun j hj pj => e ⟨j, hj, pj⟩⟩
theorem Wk.dst {L : Lks} {P : Str → Prop} {g x : Str} {k : Nat} (h : Wk L P g k x) : ∃ m, m ≤ k ∧ Dst L P g x m := let ⟨m, h1, h2, h3⟩ := least_of (p := fun k => Wk L P g k x) k h; ⟨m, h1, h2, h3⟩
theorem Wk.mono {L : Lks} {P Q : Str → Prop} (hPQ : ∀ x, P x → Q x) {g : Str} : ∀ {k : Nat} {x : Str}, Wk L P g k x → Wk L Q g k x
  | 0, _, h => h
  | _ + 1, _, ⟨p, y, e, w⟩ => ⟨hPQ _ p, y, e, Wk.mono hPQ w⟩
theorem Wk.top {L : Lks} {P : Str → Prop} {g x : Str} {k : Nat} (h : Wk L P g k x) : Wk L Top g k x := h.mono fun _ _ => trivial
theorem Wk.comp {L : Lks} {g h : Str} {b : Nat} (w2 : Wk L Top h b g) : ∀ {a : Nat} {x : Str}, Wk L Top g a x → Wk L Top h (a + b) x
  | 0, x, w => by
    rw [Nat.zero_add]
    rw [show x = g from w]
    exact w2
  | a + 1, x, ⟨p, y, e, w⟩ => by
    rw [Nat.add_right_comm]
    exact ⟨p, y, e, Wk.comp w2 w⟩
theorem Wk.one {L : Lks} {x y : Str} (e : Ed L x y) : Wk L Top y 1 x := ⟨trivial, y, e, rfl⟩
/-- the shortest closed way at s, with no as short one at lesser names -/
structure Lst (L : Lks) (s : Str) (A : Nat) : Prop where
  pos : 1 ≤ A
  w : Wk L Top s A s
  m : ∀ n, 1 ≤ n → n < A → ¬ Wk L Top s n s
  l : ∀ y, sl y s → ∀ n, 1 ≤ n → n ≤ A → ¬ Wk L Top y n y
theorem Lst.toR {L : Lks} {s : Str} {A : Nat} (h : Lst L s A) : ∀ (k a : Nat) (x : Str), Wk L Top s k x → Wk L Top x a s → 1 ≤ a → a + k = A → Wk L (sl s) s k x
  | 0, _, _, w, _, _, _ => w
  | k + 1, a, x, w, p, ha, hA => by
    obtain ⟨_, y, e, w'⟩ := id w
    have hx : sl s x := by
      by_cases e1 : x = s
      · subst e1
        exact absurd p (h.m a ha (by omega))
      · rcases sl_total e1 with q | q
        · exact absurd (Wk.comp p w) (h.l x q (k + 1 + a) (by omega) (by omega))
        · exact q
    exact ⟨hx, y, e, h.toR k (a + 1) y w' (Wk.comp (Wk.one e) p) (by omega) (by omega)⟩
theorem Lst.cycR {L : Lks} {s : Str} {A : Nat} (h : Lst L s A) : ∃ o, Ed L s o ∧ Wk L (sl s) s (A - 1) o := by
  have hp := h.pos
  obtain ⟨k, rfl⟩ : ∃ k, A = k + 1 := ⟨A - 1, by omega⟩
  obtain ⟨_, o, e, w⟩ := h.w
  exact ⟨o, e, h.toR k 1 o w (Wk.one e) (Nat.le_refl _) (by omega)⟩
theorem cyc_of {L : Lks} {s o : Str} {n : Nat} (e : Ed L s o) (w : Wk L Top s n o) : Wk L Top s (n + 1) s := ⟨trivial, o, e, w⟩
theorem Lst.dst_iff {L : Lks} {s v o : Str} {A i : Nat} (h : Lst L s A) (p : Wk L Top v i s) (hi : i < A) (e : Ed L v o) : Dst L Top s o (A - 1 - i) ↔ Dst L (sl s) s o (A - 1 - i) := by
  have po : Wk L Top o (i + 1) s := Wk.comp (Wk.one e) p
  constructor
  · intro d
    exact ⟨h.toR _ (i + 1) o d.1 po (by omega) (by omega), fun j hj w => d.2 j hj w.top⟩
  · intro d
    refine ⟨d.1.top, fun j hj w => ?_⟩
    exact h.m (i + 1 + j) (by omega) (by omega) (Wk.comp w po)
/-! ### the ring, step by step -/
def Nx (L : Lks) (s : Str) (A i : Nat) (v o : Str) : Prop := Ed L v o ∧ Dst L Top s o (A - 1 - i)
def IsMinP (m : Str) (p : Str → Prop) : Prop := p m ∧ ∀ y, p y → ¬ sl y m
theorem IsMinP.uniq {m n : Str} {p : Str → Prop} (h : IsMinP m p) (k : IsMinP n p) : m = n := by
  by_cases e : m = n
  · exact e
  · rcases sl_total e with q | q
    · exact absurd q (k.2 m h.1)
    · exact absurd q (h.2 n k.1)
structure GrOk (L : Lks) (s : Str) (A : Nat) (vs : List Str) : Prop where
  at0 : vs[0]? = some s
  nx : ∀ i v o, vs[i]? = some v → vs[i + 1]? = some o → IsMinP o (Nx L s A i v)
theorem GrOk.start (L : Lks) (s : Str) (A : Nat) : GrOk L s A [s] := ⟨rfl, fun i v o _ h => by simp at h⟩
theorem GrOk.pos {L : Lks} {s : Str} {A : Nat} {vs : List Str} (h : GrOk L s A vs) : 1 ≤ vs.length := (List.getElem?_eq_some_iff.mp h.at0).1
theorem GrOk.snoc {L : Lks} {s v o : Str} {A : Nat} {vs : List Str} (h : GrOk L s A vs) (hv : vs[vs.length - 1]? = some v) (m : IsMinP o (Nx L s A (vs.length - 1) v)) : GrOk L s A (vs ++ [o]) := by
  have hp := h.pos
  refine ⟨by rw [List.getElem?_append_left (by omega)]; exact h.at0, fun i v' o' h1 h2 => ?_⟩
  have hi := (List.getElem?_eq_some_iff.mp h2).1
  rw [List.length_append, List.length_singleton] at hi
  rw [List.getElem?_append_left (by omega)] at h1
  by_cases e : i + 1 < vs.length
  · rw [List.getElem?_append_left e] at h2
    exact h.nx i v' o' h1 h2
  · have e1 : i = vs.length - 1 := by omega
    subst e1
    rw [hv] at h1
    cases h1
    rw [List.getElem?_append_right (by omega), show vs.length - 1 + 1 - vs.length = 0 by omega] at h2
    cases h2
    exact m
/-- the last name so far: there is a way to it, and it stands as far as it should -/
theorem GrOk.last {L : Lks} {s : Str} {A : Nat} {vs : List Str} (h : GrOk L s A vs) : ∀ (i : Nat) (v : Str), vs[i]? = some v → Wk L Top v i s ∧ (i = 0 ∧ v = s ∨ 1 ≤ i ∧ Dst L Top s v (A - i))
  | 0, v, e => by
    rw [h.at0] at e
    cases e
    exact ⟨rfl, .inl ⟨rfl, rfl⟩⟩
  | i + 1, v, e => by
    have hi := (List.getElem?_eq_some_iff.mp e).1
    obtain ⟨u, hu⟩ : ∃ u, vs[i]? = some u := ⟨_, List.getElem?_eq_getElem (by omega)⟩
    obtain ⟨p, _⟩ := h.last i u hu
    obtain ⟨e1, d⟩ := (h.nx i u v hu e).1
    exact ⟨Wk.comp (Wk.one e1) p, .inr ⟨by omega, by rw [show A - (i + 1) = A - 1 - i by omega]; exact d⟩⟩
theorem Lst.next {L : Lks} {s v : Str} {A i : Nat} {vs : List Str} (h : Lst L s A) (g : GrOk L s A vs) (hv : vs[i]? = some v) (hi : i + 1 < A) : ∃ o, Nx L s A i v o := by
  obtain ⟨p, q⟩ := g.last i v hv
  rcases q with ⟨rfl, rfl⟩ | ⟨i1, d⟩
  · obtain ⟨k, rfl⟩ : ∃ k, A = k + 1 := ⟨A - 1, by omega⟩
    obtain ⟨_, o, e, w⟩ := h.w
    exact ⟨o, e, w, fun j hj w' => h.m (j + 1) (by omega) (by omega) (cyc_of e w')⟩
  · obtain ⟨k, hk⟩ : ∃ k, A - i = k + 1 := ⟨A - i - 1, by omega⟩
    rw [hk] at d
    obtain ⟨_, o, e, w⟩ := d.1
    rw [show k = A - 1 - i by omega] at w
    exact ⟨o, e, w, fun j hj w' => d.2 (j + 1) (by omega) ⟨trivial, o, e, w'⟩⟩
theorem GrOk.uniq {L : Lks} {s : Str} {A : Nat} {vs us : List Str} (h : GrOk L s A vs) (k : GrOk L s A us) (hl : vs.length = us.length) : vs = us := by
  have go : ∀ i : Nat, vs[i]? = us[i]? := by
    intro i
    induction i with
    | zero => rw [h.at0, k.at0]
    | succ i ih =>
      by_cases hi : i + 1 < vs.length
      · obtain ⟨v, hv⟩ : ∃ v, vs[i]? = some v := ⟨_, List.getElem?_eq_getElem (by omega)⟩
        obtain ⟨o, ho⟩ : ∃ o, vs[i + 1]? = some o := ⟨_, List.getElem?_eq_getElem hi⟩
        obtain ⟨o', ho'⟩ : ∃ o, us[i + 1]? = some o := ⟨_, List.getElem?_eq_getElem (by omega)⟩
        rw [ho, ho', (h.nx i v o hv ho).uniq (k.nx i v o' (ih ▸ hv) ho')]
      · rw [List.getElem?_eq_none (by omega), List.getElem?_eq_none (by omega)]
  exact List.ext_getElem? go
/-- the ring that is asked for -/
def RingIs (L : Lks) (vs : List Str) : Prop := (vs = [] ∧ ∀ y n, 1 ≤ n → ¬ Wk L Top y n y) ∨ ∃ s A, Lst L s A ∧ (∀ y n, 1 ≤ n → n < A → ¬ Wk L Top y n y) ∧ vs.length = A ∧ GrOk L s A vs
theorem RingIs.uniq {L : Lks} {vs us : List Str} (h : RingIs L vs) (k : RingIs L us) : vs = us := by
  rcases h with ⟨rfl, h⟩ | ⟨s, A, h1, h2, h3, h4⟩
  · rcases k with ⟨rfl, _⟩ | ⟨s, A, k1, _⟩
    · rfl
    · exact absurd k1.w (h s A k1.pos)
  · rcases k with ⟨rfl, k⟩ | ⟨t, B, k1, k2, k3, k4⟩
    · exact absurd h1.w (k s A h1.pos)
    · have eA : A = B := by
        rcases Nat.lt_trichotomy A B with q | q | q
        · exact absurd h1.w (k2 s A h1.pos q)
        · exact q
        · exact absurd k1.w (h2 t B k1.pos q)
      subst eA
      have es : s = t := by
        by_cases e : s = t
        · exact e
        · rcases sl_total e with q | q
          · exact absurd h1.w (k1.l s q A h1.pos (Nat.le_refl _))
          · exact absurd k1.w (h1.l t q A k1.pos (Nat.le_refl _))
      subst es
      exact h4.uniq k4 (h3.trans k3.symm)
/-- names looked at one after the other: b is the length of the best ring so far, 0 for none -/
structure BestI (L : Lks) (ys : List Str) (i b : Nat) (vs : List Str) : Prop where
  len : vs.length = b
  no : ∀ y ∈ ys.take i, ∀ n, 1 ≤ n → (b = 0 ∨ n < b) → ¬ Wk L Top y n y
  ok : b = 0 ∨ ∃ s, Lst L s b ∧ GrOk L s b vs
theorem BestI.start (L : Lks) (ys : List Str) : BestI L ys 0 0 [] := ⟨rfl, fun y hy => (by rw [List.take_zero] at hy; cases hy), .inl rfl⟩
theorem take_snocS {ys : List Str} {i : Nat} {s : Str} (h : ys[i]? = some s) : ys.take (i + 1) = ys.take i ++ [s] := by
  rw [List.take_add_one, h]
  rfl
/-- ascending names, all of them -/
structure SortedN (L : Lks) (ys : List Str) : Prop where
  mem : ∀ y, y ∈ ys ↔ y ∈ nmsL L
  asc : ys.Pairwise sl
theorem SortedN.lower {L : Lks} {ys : List Str} {i : Nat} {s y : Str} (h : SortedN L ys) (hs : ys[i]? = some s) (hy : y ∈ nmsL L) (hl : sl y s) : y ∈ ys.take i := by
  obtain ⟨j, hj⟩ := List.mem_iff_getElem?.mp ((h.mem y).mpr hy)
  have hj' := (List.getElem?_eq_some_iff.mp hj).1
  have hi' := (List.getElem?_eq_some_iff.mp hs).1
  have hji : j < i := by
    refine Nat.lt_of_not_le fun hij => ?_
    rcases Nat.lt_or_eq_of_le hij with q | q
    · have := List.pairwise_iff_getElem.mp h.asc i j hi' hj' q
      rw [(List.getElem?_eq_some_iff.mp hs).2, (List.getElem?_eq_some_iff.mp hj).2] at this
      exact sl_irrefl _ (sl_trans hl this)
    · subst q
      rw [hs] at hj
      cases hj
      exact sl_irrefl _ hl
  refine List.mem_of_getElem? (i := j) ?_
  rw [List.getElem?_take, if_pos hji]
  exact hj
theorem Wk.name {L : Lks} {P : Str → Prop} {g x : Str} {n : Nat} (h : Wk L P g n x) (h1 : 1 ≤ n) : x ∈ nmsL L := by
  obtain ⟨k, rfl⟩ : ∃ k, n = k + 1 := ⟨n - 1, by omega⟩
  obtain ⟨_, y, e, _⟩ := h
  exact e.left
theorem BestI.lst {L : Lks} {ys : List Str} {i b A : Nat} {vs : List Str} {s : Str} (h : BestI L ys i b vs) (so : SortedN L ys) (hs : ys[i]? = some s) (pos : 1 ≤ A) (w : Wk L Top s A s) (m : ∀ n, 1 ≤ n → n < A → ¬ Wk L Top s n s) (hb : b = 0 ∨ A < b) : Lst L s A := by
  refine ⟨pos, w, m, fun y hy n n1 nA wy => ?_⟩
  exact h.no y (so.lower hs (wy.name n1) hy) n n1 (by omega) wy
/-- a name that gives a better ring -/
theorem BestI.better {L : Lks} {ys : List Str} {i b A : Nat} {vs us : List Str} {s : Str} (h : BestI L ys i b vs) (hs : ys[i]? = some s) (k : Lst L s A) (hb : b = 0 ∨ A < b) (hl : us.length = A) (g : GrOk L s A us) : BestI L ys (i + 1) A us := by
  refine ⟨hl, fun y hy n n1 nA => ?_, .inr ⟨s, k, g⟩⟩
  have := k.pos
  rw [take_snocS hs] at hy
  rcases List.mem_append.mp hy with q | q
  · exact h.no y q n n1 (by omega)
  · rw [List.mem_singleton.mp q]
    exact k.m n n1 (by omega)
/-- .. and one that doesn't -/
theorem BestI.same {L : Lks} {ys : List Str} {i b : Nat} {vs : List Str} {s : Str} (h : BestI L ys i b vs) (hs : ys[i]? = some s) (no : ∀ n, 1 ≤ n → (b = 0 ∨ n < b) → ¬ Wk L Top s n s) : BestI L ys (i + 1) b vs := by
  refine ⟨h.len, fun y hy n n1 nA => ?_, h.ok⟩
  rw [take_snocS hs] at hy
  rcases List.mem_append.mp hy with q | q
  · exact h.no y q n n1 nA
  · rw [List.mem_singleton.mp q]
    exact no n n1 nA
theorem BestI.done {L : Lks} {ys : List Str} {b : Nat} {vs : List Str} (h : BestI L ys ys.length b vs) (so : SortedN L ys) : RingIs L vs := by
  have no := h.no
  rw [List.take_length] at no
  rcases h.ok with rfl | ⟨s, k, g⟩
  · exact .inl ⟨List.length_eq_zero_iff.mp h.len, fun y n n1 w => no y ((so.mem y).mpr (w.name n1)) n n1 (.inl rfl) w⟩
  · exact .inr ⟨s, b, k, fun y n n1 nb w => no y ((so.mem y).mpr (w.name n1)) n n1 (.inr nb) w, h.len, g⟩
/-! ### the program's own size of a ring, over greater names only -/
structure SizeIs (L : Lks) (s : Str) (z : Nat) : Prop where
  some_ : 1 ≤ z → ∃ o, Ed L s o ∧ Wk L (sl s) s (z - 1) o
  no : ∀ n o, (z = 0 ∨ n + 1 < z) → Ed L s o → ¬ Wk L (sl s) s n o
theorem BestI.sizeLst {L : Lks} {ys : List Str} {i b z : Nat} {vs : List Str} {s : Str} (h : BestI L ys i b vs) (so : SortedN L ys) (hs : ys[i]? = some s) (hz : SizeIs L s z) (z1 : 1 ≤ z) (hb : b = 0 ∨ z < b) : Lst L s z := by
  obtain ⟨o, e, w⟩ := hz.some_ z1
  have w0 := cyc_of e w.top
  rw [show z - 1 + 1 = z by omega] at w0
  refine h.lst so hs z1 w0 (fun n n1 nz wn => ?_) hb
  obtain ⟨m, hm, ⟨m1, wm⟩, lm⟩ := least_of (p := fun n => 1 ≤ n ∧ Wk L Top s n s) n ⟨n1, wn⟩
  have k := h.lst so hs m1 wm (fun j j1 jm wj => lm j jm ⟨j1, wj⟩) (by omega)
  obtain ⟨o', e', w'⟩ := k.cycR
  exact hz.no (m - 1) o' (.inr (by omega)) e' w'
theorem BestI.sizeNo {L : Lks} {ys : List Str} {i b z : Nat} {vs : List Str} {s : Str} (h : BestI L ys i b vs) (so : SortedN L ys) (hs : ys[i]? = some s) (hz : SizeIs L s z) (hn : ¬ (1 ≤ z ∧ (b = 0 ∨ z < b))) : BestI L ys (i + 1) b vs := by
  refine h.same hs fun n n1 nb wn => ?_
  obtain ⟨m, hm, ⟨m1, wm⟩, lm⟩ := least_of (p := fun n => 1 ≤ n ∧ Wk L Top s n s) n ⟨n1, wn⟩
  have k := h.lst so hs m1 wm (fun j j1 jm wj => lm j jm ⟨j1, wj⟩) (by omega)
  obtain ⟨o', e', w'⟩ := k.cycR
  refine hz.no (m - 1) o' ?_ e' w'
  omega
end Bf

set_option Elab.async false
set_option linter.all false
set_option maxRecDepth 100000
set_option maxHeartbeats 4000000
namespace Bf
open PySem PySem.Spec PyProof.Rows L2
/-! ### dicts with texts as keys -/
def sK (m : List (Str × V)) : List (Key × V) := m.map fun p => ((Sum.inr p.1 : Key), p.2)
def lkS {α : Type} (m : List (Str × α)) (x : Str) : Option α := (m.find? fun p => decide (p.1 = x)).map (·.2)
theorem valV_sK (m : List (Str × V)) (x : Str) : valV (sK m) (Sum.inr x : Key) = lkS m x := by
  unfold valV sK lkS
  induction m with
  | nil => rfl
  | cons p m ih =>
    rw [List.map_cons, List.find?_cons, List.find?_cons]
    by_cases h : p.1 = x
    · have e : decide ((Sum.inr p.1 : Key) = Sum.inr x) = true := decide_eq_true (by rw [h])
      rw [e, decide_eq_true h]
      rfl
    · have e : decide ((Sum.inr p.1 : Key) = Sum.inr x) = false := decide_eq_false fun q => h (Sum.inr.inj q)
      rw [e, decide_eq_false h]
      exact ih
theorem lkS_none {α : Type} {m : List (Str × α)} {x : Str} : lkS m x = none ↔ x ∉ m.map (·.1) := by
  unfold lkS
  rw [Option.map_eq_none_iff, List.find?_eq_none]
  constructor
  · intro h q
    obtain ⟨p, hp, rfl⟩ := List.mem_map.mp q
    exact h p hp (decide_eq_true rfl)
  · intro h p hp q
    exact h (List.mem_map.mpr ⟨p, hp, of_decide_eq_true q⟩)
theorem lkS_some {α : Type} : ∀ {m : List (Str × α)} {x : Str} {v : α}, (m.map (·.1)).Nodup → (lkS m x = some v ↔ (x, v) ∈ m)
  | [], x, v, _ => by unfold lkS; simp
  | p :: m, x, v, nd => by
    rw [List.map_cons, List.nodup_cons] at nd
    unfold lkS
    rw [List.find?_cons]
    by_cases h : p.1 = x
    · rw [decide_eq_true h]
      constructor
      · intro e
        have e' : p.2 = v := Option.some.inj e
        rw [← h, ← e']
        exact List.mem_cons_self
      · intro e
        rcases List.mem_cons.mp e with q | q
        · rw [← q]; rfl
        · exact absurd (List.mem_map.mpr ⟨(x, v), q, h.symm ▸ rfl⟩) nd.1
    · rw [decide_eq_false h]
      have ih := lkS_some (x := x) (v := v) nd.2
      unfold lkS at ih
      constructor
      · intro e
        exact List.mem_cons_of_mem _ (ih.mp e)
      · intro e
        rcases List.mem_cons.mp e with q | q
        · exact absurd (by rw [← q]) h
        · exact ih.mpr q
theorem lkS_mem {α : Type} {m : List (Str × α)} {x : Str} {v : α} (h : lkS m x = some v) : (x, v) ∈ m := by
  unfold lkS at h
  obtain ⟨p, hp, rfl⟩ := Option.map_eq_some_iff.mp h
  have e : p.1 = x := by
    have := List.find?_some hp
    simpa using this
  have := List.mem_of_find?_eq_some hp
  rw [← e]
  exact this
theorem lkS_is {α : Type} {m : List (Str × α)} {x : Str} : (lkS m x).isSome = true ↔ x ∈ m.map (·.1) := by
  cases h : lkS m x with
  | none => exact ⟨fun q => Bool.noConfusion q, fun q => absurd q (lkS_none.mp h)⟩
  | some v => exact ⟨fun _ => List.mem_map.mpr ⟨(x, v), lkS_mem h, rfl⟩, fun _ => rfl⟩
theorem lkS_map {α β : Type} (f : α → β) (m : List (Str × α)) (x : Str) : lkS (m.map fun p => (p.1, f p.2)) x = (lkS m x).map f := by
  unfold lkS
  rw [List.find?_map, Option.map_map, Option.map_map]
  rfl
theorem putK_new {m : List (Str × V)} {x : Str} {v : V} (h : x ∉ m.map (·.1)) : putK (sK m) (Sum.inr x : Key) v = sK (m ++ [(x, v)]) := by
  have e : (sK m).any (fun kv => decide (kv.1 = (Sum.inr x : Key))) = false := by
    rw [List.any_eq_false]
    intro kv hkv q
    obtain ⟨p, hp, rfl⟩ := List.mem_map.mp hkv
    exact h (List.mem_map.mpr ⟨p, hp, Sum.inr.inj (of_decide_eq_true q)⟩)
  unfold putK
  rw [e, if_neg Bool.false_ne_true]
  unfold sK
  rw [List.map_append]
  rfl
theorem putK_nil (x : Str) (v : V) : putK ([] : List (Key × V)) (Sum.inr x : Key) v = sK [(x, v)] := rfl
theorem merge_sK : ∀ (m n : List (Str × V)), ((n ++ m).map (·.1)).Nodup → mergeK (sK n) (sK m) = sK (n ++ m)
  | [], n, _ => by rw [List.append_nil]; rfl
  | p :: m, n, nd => by
    have h : p.1 ∉ n.map (·.1) := by
      rw [List.map_append, List.map_cons] at nd
      intro q
      exact (List.nodup_append.mp nd).2.2 p.1 q p.1 (by simp) rfl
    show mergeK (putK (sK n) (Sum.inr p.1 : Key) p.2) (sK m) = _
    rw [putK_new h, show n ++ p :: m = (n ++ [(p.1, p.2)]) ++ m by simp]
    exact merge_sK m _ (by simpa using nd)
/-- a dict of texts to numbers -/
abbrev IT (H : Hp) (a : Addr) (m : List (Str × Nat)) : Prop := H a = some (.dK (sK (m.map fun p => (p.1, vI p.2))))
theorem IT.get {H : Hp} {a : Addr} {m : List (Str × Nat)} (h : IT H a m) (x : Str) : DGet H a (.str x) ((lkS m x).map vI) := by
  have := DGet.k (k := (Sum.inr x : Key)) h
  rw [valV_sK, lkS_map] at this
  exact this
theorem IT.len {m : List (Str × Nat)} : (sK (m.map fun p => (p.1, vI p.2))).length = m.length := by unfold sK; rw [List.length_map, List.length_map]
theorem IT.put {H : Hp} {a : Addr} {m : List (Str × Nat)} {x : Str} {k : Nat} (h : IT H a m) (hx : x ∉ m.map (·.1)) (hl : m.length < sizeLine) : DPut H a (.str x) (vI k) (upd H a (.dK (sK ((m ++ [(x, k)]).map fun p => (p.1, vI p.2))))) := by
  have := DPut.k (k := (Sum.inr x : Key)) (v := vI k) h (by rw [IT.len]; exact hl)
  rw [putK_new (by rw [List.map_map]; exact hx)] at this
  rw [List.map_append]
  exact this
/-! ### the walk in breadth -/
structure Bfs (L : Lks) (g : Str) (a : Nat) (m : List (Str × Nat)) : Prop where
  nd : (m.map (·.1)).Nodup
  h0 : m[0]? = some (g, 0)
  w : ∀ x k, (x, k) ∈ m → Wk L (sl g) g k x
  mono : (m.map (·.2)).Pairwise (· ≤ ·)
  near : ∀ y j, m[a]? = some (y, j) → ∀ x k, (x, k) ∈ m → k ≤ j + 1
  cl : ∀ i y j, i < a → m[i]? = some (y, j) → ∀ x, Ed L x y → sl g x → ∃ k, k ≤ j + 1 ∧ (x, k) ∈ m
theorem Bfs.start (L : Lks) (g : Str) : Bfs L g 0 [(g, 0)] := by
  refine ⟨by simp, rfl, fun x k h => ?_, by simp, fun y j _ x k h => ?_, fun i y j h => absurd h (Nat.not_lt_zero _)⟩
  · rw [List.mem_singleton] at h
    cases h
    rfl
  · rw [List.mem_singleton] at h
    cases h
    omega
theorem Bfs.name {L : Lks} {g : Str} {a : Nat} {m : List (Str × Nat)} (h : Bfs L g a m) (hg : g ∈ nmsL L) : ∀ x ∈ m.map (·.1), x ∈ nmsL L := fun x hx => by
  obtain ⟨⟨y, k⟩, hp, rfl⟩ := List.mem_map.mp hx
  have w := h.w y k hp
  cases k with
  | zero => rw [show y = g from w]; exact hg
  | succ k => exact w.name (by omega)
theorem nodup_subS {α : Type} [DecidableEq α] : ∀ {xs ys : List α}, xs.Nodup → (∀ x ∈ xs, x ∈ ys) → xs.length ≤ ys.length
  | [], _, _, _ => Nat.zero_le _
  | x :: xs, ys, h, hs => by
    rw [List.nodup_cons] at h
    have hx := hs x (by simp)
    have := nodup_subS (ys := ys.erase x) h.2 fun y hy => by
      have hne : y ≠ x := fun q => h.1 (q ▸ hy)
      exact (List.mem_erase_of_ne hne).mpr (hs y (by simp [hy]))
    rw [List.length_erase_of_mem hx] at this
    have h1 := List.length_pos_of_mem hx
    rw [List.length_cons]
    omega
/-- within the loop over the names that hang on y -/
structure BfsJ (L : Lks) (g y : Str) (a j : Nat) (xs : List Str) (i : Nat) (m : List (Str × Nat)) : Prop where
  b : Bfs L g a m
  at_ : m[a]? = some (y, j)
  done : ∀ x ∈ xs.take i, sl g x → ∃ k, k ≤ j + 1 ∧ (x, k) ∈ m
theorem Bfs.open {L : Lks} {g y : Str} {a j : Nat} {m : List (Str × Nat)} (h : Bfs L g a m) (e : m[a]? = some (y, j)) (xs : List Str) : BfsJ L g y a j xs 0 m := ⟨h, e, fun x hx => (by rw [List.take_zero] at hx; cases hx)⟩
theorem BfsJ.skip {L : Lks} {g y x : Str} {a j i : Nat} {xs : List Str} {m : List (Str × Nat)} (h : BfsJ L g y a j xs i m) (e : xs[i]? = some x) (hx : ¬ (sl g x ∧ x ∉ m.map (·.1))) : BfsJ L g y a j xs (i + 1) m := by
  refine ⟨h.b, h.at_, fun z hz gz => ?_⟩
  rw [take_snocS e] at hz
  rcases List.mem_append.mp hz with q | q
  · exact h.done z q gz
  · rw [List.mem_singleton.mp q] at gz ⊢
    have : x ∈ m.map (·.1) := by
      by_cases c : x ∈ m.map (·.1)
      · exact c
      · exact absurd ⟨gz, c⟩ hx
    obtain ⟨⟨z', k⟩, hp, rfl⟩ := List.mem_map.mp this
    exact ⟨k, h.b.near y j h.at_ _ _ hp, hp⟩
theorem BfsJ.put {L : Lks} {g y x : Str} {a j i : Nat} {xs : List Str} {m : List (Str × Nat)} (h : BfsJ L g y a j xs i m) (e : xs[i]? = some x) (gx : sl g x) (hx : x ∉ m.map (·.1)) (ex : Ed L x y) : BfsJ L g y a j xs (i + 1) (m ++ [(x, j + 1)]) := by
  have ha := (List.getElem?_eq_some_iff.mp h.at_).1
  have hy := List.mem_of_getElem? h.at_
  have h0 := (List.getElem?_eq_some_iff.mp h.b.h0).1
  refine ⟨⟨?_, ?_, fun z k hz => ?_, ?_, fun y' j' e' z k hz => ?_, fun i' y' j' hi' e' z ez gz => ?_⟩, ?_, fun z hz gz => ?_⟩
  · rw [List.map_append]
    refine List.nodup_append.mpr ⟨h.b.nd, by simp, fun u hu v hv q => ?_⟩
    have hv' : v = x := by simpa using hv
    exact hx (by rw [← hv', ← q]; exact hu)
  · rw [List.getElem?_append_left h0]; exact h.b.h0
  · rcases List.mem_append.mp hz with q | q
    · exact h.b.w z k q
    · rw [List.mem_singleton] at q
      cases q
      exact ⟨gx, y, ex, h.b.w y j hy⟩
  · rw [List.map_append]
    refine List.pairwise_append.mpr ⟨h.b.mono, by simp, fun u hu v hv => ?_⟩
    obtain ⟨⟨z, k⟩, hp, rfl⟩ := List.mem_map.mp hu
    have hv' : v = j + 1 := by simpa using hv
    rw [hv']
    exact h.b.near y j h.at_ z k hp
  · rw [List.getElem?_append_left ha, h.at_] at e'
    cases e'
    rcases List.mem_append.mp hz with q | q
    · exact h.b.near y j h.at_ z k q
    · rw [List.mem_singleton] at q
      cases q
      exact Nat.le_refl _
  · rw [List.getElem?_append_left (by omega)] at e'
    obtain ⟨k, hk, hm⟩ := h.b.cl i' y' j' hi' e' z ez gz
    exact ⟨k, hk, List.mem_append_left _ hm⟩
  · rw [List.getElem?_append_left ha]; exact h.at_
  · rw [take_snocS e] at hz
    rcases List.mem_append.mp hz with q | q
    · obtain ⟨k, hk, hm⟩ := h.done z q gz
      exact ⟨k, hk, List.mem_append_left _ hm⟩
    · rw [List.mem_singleton.mp q]
      exact ⟨j + 1, Nat.le_refl _, List.mem_append_right _ (by simp)⟩
theorem BfsJ.close {L : Lks} {g y : Str} {a j : Nat} {xs : List Str} {m : List (Str × Nat)} (h : BfsJ L g y a j xs xs.length m) (hxs : ∀ x, Ed L x y → x ∈ xs) : Bfs L g (a + 1) m := by
  refine ⟨h.b.nd, h.b.h0, h.b.w, h.b.mono, fun y' j' e' x k hx => ?_, fun i y' j' hi e' x ex gx => ?_⟩
  · have ha := (List.getElem?_eq_some_iff.mp h.at_).1
    have ha' := (List.getElem?_eq_some_iff.mp e').1
    have := List.pairwise_iff_getElem.mp h.b.mono a (a + 1) (by rw [List.length_map]; exact ha) (by rw [List.length_map]; exact ha') (by omega)
    rw [List.getElem_map, List.getElem_map, (List.getElem?_eq_some_iff.mp h.at_).2, (List.getElem?_eq_some_iff.mp e').2] at this
    have h1 := h.b.near y j h.at_ x k hx
    have h2 : j ≤ j' := this
    omega
  · by_cases q : i = a
    · subst q
      rw [h.at_] at e'
      cases e'
      have d := h.done x (by rw [List.take_length]; exact hxs x ex) gx
      exact d
    · exact h.b.cl i y' j' (by omega) e' x ex gx
/-- steps from s over greater names: what is known of the dict -/
structure FarR (L : Lks) (P : Str → Prop) (g : Str) (m : List (Str × Nat)) : Prop where
  nd : (m.map (·.1)).Nodup
  is : ∀ x k, (x, k) ∈ m ↔ Dst L P g x k
theorem Bfs.far {L : Lks} {g : Str} {m : List (Str × Nat)} (h : Bfs L g m.length m) : FarR L (sl g) g m := by
  have key : ∀ k x, Wk L (sl g) g k x → ∃ k', k' ≤ k ∧ (x, k') ∈ m := by
    intro k
    induction k with
    | zero =>
      intro x w
      rw [show x = g from w]
      exact ⟨0, Nat.le_refl _, List.mem_of_getElem? h.h0⟩
    | succ k ih =>
      rintro x ⟨gx, y, e, w⟩
      obtain ⟨j, hj, hm⟩ := ih y w
      obtain ⟨i, hi⟩ := List.mem_iff_getElem?.mp hm
      obtain ⟨k', h1, h2⟩ := h.cl i y j (List.getElem?_eq_some_iff.mp hi).1 hi x e gx
      exact ⟨k', by omega, h2⟩
  have one : ∀ x k k', (x, k) ∈ m → (x, k') ∈ m → k = k' := fun x k k' h1 h2 => by
    have e1 := (lkS_some h.nd).mpr h1
    rw [(lkS_some h.nd).mpr h2] at e1
    exact (Option.some.inj e1).symm
  refine ⟨h.nd, fun x k => ⟨fun hm => ⟨h.w x k hm, fun j hj w => ?_⟩, fun d => ?_⟩⟩
  · obtain ⟨k', h1, h2⟩ := key j x w
    have := one x k k' hm h2
    omega
  · obtain ⟨k', h1, h2⟩ := key k x d.1
    rcases Nat.lt_or_eq_of_le h1 with q | q
    · exact absurd (h.w x k' h2) (d.2 k' q)
    · rw [← q]; exact h2
theorem FarR.some_ {L : Lks} {P : Str → Prop} {g x : Str} {m : List (Str × Nat)} (h : FarR L P g m) (k : Nat) : lkS m x = some k ↔ Dst L P g x k := (lkS_some h.nd).trans (h.is x k)
theorem FarR.none_ {L : Lks} {P : Str → Prop} {g x : Str} {m : List (Str × Nat)} (h : FarR L P g m) : lkS m x = none ↔ ∀ k, ¬ Wk L P g k x := by
  constructor
  · intro e k w
    obtain ⟨j, _, d⟩ := w.dst
    rw [(h.some_ j).mpr d] at e
    cases e
  · intro hn
    cases e : lkS m x with
    | none => rfl
    | some k => exact absurd ((h.some_ k).mp e).1 (hn k)
/-! ### the walk by rounds -/
structure FarI (L : Lks) (g : Str) (t : Nat) (m : List (Str × Nat)) : Prop where
  nd : (m.map (·.1)).Nodup
  is : ∀ x k, (x, k) ∈ m ↔ Dst L Top g x k ∧ k ≤ t
  len : t + 1 ≤ m.length
theorem FarI.start (L : Lks) (g : Str) : FarI L g 0 [(g, 0)] := by
  refine ⟨by simp, fun x k => ?_, Nat.le_refl _⟩
  rw [List.mem_singleton]
  constructor
  · intro e
    cases e
    exact ⟨⟨rfl, fun j hj => absurd hj (Nat.not_lt_zero _)⟩, Nat.le_refl _⟩
  · rintro ⟨d, h⟩
    obtain rfl : k = 0 := by omega
    rw [show x = g from d.1]
theorem FarI.mem {L : Lks} {g : Str} {t : Nat} {m : List (Str × Nat)} (h : FarI L g t m) (x : Str) : x ∈ m.map (·.1) ↔ ∃ k, k ≤ t ∧ Dst L Top g x k := by
  constructor
  · intro hx
    obtain ⟨⟨y, k⟩, hp, rfl⟩ := List.mem_map.mp hx
    obtain ⟨d, hk⟩ := (h.is y k).mp hp
    exact ⟨k, hk, d⟩
  · rintro ⟨k, hk, d⟩
    exact List.mem_map.mpr ⟨(x, k), (h.is x k).mpr ⟨d, hk⟩, rfl⟩
/-- the names that a round finds -/
def News (L : Lks) (m : List (Str × Nat)) (ns : List Str) : Prop := ns.Nodup ∧ ∀ x, x ∈ ns ↔ x ∈ nmsL L ∧ x ∉ m.map (·.1) ∧ ∃ o, Ed L x o ∧ o ∈ m.map (·.1)
theorem FarI.news {L : Lks} {g : Str} {t : Nat} {m : List (Str × Nat)} {ns : List Str} (h : FarI L g t m) (hn : News L m ns) (x : Str) : x ∈ ns ↔ Dst L Top g x (t + 1) := by
  rw [hn.2]
  constructor
  · rintro ⟨_, hx, o, e, ho⟩
    obtain ⟨k, hk, d⟩ := (h.mem o).mp ho
    obtain ⟨j, hj, dj⟩ := Wk.dst (show Wk L Top g (k + 1) x from ⟨trivial, o, e, d.1⟩)
    have : ¬ j ≤ t := fun q => hx ((h.mem x).mpr ⟨j, q, dj⟩)
    rw [show t + 1 = j by omega]
    exact dj
  · intro d
    obtain ⟨_, o, e, w⟩ := id d.1
    obtain ⟨j, hj, dj⟩ := w.dst
    refine ⟨e.left, fun hx => ?_, o, e, (h.mem o).mpr ⟨j, hj, dj⟩⟩
    obtain ⟨k, hk, dk⟩ := (h.mem x).mp hx
    have := dk.uniq d
    omega
theorem FarI.step {L : Lks} {g : Str} {t : Nat} {m : List (Str × Nat)} {ns : List Str} (h : FarI L g t m) (hn : News L m ns) (h1 : 1 ≤ ns.length) : FarI L g (t + 1) (m ++ ns.map fun x => (x, t + 1)) := by
  refine ⟨?_, fun x k => ?_, by rw [List.length_append, List.length_map]; have := h.len; omega⟩
  · rw [List.map_append, List.map_map]
    have e : ns.map ((fun p : Str × Nat => p.1) ∘ fun x => (x, t + 1)) = ns := by
      rw [show ((fun p : Str × Nat => p.1) ∘ fun x => (x, t + 1)) = id from rfl, List.map_id]
    rw [e]
    refine List.nodup_append.mpr ⟨h.nd, hn.1, fun u hu v hv q => ?_⟩
    rw [← q] at hv
    exact ((hn.2 u).mp hv).2.1 hu
  · rw [List.mem_append]
    constructor
    · rintro (q | q)
      · obtain ⟨d, hk⟩ := (h.is x k).mp q
        exact ⟨d, by omega⟩
      · obtain ⟨y, hy, e⟩ := List.mem_map.mp q
        cases e
        exact ⟨(h.news hn x).mp hy, Nat.le_refl _⟩
    · rintro ⟨d, hk⟩
      rcases Nat.lt_or_eq_of_le hk with q | q
      · exact .inl ((h.is x k).mpr ⟨d, by omega⟩)
      · subst q
        exact .inr (List.mem_map.mpr ⟨x, (h.news hn x).mpr d, rfl⟩)
theorem FarI.done {L : Lks} {g : Str} {t : Nat} {m : List (Str × Nat)} (h : FarI L g t m) (hn : News L m []) : FarR L Top g m := by
  have no : ∀ k x, ¬ Dst L Top g x (t + 1 + k) := by
    intro k
    induction k with
    | zero =>
      intro x d
      exact absurd ((h.news hn x).mpr d) (by simp)
    | succ k ih =>
      intro x d
      obtain ⟨_, o, e, w⟩ := id d.1
      refine ih o ⟨w, fun j hj w' => d.2 (j + 1) (by omega) ⟨trivial, o, e, w'⟩⟩
  refine ⟨h.nd, fun x k => (h.is x k).trans ⟨fun q => q.1, fun d => ⟨d, ?_⟩⟩⟩
  refine Nat.le_of_not_lt fun q => no (k - (t + 1)) x ?_
  rw [show t + 1 + (k - (t + 1)) = k by omega]
  exact d
theorem FarI.le {L : Lks} {g : Str} {t : Nat} {m : List (Str × Nat)} (h : FarI L g t m) (hg : g ∈ nmsL L) : m.length ≤ (nmsL L).length := by
  have := nodup_subS h.nd (ys := nmsL L) fun x hx => by
    obtain ⟨k, _, d⟩ := (h.mem x).mp hx
    cases k with
    | zero => rw [show x = g from d.1]; exact hg
    | succ k => exact d.1.name (by omega)
  rwa [List.length_map] at this
theorem Dst.down {L : Lks} {P : Str → Prop} {g : Str} : ∀ {k : Nat} {x : Str}, Dst L P g x k → ∀ j, j ≤ k → ∃ y, Dst L P g y j
  | 0, x, d, j, hj => ⟨x, by rw [show j = 0 by omega]; exact d⟩
  | k + 1, x, d, j, hj => by
    rcases Nat.lt_or_eq_of_le hj with q | q
    · obtain ⟨p, y, e, w⟩ := id d.1
      exact Dst.down (k := k) (x := y) ⟨w, fun i hi w' => d.2 (i + 1) (by omega) ⟨p, y, e, w'⟩⟩ j (by omega)
    · exact ⟨x, by rw [q]; exact d⟩
theorem FarR.bound {L : Lks} {P : Str → Prop} {g x : Str} {m : List (Str × Nat)} {k : Nat} (h : FarR L P g m) (e : lkS m x = some k) : k < m.length := by
  have d := (h.some_ k).mp e
  have := nodup_subS (xs := List.range (k + 1)) (ys := m.map (·.2)) List.nodup_range fun j hj => by
    obtain ⟨y, dy⟩ := d.down j (by have := List.mem_range.mp hj; omega)
    exact List.mem_map.mpr ⟨(y, j), (h.is y j).mpr dy, rfl⟩
  rw [List.length_range, List.length_map] at this
  omega
end Bf

set_option Elab.async false
set_option linter.all false
set_option maxRecDepth 100000
set_option maxHeartbeats 4000000
namespace Bf
open PySem PySem.Spec PyProof.Rows L2
/-! ### steps over greater names -/
def Hg (L : Lks) (z x : Str) : Prop := ∃ row, (z, row) ∈ L ∧ x ∈ row
theorem Ed.iff {L : Lks} {x y : Str} : Ed L x y ↔ Hg L x y ∧ y ∈ nmsL L := ⟨fun ⟨row, a, b, c⟩ => ⟨⟨row, a, b⟩, c⟩, fun ⟨⟨row, a, b⟩, c⟩ => ⟨row, a, b, c⟩⟩
def rK (m : List (Str × Addr)) : List (Key × V) := sK (m.map fun p => (p.1, V.ref p.2))
def Hung (L : Lks) (H : Hp) (hu : Addr) : Prop := ∃ m : List (Str × Addr), H hu = some (.dK (rK m)) ∧ ∀ x, (lkS m x = none → ∀ z, ¬ Hg L z x) ∧ ∀ l, lkS m x = some l → ∃ xs : List Str, H l = some (.lst (xs.map V.str)) ∧ ∀ z, z ∈ xs ↔ Hg L z x
theorem Hung.same {L : Lks} {H H' : Hp} {hu : Addr} (h : Hung L H hu) (s : Same H H') : Hung L H' hu := by
  obtain ⟨m, e, f⟩ := h
  exact ⟨m, s _ _ e, fun x => ⟨(f x).1, fun l hl => let ⟨xs, e, g⟩ := (f x).2 l hl; ⟨xs, s _ _ e, g⟩⟩⟩
theorem rK_get {H : Hp} {a : Addr} {m : List (Str × Addr)} (h : H a = some (.dK (rK m))) (x : Str) : DGet H a (.str x) ((lkS m x).map V.ref) := by
  have := DGet.k (k := (Sum.inr x : Key)) h
  unfold rK at this
  rw [valV_sK, lkS_map] at this
  exact this
def spSteps : Sp := fun vs H Q _ => ∃ (g : Str) (hu : Addr) (L : Lks), vs = [.str g, .ref hu] ∧ Hung L H hu ∧ g ∈ nmsL L ∧ (nmsL L).length ≤ 40 ∧
  ∀ (a : Addr) (m : List (Str × Nat)) (H' : Hp), Same H H' → IT H' a m → FarR L (sl g) g m → m.length ≤ 40 → Q (.ref a) H'
section
variable {P : Program} {w : World} {K : PySem.W.Frag} {mg : Str → Option Value} {base : Heap} {f : Addr} {fd : FuncData}
theorem ok_steps (F : Fun K "steps_to" "steps_to" s_steps_to f fd) (T : Txt mg) : FnOk P w K mg base CX0 1 f fd ["name", "hung"] spSteps := by
  refine F.ok sc_steps_to (fun vs H Q E h => ?_) (fun cdv A outer s H vs Q E hr h => ?_)
  · obtain ⟨g, hu, L, rfl, _⟩ := h
    rfl
  obtain ⟨g, hu, L, rfl, hh, hg, h40, q⟩ := h
  refine ⟨_, (pss_cons (ps_set (i := 2) sc_steps_to.nd rfl (Or.inl rfl) (pe_disp (pps_cons (pv 0) pe_int pps_nil) rfl rfl (by simp) (by simp)))
      (pss_cons (ps_set (i := 3) sc_steps_to.nd rfl (Or.inl rfl) (pe_lst (pa_cons (pv 0) pa_nil)))
      (pss_cons (ps_set (i := 4) sc_steps_to.nd rfl (Or.inl rfl) pe_int)
      (pss_cons (ps_while PassesOwn.never (pt_cmpR op_lt (pv 4) (pe_callB call_len_seq (by rfl) T.n_len (by decide +kernel) (pa_cons (pv 3) pa_nil)) (nomark _)) (pss_cons (ps_set (i := 5) sc_steps_to.nd rfl (Or.inl rfl) (pe_ix ix_list (pv 3) (pv 4) (fun _ _ => rfl)))
      (pss_cons (ps_for PassesOwn.never rfl (pi_list (pe_dget2 (hu_of hr) (pv 1) (pv 5) (pe_lst pa_nil) ⟨by rfl, by rfl, by rfl, by rfl⟩)) (pg_name (i := 6) sc_steps_to.nd rfl (Or.inl rfl)) (pss_one (ps_if (PW.pt (pw_and (pt_cmpR op_gt_str (pv 6) (pv 0) (nomark _)) (pw_and1 (pt_cmp (pc_dnotin (hu_of hr) (pv 6) (pv 2)))))) (pss_cons (ps_dput (hu_of hr) (pv 2) (pv 6) (pe_op op_add (pe_dget (hu_of hr) (pv 2) (pv 5) (fun _ _ => rfl)) pe_int) rfl)
      (pss_one (ps_expr (pe_bm PySem.F.plainAttrs_list PySem.F.slot_list_append PySem.F.type_list_append mt_append (pv 3) (pa_cons (pv 6) pa_nil))))) pss_nil)))
      (pss_one (ps_aug (i := 4) sc_steps_to.nd rfl (Or.inl rfl) pe_int ip_add)))))
      (pss_one (ps_ret (pv 2))))))), ?_⟩
  refine fun S hS => ⟨_, rfl, upd_same, [(Sum.inr g, .int 0)], rfl, by show 1 ≤ 15; decide, ?_⟩
  have iS0 : IT (upd (upd H S (.dK [])) S (.dK (mergeK [] [((Sum.inr g : Key), V.int 0)]))) S [(g, 0)] := upd_same
  have s1 : Same H (upd (upd H S (.dK [])) S (.dK (mergeK [] [((Sum.inr g : Key), V.int 0)]))) := fun b u e => by
    rw [upd_ne (ne_of_none e hS), upd_ne (ne_of_none e hS)]
    exact e
  generalize upd (upd H S (.dK [])) S (.dK (mergeK [] [((Sum.inr g : Key), V.int 0)])) = H1 at iS0 s1 ⊢
  refine ⟨_, rfl, by show 1 ≤ sizeLine; decide, fun D hD => ?_⟩
  have fD : H D = none := s1.free hD
  have nSD : S ≠ D := ne_of_none iS0 hD
  have s2 := s1.trans (same_new hD (.lst [.str g]))
  refine ⟨fun μ σ' H' => ∃ (v5 v6 : Option V) (a : Nat) (m : List (Str × Nat)), σ' = [some (.str g), some (.ref hu), some (.ref S), some (.ref D), some (vI a), v5, v6] ∧ Same H H' ∧ IT H' S m ∧ H' D = some (.lst ((m.map (·.1)).map V.str)) ∧ Bfs L g a m ∧ a ≤ m.length ∧ μ = 41 - a,
    ⟨_, _, _, 0, [(g, 0)], rfl, s2, same_new hD _ _ _ iS0, upd_same, .start L g, Nat.zero_le _, rfl⟩, fun μ σ' H' p => ?_⟩
  obtain ⟨v5, v6, a, m, rfl, sm, iS, eD, bf, ha, rfl⟩ := p
  have m40 : m.length ≤ 40 := by
    have := nodup_subS bf.nd (bf.name hg)
    rw [List.length_map] at this
    omega
  refine ⟨_, rfl, _, rfl, D, _, rfl, .inl (SqL.of eD), _, _, rfl, rfl, _, rfl, ite2 (fun z => ?_) (fun z => ?_)⟩
  · have ha' : a < m.length := by
      have := of_decide_eq_true z
      rw [List.length_map, List.length_map] at this
      omega
    obtain ⟨⟨y, j⟩, hy⟩ : ∃ p, m[a]? = some p := ⟨_, List.getElem?_eq_getElem ha'⟩
    refine ⟨fun σ' H'' => ∃ (v5 v6 : Option V) (m : List (Str × Nat)), σ' = [some (.str g), some (.ref hu), some (.ref S), some (.ref D), some (vI (a + 1)), v5, v6] ∧ Same H H'' ∧ IT H'' S m ∧ H'' D = some (.lst ((m.map (·.1)).map V.str)) ∧ Bfs L g (a + 1) m ∧ a + 1 ≤ m.length,
      fun σ' H'' h => ⟨41 - (a + 1), by omega, let ⟨v5, v6, m, e, r1, r2, r3, r4, r5⟩ := h; ⟨v5, v6, a + 1, m, e, r1, r2, r3, r4, r5, rfl⟩⟩, ?_⟩
    have hy1 : ((m.map (·.1)).map V.str)[a]? = some (.str y) := by rw [List.getElem?_map, List.getElem?_map, hy]; rfl
    refine ⟨_, rfl, _, rfl, D, _, _, .str y, rfl, rfl, SqL.of eD, atI_nat hy1, ?_⟩
    obtain ⟨mh, eh0, hf⟩ := hh
    have eh := sm _ _ eh0
    refine ⟨_, rfl, hu, rfl, .inl ⟨_, .inl eh⟩, _, rfl, Nat.zero_le _, fun E hE => ⟨_, rK_get (same_new hE _ _ _ eh) y, ?_⟩⟩
    have sE := same_new hE (.lst [])
    obtain ⟨l, xs, el, hxl, hxs, nlD⟩ : ∃ (l : Addr) (xs : List Str), ((lkS mh y).map V.ref).getD (.ref E) = .ref l ∧ upd H' E (.lst []) l = some (.lst (xs.map V.str)) ∧ (∀ z, z ∈ xs ↔ Hg L z y) ∧ l ≠ D := by
      cases e : lkS mh y with
      | none => exact ⟨E, [], rfl, upd_same, fun z => ⟨fun h => (by cases h), fun h => absurd h ((hf y).1 e z)⟩, (ne_of_none eD hE).symm⟩
      | some l =>
        obtain ⟨xs, e1, e2⟩ := (hf y).2 l e
        exact ⟨l, xs, rfl, sE _ _ (sm _ _ e1), e2, ne_of_none e1 fD⟩
    rw [el]
    have sm1 := sm.trans sE
    have iS1 : IT (upd H' E (.lst [])) S m := sE _ _ iS
    have eD1 := sE _ _ eD
    have nSl : l ≠ S := fun q => by rw [q, iS1] at hxl; cases hxl
    generalize upd H' E (.lst []) = H2 at hxl sm1 iS1 eD1 ⊢
    refine ⟨l, rfl, ⟨_, SqL.of hxl⟩, for_it (walk_list (xs := xs.map V.str)) (fun i σ' H'' => ∃ (v6 : Option V) (m : List (Str × Nat)), σ' = [some (.str g), some (.ref hu), some (.ref S), some (.ref D), some (vI a), some (.str y), v6] ∧ Same H H'' ∧ IT H'' S m ∧ H'' D = some (.lst ((m.map (·.1)).map V.str)) ∧ BfsJ L g y a j xs i m ∧ H'' l = some (.lst (xs.map V.str)))
      ⟨_, m, rfl, sm1, iS1, eD1, bf.open hy xs, hxl⟩ (fun i σ' H'' _ pp => ?_) (fun i x σ' H3 H4 hi pp yy => ?_) (fun σ' H'' pp => ?_)⟩
    · obtain ⟨_, _, _, _, _, _, _, e⟩ := pp
      exact SqL.of e
    · obtain ⟨v6, m, rfl, sm3, iS3, eD3, bj, hl3⟩ := pp
      obtain ⟨rfl, ex⟩ := yy
      obtain ⟨x, hx, rfl⟩ : ∃ x' : Str, xs[i]? = some x' ∧ x = .str x' := by
        rw [List.getElem?_map] at ex
        obtain ⟨x', h1, h2⟩ := Option.map_eq_some_iff.mp ex
        exact ⟨x', h1, h2.symm⟩
      have gety : lkS m y = some j := (lkS_some bj.b.nd).mpr (List.mem_of_getElem? bj.at_)
      have skip : ¬ (sl g x ∧ x ∉ m.map (·.1)) → ∃ (v6 : Option V) (m' : List (Str × Nat)), [some (.str g), some (.ref hu), some (.ref S), some (.ref D), some (vI a), some (.str y), some (.str x)] = [some (.str g), some (.ref hu), some (.ref S), some (.ref D), some (vI a), some (.str y), v6] ∧ Same H H4 ∧ IT H4 S m' ∧ H4 D = some (.lst ((m'.map (·.1)).map V.str)) ∧ BfsJ L g y a j xs (i + 1) m' ∧ H4 l = some (.lst (xs.map V.str)) :=
        fun h => ⟨_, m, rfl, sm3, iS3, eD3, bj.skip hx h, hl3⟩
      refine ⟨_, rfl, _, rfl, x, g, rfl, rfl, _, rfl, ite2 (fun gx => ?_) (fun gx => skip fun h => gx (decide_eq_true h.1))⟩
      have gx' : sl g x := of_decide_eq_true gx
      refine ⟨_, rfl, _, rfl, S, _, rfl, iS3.get x, _, rfl, ?_⟩
      cases hk : lkS m x with
      | some k => exact ite2 (fun q => Bool.noConfusion q) (fun _ => skip fun h => h.2 (lkS_is.mp (by rw [hk]; rfl)))
      | none =>
        have nx := lkS_none.mp hk
        refine ite2 (fun _ => ?_) (fun q => absurd rfl q)
        have m40' : m.length ≤ 40 := by
          have := nodup_subS bj.b.nd (bj.b.name hg)
          rw [List.length_map] at this
          omega
        have gy := iS3.get y
        rw [gety] at gy
        refine ⟨_, rfl, _, rfl, S, _, rfl, gy, _, _, rfl, rfl, _, rfl, _, rfl, S, _, rfl, iS3.put (k := j + 1) nx (by rw [sizeLine_eq]; omega), ?_⟩
        have eD4 : upd H4 S (.dK (sK ((m ++ [(x, j + 1)]).map fun p => (p.1, vI p.2)))) D = some (.lst ((m.map (·.1)).map V.str)) := (upd_ne (Ne.symm nSD)).trans eD3
        refine ⟨_, rfl, .inl ⟨rfl, _, SqL.of eD4⟩, _, rfl, D, _, _, rfl, rfl, eD4, by rw [List.length_map, List.length_map, sizeLine_eq]; omega, ?_⟩
        refine ⟨_, m ++ [(x, j + 1)], rfl, ?_, (upd_ne nSD).trans upd_same, ?_, bj.put hx gx' nx (Ed.iff.mpr ⟨(hxs x).mp (List.mem_of_getElem? hx), ?_⟩), (upd_ne nlD).trans ((upd_ne nSl).trans hl3)⟩
        · intro b u e
          rw [upd_ne (ne_of_none e fD), upd_ne (ne_of_none e hS)]
          exact sm3 b u e
        · rw [upd_same, List.map_append, List.map_append]
          rfl
        · exact bj.b.name hg y (List.mem_map.mpr ⟨(y, j), List.mem_of_getElem? bj.at_, rfl⟩)
    · obtain ⟨v6, m, rfl, sm3, iS3, eD3, bj, hl3⟩ := pp
      rw [List.length_map] at bj
      have b1 := bj.close fun x ex => (hxs x).mpr (Ed.iff.mp ex).1
      have := (List.getElem?_eq_some_iff.mp bj.at_).1
      exact ⟨_, rfl, _, _, rfl, rfl, _, v6, m, by rfl, sm3, iS3, eD3, b1, by omega⟩
  · have e : a = m.length := by
      have : ¬ ((a : Int) < (((m.map (·.1)).map V.str).length : Int)) := fun h => z (decide_eq_true h)
      rw [List.length_map, List.length_map] at this
      omega
    subst e
    exact ⟨_, rfl, q S m _ sm iS bf.far m40⟩
end
end Bf

set_option Elab.async false
set_option linter.all false
set_option maxRecDepth 100000
set_option maxHeartbeats 4000000
namespace Bf
open PySem PySem.Spec PyProof.Rows L2
/-! ### the size of a ring, and the least one -/
def intN (n : Nat) : PyData := .int (n : Int)
def Hangs (L : Lks) (H : Hp) (ha : Addr) : Prop := ∃ m : List (Str × Addr), H ha = some (.dK (rK m)) ∧ m.map (·.1) = nmsL L ∧ ∀ x row, (x, row) ∈ L → ∃ p, lkS m x = some p ∧ H p = some (.tup (row.map V.str))
theorem Hangs.same {L : Lks} {H H' : Hp} {ha : Addr} (h : Hangs L H ha) (s : Same H H') : Hangs L H' ha := by
  obtain ⟨m, e, n, f⟩ := h
  exact ⟨m, s _ _ e, n, fun x row hx => let ⟨p, e1, e2⟩ := f x row hx; ⟨p, e1, s _ _ e2⟩⟩
theorem Hangs.get {L : Lks} {H : Hp} {ha : Addr} (h : Hangs L H ha) {x : Str} {row : List Str} (hx : (x, row) ∈ L) : ∃ p, DGet H ha (.str x) (some (.ref p)) ∧ H p = some (.tup (row.map V.str)) := by
  obtain ⟨m, e, _, f⟩ := h
  obtain ⟨p, e1, e2⟩ := f x row hx
  have := rK_get e x
  rw [e1] at this
  exact ⟨p, this, e2⟩
theorem row_of {L : Lks} {x : Str} (h : x ∈ nmsL L) : ∃ row, (x, row) ∈ L := by
  obtain ⟨⟨y, row⟩, hp, rfl⟩ := List.mem_map.mp h
  exact ⟨row, hp⟩
theorem row_uniq {L : Lks} (nd : (nmsL L).Nodup) {x : Str} {r r' : List Str} (h : (x, r) ∈ L) (k : (x, r') ∈ L) : r = r' := by
  have e1 := (lkS_some nd).mpr h
  rw [(lkS_some nd).mpr k] at e1
  exact (Option.some.inj e1).symm
theorem Ed.row {L : Lks} (nd : (nmsL L).Nodup) {x y : Str} {row : List Str} (h : (x, row) ∈ L) : Ed L x y ↔ y ∈ row ∧ y ∈ nmsL L := by
  constructor
  · rintro ⟨r, h1, h2, h3⟩
    rw [row_uniq nd h h1]
    exact ⟨h2, h3⟩
  · rintro ⟨h2, h3⟩
    exact ⟨row, h, h2, h3⟩
theorem FarR.name {L : Lks} {P : Str → Prop} {g : Str} {m : List (Str × Nat)} (h : FarR L P g m) (hg : g ∈ nmsL L) {x : Str} {k : Nat} (e : lkS m x = some k) : x ∈ nmsL L := by
  have d := (h.some_ k).mp e
  cases k with
  | zero => rw [show x = g from d.1]; exact hg
  | succ k => exact d.1.name (by omega)
theorem minOr_is : ∀ (ns : List Int), (ns = [] ∧ minOr 0 ns = 0) ∨ (minOr 0 ns ∈ ns ∧ ∀ n ∈ ns, minOr 0 ns ≤ n)
  | [] => .inl ⟨rfl, rfl⟩
  | n :: ns => by
    right
    have go : ∀ (ns : List Int) (a : Int), (ns.foldl min a = a ∨ ns.foldl min a ∈ ns) ∧ ns.foldl min a ≤ a ∧ ∀ x ∈ ns, ns.foldl min a ≤ x := by
      intro ns
      induction ns with
      | nil => intro a; exact ⟨.inl rfl, Int.le_refl _, fun x hx => by cases hx⟩
      | cons x ns ih =>
        intro a
        obtain ⟨h1, h2, h3⟩ := ih (min a x)
        rw [List.foldl_cons]
        refine ⟨?_, by omega, fun y hy => ?_⟩
        · rcases h1 with h1 | h1
          · rcases Int.le_total a x with q | q
            · left; rw [h1]; omega
            · right; rw [h1, show min a x = x by omega]; simp
          · exact .inr (List.mem_cons_of_mem _ h1)
        · rcases List.mem_cons.mp hy with rfl | hy
          · omega
          · exact h3 y hy
    obtain ⟨h1, h2, h3⟩ := go ns n
    show ns.foldl min n ∈ n :: ns ∧ ∀ x ∈ n :: ns, ns.foldl min n ≤ x
    refine ⟨?_, fun x hx => ?_⟩
    · rcases h1 with h1 | h1
      · rw [h1]; simp
      · exact List.mem_cons_of_mem _ h1
    · rcases List.mem_cons.mp hx with rfl | hx
      · exact h2
      · exact h3 x hx
def sizesOf (m : List (Str × Nat)) (row : List Str) : List Nat := (row.filter fun o => (lkS m o).isSome).map fun o => (lkS m o).getD 0 + 1
theorem mem_sizes {m : List (Str × Nat)} {row : List Str} {n : Nat} : n ∈ sizesOf m row ↔ ∃ o k, o ∈ row ∧ lkS m o = some k ∧ n = k + 1 := by
  unfold sizesOf
  rw [List.mem_map]
  constructor
  · rintro ⟨o, ho, rfl⟩
    obtain ⟨h1, h2⟩ := List.mem_filter.mp ho
    obtain ⟨k, hk⟩ := Option.isSome_iff_exists.mp h2
    exact ⟨o, k, h1, hk, by rw [hk]; rfl⟩
  · rintro ⟨o, k, h1, h2, rfl⟩
    exact ⟨o, List.mem_filter.mpr ⟨h1, by rw [h2]; rfl⟩, by rw [h2]; rfl⟩
theorem size_is {L : Lks} {s : Str} {row : List Str} {m : List (Str × Nat)} (nd : (nmsL L).Nodup) (h : (s, row) ∈ L) (hm : FarR L (sl s) s m) : ∃ z : Nat, minOr 0 (castL (sizesOf m row)) = (z : Int) ∧ SizeIs L s z ∧ z ≤ m.length := by
  have hs : s ∈ nmsL L := List.mem_map.mpr ⟨(s, row), h, rfl⟩
  have inn : ∀ n o, Ed L s o → Wk L (sl s) s n o → ∃ k, k ≤ n ∧ k + 1 ∈ sizesOf m row := fun n o e w => by
    obtain ⟨k, hk, d⟩ := w.dst
    exact ⟨k, hk, mem_sizes.mpr ⟨o, k, ((Ed.row nd h).mp e).1, (hm.some_ k).mpr d, rfl⟩⟩
  rcases minOr_is (castL (sizesOf m row)) with ⟨e, z⟩ | ⟨h1, h2⟩
  · refine ⟨0, z, ⟨fun q => absurd q (by decide), fun n o _ e1 w => ?_⟩, Nat.zero_le _⟩
    obtain ⟨k, _, hk⟩ := inn n o e1 w
    have := List.mem_map_of_mem (f := fun n : Nat => (n : Int)) hk
    have e2 : List.map (fun n : Nat => (n : Int)) (sizesOf m row) = [] := e
    rw [e2] at this
    cases this
  · obtain ⟨z, hz, ez⟩ := List.mem_map.mp h1
    refine ⟨z, ez.symm, ⟨fun _ => ?_, fun n o hn e1 w => ?_⟩, ?_⟩
    · obtain ⟨o, k, ho, hk, rfl⟩ := mem_sizes.mp hz
      exact ⟨o, (Ed.row nd h).mpr ⟨ho, hm.name hs hk⟩, ((hm.some_ k).mp hk).1⟩
    · obtain ⟨k, hk, hm'⟩ := inn n o e1 w
      have := h2 ((k + 1 : Nat) : Int) (List.mem_map.mpr ⟨k + 1, hm', rfl⟩)
      rw [← ez] at this
      have h3 : z ≤ k + 1 := by omega
      obtain ⟨_, k', _, _, rfl⟩ := mem_sizes.mp hz
      omega
    · obtain ⟨o, k, _, hk, rfl⟩ := mem_sizes.mp hz
      exact hm.bound hk
def spSize : Sp := fun vs H Q _ => ∃ (s : Str) (ha S : Addr) (L : Lks) (m : List (Str × Nat)), vs = [.str s, .ref ha, .ref S] ∧ Hangs L H ha ∧ IT H S m ∧ FarR L (sl s) s m ∧ s ∈ nmsL L ∧ (nmsL L).Nodup ∧ (∀ x row, (x, row) ∈ L → row.length ≤ 100) ∧
  ∀ (z : Nat) (H' : Hp), Same H H' → SizeIs L s z → z ≤ m.length → Q (vI z) H'
section
variable {P : Program} {w : World} {K : PySem.W.Frag} {mg : Str → Option Value} {base : Heap} {f : Addr} {fd : FuncData}
theorem ok_size (F : Fun K "ring_size" "ring_size" s_ring_size f fd) (T : Txt mg) : FnOk P w K mg base CX0 1 f fd ["name", "hangs", "steps"] spSize := by
  refine F.ok sc_ring_size (fun vs H Q E h => ?_) (fun cdv A outer s H vs Q E hr h => ?_)
  · obtain ⟨s, ha, S, L, m, rfl, _⟩ := h
    rfl
  obtain ⟨s', ha, S, L, m, rfl, hH, iS, far, hs, nd, h100, q⟩ := h
  refine ⟨_, (pss_cons (ps_setLc (i := 3) (own := [("other", 4)]) (g := (gName 4)) rfl sc_ring_size.nd rfl rfl (sw_true rfl rfl rfl (by decide +kernel)) (pi_tup (pe_dget (hu_of hr) (pv 1) (pv 0) (fun _ _ => rfl))) (blkOk_by (N := ["name", "hangs", "steps", "sizes", "other"]) (sc := defScope s_ring_size) (by decide +kernel)) (fun _ _ _ _ _ => (pg_name (i := 4) sc_ring_size.nd rfl (Or.inl rfl))) (fun _ _ _ _ _ => (pts_one (pt_cmp (pc_din (hu_of hr) (pv 4) (pv 2))))) (fun _ _ _ _ _ => (pe_op op_add (pe_dget (hu_of hr) (pv 2) (pv 4) (fun _ _ => rfl)) pe_int)))
      (pss_one (ps_ret (pe_callBK (cr_minDef rfl hr.units) (by rfl) T.n_min (by decide +kernel) (pa_cons (pv 3) pa_nil) (pk_cons pe_int pk_nil))))), ?_⟩
  obtain ⟨row, hrow⟩ := row_of hs
  obtain ⟨p, gp, ep⟩ := hH.get hrow
  refine ⟨_, rfl, _, rfl, ha, _, rfl, gp, ?_⟩
  refine ⟨p, rfl, ⟨_, SqT.of ep⟩, fun D hD => lc_frows (walk_tup (xs := row.map V.str)) (rows := row) (f := PyData.str) (g := fun o => (lkS m o).getD 0 + 1) (h := intN) (p := fun o => (lkS m o).isSome) (fun H' sm => SqT.of (sm _ _ ep)) hD (LayAll.strs row) (by have := h100 _ _ hrow; omega)
    (fun x o H' R Z ho sm lx ky kn => ?_) (fun us H' sm eD lus => ?_)⟩
  · obtain rfl := lx.str_inv
    have gx := (show IT H' S m from sm _ _ iS).get o
    refine ⟨rfl, _, rfl, _, rfl, S, _, rfl, gx, _, rfl, ?_⟩
    cases hk : lkS m o with
    | none => exact ite2 (fun q => Bool.noConfusion q) (fun _ => kn (by rw [hk]; rfl) _ (.refl _))
    | some k =>
      rw [hk] at gx
      refine ite2 (fun _ => ?_) (fun q => absurd rfl q)
      refine ⟨_, rfl, _, rfl, S, _, rfl, gx, _, _, rfl, rfl, ?_⟩
      refine ky (by rw [hk]; rfl) _ _ (.refl _) ?_
      rw [hk]
      exact .int _
  · have e : us = (sizesOf m row).map vI := LayAll.ints_inv lus
    subst e
    obtain ⟨z, ez, hz, zm⟩ := size_is nd hrow far
    refine ⟨_, rfl, D, castL (sizesOf m row), 0, rfl, rfl, by rw [castL_V]; exact SqL.of eD, ?_⟩
    rw [ez]
    exact q z H' sm hz zm
end
theorem nx_iff {L : Lks} {s v : Str} {A i k : Nat} {us row : List Str} {m : List (Str × Nat)} (nd : (nmsL L).Nodup) (hs : s ∈ nmsL L) (far : FarR L (sl s) s m) (h : Lst L s A) (g : GrOk L s A us) (hv : us[i]? = some v) (hi : i < A) (hrow : (v, row) ∈ L) (hk : k = A - 1 - i) (o : Str) :
    o ∈ row.filter (fun o => decide (lkS m o = some k)) ↔ Nx L s A i v o := by
  rw [List.mem_filter, decide_eq_true_iff, far.some_ k]
  obtain ⟨p, _⟩ := g.last i v hv
  subst hk
  constructor
  · rintro ⟨h1, h2⟩
    have e : Ed L v o := (Ed.row nd hrow).mpr ⟨h1, far.name hs ((far.some_ _).mpr h2)⟩
    exact ⟨e, (h.dst_iff p hi e).mpr h2⟩
  · rintro ⟨e, d⟩
    exact ⟨((Ed.row nd hrow).mp e).1, (h.dst_iff p hi e).mp d⟩
theorem GrOk.name {L : Lks} {s v : Str} {A i : Nat} {us : List Str} (g : GrOk L s A us) (hs : s ∈ nmsL L) (hv : us[i]? = some v) : v ∈ nmsL L := by
  cases i with
  | zero =>
    rw [g.at0] at hv
    cases hv
    exact hs
  | succ i =>
    have hi := (List.getElem?_eq_some_iff.mp hv).1
    exact ((g.nx i _ v (List.getElem?_eq_getElem (by omega)) hv).1).1.right
theorem atI_lst {xs : List V} {x : V} (h : xs[xs.length - 1]? = some x) : atI xs (-1) = some x := by
  have hl := (List.getElem?_eq_some_iff.mp h).1
  unfold atI ixN
  rw [if_neg (by omega), if_pos (by omega), show ((-1 : Int) + (xs.length : Int)).toNat = xs.length - 1 by omega]
  exact h
def spLeast : Sp := fun vs H Q _ => ∃ (s : Str) (ha S : Addr) (L : Lks) (m : List (Str × Nat)) (A : Nat), vs = [.str s, .ref ha, .ref S, vI A] ∧ Hangs L H ha ∧ IT H S m ∧ FarR L (sl s) s m ∧ s ∈ nmsL L ∧ (nmsL L).Nodup ∧ (∀ x row, (x, row) ∈ L → row.length ≤ 100) ∧ A ≤ 40 ∧ Lst L s A ∧
  ∀ (a : Addr) (us : List Str) (H' : Hp), Same H H' → H' a = some (.tup (us.map V.str)) → us.length = A → GrOk L s A us → Q (.ref a) H'
section
variable {P : Program} {w : World} {K : PySem.W.Frag} {mg : Str → Option Value} {base : Heap} {f : Addr} {fd : FuncData}
theorem ok_least (F : Fun K "least_ring" "least_ring" s_least_ring f fd) (T : Txt mg) : FnOk P w K mg base CX0 1 f fd ["name", "hangs", "steps", "size"] spLeast := by
  refine F.ok sc_least_ring (fun vs H Q E h => ?_) (fun cdv A outer s H vs Q E hr h => ?_)
  · obtain ⟨s, ha, S, L, m, A, rfl, _⟩ := h
    rfl
  obtain ⟨s', ha, S, L, m, A, rfl, hH, iS, far, hs, nd, h100, A40, lst, q⟩ := h
  refine ⟨_, (pss_cons (ps_set (i := 4) sc_least_ring.nd rfl (Or.inl rfl) (pe_lst (pa_cons (pv 0) pa_nil)))
      (pss_cons (ps_while PassesOwn.never (pt_cmpR op_lt (pe_callB call_len_seq (by rfl) T.n_len (by decide +kernel) (pa_cons (pv 4) pa_nil)) (pv 3) (nomark _)) (pss_cons (ps_set (i := 5) sc_least_ring.nd rfl (Or.inr rfl) (pe_op op_sub (pv 3) (pe_callB call_len_seq (by rfl) T.n_len (by decide +kernel) (pa_cons (pv 4) pa_nil))))
      (pss_one (ps_expr (pe_bm PySem.F.plainAttrs_list PySem.F.slot_list_append PySem.F.type_list_append mt_append (pv 4) (pa_cons (pe_callB (cr_minS rfl hr.units) (by rfl) T.n_min (by decide +kernel) (pa_cons (pe_lc (own := [("other", 6)]) (g := (gName 6)) rfl sc_least_ring.nd (pi_tup (pe_dget (hu_of hr) (pv 1) (pe_ix ix_list (pv 4) (pe_un un_neg pe_int) (fun _ _ => rfl)) (fun _ _ => rfl))) (blkOk_by (N := ["name", "hangs", "steps", "size", "ring", "left", "other"]) (sc := defScope s_least_ring) (by decide +kernel)) (fun _ _ _ _ _ => (pg_name (i := 6) sc_least_ring.nd rfl (Or.inl rfl))) (fun _ _ _ _ _ => (pts_one (pt_cmpR op_eq (pe_dget1 (hu_of hr) (pv 2) (pv 6) ⟨by rfl, by rfl, by rfl, by rfl⟩) (pv 5) (nomark _)))) (fun _ _ _ _ _ => (pv 6))) pa_nil)) pa_nil))))))
      (pss_one (ps_ret (pe_callTy call_tuple_of (by rfl) T.n_tuple (by decide +kernel) (pa_cons (pv 4) pa_nil)))))), ?_⟩
  refine ⟨_, rfl, by show 1 ≤ sizeLine; decide, fun R hR => ?_⟩
  have s1 := same_new hR (.lst [.str s'])
  refine ⟨fun μ σ' H' => ∃ (v5 v6 : Option V) (us : List Str), σ' = [some (.str s'), some (.ref ha), some (.ref S), some (vI A), some (.ref R), v5, v6] ∧ Same H H' ∧ H' R = some (.lst (us.map V.str)) ∧ GrOk L s' A us ∧ us.length ≤ A ∧ μ = A - us.length,
    ⟨_, _, _, [s'], rfl, s1, upd_same, .start L s' A, lst.pos, rfl⟩, fun μ σ' H' p => ?_⟩
  obtain ⟨v5, v6, us, rfl, sm, eR, gr, hl, rfl⟩ := p
  refine ⟨_, rfl, R, _, rfl, .inl (SqL.of eR), _, rfl, _, _, rfl, rfl, _, rfl, ite2 (fun z => ?_) (fun z => ?_)⟩
  · have hlt : us.length < A := by
      have := of_decide_eq_true z
      rw [List.length_map] at this
      omega
    have hp := gr.pos
    obtain ⟨v, hv⟩ : ∃ v, us[us.length - 1]? = some v := ⟨_, List.getElem?_eq_getElem (by omega)⟩
    refine ⟨fun σ' H'' => ∃ (v5 v6 : Option V) (us' : List Str), σ' = [some (.str s'), some (.ref ha), some (.ref S), some (vI A), some (.ref R), v5, v6] ∧ Same H H'' ∧ H'' R = some (.lst (us'.map V.str)) ∧ GrOk L s' A us' ∧ us'.length = us.length + 1,
      fun σ' H'' h => let ⟨v5, v6, us', e, r1, r2, r3, r4⟩ := h; ⟨A - us'.length, by omega, v5, v6, us', e, r1, r2, r3, by omega, rfl⟩, ?_⟩
    refine ⟨_, rfl, _, rfl, R, _, rfl, .inl (SqL.of eR), _, _, rfl, rfl, ?_⟩
    obtain ⟨row, hrow⟩ := row_of (gr.name hs hv)
    obtain ⟨p, gp, ep⟩ := (hH.same sm).get hrow
    have hv1 : (us.map V.str)[(us.map V.str).length - 1]? = some (.str v) := by rw [List.length_map, List.getElem?_map, hv]; rfl
    have nRp : R ≠ p := fun q => by rw [q, ep] at eR; cases eR
    refine ⟨_, rfl, .inl ⟨rfl, _, SqL.of eR⟩, _, rfl, _, rfl, _, rfl, R, _, _, .str v, rfl, rfl, SqL.of eR, atI_lst hv1, ha, _, rfl, gp, ?_⟩
    refine ⟨p, rfl, ⟨_, SqT.of ep⟩, fun D hD => lc_frows (walk_tup (xs := row.map V.str)) (rows := row) (f := PyData.str) (g := id) (h := PyData.str) (p := fun o => decide (lkS m o = some (A - us.length))) (fun H' sm => SqT.of (sm _ _ ep)) hD (LayAll.strs row) (by have := h100 _ _ hrow; omega)
      (fun x o H'' Rr Z ho sm' lx ky kn => ?_) (fun ys H'' sm' eD lus => ?_)⟩
    · obtain rfl := lx.str_inv
      have gx := (show IT H'' S m from sm' _ _ (sm _ _ iS)).get o
      refine ⟨rfl, _, rfl, S, rfl, .inl ⟨_, .inl (sm' _ _ (sm _ _ iS))⟩, _, rfl, _, gx, ?_⟩
      cases hk : lkS m o with
      | none =>
        refine ⟨_, rfl, rfl, _, rfl, ite2 (fun z => Bool.noConfusion (show false = true from z)) (fun _ => kn (decide_eq_false (by rw [hk]; exact fun h => nomatch h)) _ (.refl _))⟩
      | some k =>
        refine ⟨_, rfl, rfl, _, rfl, ite2 (fun z => ?_) (fun z => ?_)⟩
        · have e : (k : Int) = (A : Int) - ((us.map V.str).length : Int) := V.int.inj (of_decide_eq_true z)
          rw [List.length_map] at e
          exact ⟨_, rfl, ky (decide_eq_true (by rw [hk, show k = A - us.length by omega])) _ _ (.refl _) (.str o)⟩
        · refine kn (decide_eq_false ?_) _ (.refl _)
          rw [hk]
          intro h
          have e : k = A - us.length := Option.some.inj h
          refine z (decide_eq_true ?_)
          rw [List.length_map]
          exact congrArg V.int (by omega)
    · rw [List.map_id] at lus
      obtain rfl := LayAll.strs_inv lus
      have mem := nx_iff nd hs far lst gr hv (by omega) hrow (show A - us.length = A - 1 - (us.length - 1) by omega)
      obtain ⟨o0, ho0⟩ := lst.next gr hv (by omega)
      obtain ⟨x1, xs1, ex⟩ : ∃ x1 xs1, row.filter (fun o => decide (lkS m o = some (A - us.length))) = x1 :: xs1 := by
        cases e : row.filter (fun o => decide (lkS m o = some (A - us.length))) with
        | nil =>
          have := (mem o0).mpr ho0
          rw [e] at this
          cases this
        | cons a b => exact ⟨a, b, rfl⟩
      rw [ex] at eD
      refine ⟨D, x1, xs1, rfl, SqL.of eD, fun mn hmn => ?_⟩
      rw [← ex] at hmn
      have hM : IsMinP mn (Nx L s' A (us.length - 1) v) := ⟨(mem mn).mp hmn.1, fun y hy => hmn.2 y ((mem y).mpr hy)⟩
      have eR2 := sm' _ _ eR
      refine ⟨R, _, _, rfl, rfl, eR2, by rw [List.length_map, sizeLine_eq]; omega, ?_⟩
      refine ⟨_, _, us ++ [mn], rfl, ?_, by rw [upd_same, List.map_append]; rfl, gr.snoc hv hM, by rw [List.length_append]; rfl⟩
      intro b u e
      rw [upd_ne (ne_of_none e hR)]
      exact sm' _ _ (sm _ _ e)
  · have e : us.length = A := by
      have : ¬ (((us.map V.str).length : Int) < (A : Int)) := fun h => z (decide_eq_true h)
      rw [List.length_map] at this
      omega
    refine ⟨_, rfl, R, _, rfl, .inl ⟨SqL.of eR, fun a ha' => ?_⟩⟩
    exact q a us _ (sm.trans (same_new ha' _)) upd_same e gr
end
end Bf

set_option Elab.async false
set_option linter.all false
set_option maxRecDepth 100000
set_option maxHeartbeats 4000000
namespace Bf
open PySem PySem.Spec PyProof.Rows L2
/-! ### the shortest ring -/
def linkD (l : Str × List Str) : PyData := .tuple [.str l.1, .tuple (l.2.map PyData.str)]
def LinksAt (H : Hp) (v : V) (L : Lks) : Prop := ∃ (a : Addr) (vs : List V), v = .ref a ∧ FT H a vs ∧ LayAll H vs (L.map linkD)
theorem linkAt {H : Hp} {v : V} {l : Str × List Str} (h : Lay H v (linkD l)) : ∃ p q, v = .ref p ∧ H p = some (.tup [.str l.1, .ref q]) ∧ H q = some (.tup (l.2.map V.str)) := by
  obtain ⟨p, vs, rfl, ep, l⟩ := h.tup_inv
  obtain ⟨v1, u1, rfl, l1, l⟩ := l.cons_inv
  obtain ⟨v2, u2, rfl, l2, l⟩ := l.cons_inv
  obtain rfl := l.nil_inv
  obtain rfl := l1.str_inv
  obtain ⟨q, us, rfl, eq, l⟩ := l2.tup_inv
  obtain rfl := LayAll.strs_inv l
  exact ⟨p, q, rfl, ep, eq⟩
theorem pairs_links {K : PySem.W.Frag} {H : Hp} : ∀ {L : Lks} {vs : List V}, LayAll H vs (L.map linkD) → ∃ (ps : List Addr) (m : List (Str × Addr)), vs = ps.map V.ref ∧ m.map (·.1) = nmsL L ∧ Paired (fun p kv => SqT K H p [kV kv.1, kv.2]) ps (rK m) ∧ ∀ x row, (x, row) ∈ L → ∃ q, (x, q) ∈ m ∧ H q = some (.tup (row.map V.str))
  | [], _, h => by
    obtain rfl := h.nil_inv
    exact ⟨[], [], rfl, rfl, .nil, fun x row h => by cases h⟩
  | l :: L, _, h => by
    rw [List.map_cons] at h
    obtain ⟨v, us, rfl, l1, l2⟩ := h.cons_inv
    obtain ⟨ps, m, rfl, e1, e2, e3⟩ := pairs_links (K := K) l2
    obtain ⟨p, q, rfl, ep, eq⟩ := linkAt l1
    refine ⟨p :: ps, (l.1, q) :: m, rfl, by rw [List.map_cons, e1]; rfl, .cons (SqT.of ep) e2, fun x row h => ?_⟩
    rcases List.mem_cons.mp h with h | h
    · rw [← h] at eq ⊢
      exact ⟨q, by simp, eq⟩
    · obtain ⟨q', h1, h2⟩ := e3 x row h
      exact ⟨q', List.mem_cons_of_mem _ h1, h2⟩
/-- who hangs on whom, so far -/
structure HungP (R : Str → Str → Prop) (N : Nat) (H0 H : Hp) (hu : Addr) (m : List (Str × Addr)) : Prop where
  e : H hu = some (.dK (rK m))
  nk : (m.map (·.1)).Nodup
  na : (m.map (·.2)).Nodup
  fr : ∀ l ∈ m.map (·.2), H0 l = none
  no : ∀ x, lkS m x = none → ∀ z, ¬ R z x
  ls : ∀ x l, lkS m x = some l → ∃ xs : List Str, H l = some (.lst (xs.map V.str)) ∧ xs.length ≤ N ∧ ∀ z, z ∈ xs ↔ R z x
  ml : m.length ≤ N
theorem HungP.same {R : Str → Str → Prop} {N : Nat} {H0 H H' : Hp} {hu : Addr} {m : List (Str × Addr)} (h : HungP R N H0 H hu m) (s : Same H H') : HungP R N H0 H' hu m :=
  ⟨s _ _ h.e, h.nk, h.na, h.fr, h.no, fun x l hl => let ⟨xs, a, b, c⟩ := h.ls x l hl; ⟨xs, s _ _ a, b, c⟩, h.ml⟩
theorem HungP.ext {R R' : Str → Str → Prop} {N N' : Nat} {H0 H : Hp} {hu : Addr} {m : List (Str × Addr)} (h : HungP R N H0 H hu m) (hR : ∀ z x, R z x ↔ R' z x) (hN : N ≤ N') : HungP R' N' H0 H hu m :=
  ⟨h.e, h.nk, h.na, h.fr, fun x hx z r => h.no x hx z ((hR z x).mpr r), fun x l hl => let ⟨xs, a, b, c⟩ := h.ls x l hl; ⟨xs, a, by omega, fun z => (c z).trans (hR z x)⟩, Nat.le_trans h.ml hN⟩
theorem HungP.ne {R : Str → Str → Prop} {N : Nat} {H0 H : Hp} {hu l : Addr} {m : List (Str × Addr)} {x : Str} (h : HungP R N H0 H hu m) (hl : lkS m x = some l) : l ≠ hu := fun q => by
  obtain ⟨xs, e, _⟩ := h.ls x l hl
  rw [q, h.e] at e
  cases e
theorem HungP.inj {R : Str → Str → Prop} {N : Nat} {H0 H : Hp} {hu l : Addr} {m : List (Str × Addr)} {x y : Str} (h : HungP R N H0 H hu m) (hl : lkS m x = some l) (hl' : lkS m y = some l) : x = y := by
  have h1 := lkS_mem hl
  have h2 := lkS_mem hl'
  obtain ⟨i, hi⟩ := List.mem_iff_getElem?.mp h1
  obtain ⟨j, hj⟩ := List.mem_iff_getElem?.mp h2
  have e1 : (m.map (·.2))[i]? = some l := by rw [List.getElem?_map, hi]; rfl
  have e2 : (m.map (·.2))[j]? = some l := by rw [List.getElem?_map, hj]; rfl
  have hi' := (List.getElem?_eq_some_iff.mp e1).1
  have hij : i = j := (List.getElem?_inj hi' h.na).mp (e1.trans e2.symm)
  rw [hij, hj] at hi
  cases hi
  rfl
theorem HungP.old {R : Str → Str → Prop} {N : Nat} {H0 H : Hp} {hu l : Addr} {m : List (Str × Addr)} {x z : Str} {xs : List Str} (h : HungP R N H0 H hu m) (hl : lkS m x = some l) (hx : H l = some (.lst (xs.map V.str))) : HungP (fun u y => R u y ∨ (u = z ∧ y = x)) (N + 1) H0 (upd H l (.lst (xs.map V.str ++ [.str z]))) hu m := by
  have ne := h.ne hl
  refine ⟨(upd_ne (Ne.symm ne)).trans h.e, h.nk, h.na, h.fr, fun y hy u r => ?_, fun y l' hl' => ?_, by have := h.ml; omega⟩
  · rcases r with r | ⟨rfl, rfl⟩
    · exact h.no y hy u r
    · rw [hl] at hy
      cases hy
  · by_cases q : y = x
    · subst q
      rw [hl] at hl'
      cases hl'
      obtain ⟨ys, e1, e2, e3⟩ := h.ls y l hl
      rw [hx] at e1
      have e4 : xs.map V.str = ys.map V.str := HO.lst.inj (Option.some.inj e1)
      refine ⟨ys ++ [z], by rw [upd_same, e4, List.map_append]; rfl, by rw [List.length_append, List.length_singleton]; omega, fun u => ?_⟩
      rw [List.mem_append, e3, List.mem_singleton]
      exact or_congr Iff.rfl ⟨fun a => ⟨a, rfl⟩, fun a => a.1⟩
    · have nl : l' ≠ l := fun k => q (h.inj (k ▸ hl') hl)
      obtain ⟨ys, e1, e2, e3⟩ := h.ls y l' hl'
      refine ⟨ys, (upd_ne nl).trans e1, by omega, fun u => (e3 u).trans ⟨.inl, fun k => k.elim id fun k => absurd k.2 q⟩⟩
theorem HungP.new {R : Str → Str → Prop} {N : Nat} {H0 H : Hp} {hu e : Addr} {m : List (Str × Addr)} {x z : Str} (h : HungP R N H0 H hu m) (hl : lkS m x = none) (he : H e = none) (he0 : H0 e = none) :
    HungP (fun u y => R u y ∨ (u = z ∧ y = x)) (N + 1) H0 (upd (upd (upd H e (.lst [])) hu (.dK (rK (m ++ [(x, e)])))) e (.lst [.str z])) hu (m ++ [(x, e)]) := by
  have ne : e ≠ hu := fun q => by rw [q, h.e] at he; cases he
  have nx := lkS_none.mp hl
  have ea : ∀ l ∈ m.map (·.2), l ≠ e := fun l hl' q => by
    obtain ⟨⟨y, l'⟩, hp, rfl⟩ := List.mem_map.mp hl'
    obtain ⟨xs, k, _⟩ := h.ls y l' ((lkS_some h.nk).mpr hp)
    rw [show l' = e from q, he] at k
    cases k
  have nk : ((m ++ [(x, e)]).map (·.1)).Nodup := by
    rw [List.map_append]
    refine List.nodup_append.mpr ⟨h.nk, by simp, fun u hu' v hv q => ?_⟩
    have hv' : v = x := by simpa using hv
    exact nx (by rw [← hv', ← q]; exact hu')
  refine ⟨(upd_ne (Ne.symm ne)).trans upd_same, nk, ?_, fun l hl' => ?_, fun y hy u r => ?_, fun y l' hl' => ?_, ?_⟩
  · rw [List.map_append]
    refine List.nodup_append.mpr ⟨h.na, by simp, fun u hu' v hv q => ?_⟩
    have hv' : v = e := by simpa using hv
    exact ea u hu' (by rw [q, hv'])
  · rw [List.map_append] at hl'
    rcases List.mem_append.mp hl' with q | q
    · exact h.fr l q
    · rw [show l = e by simpa using q]; exact he0
  · have hy' := lkS_none.mp hy
    rw [List.map_append] at hy'
    rcases r with r | ⟨rfl, rfl⟩
    · exact h.no y (lkS_none.mpr fun q => hy' (List.mem_append_left _ q)) u r
    · exact hy' (List.mem_append_right _ (by simp))
  · have hm := (lkS_some nk).mp hl'
    rcases List.mem_append.mp hm with q | q
    · have hl'' := (lkS_some h.nk).mpr q
      obtain ⟨ys, e1, e2, e3⟩ := h.ls y l' hl''
      have n1 : l' ≠ e := ea l' (List.mem_map.mpr ⟨(y, l'), q, rfl⟩)
      have n2 := h.ne hl''
      have n3 : y ≠ x := fun k => nx (k ▸ List.mem_map.mpr ⟨(y, l'), q, rfl⟩)
      refine ⟨ys, (upd_ne n1).trans ((upd_ne n2).trans ((upd_ne n1).trans e1)), by omega, fun u => (e3 u).trans ⟨.inl, fun k => k.elim id fun k => absurd k.2 n3⟩⟩
    · rw [List.mem_singleton] at q
      cases q
      refine ⟨[z], upd_same, by simp, fun u => ?_⟩
      rw [List.mem_singleton]
      exact ⟨fun k => .inr ⟨k, rfl⟩, fun k => k.elim (fun k => absurd k (h.no x hl u)) fun k => k.1⟩
  · rw [List.length_append, List.length_singleton]
    have := h.ml
    omega
theorem HungP.hung {L : Lks} {N : Nat} {H0 H : Hp} {hu : Addr} {m : List (Str × Addr)} (h : HungP (Hg L) N H0 H hu m) : Hung L H hu := ⟨m, h.e, fun x => ⟨h.no x, fun l hl => let ⟨xs, a, _, c⟩ := h.ls x l hl; ⟨xs, a, c⟩⟩⟩
end Bf

set_option Elab.async false
set_option linter.all false
set_option maxRecDepth 100000
set_option maxHeartbeats 4000000
namespace Bf
open PySem PySem.Spec PyProof.Rows L2
/-! ### the shortest ring: the program -/
theorem rising_asc : ∀ (ys : List Str) (x : Str), risingS x ys = true → (x :: ys).Pairwise fun a b => ¬ sl b a
  | [], x, _ => List.pairwise_singleton _ _
  | y :: ys, x, h => by
    have h' : (!ltCps y.cps.toList x.cps.toList && risingS y ys) = true := h
    rw [Bool.and_eq_true, Bool.not_eq_true', ltCps_eq, decide_eq_false_iff_not] at h'
    have ih := rising_asc ys y h'.2
    refine List.pairwise_cons.mpr ⟨fun z hz => ?_, ih⟩
    rcases List.mem_cons.mp hz with rfl | hz
    · exact h'.1
    · intro k
      have h2 := (List.pairwise_cons.mp ih).1 z hz
      by_cases e : y = x
      · exact h2 (by rw [e]; exact k)
      · rcases sl_total e with q | q
        · exact h'.1 q
        · exact h2 (sl_trans k q)
theorem sorted_asc {ys : List Str} (h : sortedS ys = true) (nd : ys.Nodup) : ys.Pairwise sl := by
  have p : ys.Pairwise fun a b => ¬ sl b a := by
    cases ys with
    | nil => exact .nil
    | cons y ys => exact rising_asc ys y h
  refine (List.Pairwise.and p nd).imp fun {a b} h => ?_
  rcases sl_total h.2 with q | q
  · exact q
  · exact absurd q h.1
theorem same_put {H H' : Hp} {a : Addr} {o : HO} (s : Same H H') (h : H a = none) : Same H (upd H' a o) := fun b u q => by
  rw [upd_ne (ne_of_none q h)]
  exact s b u q
theorem FT.same {H H' : Hp} {a : Addr} {xs : List V} (h : FT H a xs) (s : Same H H') : FT H' a xs := let ⟨its, e⟩ := h; ⟨its, s _ _ e⟩
def RI (L : Lks) (i : Nat) (z x : Str) : Prop := ∃ row, (z, row) ∈ L.take i ∧ x ∈ row
theorem RI.succ {L : Lks} {i : Nat} {x : Str} {row : List Str} (h : L[i]? = some (x, row)) (z y : Str) : (RI L i z y ∨ (z = x ∧ y ∈ row)) ↔ RI L (i + 1) z y := by
  unfold RI
  rw [List.take_add_one, h]
  constructor
  · rintro (⟨r, h1, h2⟩ | ⟨rfl, h2⟩)
    · exact ⟨r, List.mem_append_left _ h1, h2⟩
    · exact ⟨row, List.mem_append_right _ (by simp), h2⟩
  · rintro ⟨r, h1, h2⟩
    rcases List.mem_append.mp h1 with q | q
    · exact .inl ⟨r, q, h2⟩
    · have q' : (z, r) = (x, row) := by simpa using q
      cases q'
      exact .inr ⟨rfl, h2⟩
def spShort : Sp := fun vs H Q _ => ∃ (v : V) (L : Lks), vs = [v] ∧ LinksAt H v L ∧ (nmsL L).Nodup ∧ L.length ≤ 40 ∧ (∀ x row, (x, row) ∈ L → row.length ≤ 100) ∧
  ∀ (a : Addr) (us : List Str) (H' : Hp), Same H H' → H' a = some (.tup (us.map V.str)) → RingIs L us → Q (.ref a) H'
section
variable {P : Program} {w : World} {K : PySem.W.Frag} {mg : Str → Option Value} {base : Heap} {f : Addr} {fd : FuncData}
theorem ok_short (F : Fun K "shortest_ring" "shortest_ring" s_shortest_ring f fd) (T : Txt mg) (D_steps_to : Dn P w K mg base "steps_to" ["name", "hung"] 1 spSteps) (D_ring_size : Dn P w K mg base "ring_size" ["name", "hangs", "steps"] 1 spSize) (D_least_ring : Dn P w K mg base "least_ring" ["name", "hangs", "steps", "size"] 1 spLeast) :
    FnOk P w K mg base CX0 2 f fd ["links"] spShort := by
  refine F.ok sc_shortest_ring (fun vs H Q E h => ?_) (fun cdv A outer s H vs Q E hr h => ?_)
  · obtain ⟨v, L, rfl, _⟩ := h
    rfl
  obtain ⟨v, L, rfl, ⟨a, vs, rfl, ft, lay⟩, nd, h40, h100, q⟩ := h
  refine ⟨_, (pss_cons (ps_set (i := 1) sc_shortest_ring.nd rfl (Or.inl rfl) (pe_callTy (cr_dictF rfl) (by rfl) T.n_dict (by decide +kernel) (pa_cons (pv 0) pa_nil)))
      (pss_cons (ps_set (i := 2) sc_shortest_ring.nd rfl (Or.inl rfl) pe_dnewK)
      (C8.pss_cut (ps_for PassesOwn.never rfl (pi_tup (pv 0)) (pg_tup rfl (pgs_cons (pg_name (i := 3) sc_shortest_ring.nd rfl (Or.inl rfl)) (pgs_cons (pg_name (i := 4) sc_shortest_ring.nd rfl (Or.inl rfl)) pgs_nil))) (pss_one (ps_for PassesOwn.never rfl (pi_tup (pv 4)) (pg_name (i := 5) sc_shortest_ring.nd rfl (Or.inl rfl)) (pss_one (ps_expr (pe_bm PySem.F.plainAttrs_list PySem.F.slot_list_append PySem.F.type_list_append mt_append (pe_dsetd (pv 2) (pv 5) (pe_lst pa_nil) ⟨by rfl, by rfl, by rfl, by rfl⟩) (pa_cons (pv 3) pa_nil)))))))
      (pss_cons (ps_set (i := 6) sc_shortest_ring.nd rfl (Or.inl rfl) pe_int)
      (pss_cons (ps_set (i := 7) sc_shortest_ring.nd rfl (Or.inl rfl) (pe_tup pa_nil))
      (pss_cons (ps_for PassesOwn.never rfl (pi_list (pe_callB (call_sortedD rfl) (by rfl) T.n_sorted (by decide +kernel) (pa_cons (pv 1) pa_nil))) (pg_name (i := 3) sc_shortest_ring.nd rfl (Or.inl rfl)) (pss_cons (ps_set (i := 8) sc_shortest_ring.nd rfl (Or.inl rfl) (pe_dn D_steps_to (hr.mono (by omega)) (by rfl) (pa_cons (pv 3) (pa_cons (pv 2) pa_nil))))
      (pss_cons (ps_set (i := 9) sc_shortest_ring.nd rfl (Or.inl rfl) (pe_dn D_ring_size (hr.mono (by omega)) (by rfl) (pa_cons (pv 3) (pa_cons (pv 1) (pa_cons (pv 8) pa_nil)))))
      (pss_one (ps_if (PW.pt (pw_and (pt_cmpR op_gt (pv 9) pe_int (nomark _)) (pw_and1 (PW.pt (pw_or (pt_cmpR op_eq (pv 6) pe_int (nomark _)) (pw_or1 (pt_cmpR op_lt (pv 9) (pv 6) (nomark _)))))))) (pss_cons (ps_set (i := 6) sc_shortest_ring.nd rfl (Or.inl rfl) (pv 9))
      (pss_one (ps_set (i := 7) sc_shortest_ring.nd rfl (Or.inl rfl) (pe_dn D_least_ring (hr.mono (by omega)) (by rfl) (pa_cons (pv 3) (pa_cons (pv 1) (pa_cons (pv 8) (pa_cons (pv 9) pa_nil)))))))) pss_nil)))))
      (pss_one (ps_ret (pv 7))))))))), ?_⟩
  obtain ⟨ps, mH, rfl, eN, pr, hH0⟩ := pairs_links (K := K) lay
  have ndH : (mH.map (·.1)).Nodup := by rw [eN]; exact nd
  refine ⟨_, rfl, a, ps, rK mH, rfl, ft, pr, fun ha hha => ?_⟩
  have eM : mergeK [] (rK mH) = rK mH := by
    have := merge_sK (mH.map fun p => (p.1, V.ref p.2)) [] (by rw [List.nil_append, List.map_map]; exact ndH)
    exact this
  rw [eM]
  have s1 := same_new hha (.dK (rK mH))
  have hH : Hangs L (upd H ha (.dK (rK mH))) ha := ⟨mH, upd_same, eN, fun x row h => let ⟨p, h1, h2⟩ := hH0 x row h; ⟨p, (lkS_some ndH).mpr h1, s1 _ _ h2⟩⟩
  generalize upd H ha (.dK (rK mH)) = H1 at s1 hH ⊢
  refine fun hu hhu => ?_
  have fhu : H hu = none := s1.free hhu
  have s2 := s1.trans (same_new hhu (.dK []))
  refine ⟨fun σ' H' => ∃ (v3 v4 v5 : Option V), σ' = [some (.ref a), some (.ref ha), some (.ref hu), v3, v4, v5, none, none, none, none] ∧ Same H H' ∧ Hung L H' hu ∧ Hangs L H' ha, ?_, fun σ2 H2 p2 => ?_⟩
  · have s12 := same_new hhu (.dK [])
    have ft1 := ft.same s1
    have lay1 := lay.keep' (.same s1)
    have lps : ps.length = L.length := by
      have := lay.len
      rwa [List.length_map, List.length_map] at this
    have hu0 : HungP (RI L 0) (100 * 0) H1 (upd H1 hu (.dK [])) hu [] := ⟨upd_same, by simp, by simp, fun l hl => (by cases hl), fun x _ z h => (by obtain ⟨r, h1, _⟩ := h; rw [List.take_zero] at h1; cases h1), fun x l hl => (by cases hl), by simp⟩
    refine ⟨_, rfl, a, rfl, ⟨_, (ft1.same s12).seq⟩, for_it (walk_tup (xs := ps.map V.ref)) (fun i σ' H' => ∃ (v3 v4 v5 : Option V) (m : List (Str × Addr)), σ' = [some (.ref a), some (.ref ha), some (.ref hu), v3, v4, v5, none, none, none, none] ∧ Same H1 H' ∧ HungP (RI L i) (100 * i) H1 H' hu m)
      ⟨_, _, _, [], rfl, s12, hu0⟩ (fun i σ' H' _ pp => ?_) (fun i x σ' H3 H4 hi pp y => ?_) (fun σ' H' pp => ?_)⟩
    · obtain ⟨_, _, _, _, _, sm, _⟩ := pp
      exact (ft1.same sm).seq
    · obtain ⟨v3, v4, v5, m, rfl, sm, hp⟩ := pp
      obtain ⟨rfl, ex⟩ := y
      have hiL : i < L.length := by rw [List.length_map] at hi; omega
      obtain ⟨⟨x1, row⟩, hL⟩ : ∃ l, L[i]? = some l := ⟨_, List.getElem?_eq_getElem hiL⟩
      have hrow := h100 x1 row (List.mem_of_getElem? hL)
      obtain ⟨vx, evx, lx⟩ := lay1.at_ i (show (L.map linkD)[i]? = some (linkD (x1, row)) by rw [List.getElem?_map, hL]; rfl)
      rw [ex] at evx
      cases evx
      obtain ⟨p, qa, rfl, ep, eq⟩ := linkAt lx
      refine ⟨p, _, rfl, SqT.of (sm _ _ ep), rfl, _, _, rfl, _, _, rfl, rfl, ?_⟩
      refine ⟨_, rfl, qa, rfl, ⟨_, SqT.of (sm _ _ eq)⟩, for_it (walk_tup (xs := row.map V.str)) (fun j σ' H' => ∃ (v5 : Option V) (m : List (Str × Addr)), σ' = [some (.ref a), some (.ref ha), some (.ref hu), some (.str x1), some (.ref qa), v5, none, none, none, none] ∧ Same H1 H' ∧ HungP (fun z y => RI L i z y ∨ (z = x1 ∧ y ∈ row.take j)) (100 * i + j) H1 H' hu m)
        ⟨_, m, rfl, sm, hp.ext (fun z y => by rw [List.take_zero]; simp) (Nat.le_add_right _ _)⟩ (fun j σ' H' _ pp => ?_) (fun j o σ' H5 H6 hj pp y => ?_) (fun σ' H' pp => ?_)⟩
      · obtain ⟨_, _, _, sm', _⟩ := pp
        exact SqT.of (sm' _ _ eq)
      · obtain ⟨v5, m, rfl, sm6, hp6⟩ := pp
        obtain ⟨rfl, ex'⟩ := y
        obtain ⟨o, ho, rfl⟩ : ∃ o' : Str, row[j]? = some o' ∧ o = .str o' := by
          rw [List.getElem?_map] at ex'
          obtain ⟨o', h1, h2⟩ := Option.map_eq_some_iff.mp ex'
          exact ⟨o', h1, h2.symm⟩
        have hj' := (List.getElem?_eq_some_iff.mp ho).1
        have step : ∀ z y, ((RI L i z y ∨ (z = x1 ∧ y ∈ row.take j)) ∨ (z = x1 ∧ y = o)) ↔ (RI L i z y ∨ (z = x1 ∧ y ∈ row.take (j + 1))) := fun z y => by
          rw [take_snocS ho, List.mem_append, List.mem_singleton]
          constructor
          · rintro ((h | ⟨h1, h2⟩) | ⟨h1, h2⟩)
            · exact .inl h
            · exact .inr ⟨h1, .inl h2⟩
            · exact .inr ⟨h1, .inr h2⟩
          · rintro (h | ⟨h1, h2 | h2⟩)
            · exact .inl (.inl h)
            · exact .inl (.inr ⟨h1, h2⟩)
            · exact .inr ⟨h1, h2⟩
        have lrk : (rK m).length = m.length := by unfold rK sK; rw [List.length_map, List.length_map]
        have ml6 := hp6.ml
        refine ⟨_, rfl, hu, rfl, .inl ⟨_, .inl hp6.e⟩, _, rfl, Nat.zero_le _, fun e he => ?_⟩
        have sE := same_new he (.lst [])
        have he1 : H1 e = none := sm6.free he
        refine ⟨rK m, Sum.inr o, sE _ _ hp6.e, rfl, by rw [lrk, sizeLine_eq]; omega, fun v hv => ?_, fun hv => ?_⟩
        · unfold rK at hv
          rw [valV_sK, lkS_map] at hv
          obtain ⟨l, hl, rfl⟩ := Option.map_eq_some_iff.mp hv
          have hpE := hp6.same sE
          obtain ⟨xs, e1, e2, _⟩ := hpE.ls o l hl
          refine ⟨.inl ⟨rfl, _, SqL.of e1⟩, _, rfl, l, _, _, rfl, rfl, e1, by rw [List.length_map, sizeLine_eq]; omega, ?_⟩
          exact ⟨_, m, rfl, same_put (sm6.trans sE) (hp6.fr l (List.mem_map.mpr ⟨(o, l), lkS_mem hl, rfl⟩)), (hpE.old (z := x1) hl e1).ext step (by omega)⟩
        · have hn : lkS m o = none := by
            unfold rK at hv
            rw [valV_sK, lkS_map] at hv
            exact Option.map_eq_none_iff.mp hv
          have e0 : putK (rK m) (Sum.inr o : Key) (.ref e) = rK (m ++ [(o, e)]) := by
            unfold rK
            rw [putK_new (by rw [List.map_map]; exact lkS_none.mp hn), List.map_append]
            rfl
          rw [e0]
          have neu : e ≠ hu := (ne_of_none hp6.e he).symm
          have e1 : upd (upd H6 e (.lst [])) hu (.dK (rK (m ++ [(o, e)]))) e = some (.lst []) := (upd_ne neu).trans upd_same
          refine ⟨.inl ⟨rfl, _, SqL.of e1⟩, _, rfl, e, _, _, rfl, rfl, e1, by rw [sizeLine_eq]; decide, ?_⟩
          exact ⟨_, _, rfl, same_put (same_put (same_put sm6 he1) hhu) he1, (hp6.new (z := x1) hn he he1).ext step (by omega)⟩
      · obtain ⟨v5, m, rfl, sm6, hp6⟩ := pp
        rw [List.length_map, List.take_length] at hp6
        exact ⟨_, _, _, m, rfl, sm6, hp6.ext (RI.succ hL) (by omega)⟩
    · obtain ⟨v3, v4, v5, m, rfl, sm, hp⟩ := pp
      rw [List.length_map, lps] at hp
      refine ⟨v3, v4, v5, rfl, s1.trans sm, (hp.ext (R' := Hg L) (fun z x => ?_) (Nat.le_refl _)).hung, hH.same sm⟩
      unfold RI Hg
      rw [List.take_length]
  · obtain ⟨v3, v4, v5, rfl, sm, hung, hangs⟩ := p2
    refine ⟨Nat.zero_le _, fun t ht => ?_⟩
    have st := same_new ht (.tup [])
    have hangs0 := hangs
    obtain ⟨mm, em, enm, _⟩ := hangs
    refine ⟨_, rfl, ha, rK mm, nmsL L, rfl, .inl (st _ _ em), ?_, by unfold nmsL; rw [List.length_map]; omega, fun ys Z perm srt hZ => ?_⟩
    · rw [← enm]
      unfold rK sK
      rw [List.map_map, List.map_map, List.map_map]
      rfl
    have ndY : ys.Nodup := perm.nodup_iff.mpr nd
    have so : SortedN L ys := ⟨fun y => perm.mem_iff, sorted_asc srt ndY⟩
    have sZ := st.trans (same_new hZ (.lst (ys.map V.str)))
    have ehZ : upd (upd H2 t (.tup [])) Z (.lst (ys.map V.str)) Z = some (.lst (ys.map V.str)) := upd_same
    have etZ : upd (upd H2 t (.tup [])) Z (.lst (ys.map V.str)) t = some (.tup []) := same_new hZ _ _ _ upd_same
    generalize upd (upd H2 t (.tup [])) Z (.lst (ys.map V.str)) = H3 at sZ ehZ etZ ⊢
    refine ⟨Z, rfl, ⟨_, SqL.of ehZ⟩, for_it (walk_list (xs := ys.map V.str)) (fun i σ' H' => ∃ (v3 v8 v9 : Option V) (b : Nat) (us : List Str) (rr : Addr), σ' = [some (.ref a), some (.ref ha), some (.ref hu), v3, v4, v5, some (vI b), some (.ref rr), v8, v9] ∧ Same H3 H' ∧ H' rr = some (.tup (us.map V.str)) ∧ BestI L ys i b us)
      ⟨_, _, _, 0, [], t, rfl, .refl _, etZ, .start L ys⟩ (fun i σ' H' _ pp => ?_) (fun i x σ' H4 H5 hi pp y => ?_) (fun σ' H' pp => ?_)⟩
    · obtain ⟨_, _, _, _, _, _, _, sm', _⟩ := pp
      exact SqL.of (sm' _ _ ehZ)
    · obtain ⟨w3, w8, w9, b, us, rr, rfl, sm5, er, bi⟩ := pp
      obtain ⟨rfl, ex⟩ := y
      obtain ⟨s', hs', rfl⟩ : ∃ o' : Str, ys[i]? = some o' ∧ x = .str o' := by
        rw [List.getElem?_map] at ex
        obtain ⟨o', h1, h2⟩ := Option.map_eq_some_iff.mp ex
        exact ⟨o', h1, h2.symm⟩
      have hsN : s' ∈ nmsL L := (so.mem s').mp (List.mem_of_getElem? hs')
      have s25 := sZ.trans sm5
      have l40 : (nmsL L).length ≤ 40 := by unfold nmsL; rw [List.length_map]; exact h40
      refine ⟨_, rfl, _, rfl, s', hu, L, rfl, hung.same s25, hsN, l40, fun S m H6 s6 iS far m40 => ?_⟩
      refine ⟨_, rfl, _, rfl, _, rfl, s', ha, S, L, m, rfl, hangs0.same (s25.trans s6), iS, far, hsN, nd, h100, fun z H7 s7 hz zm => ?_⟩
      have s57 := s6.trans s7
      have skip : ¬ (1 ≤ z ∧ (b = 0 ∨ z < b)) → ∃ (v3 v8 v9 : Option V) (b' : Nat) (us' : List Str) (rr' : Addr), [some (.ref a), some (.ref ha), some (.ref hu), some (.str s'), v4, v5, some (vI b), some (.ref rr), some (.ref S), some (vI z)] = [some (.ref a), some (.ref ha), some (.ref hu), v3, v4, v5, some (vI b'), some (.ref rr'), v8, v9] ∧ Same H3 H7 ∧ H7 rr' = some (.tup (us'.map V.str)) ∧ BestI L ys (i + 1) b' us' :=
        fun h => ⟨_, _, _, b, us, rr, rfl, sm5.trans s57, s57 _ _ er, bi.sizeNo so hs' hz h⟩
      refine ⟨_, rfl, _, _, rfl, rfl, _, rfl, ite2 (fun z1 => ?_) (fun z1 => skip fun h => z1 (decide_eq_true (by have := h.1; omega)))⟩
      have z1' : 1 ≤ z := by
        have : (0 : Int) < (z : Int) := of_decide_eq_true z1
        omega
      refine ⟨_, rfl, rfl, _, rfl, ite2 (fun b0 => ?_) (fun b0 => ?_)⟩
      · refine ite2 (fun _ => ?_) (fun k => absurd rfl k)
        have hb : b = 0 ∨ z < b := .inl (by have : (b : Int) = 0 := V.int.inj (of_decide_eq_true b0); omega)
        have lst := bi.sizeLst so hs' hz z1' hb
        refine ⟨_, rfl, _, rfl, _, rfl, _, rfl, _, rfl, s', ha, S, L, m, z, rfl, hangs0.same (s25.trans s57), s7 _ _ iS, far, hsN, nd, h100, by omega, lst, fun a' us' H8 s8 ea el gr => ?_⟩
        exact ⟨_, _, _, z, us', a', rfl, sm5.trans (s57.trans s8), ea, bi.better hs' lst hb el gr⟩
      · refine ⟨_, rfl, _, rfl, _, _, rfl, rfl, _, rfl, ite2 (fun zb => ?_) (fun zb => skip fun h => ?_)⟩
        · have hb : b = 0 ∨ z < b := .inr (by have : (z : Int) < (b : Int) := of_decide_eq_true zb; omega)
          have lst := bi.sizeLst so hs' hz z1' hb
          refine ⟨_, rfl, _, rfl, _, rfl, _, rfl, _, rfl, s', ha, S, L, m, z, rfl, hangs0.same (s25.trans s57), s7 _ _ iS, far, hsN, nd, h100, by omega, lst, fun a' us' H8 s8 ea el gr => ?_⟩
          exact ⟨_, _, _, z, us', a', rfl, sm5.trans (s57.trans s8), ea, bi.better hs' lst hb el gr⟩
        · rcases h.2 with q | q
          · exact b0 (decide_eq_true (by rw [q]; rfl))
          · exact zb (decide_eq_true (by omega))
    · obtain ⟨w3, w8, w9, b, us, rr, rfl, sm5, er, bi⟩ := pp
      rw [List.length_map] at bi
      exact ⟨_, rfl, q rr us _ (sm.trans (sZ.trans sm5)) er (bi.done so)⟩
end
end Bf

set_option Elab.async false
set_option linter.all false
set_option maxRecDepth 100000
set_option maxHeartbeats 4000000
namespace Bf
open PySem PySem.Spec PyProof.Rows L2
/-! ### the law's own steps and rounds -/
theorem eqVS (a b : Str) : eqV (V.str a) (V.str b) = decide (a = b) := by
  unfold eqV
  by_cases h : a = b
  · subst h; simp
  · rw [decide_eq_false h]
    first
    | exact beq_eq_false_iff_ne.mpr h
    | simp [h]
theorem inVS (x : Str) (xs : List Str) : inV (V.str x) (xs.map V.str) = decide (x ∈ xs) := by
  induction xs with
  | nil => rfl
  | cons a r ih =>
    show (eqV (V.str a) (V.str x) || inV (V.str x) (r.map V.str)) = decide (x ∈ a :: r)
    rw [ih, eqVS]
    by_cases h : a = x
    · subst h; simp
    · by_cases k : x ∈ r
      · simp [k]
      · simp [h, k, Ne.symm h]
theorem flatS : ∀ xs : List Str, (xs.map V.str).all flatV = true
  | [] => rfl
  | a :: r => by
    rw [List.map_cons, List.all_cons, flatS r]
    rfl
def kn (L : Lks) (row : List Str) : List Str := row.filter fun o => decide (o ∈ nmsL L)
theorem mem_kn {L : Lks} (nd : (nmsL L).Nodup) {x o : Str} {row : List Str} (h : (x, row) ∈ L) : o ∈ kn L row ↔ Ed L x o := by
  unfold kn
  rw [List.mem_filter, decide_eq_true_iff, Ed.row nd h]
def StepsAt (L : Lks) (H : Hp) (d : Addr) : Prop := ∃ m : List (Str × Addr), H d = some (.dK (rK m)) ∧ m.map (·.1) = nmsL L ∧ ∀ x row, (x, row) ∈ L → ∃ l, lkS m x = some l ∧ H l = some (.lst ((kn L row).map V.str))
theorem StepsAt.same {L : Lks} {H H' : Hp} {d : Addr} (h : StepsAt L H d) (s : Same H H') : StepsAt L H' d := by
  obtain ⟨m, e, n, f⟩ := h
  exact ⟨m, s _ _ e, n, fun x row hx => let ⟨p, e1, e2⟩ := f x row hx; ⟨p, e1, s _ _ e2⟩⟩
theorem StepsAt.get {L : Lks} {H : Hp} {d : Addr} (h : StepsAt L H d) {x : Str} {row : List Str} (hx : (x, row) ∈ L) : ∃ l, DGet H d (.str x) (some (.ref l)) ∧ H l = some (.lst ((kn L row).map V.str)) := by
  obtain ⟨m, e, _, f⟩ := h
  obtain ⟨p, e1, e2⟩ := f x row hx
  have := rK_get e x
  rw [e1] at this
  exact ⟨p, this, e2⟩
theorem rK_len (m : List (Str × Addr)) : (rK m).length = m.length := by unfold rK sK; rw [List.length_map, List.length_map]
theorem rK_put {H : Hp} {a : Addr} {m : List (Str × Addr)} {x : Str} {l : Addr} (h : H a = some (.dK (rK m))) (hx : x ∉ m.map (·.1)) (hl : m.length < sizeLine) : DPut H a (.str x) (.ref l) (upd H a (.dK (rK (m ++ [(x, l)])))) := by
  have := DPut.k (k := (Sum.inr x : Key)) (v := V.ref l) h (by rw [rK_len]; exact hl)
  have e0 : putK (rK m) (Sum.inr x : Key) (.ref l) = rK (m ++ [(x, l)]) := by
    unfold rK
    rw [putK_new (by rw [List.map_map]; exact hx), List.map_append]
    rfl
  rw [e0] at this
  exact this
def spLSteps : Sp := fun vs H Q _ => ∃ (v : V) (L : Lks), vs = [v] ∧ LinksAt H v L ∧ (nmsL L).Nodup ∧ L.length ≤ 40 ∧ (∀ x row, (x, row) ∈ L → row.length ≤ 100) ∧
  ∀ (d : Addr) (H' : Hp), Same H H' → StepsAt L H' d → Q (.ref d) H'
section
variable {P : Program} {w : World} {K : PySem.W.Frag} {mg : Str → Option Value} {base : Heap} {f : Addr} {fd : FuncData}
theorem ok_lsteps (F : Fun K "_law_steps" "_law_steps" s_law_steps f fd) (T : Txt mg) : FnOk P w K mg base CX0 1 f fd ["_law_links_here"] spLSteps := by
  refine F.ok sc_law_steps (fun vs H Q E h => ?_) (fun cdv A outer s H vs Q E hr h => ?_)
  · obtain ⟨v, L, rfl, _⟩ := h
    rfl
  obtain ⟨v, L, rfl, ⟨a, vs, rfl, ft, lay⟩, nd, h40, h100, q⟩ := h
  refine ⟨_, (pss_cons (ps_set (i := 1) sc_law_steps.nd rfl (Or.inr rfl) (pe_lc (own := [("_law_pair", 5)]) (g := (gName 5)) (tt := tYes) rfl sc_law_steps.nd (pi_tup (pv 0)) (blkOk_by (N := ["_law_links_here", "_law_known", "_law_steps_here", "_law_name", "_law_hung_here", "_law_pair", "_law_other"]) (sc := defScope s_law_steps) (by decide +kernel)) (fun _ _ _ _ _ => (pg_name (i := 5) sc_law_steps.nd rfl (Or.inl rfl))) (fun _ _ _ _ _ => pts_nil) (fun _ _ _ _ _ => (pe_ix (ix_tup : IxR _ (rIxT K)) (pv 5) pe_int (fun _ _ => rfl)))))
      (pss_cons (ps_set (i := 2) sc_law_steps.nd rfl (Or.inl rfl) pe_dnewK)
      (pss_cons (ps_for PassesOwn.never rfl (pi_tup (pv 0)) (pg_tup rfl (pgs_cons (pg_name (i := 3) sc_law_steps.nd rfl (Or.inl rfl)) (pgs_cons (pg_name (i := 4) sc_law_steps.nd rfl (Or.inl rfl)) pgs_nil))) (pss_one (ps_dput (hu_of hr) (pv 2) (pv 3) (pe_lc (own := [("_law_other", 6)]) (g := (gName 6)) rfl sc_law_steps.nd (pi_tup (pv 4)) (blkOk_by (N := ["_law_links_here", "_law_known", "_law_steps_here", "_law_name", "_law_hung_here", "_law_pair", "_law_other"]) (sc := defScope s_law_steps) (by decide +kernel)) (fun _ _ _ _ _ => (pg_name (i := 6) sc_law_steps.nd rfl (Or.inl rfl))) (fun _ _ _ _ _ => (pts_one (pt_cmpR (op_in_seq : OpR _ _ (rIn K false)) (pv 6) (pv 1) (by rfl)))) (fun _ _ _ _ _ => (pv 6))) rfl)))
      (pss_one (ps_ret (pv 2)))))), ?_⟩
  refine ⟨_, rfl, a, rfl, ⟨_, ft.seq⟩, fun D hD => lc_rows (walk_tup (xs := vs)) (rows := L) (f := linkD) (g := Prod.fst) (h := PyData.str) (fun H' sm => (ft.same sm).seq) hD lay (by omega) (fun i x r H' R Z hr sm lx ky => ?_) (fun us H' sm eD lus => ?_)⟩
  · obtain ⟨p, qa, rfl, ep, _⟩ := linkAt lx
    exact ⟨rfl, _, rfl, p, _, _, .str r.1, rfl, rfl, SqT.of ep, atI_nat (j := 0) rfl, ky _ _ (.refl _) (.str _)⟩
  · obtain rfl := LayAll.strs_inv lus
    refine fun d hd => ?_
    have fd : H d = none := sm.free hd
    have eD1 := same_new hd (.dK []) _ _ eD
    have s1 := sm.trans (same_new hd (.dK []))
    have ed0 : upd H' d (.dK []) d = some (.dK (rK [])) := upd_same
    generalize upd H' d (.dK []) = H1 at eD1 s1 ed0 ⊢
    have ll := lay.len
    rw [List.length_map] at ll
    refine ⟨_, rfl, a, rfl, ⟨_, (ft.same s1).seq⟩, for_it (walk_tup (xs := vs)) (fun i σ' H2 => ∃ (v3 v4 v5 v6 : Option V) (m : List (Str × Addr)), σ' = [some (.ref a), some (.ref D), some (.ref d), v3, v4, v5, v6] ∧ Same H H2 ∧ H2 D = some (.lst ((nmsL L).map V.str)) ∧ H2 d = some (.dK (rK m)) ∧ m.map (·.1) = nmsL (L.take i) ∧ ∀ x row, (x, row) ∈ L.take i → ∃ l, (x, l) ∈ m ∧ H2 l = some (.lst ((kn L row).map V.str)))
      ⟨_, _, _, _, [], rfl, s1, eD1, ed0, rfl, fun x row h => (by rw [List.take_zero] at h; cases h)⟩ (fun i σ' H2 _ pp => ?_) (fun i x σ' H3 H4 hi pp y => ?_) (fun σ' H2 pp => ?_)⟩
    · obtain ⟨_, _, _, _, _, _, s2, _⟩ := pp
      exact (ft.same s2).seq
    · obtain ⟨v3, v4, v5, v6, m, rfl, s2, eD2, ed2, em, hm⟩ := pp
      obtain ⟨rfl, ex⟩ := y
      obtain ⟨⟨x1, row⟩, hL⟩ : ∃ l, L[i]? = some l := ⟨_, List.getElem?_eq_getElem (by omega)⟩
      have hrow := h100 x1 row (List.mem_of_getElem? hL)
      obtain ⟨vx, evx, lx⟩ := (lay.keep' (.same s2)).at_ i (show (L.map linkD)[i]? = some (linkD (x1, row)) by rw [List.getElem?_map, hL]; rfl)
      rw [ex] at evx
      cases evx
      obtain ⟨p, qa, rfl, ep, eq⟩ := linkAt lx
      have tk : L.take (i + 1) = L.take i ++ [(x1, row)] := by rw [List.take_add_one, hL]; rfl
      have nx : x1 ∉ m.map (·.1) := by
        rw [em]
        intro h
        have : (nmsL (L.take (i + 1))).Nodup := by
          unfold nmsL at nd ⊢
          rw [List.map_take]
          exact nd.sublist (List.take_sublist _ _)
        rw [tk] at this
        unfold nmsL at this h
        rw [List.map_append] at this
        exact (List.nodup_append.mp this).2.2 x1 h x1 (by simp) rfl
      have lm : m.length ≤ 40 := by
        have := congrArg List.length em
        unfold nmsL at this
        rw [List.length_map, List.length_map, List.length_take] at this
        omega
      refine ⟨p, _, rfl, SqT.of ep, rfl, _, _, rfl, _, _, rfl, rfl, ?_⟩
      refine ⟨_, rfl, qa, rfl, ⟨_, SqT.of eq⟩, fun E hE => lc_frows (walk_tup (xs := row.map V.str)) (rows := row) (f := PyData.str) (g := id) (h := PyData.str) (p := fun o => decide (o ∈ nmsL L)) (fun H' sm => SqT.of (sm _ _ eq)) hE (LayAll.strs row) (by omega)
        (fun z o H5 R Z ho s5 lz ky kn => ?_) (fun us H5 s5 eE lus => ?_)⟩
      · obtain rfl := lz.str_inv
        refine ⟨rfl, _, rfl, _, rfl, D, _, rfl, .inl (SqL.of (s5 _ _ eD2)), rfl, flatS _, _, rfl, ?_⟩
        show if inV (V.str o) ((nmsL L).map V.str) = true then _ else _
        rw [inVS]
        exact ite2 (fun h => ⟨_, rfl, ky h _ _ (.refl _) (.str _)⟩) (fun h => kn (by cases e : decide (o ∈ nmsL L) with | false => rfl | true => exact absurd e h) _ (.refl _))
      · rw [List.map_id] at lus
        obtain rfl := LayAll.strs_inv lus
        have nEd : E ≠ d := (ne_of_none ed2 hE).symm
        refine ⟨_, rfl, _, rfl, d, _, rfl, rK_put (l := E) (s5 _ _ ed2) nx (by rw [sizeLine_eq]; omega), ?_⟩
        refine ⟨_, _, _, _, m ++ [(x1, E)], rfl, same_put (s2.trans s5) fd, (upd_ne ?_).trans (s5 _ _ eD2), upd_same, ?_, fun x' row' h => ?_⟩
        · intro k
          rw [k] at eD2
          rw [ed2] at eD2
          cases eD2
        · rw [tk]
          unfold nmsL at em ⊢
          rw [List.map_append, List.map_append, em]
          rfl
        · rw [tk] at h
          rcases List.mem_append.mp h with h | h
          · obtain ⟨l, h1, h2⟩ := hm x' row' h
            have nl : l ≠ d := fun k => by rw [k, ed2] at h2; cases h2
            exact ⟨l, List.mem_append_left _ h1, (upd_ne nl).trans (s5 _ _ h2)⟩
          · rw [List.mem_singleton] at h
            cases h
            exact ⟨E, List.mem_append_right _ (by simp), (upd_ne nEd).trans eE⟩
    · obtain ⟨v3, v4, v5, v6, m, rfl, s2, eD2, ed2, em, hm⟩ := pp
      rw [ll, List.take_length] at em hm
      have ndm : (m.map (·.1)).Nodup := by rw [em]; exact nd
      exact ⟨_, rfl, q d _ s2 ⟨m, ed2, em, fun x row h => let ⟨l, h1, h2⟩ := hm x row h; ⟨l, (lkS_some ndm).mpr h1, h2⟩⟩⟩
end
end Bf

set_option Elab.async false
set_option linter.all false
set_option maxRecDepth 100000
set_option maxHeartbeats 4000000
namespace Bf
open PySem PySem.Spec PyProof.Rows L2
/-! ### the law's rounds -/
theorem sK_at {m : List (Str × V)} {i : Nat} {k : Key} {v : V} (h : (sK m)[i]? = some (k, v)) : ∃ x, m[i]? = some (x, v) ∧ k = Sum.inr x := by
  unfold sK at h
  rw [List.getElem?_map] at h
  cases e : m[i]? with
  | none => rw [e] at h; cases h
  | some p => rw [e] at h; cases h; exact ⟨p.1, rfl, rfl⟩
theorem sK_len (m : List (Str × V)) : (sK m).length = m.length := by unfold sK; rw [List.length_map]
/-- [x for x in d if p x], d a locked dict of texts -/
theorem lc_keysF {o : Obj} {d : Addr} {m : List (Str × V)} {p : Str → Bool} {tg : TG} {tt : TT} {te : TE} {vs : List Nat} {σ : L2.St} {H1 : Hp} {D : Addr} {Qd : Hp → Prop}
    (hd : H1 d = some (.frz o (.dK (sK m)))) (hD : H1 D = none) (hl : m.length ≤ 1000)
    (hs : ∀ (x : Str) (H' : Hp) (R : V → Hp → Prop) (Z : Hp → Prop), x ∈ m.map (·.1) → Same H1 H' → (p x = true → ∀ H4, Same H' H4 → R (.str x) H4) → (p x = false → ∀ H4, Same H' H4 → Z H4) →
      tg (.str x) (wipe σ vs) H' fun σ2 H2 => wipe σ2 vs = wipe σ vs ∧ tt σ2 H2 fun b H3 => if b = true then te σ2 H3 R else Z H3)
    (hq : ∀ H', Same H1 H' → H' D = some (.lst (((m.map (·.1)).filter p).map V.str)) → Qd H') :
    ∃ W : Nat → Nat → Hp → Prop, (∃ n, W 0 n (upd H1 D (.lst []))) ∧ ∀ i n H, W i n H →
      ((Itk d o (sK m)).stop i H ∧ Qd H) ∨ ((Itk d o (sK m)).go i H ∧ ∃ Nx : Hp → Prop, (∀ H', Nx H' → ∃ n', n' < n ∧ W (i + 1) n' H') ∧ ∀ x H', (Itk d o (sK m)).yld i H x H' → tg x (wipe σ vs) H' fun σ2 H2 => wipe σ2 vs = wipe σ vs ∧ tt σ2 H2 fun b H3 =>
        if b = true then te σ2 H3 fun y H4 => ∃ acc, H4 D = some (.lst acc) ∧ acc.length < sizeLine ∧ Nx (upd H4 D (.lst (acc ++ [y]))) else Nx H3) := by
  refine lc_it (walk_keys (d := d) (o := o) (kvs := sK m)) (fun i H' => Same H1 H' ∧ H' D = some (.lst ((((m.map (·.1)).take i).filter p).map V.str))) ⟨same_put (.refl _) hD, upd_same⟩ (fun i H' _ q => q.1 _ _ hd) (fun i x H' H2 hi q y => ?_) (fun H' q => ?_)
  · obtain ⟨sm, eD⟩ := q
    obtain ⟨rfl, kk, v, hk, rfl⟩ := y
    obtain ⟨x, hx, rfl⟩ := sK_at hk
    have e : (m.map (·.1))[i]? = some x := by rw [List.getElem?_map, hx]; rfl
    have hln : (((m.map (·.1)).take i).filter p).length ≤ 1000 := Nat.le_trans (List.length_filter_le _ _) (by rw [List.length_take, List.length_map]; omega)
    refine hs x H2 _ _ (List.mem_of_getElem? e) sm (fun hp H4 s4 => ⟨_, s4 _ _ eD, ?_, same_put (sm.trans s4) hD, ?_⟩) (fun hp H4 s4 => ⟨sm.trans s4, ?_⟩)
    · rw [List.length_map, sizeLine_eq]
      omega
    · rw [upd_same, take_snocS e, List.filter_append, List.map_append, show [x].filter p = [x] by simp [List.filter, hp]]
      rfl
    · rw [take_snocS e, List.filter_append, show [x].filter p = [] by simp [List.filter, hp], List.append_nil]
      exact s4 _ _ eD
  · obtain ⟨sm, eD⟩ := q
    have e : (sK m).length = (m.map (·.1)).length := by rw [sK_len, List.length_map]
    rw [e, List.take_length] at eD
    exact hq H' sm eD
theorem rK_getF {H : Hp} {a : Addr} {od : Obj} {m : List (Str × Addr)} (h : H a = some (.frz od (.dK (rK m)))) (x : Str) : DGet H a (.str x) ((lkS m x).map V.ref) := by
  refine .inl ⟨rK m, Sum.inr x, .inr ⟨od, h⟩, rfl, ?_⟩
  unfold rK
  rw [valV_sK, lkS_map]
def newsP (L : Lks) (m : List (Str × Nat)) (x : Str) : Bool := !(lkS m x).isSome && ((kn L ((lkS L x).getD [])).map fun o => (lkS m o).isSome).any id
theorem news_is {L : Lks} (nd : (nmsL L).Nodup) (m : List (Str × Nat)) : News L m ((nmsL L).filter (newsP L m)) := by
  refine ⟨nd.sublist List.filter_sublist, fun x => ?_⟩
  rw [List.mem_filter]
  refine and_congr_right fun hx => ?_
  obtain ⟨row, hrow⟩ := row_of hx
  have e : lkS L x = some row := (lkS_some nd).mpr hrow
  unfold newsP
  rw [e, Bool.and_eq_true, Bool.not_eq_true', ← Bool.not_eq_true, lkS_is]
  refine and_congr_right fun _ => ?_
  rw [List.any_map, List.any_eq_true]
  constructor
  · rintro ⟨o, ho, h⟩
    exact ⟨o, (mem_kn nd hrow).mp ho, lkS_is.mp h⟩
  · rintro ⟨o, ho, h⟩
    exact ⟨o, (mem_kn nd hrow).mpr ho, lkS_is.mpr h⟩
def spFar : Sp := fun vs H Q _ => ∃ (d : Addr) (g : Str) (L : Lks), vs = [.ref d, .str g] ∧ StepsAt L H d ∧ (nmsL L).Nodup ∧ g ∈ nmsL L ∧ (nmsL L).length ≤ 40 ∧ (∀ x row, (x, row) ∈ L → row.length ≤ 100) ∧
  ∀ (a : Addr) (m : List (Str × Nat)) (H' : Hp), Same H H' → IT H' a m → FarR L Top g m → m.length ≤ 40 → Q (.ref a) H'
section
variable {P : Program} {w : World} {K : PySem.W.Frag} {mg : Str → Option Value} {base : Heap} {f : Addr} {fd : FuncData}
theorem ok_far (F : Fun K "_law_far" "_law_far" s_law_far f fd) (T : Txt mg) : FnOk P w K mg base CX0 1 f fd ["_law_steps_here", "_law_goal"] spFar := by
  refine F.ok sc_law_far (fun vs H Q E h => ?_) (fun cdv A outer s H vs Q E hr h => ?_)
  · obtain ⟨d, g, L, rfl, _⟩ := h
    rfl
  obtain ⟨d, g, L, rfl, hst, nd, hg, h40, h100, q⟩ := h
  refine ⟨_, (pss_cons (ps_set (i := 2) sc_law_far.nd rfl (Or.inr rfl) (pe_disp (pps_cons (pv 1) pe_int pps_nil) rfl rfl (by simp) (by simp)))
      (pss_cons (ps_for PassesOwn.never rfl (pi_range1 rfl T.n_range (pa_cons (pe_callB call_lenD (by rfl) T.n_len (by decide +kernel) (pa_cons (pv 0) pa_nil)) pa_nil)) (pg_name (i := 3) sc_law_far.nd rfl (Or.inl rfl)) (pss_cons (ps_lock (ps_setLc (i := 5) (own := [("_law_name", 4)]) (g := (gName 4)) (tt := (tAnd (tB (tDNotIn (tVar 4) (tVar 2))) (tB (tCB (rAny K) (tCons (tLc (iList K (tDGet (tVar 0) (tVar 4))) (gName 6) tYes (tDIn (tVar 6) (tVar 2)) [6]) tNil))))) rfl sc_law_far.nd rfl rfl (sw_true rfl rfl rfl (by decide +kernel)) (pi_keys (pv 0)) (blkOk_by (N := ["_law_steps_here", "_law_goal", "_law_far_here", "_law_turn", "_law_name", "_law_news", "_law_other"]) (sc := defScope s_law_far) (by decide +kernel)) (fun _ _ _ _ _ => (pg_name (i := 4) sc_law_far.nd rfl (Or.inl rfl))) (by intro _ _ _ _ _; exact (pts_one (PW.pt (pw_and (pt_cmp (pc_dnotin (hu_of hr) (pv 4) (pv 2))) (pw_and1 (pt_val (pe_callB (cr_any rfl) (by rfl) T.n_any (by decide +kernel) (pa_cons (pe_lc (own := [("_law_other", 6)]) (g := (gName 6)) (tt := tYes) rfl sc_law_far.nd (pi_list (pe_dget (hu_of hr) (pv 0) (pv 4) (fun _ _ => rfl))) (blkOk_by (by rfl)) (fun _ _ _ _ _ => (pg_name (i := 6) sc_law_far.nd rfl (Or.inl rfl))) (fun _ _ _ _ _ => pts_nil) (fun _ _ _ _ _ => (pe_cmp (pc_din (hu_of hr) (pv 6) (pv 2))))) pa_nil)))))))) (fun _ _ _ _ _ => (pv 4))))
      (pss_cons (ps_for PassesOwn.never rfl (pi_list (pv 5)) (pg_name (i := 4) sc_law_far.nd rfl (Or.inl rfl)) (pss_one (ps_dput (hu_of hr) (pv 2) (pv 4) (pe_op op_add (pv 3) pe_int) rfl)))
      (pss_one (ps_if (pt_cmpR op_eq (pe_callB call_len_seq (by rfl) T.n_len (by decide +kernel) (pa_cons (pv 5) pa_nil)) pe_int (nomark _)) (pss_one ps_break) pss_nil)))))
      (pss_one (ps_ret (pv 2))))), ?_⟩
  refine fun S hS => ⟨_, rfl, upd_same, [(Sum.inr g, .int 0)], rfl, by show 1 ≤ 15; decide, ?_⟩
  have iS0 : IT (upd (upd H S (.dK [])) S (.dK (mergeK [] [((Sum.inr g : Key), V.int 0)]))) S [(g, 0)] := upd_same
  have s1 : Same H (upd (upd H S (.dK [])) S (.dK (mergeK [] [((Sum.inr g : Key), V.int 0)]))) := fun b u e => by
    rw [upd_ne (ne_of_none e hS), upd_ne (ne_of_none e hS)]
    exact e
  generalize upd (upd H S (.dK [])) S (.dK (mergeK [] [((Sum.inr g : Key), V.int 0)])) = H1 at iS0 s1 ⊢
  have hst0 := hst
  obtain ⟨ms, es, en, hs⟩ := hst
  have lms : ms.length = (nmsL L).length := by rw [← en, List.length_map]
  have nSd : S ≠ d := (ne_of_none es hS).symm
  refine ⟨_, rfl, d, rK ms, rfl, s1 _ _ es, ?_⟩
  rw [rK_len]
  have i6 := i62 (n := ms.length) (by omega)
  refine ⟨_, rfl, i6.1, i6.2, for_it walk_range (fun t σ' H' => ∃ (v3 v4 v5 v6 : Option V) (m : List (Str × Nat)), σ' = [some (.ref d), some (.str g), some (.ref S), v3, v4, v5, v6] ∧ Same H H' ∧ IT H' S m ∧ FarI L g t m)
    ⟨_, _, _, _, [(g, 0)], rfl, s1, iS0, .start L g⟩ (fun t σ' H' _ pp => trivial) (fun t x σ' H3 H4 hi pp y => ?_) (fun σ' H' pp => ?_)⟩
  · obtain ⟨v3, v4, v5, v6, m, rfl, sm, iS, fi⟩ := pp
    obtain ⟨rfl, ey⟩ := y
    obtain rfl : x = vI t := by rw [ey]; exact congrArg V.int (by omega)
    clear ey
    have m40 := fi.le hg
    have esm := sm _ _ es
    have fS : H S = none := hS
    refine ⟨d, _, esm, trivial, fun od => ?_⟩
    have s45 : ∀ b o, b ≠ d → H4 b = some o → upd H4 d (.frz od (.dK (rK ms))) b = some o := fun b o hb e => (upd_ne hb).trans e
    have e5 : upd H4 d (.frz od (.dK (rK ms))) d = some (.frz od (.dK (rK ms))) := upd_same
    have iS5 : IT (upd H4 d (.frz od (.dK (rK ms)))) S m := s45 _ _ nSd iS
    generalize upd H4 d (.frz od (.dK (rK ms))) = H5 at s45 e5 iS5 ⊢
    refine ⟨_, rfl, d, od, rfl, .inl ⟨_, e5, fun D hD => ?_⟩⟩
    have nDd : D ≠ d := (ne_of_none e5 hD).symm
    refine lc_keysF (m := ms.map fun p => (p.1, V.ref p.2)) (p := newsP L m) e5 hD (by rw [List.length_map]; omega) (fun x H' R Z hx s' ky kn' => ?_) (fun H' s' eD => ?_)
    · have hxn : x ∈ nmsL L := by
        rw [List.map_map] at hx
        rw [← en]
        exact hx
      obtain ⟨row, hrow⟩ := row_of hxn
      have eL : lkS L x = some row := (lkS_some nd).mpr hrow
      obtain ⟨l, hl, el⟩ := hs x row hrow
      have nld : l ≠ d := fun k => by rw [k, es] at el; cases el
      have el' := s' _ _ (s45 _ _ nld (sm _ _ el))
      refine ⟨rfl, _, rfl, _, rfl, S, _, rfl, (show IT H' S m from s' _ _ iS5).get x, _, rfl, ?_⟩
      cases hk : lkS m x with
      | some k =>
        refine ite2 (fun q => Bool.noConfusion q) (fun _ => ite2 (fun q => Bool.noConfusion q) (fun _ => kn' ?_ _ (.refl _)))
        unfold newsP
        rw [hk]
        rfl
      | none =>
        refine ite2 (fun _ => ?_) (fun q => absurd rfl q)
        have gl := rK_getF (s' _ _ e5) x
        rw [hl] at gl
        refine ⟨_, rfl, _, rfl, d, _, rfl, gl, l, rfl, ⟨_, SqL.of el'⟩, fun D2 hD2 => lc_rows (walk_list (xs := (kn L row).map V.str)) (rows := kn L row) (f := PyData.str) (g := fun o => (lkS m o).isSome) (h := blD) (fun H'' sm'' => SqL.of (sm'' _ _ el')) hD2 (LayAll.strs _)
          (Nat.le_trans (List.length_filter_le _ _) (by have := h100 x row hrow; omega)) (fun i z o H'' R2 Z2 ho sm'' lz ky2 => ?_) (fun us H'' sm'' eD2 lus => ?_)⟩
        · obtain rfl := lz.str_inv
          refine ⟨rfl, _, rfl, _, rfl, S, _, rfl, (show IT H'' S m from sm'' _ _ (s' _ _ iS5)).get o, ky2 _ _ (.refl _) ?_⟩
          rw [Option.isSome_map]
          exact .bl _
        · obtain rfl := lay_bls lus
          have ev : newsP L m x = ((kn L row).map fun o => (lkS m o).isSome).any id := by
            unfold newsP
            rw [hk, eL]
            rfl
          refine ⟨D2, _, rfl, SqL.of eD2, _, rfl, ?_⟩
          rw [← ev]
          exact ite2 (fun h => ⟨_, rfl, ky h _ sm''⟩) (fun h => kn' (by cases e : newsP L m x with | false => rfl | true => exact absurd e h) _ sm'')
    · rw [List.map_map, show ((fun x : Str × V => x.1) ∘ fun p : Str × Addr => (p.1, V.ref p.2)) = (fun p : Str × Addr => p.1) from rfl, en] at eD
      have hN := news_is nd m
      generalize (nmsL L).filter (newsP L m) = ns at eD hN
      have s47 : Same H4 (upd H' d (.dK (rK ms))) := fun b o e => by
        by_cases hb : b = d
        · subst hb
          rw [upd_same, ← e]
          exact esm.symm
        · rw [upd_ne hb]
          exact s' _ _ (s45 b o hb e)
      have eD7 : upd H' d (.dK (rK ms)) D = some (.lst (ns.map V.str)) := (upd_ne nDd).trans eD
      refine ⟨s' _ _ e5, ?_⟩
      have sm7 := sm.trans s47
      have iS7 : IT (upd H' d (.dK (rK ms))) S m := s47 _ _ iS
      have nDS : D ≠ S := (ne_of_none iS5 hD).symm
      generalize upd H' d (.dK (rK ms)) = H7 at s47 eD7 sm7 iS7 ⊢
      have nsl : ns.length ≤ 40 := Nat.le_trans (nodup_subS hN.1 fun x hx => ((hN.2 x).mp hx).1) h40
      refine ⟨_, rfl, D, rfl, ⟨_, SqL.of eD7⟩, for_it (walk_list (xs := ns.map V.str)) (fun i σ' H'' => ∃ v4 v6 : Option V, σ' = [some (.ref d), some (.str g), some (.ref S), some (vI t), v4, some (.ref D), v6] ∧ Same H H'' ∧ IT H'' S (m ++ (ns.take i).map fun x => (x, t + 1)) ∧ H'' D = some (.lst (ns.map V.str)))
        ⟨_, _, rfl, sm7, (by rw [List.take_zero, List.map_nil, List.append_nil]; exact iS7), eD7⟩ (fun i σ' H'' _ pp => ?_) (fun i x σ' H8 H9 hi pp y => ?_) (fun σ' H'' pp => ?_)⟩
      · obtain ⟨_, _, _, _, _, e⟩ := pp
        exact SqL.of e
      · obtain ⟨v4, v6, rfl, sm9, iS9, eD9⟩ := pp
        obtain ⟨rfl, ex⟩ := y
        obtain ⟨x, hx, rfl⟩ : ∃ x' : Str, ns[i]? = some x' ∧ x = .str x' := by
          rw [List.getElem?_map] at ex
          obtain ⟨x', h1, h2⟩ := Option.map_eq_some_iff.mp ex
          exact ⟨x', h1, h2.symm⟩
        have nx : x ∉ (m ++ (ns.take i).map fun x => (x, t + 1)).map (·.1) := by
          rw [List.map_append, List.map_map, List.mem_append]
          rintro (h | h)
          · exact ((hN.2 x).mp (List.mem_of_getElem? hx)).2.1 h
          · rw [show ((fun p : Str × Nat => p.1) ∘ fun x => (x, t + 1)) = id from rfl, List.map_id] at h
            obtain ⟨j, hj⟩ := List.mem_iff_getElem?.mp h
            rw [List.getElem?_take] at hj
            split at hj
            · rename_i hji
              have hi' := (List.getElem?_eq_some_iff.mp hx).1
              have := (List.getElem?_inj (i := j) (j := i) (by omega) hN.1).mp (hj.trans hx.symm)
              omega
            · cases hj
        have ll : (m ++ (ns.take i).map fun x => (x, t + 1)).length ≤ 80 := by
          rw [List.length_append, List.length_map, List.length_take]
          omega
        refine ⟨_, rfl, _, _, rfl, rfl, _, rfl, _, rfl, S, _, rfl, iS9.put (k := t + 1) nx (by rw [sizeLine_eq]; omega), ?_⟩
        refine ⟨_, _, rfl, same_put sm9 hS, ?_, (upd_ne nDS).trans eD9⟩
        have e : m ++ (ns.take (i + 1)).map (fun x => (x, t + 1)) = (m ++ (ns.take i).map fun x => (x, t + 1)) ++ [(x, t + 1)] := by
          rw [take_snocS hx, List.map_append, List.append_assoc]
          rfl
        rw [e]
        exact upd_same
      · obtain ⟨v4, v6, rfl, sm9, iS9, eD9⟩ := pp
        rw [List.length_map, List.take_length] at iS9
        refine ⟨_, rfl, D, _, rfl, .inl (SqL.of eD9), rfl, _, rfl, ite2 (fun z => ?_) (fun z => ?_)⟩
        · have e0 : ns = [] := by
            have : ((ns.map V.str).length : Int) = 0 := V.int.inj (of_decide_eq_true z)
            rw [List.length_map] at this
            exact List.length_eq_zero_iff.mp (by omega)
          subst e0
          rw [List.map_nil, List.append_nil] at iS9
          exact ⟨_, rfl, q S m _ sm9 iS9 (fi.done hN) (by omega)⟩
        · have e1 : 1 ≤ ns.length := by
            refine Nat.pos_of_ne_zero fun k => z (decide_eq_true ?_)
            rw [List.length_map, k]
            rfl
          exact ⟨_, _, _, _, _, rfl, sm9, iS9, fi.step hN e1⟩
  · obtain ⟨v3, v4, v5, v6, m, rfl, sm, iS, fi⟩ := pp
    have e : (ms.length : Int).toNat = ms.length := Int.toNat_natCast _
    have h1 := fi.len
    have h2 := fi.le hg
    omega
end
end Bf

set_option Elab.async false
set_option linter.all false
set_option maxRecDepth 100000
set_option maxHeartbeats 4000000
namespace Bf
open PySem PySem.Spec PyProof.Rows L2
/-! ### the law's ring -/
def backs (L : Lks) (m : List (Str × Nat)) (row : List Str) : List Nat := ((kn L row).filter fun o => (lkS m o).isSome).map fun o => (lkS m o).getD 0
theorem mem_backs {L : Lks} {m : List (Str × Nat)} {s : Str} {row : List Str} (nd : (nmsL L).Nodup) (h : (s, row) ∈ L) (far : FarR L Top s m) (k : Nat) : k ∈ backs L m row ↔ ∃ o, Ed L s o ∧ Dst L Top s o k := by
  unfold backs
  rw [List.mem_map]
  constructor
  · rintro ⟨o, ho, rfl⟩
    obtain ⟨h1, h2⟩ := List.mem_filter.mp ho
    obtain ⟨k, hk⟩ := Option.isSome_iff_exists.mp h2
    refine ⟨o, (mem_kn nd h).mp h1, ?_⟩
    rw [hk]
    exact (far.some_ k).mp hk
  · rintro ⟨o, e, d⟩
    have hk := (far.some_ k).mpr d
    exact ⟨o, List.mem_filter.mpr ⟨(mem_kn nd h).mpr e, by rw [hk]; rfl⟩, by rw [hk]; rfl⟩
theorem back_in {L : Lks} {m : List (Str × Nat)} {s : Str} {row : List Str} (nd : (nmsL L).Nodup) (h : (s, row) ∈ L) (far : FarR L Top s m) {n : Nat} (n1 : 1 ≤ n) (w : Wk L Top s n s) : ∃ j, j + 1 ≤ n ∧ j ∈ backs L m row := by
  obtain ⟨k, rfl⟩ : ∃ k, n = k + 1 := ⟨n - 1, by omega⟩
  obtain ⟨_, o, e, w⟩ := w
  obtain ⟨j, hj, d⟩ := w.dst
  exact ⟨j, by omega, (mem_backs nd h far j).mpr ⟨o, e, d⟩⟩
theorem back_least {L : Lks} {m : List (Str × Nat)} {s : Str} {row : List Str} {k : Nat} (nd : (nmsL L).Nodup) (h : (s, row) ∈ L) (far : FarR L Top s m) (hk : k ∈ backs L m row) (hm : ∀ j ∈ backs L m row, k ≤ j) : Wk L Top s (k + 1) s ∧ ∀ n, 1 ≤ n → n < k + 1 → ¬ Wk L Top s n s := by
  obtain ⟨o, e, d⟩ := (mem_backs nd h far k).mp hk
  refine ⟨cyc_of e d.1, fun n n1 nk w => ?_⟩
  obtain ⟨j, hj, hb⟩ := back_in nd h far n1 w
  have := hm j hb
  omega
theorem back_bound {L : Lks} {m : List (Str × Nat)} {s : Str} {row : List Str} {k : Nat} (nd : (nmsL L).Nodup) (h : (s, row) ∈ L) (far : FarR L Top s m) (hk : k ∈ backs L m row) : k < m.length := by
  obtain ⟨o, e, d⟩ := (mem_backs nd h far k).mp hk
  exact far.bound ((far.some_ k).mpr d)
theorem nxl_iff {L : Lks} {s v : Str} {A i k : Nat} {row : List Str} {m : List (Str × Nat)} (nd : (nmsL L).Nodup) (far : FarR L Top s m) (hrow : (v, row) ∈ L) (hk : k = A - 1 - i) (o : Str) :
    o ∈ (kn L row).filter (fun o => decide (lkS m o = some k)) ↔ Nx L s A i v o := by
  rw [List.mem_filter, decide_eq_true_iff, far.some_ k, mem_kn nd hrow, hk]
  exact Iff.rfl
theorem min_cast {ns : List Nat} (h : 1 ≤ ns.length) : ∃ k, k ∈ ns ∧ (∀ j ∈ ns, k ≤ j) ∧ ∀ m : Int, m ∈ castL ns → (∀ y, y ∈ castL ns → m ≤ y) → m = (k : Int) := by
  obtain ⟨k0, hk0⟩ : ∃ k, k ∈ ns := by
    cases ns with
    | nil => cases h
    | cons a _ => exact ⟨a, by simp⟩
  obtain ⟨k, _, hk, hl⟩ := least_of (p := fun k => k ∈ ns) k0 hk0
  have hle : ∀ j ∈ ns, k ≤ j := fun j hj => Nat.le_of_not_lt fun q => hl j q hj
  refine ⟨k, hk, hle, fun m hm hmin => ?_⟩
  obtain ⟨j, hj, rfl⟩ := List.mem_map.mp hm
  have h1 := hmin (k : Int) (List.mem_map.mpr ⟨k, hk, rfl⟩)
  have h2 := hle j hj
  omega
def spRing : Sp := fun vs H Q _ => ∃ (v : V) (L : Lks), vs = [v] ∧ LinksAt H v L ∧ (nmsL L).Nodup ∧ L.length ≤ 40 ∧ (∀ x row, (x, row) ∈ L → row.length ≤ 100) ∧
  ∀ (a : Addr) (us : List Str) (H' : Hp), Same H H' → H' a = some (.tup (us.map V.str)) → RingIs L us → Q (.ref a) H'
section
variable {P : Program} {w : World} {K : PySem.W.Frag} {mg : Str → Option Value} {base : Heap} {f : Addr} {fd : FuncData}
theorem ok_ring (F : Fun K "_law_ring" "_law_ring" s_law_ring f fd) (T : Txt mg) (D_law_steps : Dn P w K mg base "_law_steps" ["_law_links_here"] 1 spLSteps) (D_law_far : Dn P w K mg base "_law_far" ["_law_steps_here", "_law_goal"] 1 spFar) :
    FnOk P w K mg base CX0 2 f fd ["_law_links_here"] spRing := by
  refine F.ok sc_law_ring (fun vs H Q E h => ?_) (fun cdv A outer s H vs Q E hr h => ?_)
  · obtain ⟨v, L, rfl, _⟩ := h
    rfl
  obtain ⟨v, L, rfl, hl, nd, h40, h100, q⟩ := h
  refine ⟨_, (pss_cons (ps_set (i := 1) sc_law_ring.nd rfl (Or.inl rfl) (pe_dn D_law_steps (hr.mono (by omega)) (by rfl) (pa_cons (pv 0) pa_nil)))
      (pss_cons (ps_set (i := 2) sc_law_ring.nd rfl (Or.inl rfl) (pe_lst pa_nil))
      (pss_cons (ps_for PassesOwn.never rfl (pi_list (pe_callB cr_sortedS (by rfl) T.n_sorted (by decide +kernel) (pa_cons (pe_callTy (call_listD rfl) (by rfl) T.n_list (by decide +kernel) (pa_cons (pv 1) pa_nil)) pa_nil))) (pg_name (i := 3) sc_law_ring.nd rfl (Or.inl rfl)) (pss_cons (ps_set (i := 4) sc_law_ring.nd rfl (Or.inr rfl) (pe_dn D_law_far (hr.mono (by omega)) (by rfl) (pa_cons (pv 1) (pa_cons (pv 3) pa_nil))))
      (pss_cons (ps_set (i := 5) sc_law_ring.nd rfl (Or.inr rfl) (pe_lc (own := [("_law_other", 8)]) (g := (gName 8)) rfl sc_law_ring.nd (pi_list (pe_dget (hu_of hr) (pv 1) (pv 3) (fun _ _ => rfl))) (blkOk_by (N := ["_law_links_here", "_law_steps_here", "_law_best", "_law_start", "_law_far_here", "_law_back", "_law_k", "_law_nexts", "_law_other"]) (sc := defScope s_law_ring) (by decide +kernel)) (fun _ _ _ _ _ => (pg_name (i := 8) sc_law_ring.nd rfl (Or.inl rfl))) (fun _ _ _ _ _ => (pts_one (pt_cmp (pc_din (hu_of hr) (pv 8) (pv 4))))) (fun _ _ _ _ _ => (pe_dget (hu_of hr) (pv 4) (pv 8) (fun _ _ => rfl)))))
      (pss_one (ps_if (PW.pt (pw_and (pt_cmpR op_gt (pe_callB call_len_seq (by rfl) T.n_len (by decide +kernel) (pa_cons (pv 5) pa_nil)) pe_int (nomark _)) (pw_and1 (PW.pt (pw_or (pt_cmpR op_eq (pe_callB call_len_seq (by rfl) T.n_len (by decide +kernel) (pa_cons (pv 2) pa_nil)) pe_int (nomark _)) (pw_or1 (pt_cmpR op_lt (pe_op op_add (pe_callB (cr_min rfl) (by rfl) T.n_min (by decide +kernel) (pa_cons (pv 5) pa_nil)) pe_int) (pe_callB call_len_seq (by rfl) T.n_len (by decide +kernel) (pa_cons (pv 2) pa_nil)) (nomark _)))))))) (pss_cons (ps_set (i := 2) sc_law_ring.nd rfl (Or.inl rfl) (pe_lst (pa_cons (pv 3) pa_nil)))
      (pss_one (ps_for PassesOwn.never rfl (pi_range1 rfl T.n_range (pa_cons (pe_callB (cr_min rfl) (by rfl) T.n_min (by decide +kernel) (pa_cons (pv 5) pa_nil)) pa_nil)) (pg_name (i := 6) sc_law_ring.nd rfl (Or.inr rfl)) (pss_cons (ps_setLc (i := 7) (own := [("_law_other", 8)]) (g := (gName 8)) rfl sc_law_ring.nd rfl rfl (sw_true rfl rfl rfl (by decide +kernel)) (pi_list (pe_dget (hu_of hr) (pv 1) (pe_ix ix_list (pv 2) (pe_un un_neg pe_int) (fun _ _ => rfl)) (fun _ _ => rfl))) (blkOk_by (N := ["_law_links_here", "_law_steps_here", "_law_best", "_law_start", "_law_far_here", "_law_back", "_law_k", "_law_nexts", "_law_other"]) (sc := defScope s_law_ring) (by decide +kernel)) (fun _ _ _ _ _ => (pg_name (i := 8) sc_law_ring.nd rfl (Or.inl rfl))) (fun _ _ _ _ _ => (pts_one (PW.pt (pw_and (pt_cmp (pc_din (hu_of hr) (pv 8) (pv 4))) (pw_and1 (pt_cmpR op_eq (pe_dget (hu_of hr) (pv 4) (pv 8) (fun _ _ => rfl)) (pe_op op_sub (pe_callB (cr_min rfl : CallR _ (.builtin "min") (rMin K)) (by rfl) T.n_min (by decide +kernel) (pa_cons (pv 5) pa_nil)) (pv 6)) (nomark _))))))) (fun _ _ _ _ _ => (pv 8)))
      (pss_one (ps_expr (pe_bm PySem.F.plainAttrs_list PySem.F.slot_list_append PySem.F.type_list_append mt_append (pv 2) (pa_cons (pe_callB (cr_minS rfl hr.units) (by rfl) T.n_min (by decide +kernel) (pa_cons (pv 7) pa_nil)) pa_nil)))))))) pss_nil)))))
      (pss_one (ps_ret (pe_callTy call_tuple_of (by rfl) T.n_tuple (by decide +kernel) (pa_cons (pv 2) pa_nil))))))), ?_⟩
  refine ⟨_, rfl, v, L, rfl, hl, nd, h40, h100, fun d H1 s1 hst => ?_⟩
  refine ⟨Nat.zero_le _, fun B hB => ?_⟩
  have hst1 := hst.same (same_new hB (.lst []))
  have s2 := s1.trans (same_new hB (.lst []))
  have eB : upd H1 B (.lst []) B = some (.lst []) := upd_same
  generalize upd H1 B (.lst []) = H2 at hst1 s2 eB ⊢
  have hst1' := hst1
  obtain ⟨ms, es, en, _⟩ := hst1'
  refine ⟨_, rfl, d, rK ms, rfl, .inl es, fun Y hY => ?_⟩
  have eY : (rK ms).map (fun kv => kV kv.1) = (nmsL L).map V.str := by
    rw [← en]
    unfold rK sK
    rw [List.map_map, List.map_map, List.map_map]
    rfl
  rw [eY]
  have sY := same_new hY (.lst ((nmsL L).map V.str))
  have l40 : (nmsL L).length ≤ 40 := by unfold nmsL; rw [List.length_map]; exact h40
  refine ⟨Y, nmsL L, rfl, SqL.of upd_same, by omega, fun ys Z perm srt hZ => ?_⟩
  have sZ := sY.trans (same_new hZ (.lst (ys.map V.str)))
  have eZ : upd (upd H2 Y (.lst ((nmsL L).map V.str))) Z (.lst (ys.map V.str)) Z = some (.lst (ys.map V.str)) := upd_same
  have so : SortedN L ys := ⟨fun y => perm.mem_iff, sorted_asc srt (perm.nodup_iff.mpr nd)⟩
  generalize upd (upd H2 Y (.lst ((nmsL L).map V.str))) Z (.lst (ys.map V.str)) = H3 at sZ eZ ⊢
  have hst3 := hst1.same sZ
  have eB3 := sZ _ _ eB
  refine ⟨Z, rfl, ⟨_, SqL.of eZ⟩, for_it (walk_list (xs := ys.map V.str)) (fun i σ' H' => ∃ (v3 v4 v5 v6 v7 v8 : Option V) (b : Nat) (us : List Str) (bb : Addr), σ' = [some v, some (.ref d), some (.ref bb), v3, v4, v5, v6, v7, v8] ∧ Same H3 H' ∧ H' bb = some (.lst (us.map V.str)) ∧ BestI L ys i b us)
    ⟨_, _, _, _, _, _, 0, [], B, rfl, .refl _, eB3, .start L ys⟩ (fun i σ' H' _ pp => ?_) (fun i x σ' H4 H5 hi pp y => ?_) (fun σ' H' pp => ?_)⟩
  · obtain ⟨_, _, _, _, _, _, _, _, _, _, sm, _⟩ := pp
    exact SqL.of (sm _ _ eZ)
  · obtain ⟨w3, w4, w5, w6, w7, w8, b, us, bb, rfl, sm5, eb, bi⟩ := pp
    obtain ⟨rfl, ex⟩ := y
    obtain ⟨s', hs', rfl⟩ : ∃ o' : Str, ys[i]? = some o' ∧ x = .str o' := by
      rw [List.getElem?_map] at ex
      obtain ⟨o', h1, h2⟩ := Option.map_eq_some_iff.mp ex
      exact ⟨o', h1, h2.symm⟩
    have hsN : s' ∈ nmsL L := (so.mem s').mp (List.mem_of_getElem? hs')
    obtain ⟨row, hrow⟩ := row_of hsN
    have hst5 := hst3.same sm5
    refine ⟨_, rfl, _, rfl, d, s', L, rfl, hst5, nd, hsN, l40, h100, fun fa m H6 s6 iF far m40 => ?_⟩
    have hst6 := hst5.same s6
    obtain ⟨l, gl, el⟩ := hst6.get hrow
    refine ⟨_, rfl, _, rfl, d, _, rfl, gl, l, rfl, ⟨_, SqL.of el⟩, fun D hD => lc_frows (walk_list (xs := (kn L row).map V.str)) (rows := kn L row) (f := PyData.str) (g := fun o => (lkS m o).getD 0) (h := intN) (p := fun o => (lkS m o).isSome) (fun H' sm => SqL.of (sm _ _ el)) hD (LayAll.strs _)
      (Nat.le_trans (List.length_filter_le _ _) (by have := h100 s' row hrow; omega)) (fun z o H' R Z' ho sm lz ky kn' => ?_) (fun us2 H7 s7 eD lus => ?_)⟩
    · obtain rfl := lz.str_inv
      have gx := (show IT H' fa m from sm _ _ iF).get o
      refine ⟨rfl, _, rfl, _, rfl, fa, _, rfl, gx, _, rfl, ?_⟩
      cases hk : lkS m o with
      | none => exact ite2 (fun q => Bool.noConfusion q) (fun _ => kn' (by rw [hk]; rfl) _ (.refl _))
      | some k =>
        rw [hk] at gx
        refine ite2 (fun _ => ?_) (fun q => absurd rfl q)
        refine ⟨_, rfl, _, rfl, fa, _, rfl, gx, ky (by rw [hk]; rfl) _ _ (.refl _) ?_⟩
        rw [hk]
        exact .int _
    have e : us2 = (backs L m row).map vI := LayAll.ints_inv lus
    subst e
    have s57 := s6.trans s7
    have sm7 := sm5.trans s57
    have eb7 := s57 _ _ eb
    have iF7 : IT H7 fa m := s7 _ _ iF
    have skip : (∀ n, 1 ≤ n → (b = 0 ∨ n < b) → ¬ Wk L Top s' n s') → ∃ (v3 v4 v5 v6 v7 v8 : Option V) (b' : Nat) (us' : List Str) (bb' : Addr), [some v, some (.ref d), some (.ref bb), some (.str s'), some (.ref fa), some (.ref D), w6, w7, w8] = [some v, some (.ref d), some (.ref bb'), v3, v4, v5, v6, v7, v8] ∧ Same H3 H7 ∧ H7 bb' = some (.lst (us'.map V.str)) ∧ BestI L ys (i + 1) b' us' :=
      fun h => ⟨_, _, _, _, _, _, b, us, bb, rfl, sm7, eb7, bi.same hs' h⟩
    have eDl : SqL K H7 D ((castL (backs L m row)).map V.int) := by rw [castL_V]; exact SqL.of eD
    refine ⟨_, rfl, D, _, rfl, .inl (SqL.of eD), _, _, rfl, rfl, _, rfl, ite2 (fun z => ?_) (fun z => skip fun n n1 _ w => ?_)⟩
    rotate_left
    · obtain ⟨j, _, hj⟩ := back_in nd hrow far n1 w
      refine z (decide_eq_true ?_)
      have := List.length_pos_of_mem hj
      rw [List.length_map]
      omega
    have p1 : 1 ≤ (backs L m row).length := by
      have : (0 : Int) < (((backs L m row).map vI).length : Int) := of_decide_eq_true z
      rw [List.length_map] at this
      omega
    obtain ⟨k0, hk0, hk1, hk2⟩ := min_cast p1
    have p2 : 0 < (castL (backs L m row)).length := by rw [castL_len]; exact p1
    obtain ⟨wA, mA⟩ := back_least nd hrow far hk0 hk1
    have k40 := back_bound nd hrow far hk0
    have lus : us.length = b := bi.len
    refine ⟨_, rfl, bb, _, rfl, .inl (SqL.of eb7), rfl, _, rfl, ite2 (fun b0 => ?_) (fun b0 => ?_)⟩
    · refine ite2 (fun _ => ?_) (fun k => absurd rfl k)
      have hb : b = 0 ∨ k0 + 1 < b := .inl (by
        have : ((us.map V.str).length : Int) = 0 := V.int.inj (of_decide_eq_true b0)
        rw [List.length_map] at this
        omega)
      have lst := bi.lst so hs' (Nat.succ_pos k0) wA mA hb
      refine ⟨_, rfl, by show 1 ≤ sizeLine; decide, fun R hR => ?_⟩
      have sR := same_new hR (.lst [.str s'])
      have eDl' : ∀ H', Same H7 H' → SqL K H' D ((castL (backs L m row)).map V.int) := fun H' s => by rw [castL_V]; exact SqL.of (s _ _ eD)
      have hst7 := hst6.same s7
      have i6 := i62 (n := k0) (by omega)
      refine ⟨_, rfl, D, castL (backs L m row), rfl, eDl' _ sR, p2, fun mm hmm hle => ?_⟩
      obtain rfl := hk2 mm hmm hle
      refine ⟨_, rfl, i6.1, i6.2, for_it walk_range (fun k σ' H' => ∃ (v6 v7 v8 : Option V) (us' : List Str), σ' = [some v, some (.ref d), some (.ref R), some (.str s'), some (.ref fa), some (.ref D), v6, v7, v8] ∧ Same H7 H' ∧ H' R = some (.lst (us'.map V.str)) ∧ GrOk L s' (k0 + 1) us' ∧ us'.length = k + 1)
        ⟨_, _, _, [s'], rfl, sR, upd_same, .start L s' (k0 + 1), rfl⟩ (fun k σ' H' _ pp => trivial) (fun k x σ' H8 H9 hk pp y => ?_) (fun σ' H' pp => ?_)⟩
      · obtain ⟨x6, x7, x8, us', rfl, sm9, eR, gr, hlen⟩ := pp
        obtain ⟨rfl, ey⟩ := y
        have hk' : k < k0 := by simpa using hk
        obtain rfl : x = vI k := by rw [ey]; exact congrArg V.int (by omega)
        clear ey
        obtain ⟨u, hu⟩ : ∃ u, us'[k]? = some u := ⟨_, List.getElem?_eq_getElem (by omega)⟩
        have hu1 : (us'.map V.str)[(us'.map V.str).length - 1]? = some (.str u) := by rw [List.length_map, hlen, List.getElem?_map, show k + 1 - 1 = k by omega, hu]; rfl
        obtain ⟨row2, hrow2⟩ := row_of (gr.name hsN hu)
        obtain ⟨l2, gl2, el2⟩ := (hst7.same sm9).get hrow2
        refine ⟨_, rfl, _, rfl, _, rfl, R, _, _, .str u, rfl, rfl, SqL.of eR, atI_lst hu1, d, _, rfl, gl2, l2, rfl, ⟨_, SqL.of el2⟩, fun E hE => ?_⟩
        have nER : E ≠ R := (ne_of_none eR hE).symm
        refine lc_frows (walk_list (xs := (kn L row2).map V.str)) (rows := kn L row2) (f := PyData.str) (g := id) (h := PyData.str) (p := fun o => decide (lkS m o = some (k0 - k))) (fun H' sm => SqL.of (sm _ _ el2)) hE (LayAll.strs _)
          (Nat.le_trans (List.length_filter_le _ _) (by have := h100 u row2 hrow2; omega)) (fun z o H' Rr Z' ho sm lz ky kn' => ?_) (fun us3 H10 s10 eE lus3 => ?_)
        · obtain rfl := lz.str_inv
          have gx := (show IT H' fa m from sm _ _ (sm9 _ _ iF7)).get o
          refine ⟨rfl, _, rfl, _, rfl, fa, _, rfl, gx, _, rfl, ?_⟩
          cases ho' : lkS m o with
          | none => exact ite2 (fun q => Bool.noConfusion q) (fun _ => ite2 (fun q => Bool.noConfusion q) (fun _ => kn' (decide_eq_false (by rw [ho']; exact fun h => nomatch h)) _ (.refl _)))
          | some j =>
            rw [ho'] at gx
            refine ite2 (fun _ => ?_) (fun q => absurd rfl q)
            refine ⟨_, rfl, _, rfl, fa, _, rfl, gx, _, rfl, D, castL (backs L m row), rfl, eDl' _ (sm9.trans sm), p2, fun mm hmm hle => ?_⟩
            obtain rfl := hk2 mm hmm hle
            refine ⟨_, rfl, _, _, rfl, rfl, rfl, _, rfl, ite2 (fun zz => ?_) (fun zz => ?_)⟩
            · have e : (j : Int) = (k0 : Int) - (k : Int) := V.int.inj (of_decide_eq_true zz)
              exact ⟨_, rfl, ky (decide_eq_true (by rw [ho', show j = k0 - k by omega])) _ _ (.refl _) (.str o)⟩
            · refine kn' (decide_eq_false ?_) _ (.refl _)
              rw [ho']
              intro h
              have e : j = k0 - k := Option.some.inj h
              exact zz (decide_eq_true (congrArg V.int (by omega)))
        · rw [List.map_id] at lus3
          obtain rfl := LayAll.strs_inv lus3
          have mem := fun o => nxl_iff (s := s') (A := k0 + 1) (i := k) (k := k0 - k) nd far hrow2 (by omega) o
          obtain ⟨o0, ho0⟩ := lst.next gr hu (by omega)
          obtain ⟨x1, xs1, exs⟩ : ∃ x1 xs1, (kn L row2).filter (fun o => decide (lkS m o = some (k0 - k))) = x1 :: xs1 := by
            cases e : (kn L row2).filter (fun o => decide (lkS m o = some (k0 - k))) with
            | nil =>
              have := (mem o0).mpr ho0
              rw [e] at this
              cases this
            | cons a b => exact ⟨a, b, rfl⟩
          rw [exs] at eE
          have eR10 := s10 _ _ eR
          refine ⟨_, rfl, .inl ⟨rfl, _, SqL.of eR10⟩, _, rfl, E, x1, xs1, rfl, SqL.of eE, fun mn hmn => ?_⟩
          rw [← exs] at hmn
          have hM : IsMinP mn (Nx L s' (k0 + 1) (us'.length - 1) u) := by
            rw [hlen, show k + 1 - 1 = k by omega]
            exact ⟨(mem mn).mp hmn.1, fun y hy => hmn.2 y ((mem y).mpr hy)⟩
          have hu2 : us'[us'.length - 1]? = some u := by rw [hlen]; exact hu
          refine ⟨R, _, _, rfl, rfl, eR10, by rw [List.length_map, sizeLine_eq]; omega, ?_⟩
          exact ⟨_, _, _, us' ++ [mn], rfl, same_put (sm9.trans s10) hR, by rw [upd_same, List.map_append]; rfl, gr.snoc hu2 hM, by rw [List.length_append, hlen]; rfl⟩
      · obtain ⟨x6, x7, x8, us', rfl, sm9, eR, gr, hlen⟩ := pp
        have e : ((k0 : Int)).toNat = k0 := Int.toNat_natCast _
        rw [e] at hlen
        exact ⟨_, _, _, _, _, _, k0 + 1, us', R, rfl, sm7.trans sm9, eR, bi.better hs' lst hb hlen gr⟩
    · refine ⟨_, rfl, D, castL (backs L m row), rfl, eDl, p2, fun mm hmm hle => ?_⟩
      obtain rfl := hk2 mm hmm hle
      refine ⟨_, _, rfl, rfl, _, rfl, bb, _, rfl, .inl (SqL.of eb7), _, _, rfl, rfl, _, rfl, ite2 (fun zb => ?_) (fun zb => skip fun n n1 nb w => ?_)⟩
      · have hb : b = 0 ∨ k0 + 1 < b := .inr (by
          have : (k0 : Int) + 1 < ((us.map V.str).length : Int) := of_decide_eq_true zb
          rw [List.length_map] at this
          omega)
        have lst := bi.lst so hs' (Nat.succ_pos k0) wA mA hb
        refine ⟨_, rfl, by show 1 ≤ sizeLine; decide, fun R hR => ?_⟩
        have sR := same_new hR (.lst [.str s'])
        have eDl' : ∀ H', Same H7 H' → SqL K H' D ((castL (backs L m row)).map V.int) := fun H' s => by rw [castL_V]; exact SqL.of (s _ _ eD)
        have hst7 := hst6.same s7
        have i6 := i62 (n := k0) (by omega)
        refine ⟨_, rfl, D, castL (backs L m row), rfl, eDl' _ sR, p2, fun mm hmm hle => ?_⟩
        obtain rfl := hk2 mm hmm hle
        refine ⟨_, rfl, i6.1, i6.2, for_it walk_range (fun k σ' H' => ∃ (v6 v7 v8 : Option V) (us' : List Str), σ' = [some v, some (.ref d), some (.ref R), some (.str s'), some (.ref fa), some (.ref D), v6, v7, v8] ∧ Same H7 H' ∧ H' R = some (.lst (us'.map V.str)) ∧ GrOk L s' (k0 + 1) us' ∧ us'.length = k + 1)
          ⟨_, _, _, [s'], rfl, sR, upd_same, .start L s' (k0 + 1), rfl⟩ (fun k σ' H' _ pp => trivial) (fun k x σ' H8 H9 hk pp y => ?_) (fun σ' H' pp => ?_)⟩
        · obtain ⟨x6, x7, x8, us', rfl, sm9, eR, gr, hlen⟩ := pp
          obtain ⟨rfl, ey⟩ := y
          have hk' : k < k0 := by simpa using hk
          obtain rfl : x = vI k := by rw [ey]; exact congrArg V.int (by omega)
          clear ey
          obtain ⟨u, hu⟩ : ∃ u, us'[k]? = some u := ⟨_, List.getElem?_eq_getElem (by omega)⟩
          have hu1 : (us'.map V.str)[(us'.map V.str).length - 1]? = some (.str u) := by rw [List.length_map, hlen, List.getElem?_map, show k + 1 - 1 = k by omega, hu]; rfl
          obtain ⟨row2, hrow2⟩ := row_of (gr.name hsN hu)
          obtain ⟨l2, gl2, el2⟩ := (hst7.same sm9).get hrow2
          refine ⟨_, rfl, _, rfl, _, rfl, R, _, _, .str u, rfl, rfl, SqL.of eR, atI_lst hu1, d, _, rfl, gl2, l2, rfl, ⟨_, SqL.of el2⟩, fun E hE => ?_⟩
          have nER : E ≠ R := (ne_of_none eR hE).symm
          refine lc_frows (walk_list (xs := (kn L row2).map V.str)) (rows := kn L row2) (f := PyData.str) (g := id) (h := PyData.str) (p := fun o => decide (lkS m o = some (k0 - k))) (fun H' sm => SqL.of (sm _ _ el2)) hE (LayAll.strs _)
            (Nat.le_trans (List.length_filter_le _ _) (by have := h100 u row2 hrow2; omega)) (fun z o H' Rr Z' ho sm lz ky kn' => ?_) (fun us3 H10 s10 eE lus3 => ?_)
          · obtain rfl := lz.str_inv
            have gx := (show IT H' fa m from sm _ _ (sm9 _ _ iF7)).get o
            refine ⟨rfl, _, rfl, _, rfl, fa, _, rfl, gx, _, rfl, ?_⟩
            cases ho' : lkS m o with
            | none => exact ite2 (fun q => Bool.noConfusion q) (fun _ => ite2 (fun q => Bool.noConfusion q) (fun _ => kn' (decide_eq_false (by rw [ho']; exact fun h => nomatch h)) _ (.refl _)))
            | some j =>
              rw [ho'] at gx
              refine ite2 (fun _ => ?_) (fun q => absurd rfl q)
              refine ⟨_, rfl, _, rfl, fa, _, rfl, gx, _, rfl, D, castL (backs L m row), rfl, eDl' _ (sm9.trans sm), p2, fun mm hmm hle => ?_⟩
              obtain rfl := hk2 mm hmm hle
              refine ⟨_, rfl, _, _, rfl, rfl, rfl, _, rfl, ite2 (fun zz => ?_) (fun zz => ?_)⟩
              · have e : (j : Int) = (k0 : Int) - (k : Int) := V.int.inj (of_decide_eq_true zz)
                exact ⟨_, rfl, ky (decide_eq_true (by rw [ho', show j = k0 - k by omega])) _ _ (.refl _) (.str o)⟩
              · refine kn' (decide_eq_false ?_) _ (.refl _)
                rw [ho']
                intro h
                have e : j = k0 - k := Option.some.inj h
                exact zz (decide_eq_true (congrArg V.int (by omega)))
          · rw [List.map_id] at lus3
            obtain rfl := LayAll.strs_inv lus3
            have mem := fun o => nxl_iff (s := s') (A := k0 + 1) (i := k) (k := k0 - k) nd far hrow2 (by omega) o
            obtain ⟨o0, ho0⟩ := lst.next gr hu (by omega)
            obtain ⟨x1, xs1, exs⟩ : ∃ x1 xs1, (kn L row2).filter (fun o => decide (lkS m o = some (k0 - k))) = x1 :: xs1 := by
              cases e : (kn L row2).filter (fun o => decide (lkS m o = some (k0 - k))) with
              | nil =>
                have := (mem o0).mpr ho0
                rw [e] at this
                cases this
              | cons a b => exact ⟨a, b, rfl⟩
            rw [exs] at eE
            have eR10 := s10 _ _ eR
            refine ⟨_, rfl, .inl ⟨rfl, _, SqL.of eR10⟩, _, rfl, E, x1, xs1, rfl, SqL.of eE, fun mn hmn => ?_⟩
            rw [← exs] at hmn
            have hM : IsMinP mn (Nx L s' (k0 + 1) (us'.length - 1) u) := by
              rw [hlen, show k + 1 - 1 = k by omega]
              exact ⟨(mem mn).mp hmn.1, fun y hy => hmn.2 y ((mem y).mpr hy)⟩
            have hu2 : us'[us'.length - 1]? = some u := by rw [hlen]; exact hu
            refine ⟨R, _, _, rfl, rfl, eR10, by rw [List.length_map, sizeLine_eq]; omega, ?_⟩
            exact ⟨_, _, _, us' ++ [mn], rfl, same_put (sm9.trans s10) hR, by rw [upd_same, List.map_append]; rfl, gr.snoc hu2 hM, by rw [List.length_append, hlen]; rfl⟩
        · obtain ⟨x6, x7, x8, us', rfl, sm9, eR, gr, hlen⟩ := pp
          have e : ((k0 : Int)).toNat = k0 := Int.toNat_natCast _
          rw [e] at hlen
          exact ⟨_, _, _, _, _, _, k0 + 1, us', R, rfl, sm7.trans sm9, eR, bi.better hs' lst hb hlen gr⟩
      · obtain ⟨j, hj, hjb⟩ := back_in nd hrow far n1 w
        have := hk1 j hjb
        rcases nb with nb | nb
        · refine b0 (decide_eq_true ?_)
          rw [List.length_map, lus, nb]
          rfl
        · refine zb (decide_eq_true ?_)
          rw [List.length_map, lus]
          omega
  · obtain ⟨w3, w4, w5, w6, w7, w8, b, us, bb, rfl, sm5, eb, bi⟩ := pp
    rw [List.length_map] at bi
    refine ⟨_, rfl, bb, _, rfl, .inl ⟨SqL.of eb, fun r hr' => ?_⟩⟩
    exact q r us _ (s2.trans (sZ.trans (sm5.trans (same_new hr' _)))) upd_same (bi.done so)
end
end Bf

set_option Elab.async false
set_option linter.all false
set_option maxRecDepth 100000
set_option maxHeartbeats 4000000
namespace Bf
open PySem PySem.Spec PyProof.Rows L2
/-! ### the names -/
def spFPool : Sp := fun vs H Q _ => vs = [] ∧ ∀ (p : Addr) (xs : List Str), H p = none → xs.length = 47 → xs.Nodup → (∀ x ∈ xs, PyData.strOk x = true) → Q (.ref p) (upd H p (.lst (xs.map V.str)))
section
variable {P : Program} {w : World} {K : PySem.W.Frag} {mg : Str → Option Value} {base : Heap} {f : Addr} {fd : FuncData}
theorem ok_fpool (F : Fun K "_law_flat_pool" "_law_flat_pool" s_law_flat_pool f fd) : FnOk P w K mg base CX0 1 f fd [] spFPool := by
  refine F.ok sc_law_flat_pool (fun vs H Q E h => ?_) (fun cdv A outer s H vs Q E hr h => ?_)
  · rw [h.1]
    rfl
  obtain ⟨rfl, q⟩ := h
  refine ⟨_, (pss_cons (ps_set (i := 0) sc_law_flat_pool.nd rfl (Or.inl rfl) pe_str)
      (pss_cons (ps_set (i := 0) sc_law_flat_pool.nd rfl (Or.inl rfl) (pe_op op_add_str (pv 0) pe_str))
      (pss_one (ps_ret (pe_split (pe_op op_add_str (pv 0) pe_str) pe_str))))), ?_⟩
  refine ⟨_, rfl, _, _, rfl, rfl, (by decide +kernel), _, rfl, _, _, rfl, rfl, (by decide +kernel), ?_⟩
  exact ⟨⟨_, rfl⟩, _, _, rfl, rfl, (by decide +kernel), (by decide +kernel), fun p hp => q p _ hp (by decide +kernel) (by decide +kernel) (by decide +kernel)⟩
end
end Bf

set_option Elab.async false
set_option linter.all false
set_option maxRecDepth 100000
set_option maxHeartbeats 4000000
namespace Bf
open PySem PySem.Spec PyProof.Rows L2
/-! ### names; rings drawn into rows of numbers -/
/-- rows of numbers below n, each a list of its own -/
structure FO (n N : Nat) (H : Hp) (F d c : Addr) (as : List Addr) : Prop where
  e : H F = some (.lst (as.map V.ref))
  nd : as.Nodup
  len : as.length = n
  row : ∀ a ∈ as, ∃ r : List Nat, H a = some (.lst (r.map vI)) ∧ (∀ x ∈ r, x < n) ∧ r.length ≤ N
  nF : F ∉ as
  nd_ : d ∉ as
  nc : c ∉ as
  nFd : F ≠ d
  nFc : F ≠ c
theorem FO.same {n N : Nat} {H H' : Hp} {F d c : Addr} {as : List Addr} (h : FO n N H F d c as) (s : Same H H') : FO n N H' F d c as :=
  ⟨s _ _ h.e, h.nd, h.len, fun a ha => let ⟨r, e, p⟩ := h.row a ha; ⟨r, s _ _ e, p⟩, h.nF, h.nd_, h.nc, h.nFd, h.nFc⟩
theorem FO.keep {n N : Nat} {H H' : Hp} {F d c : Addr} {as : List Addr} (h : FO n N H F d c as) (k : Keep [d] H H') : FO n N H' F d c as :=
  ⟨k _ _ (by simp [h.nFd]) h.e, h.nd, h.len, fun a ha => let ⟨r, e, p⟩ := h.row a ha; ⟨r, k _ _ (by simp; exact fun q => h.nd_ (q ▸ ha)) e, p⟩, h.nF, h.nd_, h.nc, h.nFd, h.nFc⟩
theorem FO.more {n N M : Nat} {H : Hp} {F d c : Addr} {as : List Addr} (h : FO n N H F d c as) (k : N ≤ M) : FO n M H F d c as :=
  ⟨h.e, h.nd, h.len, fun a ha => let ⟨r, e, p, q⟩ := h.row a ha; ⟨r, e, p, by omega⟩, h.nF, h.nd_, h.nc, h.nFd, h.nFc⟩
/-- a number put behind a row -/
theorem FO.app {n N : Nat} {H : Hp} {F d c a : Addr} {as : List Addr} {r : List Nat} {x : Nat} (h : FO n N H F d c as) (ha : a ∈ as) (hr : H a = some (.lst (r.map vI))) (hx : x < n) : FO n (N + 1) (upd H a (.lst (r.map vI ++ [vI x]))) F d c as := by
  have nFa : F ≠ a := fun q => h.nF (q ▸ ha)
  refine ⟨(upd_ne nFa).trans h.e, h.nd, h.len, fun b hb => ?_, h.nF, h.nd_, h.nc, h.nFd, h.nFc⟩
  by_cases q : b = a
  · subst q
    obtain ⟨r', e, p1, p2⟩ := h.row b hb
    rw [hr] at e
    have e2 : r.map vI = r'.map vI := HO.lst.inj (Option.some.inj e)
    refine ⟨r' ++ [x], by rw [upd_same, e2, List.map_append]; rfl, fun y hy => ?_, by rw [List.length_append, List.length_singleton]; omega⟩
    rcases List.mem_append.mp hy with k | k
    · exact p1 y k
    · rw [List.mem_singleton.mp k]; exact hx
  · obtain ⟨r', e, p1, p2⟩ := h.row b hb
    exact ⟨r', (upd_ne q).trans e, p1, by omega⟩
/-- a row replaced by a new one -/
theorem FO.put {n N k : Nat} {H : Hp} {F d c L : Addr} {as : List Addr} {r : List Nat} (h : FO n N H F d c as) (hL : H L = some (.lst (r.map vI))) (nL : L ∉ as) (nLF : L ≠ F) (nLd : L ≠ d) (nLc : L ≠ c) (hr : ∀ x ∈ r, x < n) (hl : r.length ≤ N) :
    FO n N (upd H F (.lst ((as.set k L).map V.ref))) F d c (as.set k L) := by
  have mem : ∀ b ∈ as.set k L, b ∈ as ∨ b = L := fun b hb => List.mem_or_eq_of_mem_set hb
  refine ⟨upd_same, ?_, by rw [List.length_set]; exact h.len, fun b hb => ?_, fun q => ?_, fun q => ?_, fun q => ?_, h.nFd, h.nFc⟩
  · rw [List.nodup_iff_pairwise_ne, List.pairwise_iff_getElem]
    intro i j hi hj hij
    rw [List.length_set] at hi hj
    rw [List.getElem_set, List.getElem_set]
    have old := List.pairwise_iff_getElem.mp (List.nodup_iff_pairwise_ne.mp h.nd) i j hi hj hij
    split
    · split
      · omega
      · exact fun q => nL (q ▸ List.getElem_mem _)
    · split
      · exact fun q => nL (q ▸ List.getElem_mem _)
      · exact old
  · rcases mem b hb with q | rfl
    · obtain ⟨r', e, p1, p2⟩ := h.row b q
      exact ⟨r', (upd_ne (fun k : b = F => h.nF (k ▸ q))).trans e, p1, p2⟩
    · exact ⟨r, (upd_ne nLF).trans hL, hr, hl⟩
  · rcases mem F q with k | k
    · exact h.nF k
    · exact nLF k.symm
  · rcases mem d q with k | k
    · exact h.nd_ k
    · exact nLd k.symm
  · rcases mem c q with k | k
    · exact h.nc k
    · exact nLc k.symm
theorem natsOf : ∀ (ys : List V), (∀ y ∈ ys, ∃ j : Nat, y = vI j) → ∃ us : List Nat, ys = us.map vI
  | [], _ => ⟨[], rfl⟩
  | y :: ys, h => by
    obtain ⟨us, rfl⟩ := natsOf ys fun z hz => h z (by simp [hz])
    obtain ⟨j, rfl⟩ := h y (by simp)
    exact ⟨j :: us, rfl⟩
def spAdd : Sp := fun vs H Q _ => ∃ (d c F : Addr) (n N : Nat) (as : List Addr), vs = [.ref d, vI n, .ref F] ∧ DS H d c ∧ FO n N H F d c as ∧ 1 ≤ n ∧ n ≤ 40 ∧ N ≤ 20 ∧
  ∀ H', DS H' d c → Keep (d :: as) H H' → FO n (N + 15) H' F d c as → Q .non H'
section
variable {P : Program} {w : World} {K : PySem.W.Frag} {mg : Str → Option Value} {base : Heap} {f : Addr} {fd : FuncData}
theorem ok_addR (F : Fun K "_law_added_rings" "_law_added_rings" s_law_added_rings f fd) (T : Txt mg) (D_law_draw : Dn P w K mg base "_law_draw" ["_law_d", "_law_many"] 1 spDraw) (D_law_shuffled : Dn P w K mg base "_law_shuffled" ["_law_d", "_law_row"] 2 (spShuf K)) :
    FnOk P w K mg base CX0 3 f fd ["_law_d", "_law_many", "_law_found"] spAdd := by
  refine F.ok sc_law_added_rings (fun vs H Q E h => ?_) (fun cdv A outer s H vs Q E hr h => ?_)
  · obtain ⟨d, c, F, n, N, as, rfl, _⟩ := h
    rfl
  obtain ⟨d, c, Fa, n, N, as, rfl, hd, fo, n1, n40, N20, q⟩ := h
  refine ⟨_, (pss_cons (ps_set (i := 3) sc_law_added_rings.nd rfl (Or.inl rfl) (pe_op op_add pe_int (pe_dn D_law_draw (hr.mono (by omega)) (by rfl) (pa_cons (pv 0) (pa_cons (pe_callB (cr_minN rfl) (by rfl) T.n_min (by decide +kernel) (pa_cons pe_int (pa_cons (pv 1) pa_nil))) pa_nil)))))
      (pss_one (ps_for PassesOwn.never rfl (pi_range1 rfl T.n_range (pa_cons (pe_op op_add pe_int (pe_dn D_law_draw (hr.mono (by omega)) (by rfl) (pa_cons (pv 0) (pa_cons pe_int pa_nil)))) pa_nil)) (pg_name (i := 4) sc_law_added_rings.nd rfl (Or.inl rfl)) (pss_cons (ps_set (i := 5) sc_law_added_rings.nd rfl (Or.inl rfl) (pe_slice sl_list (pe_dn D_law_shuffled (hr.mono (by omega)) (by rfl) (pa_cons (pv 0) (pa_cons (pe_listRg rfl (by rfl) T.n_list (prg_1 (by rfl) T.n_range (pv 1))) pa_nil))) po_none (po_some (pv 3))))
      (pss_one (ps_for PassesOwn.never rfl (pi_zipX (by rfl) T.n_zip (pa_cons (pv 5) (pa_cons (pe_op op_cat (pe_slice sl_list (pv 5) (po_some pe_int) po_none) (pe_slice sl_list (pv 5) po_none (po_some pe_int))) pa_nil))) (pg_tup rfl (pgs_cons (pg_name (i := 6) sc_law_added_rings.nd rfl (Or.inl rfl)) (pgs_cons (pg_name (i := 7) sc_law_added_rings.nd rfl (Or.inl rfl)) pgs_nil))) (pss_one (ps_expr (pe_bm PySem.F.plainAttrs_list PySem.F.slot_list_append PySem.F.type_list_append mt_append (pe_ix ix_list (pv 2) (pv 6) (fun _ _ => rfl)) (pa_cons (pv 7) pa_nil)))))))))), ?_⟩
  refine ⟨_, rfl, _, rfl, 5, n, rfl, d, c, _, rfl, hd, by omega, by omega, fun u H1 u0 u1 hd1 k1 => ?_⟩
  obtain ⟨u, rfl⟩ := Int.eq_ofNat_of_zero_le u0
  have hu5 : u < 5 ∧ u < n := by omega
  have fo1 := fo.keep k1
  refine ⟨_, _, rfl, rfl, ?_⟩
  refine ⟨_, rfl, d, c, 3, rfl, hd1, by decide, by decide, fun w H2 w0 w1 hd2 k2 => ⟨_, _, rfl, rfl, 1 + w, rfl, by omega, by omega, for_it walk_range (fun j σ' H' => ∃ v4 v5 v6 v7 : Option V, σ' = [some (.ref d), some (vI n), some (.ref Fa), some (.int (1 + (u : Int))), v4, v5, v6, v7] ∧ DS H' d c ∧ Keep (d :: as) H H' ∧ FO n (N + 5 * j) H' Fa d c as)
    ⟨_, _, _, _, rfl, hd2, (k1.trans k2).wide (by simp), (fo1.keep k2).more (Nat.le_add_right _ _)⟩ (fun j σ' H' _ pp => trivial) (fun j x σ' H3 H4 hj pp y => ?_) (fun σ' H' pp => ?_)⟩⟩
  · obtain ⟨v4, v5, v6, v7, rfl, hd4, k4, fo4⟩ := pp
    obtain ⟨rfl, ey⟩ := y
    have hj3 : j < 3 := by omega
    refine ⟨_, rfl, _, rfl, _, rfl, .of_le (by decide) (by omega) (by decide) (by omega), fun R hR => ?_⟩
    have nRd := (hd4.new hR).1
    have sR := same_new hR (.lst (rgV 0 (n : Int)))
    have lR : (rgV 0 (n : Int)).length = n := by rw [rgV_length]; omega
    refine ⟨d, c, R, _, rfl, hd4.same sR, nRd, .inl (SqL.of upd_same), by rw [lR]; omega, fun p2 ys HD hperm hp0 hp2 hdD kD => ?_⟩
    obtain ⟨us, rfl⟩ := natsOf ys fun y hy => by
      obtain ⟨j, _, ej⟩ := List.mem_map.mp (hperm.mem_iff.mp hy)
      exact ⟨j, by rw [← ej]; exact congrArg V.int (by omega)⟩
    have hzk : ∀ x ∈ us, x < n := fun x hx => by
      obtain ⟨j, hj, ej⟩ := List.mem_map.mp (hperm.mem_iff.mp (List.mem_map.mpr ⟨x, hx, rfl⟩))
      have hj2 := List.mem_range.mp hj
      have ej2 := V.int.inj ej
      omega
    have lus : us.length = n := by
      have := hperm.length_eq
      rw [List.length_map, lR] at this
      exact this
    have foD := (fo4.same sR).keep kD
    have kD' : Keep (d :: as) H HD := (k4.trans (.of_same sR)).trans (kD.wide (by simp))
    refine ⟨_, rfl, _, rfl, p2, _, rfl, SqL.of hp2, fun S hS => ?_⟩
    have ec : cutV (us.map vI) none (some (1 + (u : Int))) = (us.take (1 + u)).map vI := by
      rw [show (1 + (u : Int)) = ((1 + u : Nat) : Int) by omega, cutV_to, List.map_take]
    rw [ec]
    have hrs : ∀ x ∈ us.take (1 + u), x < n := fun x hx => hzk x (List.mem_of_mem_take hx)
    have lrs : (us.take (1 + u)).length = 1 + u := by rw [List.length_take]; omega
    generalize us.take (1 + u) = rs at hrs lrs ⊢
    have sS := same_new hS (.lst (rs.map vI))
    have eS : upd HD S (.lst (rs.map vI)) S = some (.lst (rs.map vI)) := upd_same
    have hdS := hdD.same sS
    have foS := foD.same sS
    have kS := kD'.trans (.of_same sS)
    have nSd := (hdD.new hS).1
    have nSas : S ∉ as := fun k => by
      obtain ⟨r, e, _⟩ := foD.row S k
      rw [hS] at e
      cases e
    generalize upd HD S (.lst (rs.map vI)) = H5 at eS hdS foS kS ⊢
    refine ⟨_, rfl, _, rfl, 1, rfl, S, _, rfl, SqL.of eS, fun A1 hA1 => ?_⟩
    have s1 := same_new hA1 (.lst (cutV (rs.map vI) (some 1) none))
    have e1 : upd H5 A1 (.lst (cutV (rs.map vI) (some 1) none)) A1 = some (.lst ((rs.drop 1).map vI)) := by
      rw [upd_same, List.map_drop]
      exact congrArg (fun z => some (HO.lst z)) (cutV_from (rs.map vI) 1)
    have eS1 := s1 _ _ eS
    have hd1' := hdS.same s1
    have fo1' := foS.same s1
    have k1' := kS.trans (.of_same s1)
    generalize upd H5 A1 (.lst (cutV (rs.map vI) (some 1) none)) = H6 at e1 eS1 hd1' fo1' k1' ⊢
    refine ⟨_, rfl, 1, rfl, S, _, rfl, SqL.of eS1, fun A2 hA2 => ?_⟩
    have s2 := same_new hA2 (.lst (cutV (rs.map vI) none (some 1)))
    have e2 : upd H6 A2 (.lst (cutV (rs.map vI) none (some 1))) A2 = some (.lst ((rs.take 1).map vI)) := by
      rw [upd_same, List.map_take]
      exact congrArg (fun z => some (HO.lst z)) (cutV_to (rs.map vI) 1)
    have eS2 := s2 _ _ eS1
    have e12 := s2 _ _ e1
    have hd2' := hd1'.same s2
    have fo2' := fo1'.same s2
    have k2' := k1'.trans (.of_same s2)
    generalize upd H6 A2 (.lst (cutV (rs.map vI) none (some 1))) = H7 at e2 eS2 e12 hd2' fo2' k2' ⊢
    refine ⟨A1, A2, _, _, rfl, rfl, e12, e2, by rw [List.length_map, List.length_map, List.length_drop, List.length_take, sizeLine_eq]; omega, fun Z hZ => ?_⟩
    have erot : (rs.drop 1).map vI ++ (rs.take 1).map vI = (rs.drop 1 ++ rs.take 1).map vI := List.map_append.symm
    rw [erot]
    have lrot : (rs.drop 1 ++ rs.take 1).length = rs.length := by rw [List.length_append, List.length_drop, List.length_take]; omega
    have hrot : ∀ x ∈ rs.drop 1 ++ rs.take 1, x < n := fun x hx => by
      rcases List.mem_append.mp hx with q | q
      · exact hrs x (List.mem_of_mem_drop q)
      · exact hrs x (List.mem_of_mem_take q)
    generalize rs.drop 1 ++ rs.take 1 = rot at lrot hrot ⊢
    have s3 := same_new hZ (.lst (rot.map vI))
    have eZ : upd H7 Z (.lst (rot.map vI)) Z = some (.lst (rot.map vI)) := upd_same
    have eS3 := s3 _ _ eS2
    have hd3 := hd2'.same s3
    have fo3 := fo2'.same s3
    have k3 := k2'.trans (.of_same s3)
    have nZas : Z ∉ as := fun k => by
      obtain ⟨r, e, _⟩ := fo2'.row Z k
      rw [hZ] at e
      cases e
    generalize upd H7 Z (.lst (rot.map vI)) = H8 at eZ eS3 hd3 fo3 k3 ⊢
    refine ⟨srcL, srcL, S, Z, rs.map vI, rot.map vI, rfl, SqL.of eS3, SqL.of eZ, for_zipG srcL srcL (xs := rs.map vI) (ys := rot.map vI) (by rw [List.length_map, List.length_map, lrot]) (fun (i : Nat) (σ' : L2.St) (H' : Hp) => ∃ v6 v7 : Option V, σ' = [some (.ref d), some (vI n), some (.ref Fa), some (.int (1 + (u : Int))), some x, some (.ref S), v6, v7] ∧ DS H' d c ∧ Keep (d :: as) H H' ∧ FO n (N + 5 * j + i) H' Fa d c as ∧ H' S = some (.lst (rs.map vI)) ∧ H' Z = some (.lst (rot.map vI)))
      ⟨_, _, rfl, hd3, k3, fo3, eS3, eZ⟩ (fun i σ' H' pp => ?_) (fun i a b T0 σ' H9 ea eb pp hT0 => ?_) (fun σ' H' pp => ?_)⟩
    · obtain ⟨_, _, _, _, _, _, e1, e2⟩ := pp
      exact ⟨SqL.of e1, SqL.of e2⟩
    · obtain ⟨v6, v7, rfl, hd9, k9, fo9, e1', e2'⟩ := pp
      obtain ⟨x1, hx1, rfl⟩ : ∃ z, rs[i]? = some z ∧ a = vI z := by
        rw [List.getElem?_map] at ea
        obtain ⟨z, h1, h2⟩ := Option.map_eq_some_iff.mp ea
        exact ⟨z, h1, h2.symm⟩
      obtain ⟨x2, hx2, rfl⟩ : ∃ z, rot[i]? = some z ∧ b = vI z := by
        rw [List.getElem?_map] at eb
        obtain ⟨z, h1, h2⟩ := Option.map_eq_some_iff.mp eb
        exact ⟨z, h1, h2.symm⟩
      have l1 := hrs x1 (List.mem_of_getElem? hx1)
      have l2 := hrot x2 (List.mem_of_getElem? hx2)
      have hi5 := (List.getElem?_eq_some_iff.mp hx1).1
      have sT := same_new hT0 (.tup [vI x1, vI x2])
      have foT := fo9.same sT
      obtain ⟨a', ha'⟩ : ∃ a', as[x1]? = some a' := ⟨_, List.getElem?_eq_getElem (by rw [fo9.len]; exact l1)⟩
      have hma := List.mem_of_getElem? ha'
      obtain ⟨r, er, hr1, hr2⟩ := foT.row a' hma
      have ea1 : (as.map V.ref)[x1]? = some (.ref a') := by rw [List.getElem?_map, ha']; rfl
      refine ⟨T0, _, rfl, SqT.of upd_same, rfl, _, _, rfl, _, _, rfl, rfl, ?_⟩
      refine ⟨_, rfl, _, rfl, Fa, _, _, .ref a', rfl, rfl, SqL.of foT.e, atI_nat ea1, .inl ⟨rfl, _, SqL.of er⟩, _, rfl, a', _, _, rfl, rfl, er, by rw [List.length_map, sizeLine_eq]; omega, ?_⟩
      have nda : d ≠ a' := fun q => foT.nd_ (q ▸ hma)
      have nca : c ≠ a' := fun q => foT.nc (q ▸ hma)
      have nSa : S ≠ a' := fun q => nSas (q ▸ hma)
      have nZa : Z ≠ a' := fun q => nZas (q ▸ hma)
      exact ⟨_, _, rfl, (hd9.same sT).keep (S := [a']) (Keep.upd (by simp)) (by simp [nda]) (by simp [nca]), (k9.trans (.of_same sT)).trans (Keep.upd (List.mem_cons_of_mem _ hma)), (foT.app hma er l2).more (by omega), (upd_ne nSa).trans (sT _ _ e1'), (upd_ne nZa).trans (sT _ _ e2')⟩
    · obtain ⟨v6, v7, rfl, hd9, k9, fo9, _, _⟩ := pp
      rw [List.length_map] at fo9
      exact ⟨_, _, _, _, rfl, hd9, k9, fo9.more (by omega)⟩
  · obtain ⟨v4, v5, v6, v7, rfl, hd4, k4, fo4⟩ := pp
    exact q _ hd4 k4 (fo4.more (by omega))
end
end Bf

set_option Elab.async false
set_option linter.all false
set_option maxRecDepth 100000
set_option maxHeartbeats 4000000
namespace Bf
open PySem PySem.Spec PyProof.Rows L2
/-! ### the rows of numbers drawn -/
structure HSa (H0 H : Hp) (d c F : Addr) (n N : Nat) (as : List Addr) : Prop where
  ds : DS H d c
  k : Keep [d] H0 H
  nw : H0 F = none
  fo : FO n N H F d c as
  anew : ∀ a ∈ as, H0 a = none
def HS (H0 H : Hp) (d c F : Addr) (n N : Nat) : Prop := ∃ as, HSa H0 H d c F n N as
theorem HSa.more {H0 H : Hp} {d c F : Addr} {n N M : Nat} {as : List Addr} (h : HSa H0 H d c F n N as) (k : N ≤ M) : HSa H0 H d c F n M as := ⟨h.ds, h.k, h.nw, h.fo.more k, h.anew⟩
theorem HS.more {H0 H : Hp} {d c F : Addr} {n N M : Nat} (h : HS H0 H d c F n N) (k : N ≤ M) : HS H0 H d c F n M := let ⟨as, g⟩ := h; ⟨as, g.more k⟩
theorem HSa.draw {H0 H H' : Hp} {d c F : Addr} {n N : Nat} {as : List Addr} (h : HSa H0 H d c F n N as) (hd : DS H' d c) (k : Keep [d] H H') : HSa H0 H' d c F n N as := ⟨hd, h.k.trans k, h.nw, h.fo.keep k, h.anew⟩
theorem HS.draw {H0 H H' : Hp} {d c F : Addr} {n N : Nat} (h : HS H0 H d c F n N) (hd : DS H' d c) (k : Keep [d] H H') : HS H0 H' d c F n N := let ⟨as, g⟩ := h; ⟨as, g.draw hd k⟩
theorem HSa.same {H0 H H' : Hp} {d c F : Addr} {n N : Nat} {as : List Addr} (h : HSa H0 H d c F n N as) (s : Same H H') : HSa H0 H' d c F n N as := h.draw (h.ds.same s) (.of_same s)
theorem HSa.notin {H0 H : Hp} {d c F L : Addr} {n N : Nat} {as : List Addr} (h : HSa H0 H d c F n N as) (hL : H L = none) : L ∉ as ∧ L ≠ F ∧ L ≠ d ∧ L ≠ c ∧ H0 L = none := by
  have nLd := h.ds.new hL
  refine ⟨fun q => ?_, fun q => ?_, nLd.1, nLd.2, h.k.free hL (by simpa using nLd.1)⟩
  · obtain ⟨r, e, _⟩ := h.fo.row L q
    rw [hL] at e
    cases e
  · have e := h.fo.e
    rw [← q, hL] at e
    cases e
/-- something new written -/
theorem HSa.upd {H0 H : Hp} {d c F L : Addr} {n N : Nat} {as : List Addr} {o : HO} (h : HSa H0 H d c F n N as) (hL : L ∉ as ∧ L ≠ F ∧ L ≠ d ∧ L ≠ c ∧ H0 L = none) : HSa H0 (L2.upd H L o) d c F n N as := by
  have k1 : Keep [L] H (L2.upd H L o) := .at1
  refine ⟨h.ds.keep k1 (by simpa using hL.2.2.1.symm) (by simpa using hL.2.2.2.1.symm), fun b u n e => ?_, h.nw, ⟨(upd_ne hL.2.1.symm).trans h.fo.e, h.fo.nd, h.fo.len, fun a ha => ?_, h.fo.nF, h.fo.nd_, h.fo.nc, h.fo.nFd, h.fo.nFc⟩, h.anew⟩
  · rw [upd_ne (ne_of_none e hL.2.2.2.2)]
    exact h.k b u n e
  · obtain ⟨r, e, p⟩ := h.fo.row a ha
    exact ⟨r, (upd_ne (fun q : a = L => hL.1 (q ▸ ha))).trans e, p⟩
theorem HSa.put {H0 H : Hp} {d c F L : Addr} {n N k : Nat} {as : List Addr} {r : List Nat} (h : HSa H0 H d c F n N as) (hL : L ∉ as ∧ L ≠ F ∧ L ≠ d ∧ L ≠ c ∧ H0 L = none) (e : H L = some (.lst (r.map vI))) (hr : ∀ x ∈ r, x < n) (hl : r.length ≤ N) :
    HS H0 (L2.upd H F (.lst ((as.set k L).map V.ref))) d c F n N := by
  refine ⟨as.set k L, h.ds.keep (S := [F]) .at1 (by simpa using h.fo.nFd.symm) (by simpa using h.fo.nFc.symm), fun b u m e => ?_, h.nw, h.fo.put e hL.1 hL.2.1 hL.2.2.1 hL.2.2.2.1 hr hl, fun a ha => ?_⟩
  · rw [upd_ne (ne_of_none e h.nw)]
    exact h.k b u m e
  · rcases List.mem_or_eq_of_mem_set ha with q | rfl
    · exact h.anew a q
    · exact hL.2.2.2.2
theorem HSa.row {H0 H : Hp} {d c F : Addr} {n N x : Nat} {as : List Addr} (h : HSa H0 H d c F n N as) (hx : x < n) : ∃ a, as[x]? = some a ∧ (as.map V.ref)[x]? = some (.ref a) := by
  obtain ⟨a, ha⟩ : ∃ a, as[x]? = some a := ⟨_, List.getElem?_eq_getElem (by rw [h.fo.len]; exact hx)⟩
  exact ⟨a, ha, by rw [List.getElem?_map, ha]; rfl⟩
theorem HSa.app {H0 H : Hp} {d c F a : Addr} {n N x : Nat} {as : List Addr} (h : HSa H0 H d c F n N as) (ha : as[x]? = some a) : ∃ (r : List Nat), H a = some (.lst (r.map vI)) ∧ r.length ≤ N ∧ ∀ y, y < n → HSa H0 (L2.upd H a (.lst (r.map vI ++ [vI y]))) d c F n (N + 1) as := by
  have hma := List.mem_of_getElem? ha
  obtain ⟨r, er, hr1, hr2⟩ := h.fo.row a hma
  have nda : d ≠ a := fun q => h.fo.nd_ (q ▸ hma)
  have nca : c ≠ a := fun q => h.fo.nc (q ▸ hma)
  refine ⟨r, er, hr2, fun y hy => ⟨h.ds.keep (S := [a]) .at1 (by simp [nda]) (by simp [nca]), fun b u m e => ?_, h.nw, h.fo.app hma er hy, h.anew⟩⟩
  rw [upd_ne (ne_of_none e (h.anew a hma))]
  exact h.k b u m e
theorem ixK {n k : Nat} {as : List Addr} (e : as.length = n) (h : k < n) : ixN (as.map V.ref).length (0 + (k : Int)) = some k := by
  rw [Int.zero_add]
  exact ixN_nat (by rw [List.length_map, e]; exact h)
theorem map_set {as : List Addr} {k : Nat} {L : Addr} : (as.set k L).map V.ref = (as.map V.ref).set k (.ref L) := List.map_set
def spLHung : Sp := fun vs H Q _ => ∃ (d c : Addr) (n : Nat), vs = [.ref d, vI n] ∧ DS H d c ∧ n ≤ 31 ∧
  ∀ F H', HS H H' d c F n 25 → Q (.ref F) H'
section
variable {P : Program} {w : World} {K : PySem.W.Frag} {mg : Str → Option Value} {base : Heap} {f : Addr} {fd : FuncData}
theorem ok_lhung (F : Fun K "_law_hung" "_law_hung" s_law_hung f fd) (T : Txt mg) (D_law_draw : Dn P w K mg base "_law_draw" ["_law_d", "_law_many"] 1 spDraw) (D_law_added_rings : Dn P w K mg base "_law_added_rings" ["_law_d", "_law_many", "_law_found"] 3 spAdd) :
    FnOk P w K mg base CX0 4 f fd ["_law_d", "_law_many"] spLHung := by
  refine F.ok sc_law_hung (fun vs H Q E h => ?_) (fun cdv A outer s H vs Q E hr h => ?_)
  · obtain ⟨d, c, n, rfl, _⟩ := h
    rfl
  obtain ⟨d, c, n, rfl, hd, n31, q⟩ := h
  refine ⟨_, (C8.pss_cut (ps_setLc (i := 3) (own := [("_law_k", 2)]) (g := (gName 2)) (tt := tYes) rfl sc_law_hung.nd rfl rfl (sw_true rfl rfl rfl (by decide +kernel)) (pi_range1 rfl T.n_range (pa_cons (pv 1) pa_nil)) (blkOk_by (N := ["_law_d", "_law_many", "_law_k", "_law_found", "_law_mode", "_law_j", "_law_at"]) (sc := defScope s_law_hung) (by decide +kernel)) (fun _ _ _ _ _ => (pg_name (i := 2) sc_law_hung.nd rfl (Or.inl rfl))) (fun _ _ _ _ _ => pts_nil) (fun _ _ _ _ _ => (pe_lst pa_nil)))
      (pss_cons (ps_if (pt_cmpR op_eq (pv 1) pe_int (nomark _)) (pss_one (ps_ret (pv 3))) pss_nil)
      (C8.pss_cut (ps_set (i := 4) sc_law_hung.nd rfl (Or.inl rfl) (pe_ifExp (pt_cmpR op_gt (pv 1) pe_int (nomark _)) pe_int (pe_dn D_law_draw (hr.mono (by omega)) (by rfl) (pa_cons (pv 0) (pa_cons pe_int pa_nil)))))
      (C8.pss_cut (ps_for PassesOwn.never rfl (pi_range1 rfl T.n_range (pa_cons (pv 1) pa_nil)) (pg_name (i := 2) sc_law_hung.nd rfl (Or.inr rfl)) (pss_one (ps_if (pt_cmpR op_eq (pv 4) pe_int (nomark _)) (pss_one (ps_asg (pe_lc (own := [("_law_j", 5)]) (g := (gName 5)) (tt := tYes) rfl sc_law_hung.nd (pi_range1 rfl T.n_range (pa_cons (pe_dn D_law_draw (hr.mono (by omega)) (by rfl) (pa_cons (pv 0) (pa_cons pe_int pa_nil))) pa_nil)) (blkOk_by (N := ["_law_d", "_law_many", "_law_k", "_law_found", "_law_mode", "_law_j", "_law_at"]) (sc := defScope s_law_hung) (by decide +kernel)) (fun _ _ _ _ _ => (pg_name (i := 5) sc_law_hung.nd rfl (Or.inl rfl))) (fun _ _ _ _ _ => pts_nil) (fun _ _ _ _ _ => (pe_dn D_law_draw (hr.mono (by omega)) (by rfl) (pa_cons (pv 0) (pa_cons (pv 1) pa_nil))))) (pg_sub (pv 3) (pv 2) set_list))) (pss_one (ps_if (pt_cmpR op_eq (pv 4) pe_int (nomark _)) (pss_one (ps_asg (pe_lst (pa_cons (pe_ifExp (pt_cmpR op_lt (pe_op op_add (pv 2) pe_int) (pv 1) (nomark _)) (pe_op op_add (pv 2) pe_int) pe_int) pa_nil)) (pg_sub (pv 3) (pv 2) set_list))) (pss_one (ps_if (pt_cmpR op_lt (pe_op op_add (pv 2) pe_int) (pv 1) (nomark _)) (pss_one (ps_asg (pe_lc (own := [("_law_j", 5)]) (g := (gName 5)) (tt := tYes) rfl sc_law_hung.nd (pi_range1 rfl T.n_range (pa_cons (pe_dn D_law_draw (hr.mono (by omega)) (by rfl) (pa_cons (pv 0) (pa_cons pe_int pa_nil))) pa_nil)) (blkOk_by (N := ["_law_d", "_law_many", "_law_k", "_law_found", "_law_mode", "_law_j", "_law_at"]) (sc := defScope s_law_hung) (by decide +kernel)) (fun _ _ _ _ _ => (pg_name (i := 5) sc_law_hung.nd rfl (Or.inl rfl))) (fun _ _ _ _ _ => pts_nil) (fun _ _ _ _ _ => (pe_op op_add (pe_op op_add (pv 2) pe_int) (pe_dn D_law_draw (hr.mono (by omega)) (by rfl) (pa_cons (pv 0) (pa_cons (pe_op op_sub (pe_op op_sub (pv 1) (pv 2)) pe_int) pa_nil)))))) (pg_sub (pv 3) (pv 2) set_list))) pss_nil)))))))
      (C8.pss_cut (ps_if (pt_cmpR op_eq (pv 4) pe_int (nomark _)) (pss_one (ps_for PassesOwn.never rfl (pi_range1 rfl T.n_range (pa_cons (pe_dn D_law_draw (hr.mono (by omega)) (by rfl) (pa_cons (pv 0) (pa_cons pe_int pa_nil))) pa_nil)) (pg_name (i := 5) sc_law_hung.nd rfl (Or.inl rfl)) (pss_cons (ps_set (i := 6) sc_law_hung.nd rfl (Or.inl rfl) (pe_dn D_law_draw (hr.mono (by omega)) (by rfl) (pa_cons (pv 0) (pa_cons (pv 1) pa_nil))))
      (pss_one (ps_expr (pe_bm PySem.F.plainAttrs_list PySem.F.slot_list_append PySem.F.type_list_append mt_append (pe_ix ix_list (pv 3) (pv 6) (fun _ _ => rfl)) (pa_cons (pe_dn D_law_draw (hr.mono (by omega)) (by rfl) (pa_cons (pv 0) (pa_cons (pe_op op_add (pv 6) pe_int) pa_nil))) pa_nil))))))) pss_nil)
      (C8.pss_cut (ps_if (pt_cmpR op_eq (pv 4) pe_int (nomark _)) (pss_one (ps_expr (pe_dn D_law_added_rings (hr.mono (by omega)) (by rfl) (pa_cons (pv 0) (pa_cons (pv 1) (pa_cons (pv 3) pa_nil)))))) pss_nil)
      (C8.pss_cut (ps_if (pt_cmpR op_eq (pv 4) pe_int (nomark _)) (pss_one (ps_for PassesOwn.never rfl (pi_range1 rfl T.n_range (pa_cons (pe_dn D_law_draw (hr.mono (by omega)) (by rfl) (pa_cons (pv 0) (pa_cons pe_int pa_nil))) pa_nil)) (pg_name (i := 5) sc_law_hung.nd rfl (Or.inl rfl)) (pss_cons (ps_set (i := 6) sc_law_hung.nd rfl (Or.inl rfl) (pe_dn D_law_draw (hr.mono (by omega)) (by rfl) (pa_cons (pv 0) (pa_cons (pv 1) pa_nil))))
      (pss_one (ps_expr (pe_bm PySem.F.plainAttrs_list PySem.F.slot_list_append PySem.F.type_list_append mt_append (pe_ix ix_list (pv 3) (pv 6) (fun _ _ => rfl)) (pa_cons (pe_dn D_law_draw (hr.mono (by omega)) (by rfl) (pa_cons (pv 0) (pa_cons (pv 1) pa_nil))) pa_nil))))))) pss_nil)
      (pss_one (ps_ret (pv 3)))))))))), ?_⟩
  refine ⟨fun σ' H' => ∃ Fa, σ' = [some (.ref d), some (vI n), none, some (.ref Fa), none, none, none] ∧ HS H H' d c Fa n 0, ?_, fun σ2 H2 p2 => ?_⟩
  · refine ⟨_, rfl, n, rfl, (i62 (by omega)).1, (i62 (by omega)).2, fun F0 hF0 => ?_⟩
    have nFd := hd.new hF0
    refine lc_it walk_range (fun i H' => ∃ as : List Addr, H' F0 = some (.lst (as.map V.ref)) ∧ as.length = i ∧ as.Nodup ∧ (∀ a ∈ as, H' a = some (.lst []) ∧ H a = none ∧ a ≠ F0) ∧ Same H H') ⟨[], upd_same, rfl, List.nodup_nil, by simp, same_new hF0 _⟩ (fun _ _ _ _ => trivial) (fun i x H1 H2 hi pp y => ?_) (fun H1 pp => ?_)
    · obtain ⟨as, eF, la, nda, old, sm⟩ := pp
      obtain ⟨rfl, rfl⟩ := y
      refine ⟨rfl, Nat.zero_le _, fun a ha => ⟨as.map V.ref, (upd_ne (fun q : F0 = a => by rw [← q, eF] at ha; cases ha)).trans eF, by rw [List.length_map, sizeLine_eq]; omega, as ++ [a], by rw [upd_same, List.map_append]; rfl, by rw [List.length_append, la]; rfl, ?_, fun b hb => ?_, same_put (same_put sm (sm.free ha)) hF0⟩⟩
      · rw [List.nodup_append]
        exact ⟨nda, by simp, fun x hx y hy e => by
          rw [List.mem_singleton.mp hy] at e
          have := (old x hx).1
          rw [e, ha] at this
          cases this⟩
      · have nFa : a ≠ F0 := fun q => by rw [q, eF] at ha; cases ha
        rcases List.mem_append.mp hb with z | z
        · obtain ⟨o1, o2, o3⟩ := old b z
          exact ⟨(upd_ne o3).trans ((upd_ne (fun q : b = a => by rw [q, ha] at o1; cases o1)).trans o1), o2, o3⟩
        · rw [List.mem_singleton.mp z]
          exact ⟨(upd_ne nFa).trans upd_same, sm.free ha, nFa⟩
    · obtain ⟨as, eF, la, nda, old, sm⟩ := pp
      have hd1 := hd.same sm
      refine ⟨F0, rfl, as, hd1, .of_same sm, hF0, ⟨eF, nda, by omega, fun a ha => ⟨[], (old a ha).1, by simp, by simp⟩, fun q => (old _ q).2.2 rfl, fun q => ?_, fun q => ?_, nFd.1, nFd.2⟩, fun a ha => (old a ha).2.1⟩
      · exact (hd.new (old _ q).2.1).1 rfl
      · exact (hd.new (old _ q).2.1).2 rfl
  obtain ⟨Fa, rfl, hs⟩ := p2
  refine ⟨_, rfl, rfl, _, rfl, ite2 (fun h0 => ?_) (fun h0 => ?_)⟩
  · exact ⟨_, rfl, q _ _ (hs.more (by decide))⟩
  have hn1 : 1 ≤ n := Nat.pos_of_ne_zero fun k => h0 (by subst k; rfl)
  refine ⟨fun σ' H' => ∃ m : Nat, σ' = [some (.ref d), some (vI n), none, some (.ref Fa), some (vI m), none, none] ∧ HS H H' d c Fa n 0, ?_, fun σ3 H3 p3 => ?_⟩
  · refine ⟨_, rfl, _, _, rfl, rfl, _, rfl, ite2 (fun h1 => ?_) (fun h1 => ?_)⟩
    · exact ⟨3, rfl, hs⟩
    · refine ⟨_, rfl, d, c, 4, rfl, hs.choose_spec.ds, by decide, by decide, fun u H5 u0 u1 hd5 k5 => ?_⟩
      obtain ⟨u, rfl⟩ := Int.eq_ofNat_of_zero_le u0
      exact ⟨u, rfl, hs.draw hd5 k5⟩
  obtain ⟨m, rfl, hs⟩ := p3
  refine ⟨fun σ' H' => ∃ v2 v5, σ' = [some (.ref d), some (vI n), v2, some (.ref Fa), some (vI m), v5, none] ∧ HS H H' d c Fa n 2, ?_, fun σ4 H4 p4 => ?_⟩
  · refine ⟨_, rfl, n, rfl, (i62 (by omega)).1, (i62 (by omega)).2, for_it walk_range (fun i σ' H' => ∃ v2 v5, σ' = [some (.ref d), some (vI n), v2, some (.ref Fa), some (vI m), v5, none] ∧ HS H H' d c Fa n 2)
      ⟨_, _, rfl, hs.more (by decide)⟩ (fun _ _ _ _ _ => trivial) (fun k x σ' H4 H5 hk pp y => ?_) (fun σ' H' pp => ?_)⟩
    · obtain ⟨v2, v5, rfl, as, hs4⟩ := pp
      obtain ⟨rfl, rfl⟩ := y
      refine ⟨_, rfl, rfl, _, rfl, ite2 (fun h1 => ?_) (fun h1 => ?_)⟩
      · refine ⟨_, rfl, d, c, 3, rfl, hs4.ds, by decide, by decide, fun u H6 u0 u1 hd6 k6 => ⟨u, rfl, by omega, by omega, fun L hL => ?_⟩⟩
        have g6 := hs4.draw hd6 k6
        have nL := g6.notin hL
        refine lc_it walk_range (fun j H' => ∃ r : List Nat, H' L = some (.lst (r.map vI)) ∧ r.length = j ∧ (∀ x ∈ r, x < n) ∧ HSa H H' d c Fa n 2 as) ⟨[], upd_same, rfl, by simp, g6.upd nL⟩ (fun _ _ _ _ => trivial) (fun j x H7 H8 hj pp y => ?_) (fun H7 pp => ?_)
        · obtain ⟨r, eL, lr, hr, g7⟩ := pp
          obtain ⟨rfl, ey⟩ := y
          refine ⟨rfl, _, rfl, _, rfl, d, c, n, rfl, g7.ds, by omega, by omega, fun x H9 x0 x1 hd9 k9 => ?_⟩
          obtain ⟨x, rfl⟩ := Int.eq_ofNat_of_zero_le x0
          exact ⟨r.map vI, k9 _ _ (by simpa using nL.2.2.1) eL, by rw [List.length_map, sizeLine_eq]; omega, r ++ [x], by rw [upd_same, List.map_append]; rfl, by rw [List.length_append, lr]; rfl, fun z hz => (List.mem_append.mp hz).elim (hr z) (fun q => by rw [List.mem_singleton.mp q]; omega), (g7.draw hd9 k9).upd nL⟩
        · obtain ⟨r, eL, lr, hr, g7⟩ := pp
          refine ⟨_, rfl, _, rfl, Fa, _, _, k, rfl, rfl, g7.fo.e, ixK g7.fo.len hk, _, _, rfl, ?_⟩
          rw [← map_set]
          exact g7.put nL eL hr (by omega)
      refine ⟨_, rfl, rfl, _, rfl, ite2 (fun h2 => ?_) (fun h2 => ?_)⟩
      · have fin : ∀ (x : Nat) (L : Addr), x < n → H5 L = none → HS H (L2.upd (L2.upd H5 L (.lst ([x].map vI))) Fa (.lst ((as.map V.ref).set k (.ref L)))) d c Fa n 2 := fun x L hx hL => by
          have nL := hs4.notin hL
          rw [← map_set]
          exact (hs4.upd nL).put nL upd_same (by simpa using hx) (by simp)
        refine ⟨_, rfl, _, _, rfl, rfl, _, rfl, _, _, rfl, rfl, _, rfl, ite2 (fun h3 => ?_) (fun h3 => ?_)⟩
        · have h3' : k + 1 < n := by have := of_decide_eq_true h3; omega
          refine ⟨_, rfl, _, _, rfl, rfl, (by show 1 ≤ sizeLine; rw [sizeLine_eq]; decide), fun L hL => ⟨_, rfl, _, rfl, Fa, _, _, k, rfl, rfl, (upd_ne (hs4.notin hL).2.1.symm).trans hs4.fo.e, ixK hs4.fo.len hk, _, _, rfl, ?_⟩⟩
          have e : V.int (0 + (k : Int) + 1) = vI (k + 1) := congrArg V.int (by omega)
          show HS H (L2.upd (L2.upd H5 L (.lst [V.int (0 + (k : Int) + 1)])) Fa (.lst ((as.map V.ref).set k (.ref L)))) d c Fa n 2
          rw [e]
          exact fin (k + 1) L h3' hL
        · refine ⟨(by show 1 ≤ sizeLine; rw [sizeLine_eq]; decide), fun L hL => ⟨_, rfl, _, rfl, Fa, _, _, k, rfl, rfl, (upd_ne (hs4.notin hL).2.1.symm).trans hs4.fo.e, ixK hs4.fo.len hk, _, _, rfl, ?_⟩⟩
          exact fin 0 L (by omega) hL
      refine ⟨_, rfl, _, _, rfl, rfl, _, rfl, _, _, rfl, rfl, _, rfl, ite2 (fun h3 => ?_) (fun h3 => ?_)⟩
      · have h3' : k + 1 < n := by have := of_decide_eq_true h3; omega
        refine ⟨_, rfl, d, c, 3, rfl, hs4.ds, by decide, by decide, fun u H6 u0 u1 hd6 k6 => ⟨u, rfl, by omega, by omega, fun L hL => ?_⟩⟩
        have g6 := hs4.draw hd6 k6
        have nL := g6.notin hL
        refine lc_it walk_range (fun j H' => ∃ r : List Nat, H' L = some (.lst (r.map vI)) ∧ r.length = j ∧ (∀ x ∈ r, x < n) ∧ HSa H H' d c Fa n 2 as) ⟨[], upd_same, rfl, by simp, g6.upd nL⟩ (fun _ _ _ _ => trivial) (fun j x H7 H8 hj pp y => ?_) (fun H7 pp => ?_)
        · obtain ⟨r, eL, lr, hr, g7⟩ := pp
          obtain ⟨rfl, ey⟩ := y
          refine ⟨rfl, _, rfl, _, _, rfl, rfl, _, rfl, _, rfl, _, rfl, _, _, rfl, rfl, _, _, rfl, rfl, d, c, _, rfl, g7.ds, by omega, by omega, fun x H9 x0 x1 hd9 k9 => ?_⟩
          obtain ⟨x, rfl⟩ := Int.eq_ofNat_of_zero_le x0
          have hx : k + 1 + x < n := by omega
          have e : (fun i j : Int => V.int (i + j)) (0 + (k : Int) + 1) (x : Int) = vI (k + 1 + x) := congrArg V.int (by omega)
          refine ⟨_, _, rfl, rfl, ?_⟩
          rw [e]
          exact ⟨r.map vI, k9 _ _ (by simpa using nL.2.2.1) eL, by rw [List.length_map, sizeLine_eq]; omega, r ++ [k + 1 + x], by rw [upd_same, List.map_append]; rfl, by rw [List.length_append, lr]; rfl, fun z hz => (List.mem_append.mp hz).elim (hr z) (fun q => by rw [List.mem_singleton.mp q]; exact hx), (g7.draw hd9 k9).upd nL⟩
        · obtain ⟨r, eL, lr, hr, g7⟩ := pp
          refine ⟨_, rfl, _, rfl, Fa, _, _, k, rfl, rfl, g7.fo.e, ixK g7.fo.len hk, _, _, rfl, ?_⟩
          rw [← map_set]
          exact g7.put nL eL hr (by omega)
      · exact ⟨_, _, rfl, as, hs4⟩
    · exact pp
  obtain ⟨v2, v5, rfl, hs⟩ := p4
  refine ⟨fun σ' H' => ∃ v5 v6, σ' = [some (.ref d), some (vI n), v2, some (.ref Fa), some (vI m), v5, v6] ∧ HS H H' d c Fa n 5, ?_, fun σ4 H4 p4 => ?_⟩
  · refine ⟨_, rfl, rfl, _, rfl, ite2 (fun h1 => ?_) (fun h1 => ?_)⟩
    · refine ⟨_, rfl, d, c, 4, rfl, hs.choose_spec.ds, by decide, by decide, fun u H5 u0 u1 hd5 k5 => ⟨u, rfl, by omega, by omega, for_it walk_range (fun j σ' H' => ∃ v5 v6, σ' = [some (.ref d), some (vI n), v2, some (.ref Fa), some (vI m), v5, v6] ∧ HS H H' d c Fa n (2 + j))
        ⟨_, _, rfl, hs.draw hd5 k5⟩ (fun _ _ _ _ _ => trivial) (fun j x σ' H6 H7 hj pp y => ?_) (fun σ' H' pp => ?_)⟩⟩
      · obtain ⟨v5, v6, rfl, hs⟩ := pp
        obtain ⟨rfl, ey⟩ := y
        refine ⟨_, rfl, _, rfl, d, c, n, rfl, hs.choose_spec.ds, by omega, by omega, fun x H8 x0 x1 hd8 k8 => ?_⟩
        obtain ⟨x, rfl⟩ := Int.eq_ofNat_of_zero_le x0
        obtain ⟨as, g7⟩ := hs
        have g8 := g7.draw hd8 k8
        obtain ⟨a', ha', ea⟩ := g8.row (x := x) (by omega)
        obtain ⟨r, er, _⟩ := g8.app ha'
        refine ⟨_, rfl, _, rfl, Fa, _, _, .ref a', rfl, rfl, SqL.of g8.fo.e, atI_nat ea, .inl ⟨rfl, _, SqL.of er⟩, _, rfl, _, rfl, _, _, rfl, rfl, d, c, _, rfl, hd8, by omega, by omega, fun y H9 y0 y1 hd9 k9 => ?_⟩
        obtain ⟨y, rfl⟩ := Int.eq_ofNat_of_zero_le y0
        obtain ⟨r9, er9, lr9, g9⟩ := (g8.draw hd9 k9).app ha'
        exact ⟨_, _, _, rfl, rfl, er9, by rw [List.length_map, sizeLine_eq]; omega, _, _, rfl, as, g9 y (by omega)⟩
      · obtain ⟨v5, v6, rfl, hs⟩ := pp
        exact ⟨_, _, rfl, hs.more (by omega)⟩
    · exact ⟨_, _, rfl, hs.more (by decide)⟩
  obtain ⟨v5', v6, rfl, hs⟩ := p4
  refine ⟨fun σ' H' => σ' = [some (.ref d), some (vI n), v2, some (.ref Fa), some (vI m), v5', v6] ∧ HS H H' d c Fa n 20, ?_, fun σ4 H4 p4 => ?_⟩
  · refine ⟨_, rfl, rfl, _, rfl, ite2 (fun h1 => ?_) (fun h1 => ?_)⟩
    · obtain ⟨as, g⟩ := hs
      exact ⟨_, rfl, _, rfl, _, rfl, d, c, Fa, n, 5, as, rfl, g.ds, g.fo, hn1, by omega, by decide, fun H5 hd5 k5 fo5 => ⟨rfl, as, hd5, fun b o m e => k5 b o (fun q => (List.mem_cons.mp q).elim (fun z => m (by simp [z])) (fun z => by rw [g.anew b z] at e; cases e)) (g.k b o m e), g.nw, fo5, g.anew⟩⟩
    · exact ⟨rfl, hs.more (by decide)⟩
  obtain ⟨rfl, hs⟩ := p4
  refine ⟨fun σ' H' => ∃ v5 v6, σ' = [some (.ref d), some (vI n), v2, some (.ref Fa), some (vI m), v5, v6] ∧ HS H H' d c Fa n 25, ?_, fun σ4 H4 p4 => ?_⟩
  · refine ⟨_, rfl, rfl, _, rfl, ite2 (fun h1 => ?_) (fun h1 => ?_)⟩
    · refine ⟨_, rfl, d, c, 3, rfl, hs.choose_spec.ds, by decide, by decide, fun u H5 u0 u1 hd5 k5 => ⟨u, rfl, by omega, by omega, for_it walk_range (fun j σ' H' => ∃ v5 v6, σ' = [some (.ref d), some (vI n), v2, some (.ref Fa), some (vI m), v5, v6] ∧ HS H H' d c Fa n (20 + j))
        ⟨_, _, rfl, hs.draw hd5 k5⟩ (fun _ _ _ _ _ => trivial) (fun j x σ' H6 H7 hj pp y => ?_) (fun σ' H' pp => ?_)⟩⟩
      · obtain ⟨v5, v6, rfl, hs⟩ := pp
        obtain ⟨rfl, ey⟩ := y
        refine ⟨_, rfl, _, rfl, d, c, n, rfl, hs.choose_spec.ds, by omega, by omega, fun x H8 x0 x1 hd8 k8 => ?_⟩
        obtain ⟨x, rfl⟩ := Int.eq_ofNat_of_zero_le x0
        obtain ⟨as, g7⟩ := hs
        have g8 := g7.draw hd8 k8
        obtain ⟨a', ha', ea⟩ := g8.row (x := x) (by omega)
        obtain ⟨r, er, _⟩ := g8.app ha'
        refine ⟨_, rfl, _, rfl, Fa, _, _, .ref a', rfl, rfl, SqL.of g8.fo.e, atI_nat ea, .inl ⟨rfl, _, SqL.of er⟩, _, rfl, _, rfl, d, c, n, rfl, hd8, by omega, by omega, fun y H9 y0 y1 hd9 k9 => ?_⟩
        obtain ⟨y, rfl⟩ := Int.eq_ofNat_of_zero_le y0
        obtain ⟨r9, er9, lr9, g9⟩ := (g8.draw hd9 k9).app ha'
        exact ⟨_, _, _, rfl, rfl, er9, by rw [List.length_map, sizeLine_eq]; omega, _, _, rfl, as, g9 y (by omega)⟩
      · obtain ⟨v5, v6, rfl, hs⟩ := pp
        exact ⟨_, _, rfl, hs.more (by omega)⟩
    · exact ⟨_, _, rfl, hs.more (by decide)⟩
  obtain ⟨v5'', v6'', rfl, hs⟩ := p4
  exact ⟨_, rfl, q _ _ hs⟩
end
end Bf

set_option Elab.async false
set_option linter.all false
set_option maxRecDepth 100000
set_option maxHeartbeats 4000000
namespace Bf
open PySem PySem.Spec PyProof.Rows L2
/-! ### the links drawn -/
theorem LayAll.perm {H : Hp} {α : Type} {f : α → PyData} {ys xs : List V} (p : ys.Perm xs) : ∀ {L : List α}, LayAll H xs (L.map f) → ∃ L' : List α, L'.Perm L ∧ LayAll H ys (L'.map f) := by
  induction p with
  | nil => exact fun {L} h => ⟨L, .refl _, h⟩
  | cons x p ih =>
    intro L h
    cases L with
    | nil => cases h
    | cons a L =>
      rw [List.map_cons] at h
      cases h with
      | cons h1 h2 =>
        obtain ⟨L', q, g⟩ := ih h2
        exact ⟨a :: L', .cons _ q, .cons h1 g⟩
  | swap x y l =>
    intro L h
    match L, h with
    | [], h => cases h
    | [a], h => cases h with | cons _ h => cases h
    | a :: b :: L, h =>
      rw [List.map_cons, List.map_cons] at h
      cases h with
      | cons h1 h2 =>
        cases h2 with
        | cons h2 h3 => exact ⟨b :: a :: L, .swap _ _ _, .cons h2 (.cons h1 h3)⟩
  | trans p1 p2 ih1 ih2 =>
    intro L h
    obtain ⟨L1, q1, g1⟩ := ih2 h
    obtain ⟨L2, q2, g2⟩ := ih1 g1
    exact ⟨L2, q2.trans q1, g2⟩
theorem FO.keepS {S : List Addr} {n N : Nat} {H H' : Hp} {F d c : Addr} {as : List Addr} (h : FO n N H F d c as) (k : Keep S H H') (nF : F ∉ S) (na : ∀ a ∈ as, a ∉ S) : FO n N H' F d c as :=
  ⟨k _ _ nF h.e, h.nd, h.len, fun a ha => let ⟨r, e, p⟩ := h.row a ha; ⟨r, k _ _ (na a ha) e, p⟩, h.nF, h.nd_, h.nc, h.nFd, h.nFc⟩
structure LkI (n : Nat) (H : Hp) (d c p R A Fa : Addr) (xs ns : List Str) (as : List Addr) (L : Lks) : Prop where
  ds : DS H d c
  ep : H p = some (.lst (xs.map V.str))
  eR : H R = some (.lst (ns.map V.str))
  fo : FO n 25 H Fa d c as
  eA : ∃ us, H A = some (.lst us) ∧ LayAll H us (L.map linkD)
theorem LkI.off {n : Nat} {H : Hp} {d c p R A Fa l : Addr} {xs ns : List Str} {as : List Addr} {L : Lks} (h : LkI n H d c p R A Fa xs ns as L) (hl : H l = none) : l ∉ d :: c :: p :: R :: A :: Fa :: as := by
  obtain ⟨us, eA, _⟩ := h.eA
  intro q
  rcases List.mem_cons.mp q with e | q
  · exact (h.ds.new hl).1 e
  rcases List.mem_cons.mp q with e | q
  · exact (h.ds.new hl).2 e
  rcases List.mem_cons.mp q with e | q
  · have := h.ep; rw [← e, hl] at this; cases this
  rcases List.mem_cons.mp q with e | q
  · have := h.eR; rw [← e, hl] at this; cases this
  rcases List.mem_cons.mp q with e | q
  · rw [← e, hl] at eA; cases eA
  rcases List.mem_cons.mp q with e | q
  · have := h.fo.e; rw [← e, hl] at this; cases this
  · obtain ⟨r, e, _⟩ := h.fo.row l q
    rw [hl] at e; cases e
theorem LkI.move {S : List Addr} {n : Nat} {H H' : Hp} {d c p R A Fa : Addr} {xs ns : List Str} {as : List Addr} {L : Lks} (h : LkI n H d c p R A Fa xs ns as L) (hd : DS H' d c) (k : Keep S H H') (kt : KeepT H H') (hS : ∀ b ∈ p :: R :: A :: Fa :: as, b ∉ S) : LkI n H' d c p R A Fa xs ns as L := by
  obtain ⟨us, eA, lA⟩ := h.eA
  exact ⟨hd, k _ _ (hS _ (by simp)) h.ep, k _ _ (hS _ (by simp)) h.eR, h.fo.keepS k (hS _ (by simp)) (fun a ha => hS _ (by simp [ha])), us, k _ _ (hS _ (by simp)) eA, lA.keep' kt⟩
theorem LkI.same {n : Nat} {H H' : Hp} {d c p R A Fa : Addr} {xs ns : List Str} {as : List Addr} {L : Lks} (h : LkI n H d c p R A Fa xs ns as L) (s : Same H H') : LkI n H' d c p R A Fa xs ns as L :=
  h.move (S := []) (h.ds.same s) (.of_same s) (.same s) (by simp)
/-- a list that is none of these is written -/
theorem LkI.upd {n : Nat} {H : Hp} {d c p R A Fa l : Addr} {xs ns : List Str} {as : List Addr} {L : Lks} {o : HO} {ys : List V} (h : LkI n H d c p R A Fa xs ns as L) (hl : l ∉ d :: c :: p :: R :: A :: Fa :: as) (e : H l = some (.lst ys)) : LkI n (L2.upd H l o) d c p R A Fa xs ns as L := by
  have hl' : ∀ b ∈ d :: c :: p :: R :: A :: Fa :: as, b ∉ [l] := fun b hb q => hl (List.mem_singleton.mp q ▸ hb)
  exact h.move (S := [l]) (h.ds.keep (S := [l]) .at1 (hl' _ (by simp)) (hl' _ (by simp))) .at1 (.lst e) (fun b hb => hl' b (List.mem_cons_of_mem _ (List.mem_cons_of_mem _ hb)))
/-- a draw -/
theorem LkI.draw {n : Nat} {H H' : Hp} {d c p R A Fa : Addr} {xs ns : List Str} {as : List Addr} {L : Lks} (h : LkI n H d c p R A Fa xs ns as L) (nd : d ∉ [p, R, A]) (hd : DS H' d c) (k : Keep [d] H H') : LkI n H' d c p R A Fa xs ns as L :=
  h.move hd k (k.tup1 h.ds) (fun b hb q => by
    rw [List.mem_singleton.mp q] at hb
    simp only [List.mem_cons] at hb nd
    rcases hb with e | e | e | e | e
    · exact nd (.inl e)
    · exact nd (.inr (.inl e))
    · exact nd (.inr (.inr (.inl e)))
    · exact h.fo.nFd e.symm
    · exact h.fo.nd_ e)
/-- one more link -/
theorem LkI.link {n : Nat} {H : Hp} {d c p R A Fa t q : Addr} {xs ns : List Str} {as : List Addr} {L : Lks} {x : Str} {row : List Str} (h : LkI n H d c p R A Fa xs ns as L) (nA : A ∉ d :: c :: p :: R :: Fa :: as) (et : H t = some (.tup [.str x, .ref q])) (eq : H q = some (.tup (row.map V.str))) {us : List V} (eu : H A = some (.lst us)) :
    LkI n (L2.upd H A (.lst (us ++ [.ref t]))) d c p R A Fa xs ns as (L ++ [(x, row)]) := by
  obtain ⟨us', eA, lA⟩ := h.eA
  rw [eu] at eA
  cases eA
  have k1 : Keep [A] H (L2.upd H A (.lst (us ++ [.ref t]))) := .at1
  have kt : KeepT H (L2.upd H A (.lst (us ++ [.ref t]))) := .lst eu
  have n1 : ∀ b ∈ d :: c :: p :: R :: Fa :: as, b ∉ [A] := fun b hb q => nA (List.mem_singleton.mp q ▸ hb)
  refine ⟨h.ds.keep k1 (n1 _ (by simp)) (n1 _ (by simp)), k1 _ _ (n1 _ (by simp)) h.ep, k1 _ _ (n1 _ (by simp)) h.eR, h.fo.keepS k1 (n1 _ (by simp)) (fun a ha => n1 _ (by simp [ha])), _, upd_same, ?_⟩
  rw [List.map_append]
  exact (lA.keep' kt).snoc (.tup (kt _ _ et) (.cons (.str x) (.cons (.tup (kt _ _ eq) (.strs row)) .nil)))
theorem atI0 {xs : List V} {k : Nat} {v : V} (h : xs[k]? = some v) : atI xs (0 + (k : Int)) = some v := by
  rw [Int.zero_add]
  exact atI_nat h
theorem erase_permG {α : Type} : ∀ (zs : List α) (k : Nat) (y : α), zs[k]? = some y → (y :: zs.eraseIdx k).Perm zs
  | [], _, _, h => by simp at h
  | z :: zs, 0, y, h => by
    cases h
    exact .refl _
  | z :: zs, k + 1, y, h => (List.Perm.swap z y _).trans (.cons z (erase_permG zs k y (by simpa using h)))
def spLLinks : Sp := fun vs H Q _ => ∃ (d c : Addr), vs = [.ref d] ∧ DS H d c ∧
  ∀ (v : V) (L : Lks) (H' : Hp), DS H' d c → LinksAt H' v L → (∀ x ∈ nmsL L, PyData.strOk x = true) → (nmsL L).Nodup → L.length ≤ 31 → (∀ x row, (x, row) ∈ L → row.length ≤ 26) → Q v H'
section
variable {P : Program} {w : World} {K : PySem.W.Frag} {mg : Str → Option Value} {base : Heap} {f : Addr} {fd : FuncData}
theorem ok_llinks (F : Fun K "_law_links" "_law_links" s_law_links f fd) (T : Txt mg) (D_law_draw : Dn P w K mg base "_law_draw" ["_law_d", "_law_many"] 1 spDraw) (D_law_flat_pool : Dn P w K mg base "_law_flat_pool" [] 1 spFPool) (D_law_rare : Dn P w K mg base "_law_rare" ["_law_d", "_law_many"] 2 spRare)
    (D_law_pop : Dn P w K mg base "_law_pop" ["_law_d", "_law_row"] 2 spPop) (D_law_hung : Dn P w K mg base "_law_hung" ["_law_d", "_law_many"] 4 spLHung) (D_law_pick : Dn P w K mg base "_law_pick" ["_law_d", "_law_row"] 2 (spPickA K)) (D_law_shuffled : Dn P w K mg base "_law_shuffled" ["_law_d", "_law_row"] 2 (spShuf K)) :
    FnOk P w K mg base CX0 5 f fd ["_law_d"] spLLinks := by
  refine F.ok sc_law_links (fun vs H Q E h => ?_) (fun cdv A outer s H vs Q E hr h => ?_)
  · obtain ⟨d, c, rfl, _⟩ := h
    rfl
  obtain ⟨d, c, rfl, hd, q⟩ := h
  refine ⟨_, (pss_cons (ps_set (i := 1) sc_law_links.nd rfl (Or.inr rfl) (pe_dn0 D_law_flat_pool (hr.mono (by omega)) (by rfl)))
      (pss_cons (ps_set (i := 2) sc_law_links.nd rfl (Or.inl rfl) (pe_dn D_law_draw (hr.mono (by omega)) (by rfl) (pa_cons (pv 0) (pa_cons pe_int pa_nil))))
      (C8.pss_cut (ps_if (pt_val (pe_dn D_law_rare (hr.mono (by omega)) (by rfl) (pa_cons (pv 0) (pa_cons pe_int pa_nil)))) (pss_one (ps_set (i := 2) sc_law_links.nd rfl (Or.inl rfl) (pe_op op_add pe_int (pe_dn D_law_draw (hr.mono (by omega)) (by rfl) (pa_cons (pv 0) (pa_cons pe_int pa_nil)))))) pss_nil)
      (C8.pss_cut (ps_setLc (i := 4) (own := [("_law_k", 3)]) (g := (gName 3)) (tt := tYes) rfl sc_law_links.nd rfl rfl (sw_true rfl rfl rfl (by decide +kernel)) (pi_range1 rfl T.n_range (pa_cons (pv 2) pa_nil)) (blkOk_by (N := ["_law_d", "_law_names", "_law_many", "_law_k", "_law_row", "_law_links_here", "_law_found", "_law_told", "_law_at"]) (sc := defScope s_law_links) (by decide +kernel)) (fun _ _ _ _ _ => (pg_name (i := 3) sc_law_links.nd rfl (Or.inl rfl))) (fun _ _ _ _ _ => pts_nil) (fun _ _ _ _ _ => (pe_dn D_law_pop (hr.mono (by omega)) (by rfl) (pa_cons (pv 0) (pa_cons (pv 1) pa_nil)))))
      (pss_cons (ps_set (i := 5) sc_law_links.nd rfl (Or.inl rfl) (pe_lst pa_nil))
      (pss_cons (ps_set (i := 6) sc_law_links.nd rfl (Or.inl rfl) (pe_dn D_law_hung (hr.mono (by omega)) (by rfl) (pa_cons (pv 0) (pa_cons (pv 2) pa_nil))))
      (pss_cons (ps_for PassesOwn.never rfl (pi_range1 rfl T.n_range (pa_cons (pv 2) pa_nil)) (pg_name (i := 3) sc_law_links.nd rfl (Or.inl rfl)) (pss_cons (ps_set (i := 7) sc_law_links.nd rfl (Or.inl rfl) (pe_lst pa_nil))
      (C8.pss_cut (ps_for PassesOwn.never rfl (pi_list (pe_ix ix_list (pv 6) (pv 3) (fun _ _ => rfl))) (pg_name (i := 8) sc_law_links.nd rfl (Or.inl rfl)) (pss_one (ps_if (pt_cmpR op_notIn_seq (pe_ix ix_list (pv 4) (pv 8) (fun _ _ => rfl)) (pv 7) (by rfl)) (pss_one (ps_expr (pe_bm PySem.F.plainAttrs_list PySem.F.slot_list_append PySem.F.type_list_append mt_append (pv 7) (pa_cons (pe_ix ix_list (pv 4) (pv 8) (fun _ _ => rfl)) pa_nil)))) pss_nil)))
      (C8.pss_cut (ps_if (pt_cmpR op_eq (pe_dn D_law_draw (hr.mono (by omega)) (by rfl) (pa_cons (pv 0) (pa_cons pe_int pa_nil))) pe_int (nomark _)) (pss_one (ps_expr (pe_bm PySem.F.plainAttrs_list PySem.F.slot_list_insert PySem.F.type_list_insert mt_insert (pv 7) (pa_cons pe_int (pa_cons (pe_dn D_law_pick (hr.mono (by omega)) (by rfl) (pa_cons (pv 0) (pa_cons (pv 1) pa_nil))) pa_nil))))) pss_nil)
      (pss_one (ps_expr (pe_bm PySem.F.plainAttrs_list PySem.F.slot_list_append PySem.F.type_list_append mt_append (pv 5) (pa_cons (pe_tup (pa_cons (pe_ix ix_list (pv 4) (pv 3) (fun _ _ => rfl)) (pa_cons (pe_callTy call_tuple_of (by rfl) T.n_tuple (by decide +kernel) (pa_cons (pv 7) pa_nil)) pa_nil))) pa_nil))))))))
      (pss_one (ps_ret (pe_callTy cr_tupleF (by rfl) T.n_tuple (by decide +kernel) (pa_cons (pe_dn D_law_shuffled (hr.mono (by omega)) (by rfl) (pa_cons (pv 0) (pa_cons (pv 5) pa_nil))) pa_nil))))))))))), ?_⟩
  refine ⟨rfl, fun p xs hp lxs ndx sox => ?_⟩
  have sp := same_new hp (.lst (xs.map V.str))
  have ep : L2.upd H p (.lst (xs.map V.str)) p = some (.lst (xs.map V.str)) := upd_same
  have npd := hd.new hp
  have hd1 := hd.same sp
  generalize L2.upd H p (.lst (xs.map V.str)) = H1 at ep hd1 ⊢
  refine ⟨_, rfl, d, c, 9, rfl, hd1, by decide, by decide, fun u H2 u0 u1 hd2 k2 => ?_⟩
  obtain ⟨u, rfl⟩ := Int.eq_ofNat_of_zero_le u0
  have ep2 := k2 _ _ (by simpa using npd.1) ep
  refine ⟨fun σ' H' => ∃ n : Nat, n ≤ 31 ∧ σ' = [some (.ref d), some (.ref p), some (vI n), none, none, none, none, none, none] ∧ DS H' d c ∧ H' p = some (.lst (xs.map V.str)), ?_, fun σ3 H3 p3 => ?_⟩
  · refine ⟨_, rfl, d, c, 7, rfl, hd2, by decide, by decide, fun b H3 hd3 k3 => ⟨b, rfl, ?_⟩⟩
    have ep3 := k3 _ _ (by simpa using npd.1) ep2
    cases b
    · exact ⟨u, by omega, rfl, hd3, ep3⟩
    · refine ⟨_, rfl, d, c, 20, rfl, hd3, by decide, by decide, fun w H4 w0 w1 hd4 k4 => ⟨_, _, rfl, rfl, ?_⟩⟩
      obtain ⟨w, rfl⟩ := Int.eq_ofNat_of_zero_le w0
      exact ⟨12 + w, by omega, rfl, hd4, k4 _ _ (by simpa using npd.1) ep3⟩
  obtain ⟨n, n31, rfl, hd3, ep3⟩ := p3
  refine ⟨fun σ' H' => ∃ (R : Addr), σ' = [some (.ref d), some (.ref p), some (vI n), none, some (.ref R), none, none, none, none] ∧ ∃ (xs ns : List Str), DS H' d c ∧ H' p = some (.lst (xs.map V.str)) ∧ H' R = some (.lst (ns.map V.str)) ∧ ns.length = n ∧ xs.length = 47 - n ∧ (ns ++ xs).Nodup ∧ (∀ x ∈ ns, PyData.strOk x = true) ∧ R ≠ d ∧ R ≠ c ∧ R ≠ p, ?_, fun σ4 H4 p4 => ?_⟩
  · refine ⟨_, rfl, n, rfl, (i62 (by omega)).1, (i62 (by omega)).2, fun R hR => ?_⟩
    have nRd := hd3.new hR
    have nRp : R ≠ p := fun q => by rw [q, ep3] at hR; cases hR
    refine lc_it walk_range (fun i H' => ∃ (xs ns : List Str), DS H' d c ∧ H' p = some (.lst (xs.map V.str)) ∧ H' R = some (.lst (ns.map V.str)) ∧ ns.length = i ∧ xs.length = 47 - i ∧ (ns ++ xs).Nodup ∧ (∀ x ∈ ns, PyData.strOk x = true) ∧ (∀ x ∈ xs, PyData.strOk x = true))
      ⟨xs, [], hd3.same (same_new hR _), (upd_ne nRp.symm).trans ep3, upd_same, rfl, by omega, by simpa using ndx, by simp, sox⟩ (fun _ _ _ _ => trivial) (fun i x H4 H5 hi pp y => ?_) (fun H4 pp => ?_)
    · obtain ⟨xs, ns, hd4, ep4, eR4, lns, lxs, nd4, son, sox⟩ := pp
      obtain ⟨rfl, ey⟩ := y
      refine ⟨rfl, _, rfl, _, rfl, d, c, p, _, rfl, hd4, ep4, npd.1, npd.2, by rw [List.length_map]; omega, by rw [List.length_map]; omega, fun k y H6 hk hd6 e6 k6 => ?_⟩
      obtain ⟨z, hz, rfl⟩ : ∃ z, xs[k]? = some z ∧ y = .str z := by
        rw [List.getElem?_map] at hk
        obtain ⟨o', h1, h2⟩ := Option.map_eq_some_iff.mp hk
        exact ⟨o', h1, h2.symm⟩
      have hkl := (List.getElem?_eq_some_iff.mp hz).1
      refine ⟨ns.map V.str, k6 _ _ (by simp [nRd.1, nRp]) eR4, by rw [List.length_map, sizeLine_eq]; omega, xs.eraseIdx k, ns ++ [z], hd6.keep (S := [R]) .at1 (by simpa using nRd.1.symm) (by simpa using nRd.2.symm), ?_, by rw [upd_same, List.map_append]; rfl, by rw [List.length_append, lns]; rfl, by rw [List.length_eraseIdx_of_lt hkl]; omega, ?_, fun x hx => (List.mem_append.mp hx).elim (son x) (fun q => by rw [List.mem_singleton.mp q]; exact sox z (List.mem_of_getElem? hz)), fun x hx => sox x (List.mem_of_mem_eraseIdx hx)⟩
      · rw [upd_ne nRp.symm, e6, map_erase]
      · rw [List.append_assoc]
        refine (List.Perm.nodup_iff (List.Perm.append_left ns ?_)).mpr nd4
        exact erase_permG xs k z hz
    · obtain ⟨xs, ns, hd4, ep4, eR4, lns, lxs, nd4, son, sox⟩ := pp
      exact ⟨R, rfl, xs, ns, hd4, ep4, eR4, lns, lxs, nd4, son, nRd.1, nRd.2, nRp⟩
  obtain ⟨R, rfl, xs', ns, hd4, ep4, eR4, lns, lxs', nd4, son, nRd, nRc, nRp⟩ := p4
  refine ⟨Nat.zero_le _, fun A hA => ?_⟩
  have nAd := hd4.new hA
  have nAp : A ≠ p := fun q => by rw [q, ep4] at hA; cases hA
  have nAR : A ≠ R := fun q => by rw [q, eR4] at hA; cases hA
  have sA := same_new hA (.lst [])
  have eA : L2.upd H4 A (.lst []) A = some (.lst []) := upd_same
  have ep5 := sA _ _ ep4
  have eR5 := sA _ _ eR4
  have hd5 := hd4.same sA
  generalize L2.upd H4 A (.lst []) = H5 at eA ep5 eR5 hd5 ⊢
  refine ⟨_, rfl, _, rfl, d, c, n, rfl, hd5, n31, fun Fa H6 hs => ?_⟩
  obtain ⟨as, hs⟩ := hs
  have i0 : LkI n H6 d c p R A Fa xs' ns as [] := ⟨hs.ds, hs.k _ _ (by simpa using npd.1) ep5, hs.k _ _ (by simpa using nRd) eR5, hs.fo, [], hs.k _ _ (by simpa using nAd.1) eA, .nil⟩
  have nA : A ∉ d :: c :: p :: R :: Fa :: as := by
    intro q
    rcases List.mem_cons.mp q with e | q
    · exact nAd.1 e
    rcases List.mem_cons.mp q with e | q
    · exact nAd.2 e
    rcases List.mem_cons.mp q with e | q
    · exact nAp e
    rcases List.mem_cons.mp q with e | q
    · exact nAR e
    rcases List.mem_cons.mp q with e | q
    · have := hs.nw
      rw [← e, eA] at this
      cases this
    · have := hs.anew A q
      rw [eA] at this
      cases this
  have ndp : d ∉ [p, R, A] := by simp [npd.1.symm, nRd.symm, nAd.1.symm]
  refine ⟨_, rfl, n, rfl, (i62 (by omega)).1, (i62 (by omega)).2, for_it walk_range (fun i σ' H' => ∃ v3 v7 v8 L, σ' = [some (.ref d), some (.ref p), some (vI n), v3, some (.ref R), some (.ref A), some (.ref Fa), v7, v8] ∧ LkI n H' d c p R A Fa xs' ns as L ∧ nmsL L = ns.take i ∧ L.length = i ∧ ∀ x row, (x, row) ∈ L → row.length ≤ 26)
    ⟨_, _, _, [], rfl, i0, rfl, rfl, by simp⟩ (fun _ _ _ _ _ => trivial) (fun k x σ' H7 H8 hk pp y => ?_) (fun σ' H7 pp => ?_)⟩
  · obtain ⟨v3, v7, v8, L, rfl, iv, eL, lL, rL⟩ := pp
    obtain ⟨rfl, rfl⟩ := y
    refine ⟨Nat.zero_le _, fun T7 hT7 => ?_⟩
    have offT := iv.off hT7
    have ivT := iv.same (same_new hT7 (.lst []))
    have eT : L2.upd H8 T7 (.lst []) T7 = some (.lst []) := upd_same
    generalize L2.upd H8 T7 (.lst []) = H9 at ivT eT ⊢
    have hk' : k < n := by omega
    obtain ⟨a', ha'⟩ : ∃ a, as[k]? = some a := ⟨_, List.getElem?_eq_getElem (by rw [ivT.fo.len]; exact hk')⟩
    have hma := List.mem_of_getElem? ha'
    obtain ⟨r, er, hr1, hr2⟩ := ivT.fo.row a' hma
    have nTa : T7 ≠ a' := fun q => offT (by simp [q, hma])
    obtain ⟨x0, hx0⟩ : ∃ x, ns[k]? = some x := ⟨_, List.getElem?_eq_getElem (by omega)⟩
    refine ⟨fun σ' H' => ∃ (v8 : Option V), σ' = [some (.ref d), some (.ref p), some (vI n), some (.int (0 + (k : Int))), some (.ref R), some (.ref A), some (.ref Fa), some (.ref T7), v8] ∧ ∃ rs : List Str, LkI n H' d c p R A Fa xs' ns as L ∧ H' T7 = some (.lst (rs.map V.str)) ∧ rs.length ≤ 25, ?_, fun σ10 H10 p10 => ?_⟩
    · refine ⟨_, rfl, _, rfl, Fa, _, _, .ref a', rfl, rfl, SqL.of ivT.fo.e, atI0 (by rw [List.getElem?_map, ha']; rfl), a', rfl, ⟨_, SqL.of er⟩, for_it (walk_list (xs := r.map vI)) (fun j σ' H' => ∃ (v8 : Option V), σ' = [some (.ref d), some (.ref p), some (vI n), some (.int (0 + (k : Int))), some (.ref R), some (.ref A), some (.ref Fa), some (.ref T7), v8] ∧ ∃ rs : List Str, LkI n H' d c p R A Fa xs' ns as L ∧ H' a' = some (.lst (r.map vI)) ∧ H' T7 = some (.lst (rs.map V.str)) ∧ rs.length ≤ j)
        ⟨_, rfl, [], ivT, er, eT, Nat.le_refl _⟩ (fun j σ' H' _ pp => ?_) (fun j o σ' H10 H11 hj pp y => ?_) (fun σ' H' pp => ?_)⟩
      · obtain ⟨_, _, _, _, e, _⟩ := pp
        exact SqL.of e
      · obtain ⟨v8, rfl, rs, iv10, er10, eT10, lrs⟩ := pp
        obtain ⟨rfl, eo⟩ := y
        obtain ⟨z, hz, rfl⟩ := natAt eo
        have hzn := hr1 z (List.mem_of_getElem? hz)
        have hjl := (List.getElem?_eq_some_iff.mp hz).1
        obtain ⟨w, hw⟩ : ∃ w, ns[z]? = some w := ⟨_, List.getElem?_eq_getElem (by omega)⟩
        have ew : (ns.map V.str)[z]? = some (.str w) := by rw [List.getElem?_map, hw]; rfl
        refine ⟨_, rfl, _, rfl, R, _, _, .str w, rfl, rfl, SqL.of iv10.eR, atI_nat ew, _, rfl, T7, _, rfl, .inl (SqL.of eT10), rfl, by simp [flatV], _, rfl, ite2 (fun h1 => ?_) (fun h1 => ?_)⟩
        · refine ⟨_, rfl, .inl ⟨rfl, _, SqL.of eT10⟩, _, rfl, _, rfl, R, _, _, .str w, rfl, rfl, SqL.of iv10.eR, atI_nat ew, T7, _, _, rfl, rfl, eT10, by rw [List.length_map, sizeLine_eq]; omega, ?_⟩
          exact ⟨_, rfl, rs ++ [w], iv10.upd offT eT10, (upd_ne nTa.symm).trans er10, by rw [upd_same, List.map_append]; rfl, by rw [List.length_append, List.length_singleton]; omega⟩
        · exact ⟨_, rfl, rs, iv10, er10, eT10, by omega⟩
      · obtain ⟨v8, rfl, rs, iv10, er10, eT10, lrs⟩ := pp
        rw [List.length_map] at lrs
        exact ⟨_, rfl, rs, iv10, eT10, by omega⟩
    obtain ⟨v8', rfl, rs, iv10, eT10, lrs⟩ := p10
    refine ⟨fun σ' H' => σ' = [some (.ref d), some (.ref p), some (vI n), some (.int (0 + (k : Int))), some (.ref R), some (.ref A), some (.ref Fa), some (.ref T7), v8'] ∧ ∃ rs : List Str, LkI n H' d c p R A Fa xs' ns as L ∧ H' T7 = some (.lst (rs.map V.str)) ∧ rs.length ≤ 26, ?_, fun σ11 H11 p11 => ?_⟩
    · refine ⟨_, rfl, d, c, 4, rfl, iv10.ds, by decide, by decide, fun u H11 u0 u1 hd11 k11 => ⟨rfl, _, rfl, ite2 (fun h1 => ?_) (fun h1 => ?_)⟩⟩
      · have iv11 := iv10.draw ndp hd11 k11
        have eT11 := k11 _ _ (by simpa using fun q => offT (by simp [q])) eT10
        refine ⟨_, rfl, .inl ⟨rfl, _, SqL.of eT11⟩, _, rfl, _, rfl, d, c, p, xs'.map V.str, rfl, hd11, npd.1, .inl (SqL.of iv11.ep), by rw [List.length_map]; omega, by rw [List.length_map]; omega, fun q0 y H12 hy hd12 k12 => ?_⟩
        obtain ⟨w, hw, rfl⟩ : ∃ z, xs'[q0]? = some z ∧ y = .str z := by
          rw [List.getElem?_map] at hy
          obtain ⟨o', h1, h2⟩ := Option.map_eq_some_iff.mp hy
          exact ⟨o', h1, h2.symm⟩
        have iv12 := iv11.draw ndp hd12 k12
        have eT12 := k12 _ _ (by simpa using fun q => offT (by simp [q])) eT11
        exact ⟨T7, _, 0, .str w, rfl, rfl, eT12, by rw [List.length_map, sizeLine_eq]; omega, by decide, by decide, rfl, w :: rs, iv12.upd offT eT12, upd_same, by rw [List.length_cons]; omega⟩
      · exact ⟨rfl, rs, iv10.draw ndp hd11 k11, k11 _ _ (by simpa using fun q => offT (by simp [q])) eT10, by omega⟩
    obtain ⟨rfl, rs, iv11, eT11, lrs⟩ := p11
    obtain ⟨us, eA11, lA11⟩ := iv11.eA
    have lus := lA11.len
    rw [List.length_map] at lus
    refine ⟨_, rfl, .inl ⟨rfl, _, SqL.of eA11⟩, _, rfl, _, rfl, R, _, _, .str x0, rfl, rfl, SqL.of iv11.eR, atI0 (by rw [List.getElem?_map, hx0]; rfl), _, rfl, T7, _, rfl, .inl ⟨SqL.of eT11, fun l hl => ?_⟩⟩
    have s12 := same_new hl (.tup (rs.map V.str))
    have el : L2.upd H11 l (.tup (rs.map V.str)) l = some (.tup (rs.map V.str)) := upd_same
    have iv12 := iv11.same s12
    have eA12 := s12 _ _ eA11
    generalize L2.upd H11 l (.tup (rs.map V.str)) = H12 at el iv12 eA12 ⊢
    refine ⟨by show 2 ≤ sizeLine; rw [sizeLine_eq]; decide, fun t ht => ?_⟩
    have s13 := same_new ht (.tup [.str x0, .ref l])
    exact ⟨A, us, _, rfl, rfl, s13 _ _ eA12, by rw [sizeLine_eq]; omega, _, _, _, L ++ [(x0, rs)], rfl, (iv12.same s13).link nA upd_same (s13 _ _ el) (s13 _ _ eA12), by unfold nmsL at eL ⊢; rw [List.map_append, eL, take_snocS hx0]; rfl, by rw [List.length_append, lL]; rfl, fun x row h => (List.mem_append.mp h).elim (rL x row) (fun q => by
      have q' : (x, row) = (x0, rs) := by simpa using q
      cases q'
      exact lrs)⟩
  · obtain ⟨v3, v7, v8, L, rfl, iv, eL, lL, rL⟩ := pp
    obtain ⟨us, eA7, lA7⟩ := iv.eA
    refine ⟨_, rfl, _, rfl, d, c, A, us, rfl, iv.ds, nAd.1, .inl (SqL.of eA7), by rw [lA7.len, List.length_map]; omega, fun p8 ys H8 pm f8 e8 hd8 k8 => ?_⟩
    obtain ⟨L', pL, lY⟩ := (lA7.keep' (k8.tup1 iv.ds)).perm pm
    have nm : (nmsL L').Perm ns := by
      have := pL.map (·.1)
      unfold nmsL at eL ⊢
      rw [eL, List.take_of_length_le (by omega)] at this
      exact this
    refine ⟨p8, ys, rfl, SqL.of e8, fun l its hl => ?_⟩
    have s9 := same_new hl (.frz (tObj its) (.tup ys))
    exact q _ L' _ (hd8.same s9) ⟨l, ys, rfl, ⟨its, upd_same⟩, lY.keep' (.same s9)⟩ (fun x hx => son x (nm.mem_iff.mp hx)) (nm.nodup_iff.mpr (List.nodup_append.mp nd4).1) (by rw [pL.length_eq]; omega) (fun x row h => rL x row (pL.mem_iff.mp h))
end
end Bf

set_option Elab.async false
set_option linter.all false
set_option maxRecDepth 100000
set_option maxHeartbeats 4000000
namespace Bf
open PySem PySem.Spec PyProof.Rows L2
/-! ### the links changed in one step -/
theorem rdCatF {K : PySem.W.Frag} {H : Hp} {a b : Addr} {xs ys : List V} {Q : VK} (ha : SqT K H a xs) (hb : SqT K H b ys) (hl : xs.length + ys.length ≤ 1000) (h0 : xs = [] → FT H b ys) (h1 : ys = [] → FT H a xs)
    (k : ∀ (t : Addr) (H' : Hp), Same H H' → FT H' t (xs ++ ys) → Q (.ref t) H') : rCatF K (.ref a) (.ref b) H Q := by
  refine ⟨a, b, xs, ys, rfl, rfl, ha, hb, le1000 hl, fun e => ?_, fun _ e => ?_, fun _ _ p its hp => k p _ (same_new hp _) ⟨its, upd_same⟩⟩
  · have := h0 e
    subst e
    exact k b H (.refl _) this
  · have := h1 e
    subst e
    exact k a H (.refl _) (by rw [List.append_nil]; exact this)
theorem nms_put {x : Str} {r r0 : List Str} : ∀ {L : Lks} {i : Nat}, L[i]? = some (x, r0) → nmsL (L.take i ++ [(x, r)] ++ L.drop (i + 1)) = nmsL L
  | [], _, h => by simp at h
  | l :: L, 0, h => by
    have e : l = (x, r0) := by simpa using h
    rw [e]
    rfl
  | l :: L, i + 1, h => by
    have ih := nms_put (r := r) (L := L) (i := i) (by simpa using h)
    unfold nmsL at ih ⊢
    rw [List.take_succ_cons, List.drop_succ_cons, List.cons_append, List.cons_append, List.map_cons, ih, List.map_cons]
theorem one_line : 1 ≤ sizeLine := by rw [sizeLine_eq]; decide
theorem two_line : 2 ≤ sizeLine := by rw [sizeLine_eq]; decide
def spLChanged : Sp := fun vs H Q _ => ∃ (d c : Addr) (v : V) (L : Lks), vs = [.ref d, v] ∧ DS H d c ∧ LinksAt H v L ∧ (∀ x ∈ nmsL L, PyData.strOk x = true) ∧ (nmsL L).Nodup ∧ L.length ≤ 31 ∧ (∀ x row, (x, row) ∈ L → row.length ≤ 26) ∧
  ∀ (v' : V) (L' : Lks) (H' : Hp), DS H' d c → Keep [d] H H' → LinksAt H' v' L' → (∀ x ∈ nmsL L', PyData.strOk x = true) → (nmsL L').Nodup → L'.length ≤ 31 → (∀ x row, (x, row) ∈ L' → row.length ≤ 27) → Q v' H'
section
variable {P : Program} {w : World} {K : PySem.W.Frag} {mg : Str → Option Value} {base : Heap} {f : Addr} {fd : FuncData}
theorem ok_lchanged (F : Fun K "_law_changed" "_law_changed" s_law_changed f fd) (T : Txt mg) (D_law_draw : Dn P w K mg base "_law_draw" ["_law_d", "_law_many"] 1 spDraw) (D_law_pick : Dn P w K mg base "_law_pick" ["_law_d", "_law_row"] 2 (spPickA K)) :
    FnOk P w K mg base CX0 3 f fd ["_law_d", "_law_links_here"] spLChanged := by
  refine F.ok sc_law_changed (fun vs H Q E h => ?_) (fun cdv A outer s H vs Q E hr h => ?_)
  · obtain ⟨d, c, v, L, rfl, _⟩ := h
    rfl
  obtain ⟨d, c, v, L, rfl, hd, ⟨a, vs, rfl, ft, lay⟩, so, nd, h31, h26, q⟩ := h
  refine ⟨_, (pss_cons (ps_if (pt_cmpR op_eq (pe_callB call_len_seq (by rfl) T.n_len (by decide +kernel) (pa_cons (pv 1) pa_nil)) pe_int (nomark _)) (pss_one (ps_ret (pe_ifExp (pt_cmpR op_eq (pe_dn D_law_draw (hr.mono (by omega)) (by rfl) (pa_cons (pv 0) (pa_cons pe_int pa_nil))) pe_int (nomark _)) (pe_tupF (pa_cons (pe_tup (pa_cons pe_str (pa_cons (pe_tup (pa_cons pe_str pa_nil)) pa_nil))) pa_nil)) (pe_tupF (pa_cons (pe_tup (pa_cons pe_str (pa_cons (pe_tup (pa_cons pe_str pa_nil)) pa_nil))) pa_nil))))) pss_nil)
      (pss_cons (ps_set (i := 2) sc_law_changed.nd rfl (Or.inl rfl) (pe_dn D_law_draw (hr.mono (by omega)) (by rfl) (pa_cons (pv 0) (pa_cons (pe_callB call_len_seq (by rfl) T.n_len (by decide +kernel) (pa_cons (pv 1) pa_nil)) pa_nil))))
      (pss_cons (ps_asg (pe_ix ix_tup (pv 1) (pv 2) (fun _ _ => rfl)) (pg_tup rfl (pgs_cons (pg_name (i := 3) sc_law_changed.nd rfl (Or.inl rfl)) (pgs_cons (pg_name (i := 4) sc_law_changed.nd rfl (Or.inl rfl)) pgs_nil))))
      (C8.pss_cut (ps_if (PW.pt (pw_and (pt_cmpR op_gt (pe_callB call_len_seq (by rfl) T.n_len (by decide +kernel) (pa_cons (pv 4) pa_nil)) pe_int (nomark _)) (pw_and1 (pt_cmpR op_eq (pe_dn D_law_draw (hr.mono (by omega)) (by rfl) (pa_cons (pv 0) (pa_cons pe_int pa_nil))) pe_int (nomark _))))) (pss_cons (ps_set (i := 5) sc_law_changed.nd rfl (Or.inl rfl) (pe_dn D_law_draw (hr.mono (by omega)) (by rfl) (pa_cons (pv 0) (pa_cons (pe_callB call_len_seq (by rfl) T.n_len (by decide +kernel) (pa_cons (pv 4) pa_nil)) pa_nil))))
      (pss_one (ps_set (i := 4) sc_law_changed.nd rfl (Or.inl rfl) (pe_op op_catA (pe_slice sl_tupA (pv 4) po_none (po_some (pv 5))) (pe_slice sl_tupA (pv 4) (po_some (pe_op op_add (pv 5) pe_int)) po_none))))) (pss_cons (ps_set (i := 6) sc_law_changed.nd rfl (Or.inl rfl) (pe_ix ix_tup (pe_dn D_law_pick (hr.mono (by omega)) (by rfl) (pa_cons (pv 0) (pa_cons (pv 1) pa_nil))) pe_int (fun _ _ => rfl)))
      (pss_one (ps_if (pt_cmpR op_notIn_seq (pv 6) (pv 4) (by rfl)) (pss_one (ps_set (i := 4) sc_law_changed.nd rfl (Or.inl rfl) (pe_op op_catA (pv 4) (pe_tup (pa_cons (pv 6) pa_nil))))) pss_nil))))
      (pss_one (ps_ret (pe_op op_catF (pe_op op_catF (pe_slice sl_tupA (pv 1) po_none (po_some (pv 2))) (pe_tupF (pa_cons (pe_tup (pa_cons (pv 3) (pa_cons (pv 4) pa_nil))) pa_nil))) (pe_slice sl_tupA (pv 1) (po_some (pe_op op_add (pv 2) pe_int)) po_none)))))))), ?_⟩
  have lvs : vs.length = L.length := by rw [lay.len, List.length_map]
  have nad : a ≠ d := fun k => by
    obtain ⟨l, e⟩ := hd.at_
    obtain ⟨its, e2⟩ := ft
    rw [k, e] at e2
    cases e2
  have ftk : ∀ {H' : Hp}, Keep [d] H H' → FT H' a vs := fun k => let ⟨its, e⟩ := ft; ⟨its, k _ _ (by simpa using nad) e⟩
  refine ⟨_, rfl, a, _, rfl, .inr ft.seq, rfl, _, rfl, ite2 (fun h0 => ?_) (fun h0 => ?_)⟩
  · have fin : ∀ (H1 : Hp) (x y : Str), PyData.strOk x = true → DS H1 d c → Keep [d] H H1 → ∀ (t1 t2 t3 : Addr) (its : Array Value), H1 t1 = none → L2.upd H1 t1 (.tup [.str y]) t2 = none → L2.upd (L2.upd H1 t1 (.tup [.str y])) t2 (.tup [.str x, .ref t1]) t3 = none → Q (.ref t3) (L2.upd (L2.upd (L2.upd H1 t1 (.tup [.str y])) t2 (.tup [.str x, .ref t1])) t3 (.frz (tObj its) (.tup [.ref t2]))) := by
      intro H1 x y sox hd1 k1 t1 t2 t3 its n1 n2 n3
      have s1 := same_new n1 (.tup [.str y])
      have s2 := same_new n2 (.tup [.str x, .ref t1])
      have s3 := same_new n3 (.frz (tObj its) (.tup [.ref t2]))
      refine q _ [(x, [y])] _ (((hd1.same s1).same s2).same s3) (k1.trans (.of_same ((s1.trans s2).trans s3))) ⟨t3, _, rfl, ⟨its, upd_same⟩, .cons (.tup (s3 _ _ upd_same) (.cons (.str x) (.cons (.tup (s3 _ _ (s2 _ _ upd_same)) (.cons (.str y) .nil)) .nil))) .nil⟩ (fun z hz => by rw [show z = x by simpa [nmsL] using hz]; exact sox) (by simp [nmsL]) (by simp) (fun x' row h => ?_)
      have h' : (x', row) = (x, [y]) := by simpa using h
      cases h'
      simp
    refine ⟨_, rfl, d, c, 2, rfl, hd, by decide, by decide, fun u H1 u0 u1 hd1 k1 => ⟨rfl, _, rfl, ite2 (fun h1 => ?_) (fun h1 => ?_)⟩⟩
    · exact ⟨one_line, fun t1 n1 => ⟨two_line, fun t2 n2 => ⟨one_line, fun t3 its n3 => fin _ _ _ (by decide +kernel) hd1 k1 _ _ _ _ n1 n2 n3⟩⟩⟩
    · exact ⟨one_line, fun t1 n1 => ⟨two_line, fun t2 n2 => ⟨one_line, fun t3 its n3 => fin _ _ _ (by decide +kernel) hd1 k1 _ _ _ _ n1 n2 n3⟩⟩⟩
  have hv1 : 1 ≤ vs.length := Nat.pos_of_ne_zero fun k => h0 (by rw [k]; rfl)
  refine ⟨_, rfl, _, rfl, a, _, rfl, .inr ft.seq, d, c, _, rfl, hd, by omega, by omega, fun u H1 u0 u1 hd1 k1 => ?_⟩
  obtain ⟨i, rfl⟩ := Int.eq_ofNat_of_zero_le u0
  have hi : i < L.length := by omega
  have ft1 := ftk k1
  have lay1 := lay.keep' (k1.tup1 hd)
  obtain ⟨⟨x, r0⟩, hL⟩ : ∃ l, L[i]? = some l := ⟨_, List.getElem?_eq_getElem hi⟩
  have hr0 := h26 x r0 (List.mem_of_getElem? hL)
  obtain ⟨vx, evx, lx⟩ := lay1.at_ i (show (L.map linkD)[i]? = some (linkD (x, r0)) by rw [List.getElem?_map, hL]; rfl)
  obtain ⟨p, qa, rfl, ep, eq⟩ := linkAt lx
  refine ⟨_, rfl, _, rfl, a, _, _, _, rfl, rfl, ft1.seq, atI_nat evx, p, _, rfl, SqT.of ep, rfl, _, _, rfl, _, _, rfl, rfl, ?_⟩
  have nqd : qa ≠ d := fun k => by
    obtain ⟨l, e⟩ := hd1.at_
    rw [k, e] at eq
    cases eq
  refine ⟨fun σ' H' => ∃ (v5 v6 : Option V) (qb : Addr) (row : List Str), σ' = [some (.ref d), some (.ref a), some (vI i), some (.str x), some (.ref qb), v5, v6] ∧ DS H' d c ∧ Keep [d] H H' ∧ H' qb = some (.tup (row.map V.str)) ∧ row.length ≤ 27, ?_, fun σ2 H2 p2 => ?_⟩
  · refine ⟨_, rfl, qa, _, rfl, .inr (SqT.of eq), _, _, rfl, rfl, _, rfl, ite2 (fun w => ?_) (fun w => ?_)⟩
    · refine ⟨_, rfl, d, c, 2, rfl, hd1, by decide, by decide, fun u H5 u0 u1 hd5 k5 => ⟨rfl, _, rfl, ite2 (fun h1 => ?_) (fun h1 => ?_)⟩⟩
      · have hw : 0 < r0.length := by
          have := of_decide_eq_true w
          rw [List.length_map] at this
          exact Int.ofNat_lt.mp this
        refine ⟨_, rfl, _, rfl, qa, _, rfl, .inr (SqT.of (k5 _ _ (by simpa using nqd) eq)), d, c, _, rfl, hd5, by rw [List.length_map]; show (1 : Int) ≤ (r0.length : Int); omega, by rw [List.length_map]; show (r0.length : Int) < _; omega, fun g H6 g0 g1 hd6 k6 => ?_⟩
        obtain ⟨g, rfl⟩ := Int.eq_ofNat_of_zero_le g0
        have eq6 := (k5.trans k6) _ _ (by simpa using nqd) eq
        refine ⟨_, rfl, _, rfl, g, rfl, rdSlX eq6 fun t H8 s8 e8 => ⟨_, rfl, _, rfl, _, _, rfl, rfl, _, rfl, ?_⟩⟩
        try delta tNoPart
        refine rdSlX (s8 _ _ eq6) fun t' H9 s9 e9 => ?_
        have c1 : cutV ((x, r0).2.map V.str) none (some (g : Int)) = (r0.take g).map V.str := by rw [cutV_to, List.map_take]
        have c2 : cutV ((x, r0).2.map V.str) (some ((fun i j : Int => i + j) (g : Int) 1)) none = (r0.drop (g + 1)).map V.str := by
          show cutV ((x, r0).2.map V.str) (some ((g : Int) + 1)) none = _
          rw [cutV_succ, List.map_drop]
        rw [c1] at e8
        rw [c2] at e9
        refine rdCatX (s9 _ _ e8) e9 (by rw [List.length_map, List.length_map, List.length_take, List.length_drop]; omega) fun t'' H10 s10 e10 => ?_
        have s := (s8.trans s9).trans s10
        exact ⟨_, _, t'', r0.take g ++ r0.drop (g + 1), rfl, hd6.same s, ((k1.trans k5).trans k6).trans (.of_same s), by rw [e10, List.map_append], by rw [List.length_append, List.length_take, List.length_drop]; omega⟩
      · refine ⟨_, rfl, _, rfl, d, c, a, _, rfl, hd5, nad, .inr (ftk (k1.trans k5)).seq, by omega, by omega, fun j y H7 hy hd7 k7 => ?_⟩
        obtain ⟨⟨x1, r1⟩, hL1⟩ : ∃ l, L[j]? = some l := ⟨_, List.getElem?_eq_getElem (by rw [← lvs]; exact (List.getElem?_eq_some_iff.mp hy).1)⟩
        have kk := k5.trans k7
        have lay7 := lay1.keep' (kk.tup1 hd1)
        obtain ⟨vy, evy, ly⟩ := lay7.at_ j (show (L.map linkD)[j]? = some (linkD (x1, r1)) by rw [List.getElem?_map, hL1]; rfl)
        rw [hy] at evy
        cases evy
        obtain ⟨p1, q1, rfl, ep1, eq1⟩ := linkAt ly
        have eq7 := kk _ _ (by simpa using nqd) eq
        refine ⟨p1, _, 0, .str x1, rfl, rfl, SqT.of ep1, rfl, _, rfl, _, rfl, qa, _, rfl, .inr (SqT.of eq7), rfl, by simp [flatV], _, rfl, ite2 (fun v1 => ?_) (fun v1 => ?_)⟩
        · refine ⟨_, rfl, _, rfl, one_line, fun t nt => ?_⟩
          refine rdCatX (same_new nt _ _ _ eq7) upd_same (by rw [List.length_map]; show r0.length + 1 ≤ 1000; omega) fun t' H8 s8 e8 => ?_
          have s9 := (same_new nt (.tup [.str x1])).trans s8
          exact ⟨_, _, t', r0 ++ [x1], rfl, hd7.same s9, (k1.trans kk).trans (.of_same s9), by rw [e8, List.map_append]; rfl, by rw [List.length_append, List.length_singleton]; omega⟩
        · exact ⟨_, _, qa, r0, rfl, hd7, k1.trans kk, eq7, by omega⟩
    · refine ⟨_, rfl, _, rfl, d, c, a, _, rfl, hd1, nad, .inr (ftk (k1.trans (Keep.refl [d] H1))).seq, by omega, by omega, fun j y H7 hy hd7 k7 => ?_⟩
      obtain ⟨⟨x1, r1⟩, hL1⟩ : ∃ l, L[j]? = some l := ⟨_, List.getElem?_eq_getElem (by rw [← lvs]; exact (List.getElem?_eq_some_iff.mp hy).1)⟩
      have kk := (Keep.refl [d] H1).trans k7
      have lay7 := lay1.keep' (kk.tup1 hd1)
      obtain ⟨vy, evy, ly⟩ := lay7.at_ j (show (L.map linkD)[j]? = some (linkD (x1, r1)) by rw [List.getElem?_map, hL1]; rfl)
      rw [hy] at evy
      cases evy
      obtain ⟨p1, q1, rfl, ep1, eq1⟩ := linkAt ly
      have eq7 := kk _ _ (by simpa using nqd) eq
      refine ⟨p1, _, 0, .str x1, rfl, rfl, SqT.of ep1, rfl, _, rfl, _, rfl, qa, _, rfl, .inr (SqT.of eq7), rfl, by simp [flatV], _, rfl, ite2 (fun v1 => ?_) (fun v1 => ?_)⟩
      · refine ⟨_, rfl, _, rfl, one_line, fun t nt => ?_⟩
        refine rdCatX (same_new nt _ _ _ eq7) upd_same (by rw [List.length_map]; show r0.length + 1 ≤ 1000; omega) fun t' H8 s8 e8 => ?_
        have s9 := (same_new nt (.tup [.str x1])).trans s8
        exact ⟨_, _, t', r0 ++ [x1], rfl, hd7.same s9, (k1.trans kk).trans (.of_same s9), by rw [e8, List.map_append]; rfl, by rw [List.length_append, List.length_singleton]; omega⟩
      · exact ⟨_, _, qa, r0, rfl, hd7, k1.trans kk, eq7, by omega⟩
  obtain ⟨v5, v6, qb, row, rfl, hd2, k2, eqb, lrow⟩ := p2
  refine ⟨_, rfl, _, rfl, i, rfl, rdSl (ftk k2).seq fun t1 H3 s3 e3 => ?_⟩
  refine ⟨_, rfl, _, rfl, two_line, fun t2 n2 => ⟨one_line, fun t3 its n3 => ?_⟩⟩
  have s2 := same_new n2 (.tup [.str x, .ref qb])
  have s4 := same_new n3 (.frz (tObj its) (.tup [.ref t2]))
  have sa := (s3.trans s2).trans s4
  have e3a := (Keep.of_same (S := []) (s2.trans s4)).seqT (by simp) e3
  have e2a : L2.upd (L2.upd H3 t2 (.tup [.str x, .ref qb])) t3 (.frz (tObj its) (.tup [.ref t2])) t2 = some (.tup [.str x, .ref qb]) := s4 _ _ upd_same
  have eqa := sa _ _ eqb
  have fo : FT (L2.upd (L2.upd H3 t2 (.tup [.str x, .ref qb])) t3 (.frz (tObj its) (.tup [.ref t2]))) t3 [.ref t2] := ⟨its, upd_same⟩
  generalize L2.upd (L2.upd H3 t2 (.tup [.str x, .ref qb])) t3 (.frz (tObj its) (.tup [.ref t2])) = H4 at sa e3a e2a eqa fo ⊢
  have c1 : cutV vs none (some (i : Int)) = vs.take i := cutV_to vs i
  rw [c1] at e3a
  refine rdCatF e3a fo.seq (by rw [List.length_take]; show _ + 1 ≤ 1000; omega) (fun _ => fo) (fun e => by cases e) fun t5 H5 s5 e5 => ?_
  refine ⟨_, rfl, _, rfl, _, _, rfl, rfl, _, rfl, ?_⟩
  try delta tNoPart
  refine rdSl (ftk (k2.trans (.of_same (sa.trans s5)))).seq fun t6 H6 s6 e6 => ?_
  have c2 : cutV vs (some ((fun i j : Int => i + j) (i : Int) 1)) none = vs.drop (i + 1) := cutV_succ vs i
  rw [c2] at e6
  refine rdCatF (Keep.seqT (S := []) (.of_same s6) (by simp) e5.seq) e6 (by rw [List.length_append, List.length_take, List.length_drop]; show _ + 1 + _ ≤ 1000; omega) (fun e => by simp at e) (fun _ => e5.same s6) fun t7 H7 s7 e7 => ?_
  have sl := ((sa.trans s5).trans s6).trans s7
  have k7 := k2.trans (.of_same sl)
  have lay7 := lay.keep' (k7.tup1 hd)
  refine q _ (L.take i ++ [(x, row)] ++ L.drop (i + 1)) _ (hd2.same sl) k7 ⟨t7, _, rfl, e7, ?_⟩ (by rw [nms_put hL]; exact so) (by rw [nms_put hL]; exact nd) (by rw [List.length_append, List.length_append, List.length_take, List.length_drop]; show _ + 1 + _ ≤ 31; omega) (fun y r hy => ?_)
  · rw [List.map_append, List.map_append, List.map_take, List.map_drop]
    have s567 := (s5.trans s6).trans s7
    exact ((layTake _ _ i lay7).app (.cons (.tup (s567 _ _ e2a) (.cons (.str x) (.cons (.tup (s567 _ _ eqa) (.strs row)) .nil))) .nil)).app (layDrop _ _ (i + 1) lay7)
  · rcases List.mem_append.mp hy with z | z
    · rcases List.mem_append.mp z with z | z
      · exact Nat.le_succ_of_le (h26 y r (List.mem_of_mem_take z))
      · have z' : (y, r) = (x, row) := by simpa using z
        cases z'
        exact lrow
    · exact Nat.le_succ_of_le (h26 y r (List.mem_of_mem_drop z))
end
end Bf

set_option Elab.async false
set_option linter.all false
set_option maxRecDepth 100000
set_option maxHeartbeats 4000000
namespace Bf
open PySem PySem.Spec PyProof.Rows L2
/-! ### the law -/
def spLaw (K : PySem.W.Frag) : Sp := fun vs H Q _ => ∃ (a : Addr) (ns : List Int), vs = [.ref a] ∧ SqL K H a (ns.map V.int) ∧ ns.length ≤ 63 ∧ ∀ H', Q (.bl true) H'
theorem three_line : 3 ≤ sizeLine := by rw [sizeLine_eq]; decide
theorem RingIs.sub {L : Lks} {vs : List Str} (h : RingIs L vs) : ∀ x ∈ vs, x ∈ nmsL L := by
  rcases h with ⟨rfl, _⟩ | ⟨s, A, h1, _, _, g⟩
  · simp
  intro x hx
  obtain ⟨i, hi⟩ := List.mem_iff_getElem?.mp hx
  cases i with
  | zero =>
    rw [g.at0] at hi
    cases hi
    have hp := h1.pos
    have w := h1.w
    obtain ⟨k, rfl⟩ : ∃ k, A = k + 1 := ⟨A - 1, by omega⟩
    obtain ⟨_, o, e, _⟩ := w
    exact e.left
  | succ i =>
    have hl := (List.getElem?_eq_some_iff.mp hi).1
    obtain ⟨u, hu⟩ : ∃ u, vs[i]? = some u := ⟨_, List.getElem?_eq_getElem (by omega)⟩
    exact (g.nx i u x hu hi).1.1.right
theorem LinksAt.same {H H' : Hp} {v : V} {L : Lks} (h : LinksAt H v L) (s : Same H H') : LinksAt H' v L := let ⟨a, vs, e, ft, lay⟩ := h; ⟨a, vs, e, ft.same s, lay.keep' (.same s)⟩
theorem LinksAt.draw {H H' : Hp} {v : V} {L : Lks} {d c : Addr} (h : LinksAt H v L) (hd : DS H d c) (k : Keep [d] H H') : LinksAt H' v L := by
  obtain ⟨a, vs, e, ⟨its, ft⟩, lay⟩ := h
  refine ⟨a, vs, e, ⟨its, k _ _ (fun m => ?_) ft⟩, lay.keep' (k.tup1 hd)⟩
  obtain ⟨l, e⟩ := hd.at_
  rw [List.mem_singleton.mp m, e] at ft
  cases ft
section
variable {P : Program} {w : World} {K : PySem.W.Frag} {mg : Str → Option Value} {base : Heap} {f : Addr} {fd : FuncData}
theorem ok_law (F : Fun K "law" "law" s_law f fd) (T : Txt mg) (D_law_begin : Dn P w K mg base "_law_begin" ["_law_script"] 1 (spBegin K)) (D_law_links : Dn P w K mg base "_law_links" ["_law_d"] 5 spLLinks) (D_law_changed : Dn P w K mg base "_law_changed" ["_law_d", "_law_links_here"] 3 spLChanged)
    (D_law_ring : Dn P w K mg base "_law_ring" ["_law_links_here"] 2 spRing) (D_shortest_ring : Dn P w K mg base "shortest_ring" ["links"] 2 spShort) :
    FnOk P w K mg base CX0 6 f fd ["_law_script"] (spLaw K) := by
  refine F.ok sc_law (fun vs H Q E h => ?_) (fun cdv A outer s H vs Q E hr h => ?_)
  · obtain ⟨a, ns, rfl, _⟩ := h
    rfl
  obtain ⟨a, ns, rfl, hS, hl63, q⟩ := h
  refine ⟨_, (pss_cons (ps_set (i := 1) sc_law.nd rfl (Or.inl rfl) (pe_dn D_law_begin (hr.mono (by omega)) (by rfl) (pa_cons (pv 0) pa_nil)))
      (pss_cons (ps_set (i := 2) sc_law.nd rfl (Or.inl rfl) (pe_dn D_law_links (hr.mono (by omega)) (by rfl) (pa_cons (pv 1) pa_nil)))
      (pss_cons (ps_set (i := 3) sc_law.nd rfl (Or.inl rfl) (pe_dn D_law_changed (hr.mono (by omega)) (by rfl) (pa_cons (pv 1) (pa_cons (pv 2) pa_nil))))
      (pss_cons (ps_par (i := 4) (j := 5) (by rfl) sc_law.nd rfl rfl (by decide) rfl rfl (pa_cons (pe_dn D_law_ring (hr.mono (by omega)) (by rfl) (pa_cons (pv 2) pa_nil)) (pa_cons (pe_dn D_law_ring (hr.mono (by omega)) (by rfl) (pa_cons (pv 3) pa_nil)) pa_nil)) (by rfl))
      (pss_cons (ps_for PassesOwn.never rfl (pi_list (pe_lst (pa_cons (pe_tup (pa_cons (pv 2) (pa_cons (pv 4) pa_nil))) (pa_cons (pe_tup (pa_cons (pv 3) (pa_cons (pv 5) pa_nil))) (pa_cons (pe_tup (pa_cons (pv 2) (pa_cons (pv 4) pa_nil))) pa_nil))))) (pg_tup rfl (pgs_cons (pg_name (i := 6) sc_law.nd rfl (Or.inl rfl)) (pgs_cons (pg_name (i := 7) sc_law.nd rfl (Or.inl rfl)) pgs_nil))) (pss_cons (ps_set (i := 8) sc_law.nd rfl (Or.inl rfl) (pe_dn D_shortest_ring (hr.mono (by omega)) (by rfl) (pa_cons (pv 6) pa_nil)))
      (pss_one (ps_if (PW.pt (pw_or (pt_not (pt_val (pe_callB (call_isi : CallR _ _ (rIsi K)) (by rfl) T.n_isinstance (by decide +kernel) (pa_cons (pv 8) (pa_cons (pe_bltn rfl T.n_tuple (by decide +kernel) (v := .ty "tuple") rfl) pa_nil))))) (pw_or1 (pt_cmpR (op_neD hr.units) (pv 8) (pv 7) (nomark _))))) (pss_one (ps_ret pe_bl)) pss_nil))))
      (pss_one (ps_ret pe_bl))))))), ?_⟩
  refine ⟨_, rfl, a, ns, rfl, hS, hl63, fun d c H1 nd nc hd1 s1 => ?_⟩
  refine ⟨_, rfl, d, c, rfl, hd1, fun v L H2 hd2 lk2 so2 nd2 l2 r2 => ?_⟩
  refine ⟨_, rfl, _, rfl, d, c, v, L, rfl, hd2, lk2, so2, nd2, l2, r2, fun v' L' H3 hd3 k3 lk3 so3 nd3 l3 r3 => ?_⟩
  have lkA := lk2.draw hd2 k3
  refine ⟨_, rfl, v, L, rfl, lkA, nd2, by omega, fun x row h => Nat.le_trans (r2 x row h) (by decide), fun a1 us1 H4 s4 e1 ri1 => ?_⟩
  refine ⟨_, rfl, v', L', rfl, lk3.same s4, nd3, by omega, fun x row h => Nat.le_trans (r3 x row h) (by decide), fun a2 us2 H5 s5 e2 ri2 => ?_⟩
  have lkA5 := lkA.same (s4.trans s5)
  have lkB5 := lk3.same (s4.trans s5)
  have e15 := s5 _ _ e1
  refine ⟨_, _, rfl, ?_⟩
  refine ⟨_, rfl, _, rfl, two_line, fun t1 n1 => ⟨_, rfl, _, rfl, two_line, fun t2 n2 => ⟨_, rfl, _, rfl, two_line, fun t3 n3 => ⟨three_line, fun Ls nL => ?_⟩⟩⟩⟩
  have z1 := same_new n1 (.tup [v, .ref a1])
  have z2 := same_new n2 (.tup [v', .ref a2])
  have z3 := same_new n3 (.tup [v, .ref a1])
  have z4 := same_new nL (.lst [.ref t1, .ref t2, .ref t3])
  have f1 := z4 _ _ (z3 _ _ (z2 _ _ upd_same))
  have f2 := z4 _ _ (z3 _ _ upd_same)
  have f3 := z4 _ _ upd_same
  have zz := ((z1.trans z2).trans z3).trans z4
  have g1 := zz _ _ e15
  have g2 := zz _ _ e2
  have lkA6 := lkA5.same zz
  have lkB6 := lkB5.same zz
  have eL : L2.upd (L2.upd (L2.upd (L2.upd H5 t1 (.tup [v, .ref a1])) t2 (.tup [v', .ref a2])) t3 (.tup [v, .ref a1])) Ls (.lst [.ref t1, .ref t2, .ref t3]) Ls = some (.lst [.ref t1, .ref t2, .ref t3]) := upd_same
  generalize L2.upd (L2.upd (L2.upd (L2.upd H5 t1 (.tup [v, .ref a1])) t2 (.tup [v', .ref a2])) t3 (.tup [v, .ref a1])) Ls (.lst [.ref t1, .ref t2, .ref t3]) = H6 at f1 f2 f3 g1 g2 lkA6 lkB6 eL ⊢
  have items : ∀ (i : Nat) (x : V), ([V.ref t1, .ref t2, .ref t3] : List V)[i]? = some x → ∃ (t b : Addr) (y : V) (M : Lks) (us : List Str), x = V.ref t ∧ H6 t = some (HO.tup [y, V.ref b]) ∧ LinksAt H6 y M ∧ (nmsL M).Nodup ∧ M.length ≤ 40 ∧ (∀ x row, (x, row) ∈ M → row.length ≤ 100) ∧ H6 b = some (HO.tup (us.map V.str)) ∧ RingIs M us ∧ (∀ x ∈ us, PyData.strOk x = true) := by
    intro i x hx
    have A : ∀ t, H6 t = some (.tup [v, .ref a1]) → ∃ (t' b : Addr) (y : V) (M : Lks) (us : List Str), V.ref t = .ref t' ∧ H6 t' = some (HO.tup [y, V.ref b]) ∧ LinksAt H6 y M ∧ (nmsL M).Nodup ∧ M.length ≤ 40 ∧ (∀ x row, (x, row) ∈ M → row.length ≤ 100) ∧ H6 b = some (HO.tup (us.map V.str)) ∧ RingIs M us ∧ (∀ x ∈ us, PyData.strOk x = true) := fun t ht => ⟨t, a1, v, L, us1, rfl, ht, lkA6, nd2, by omega, fun x row h => Nat.le_trans (r2 x row h) (by decide), g1, ri1, fun x hx => so2 x (ri1.sub x hx)⟩
    match i, hx with
    | 0, hx =>
      cases hx
      exact A _ f1
    | 1, hx =>
      cases hx
      exact ⟨t2, a2, v', L', us2, rfl, f2, lkB6, nd3, by omega, fun x row h => Nat.le_trans (r3 x row h) (by decide), g2, ri2, fun x hx => so3 x (ri2.sub x hx)⟩
    | 2, hx =>
      cases hx
      exact A _ f3
    | i + 3, hx => simp at hx
  refine ⟨Ls, rfl, ⟨_, SqL.of eL⟩, for_it (walk_list (xs := [.ref t1, .ref t2, .ref t3])) (fun i σ' H' => ∃ v6 v7 v8 : Option V, σ' = [some (.ref a), some (.ref d), some v, some v', some (.ref a1), some (.ref a2), v6, v7, v8] ∧ Same H6 H')
    ⟨_, _, _, rfl, .refl _⟩ (fun i σ' H' _ pp => ?_) (fun i x σ' H7 H8 hi pp y => ?_) (fun σ' H' pp => ?_)⟩
  · obtain ⟨_, _, _, _, s⟩ := pp
    exact SqL.of (s _ _ eL)
  · obtain ⟨v6, v7, v8, rfl, s8⟩ := pp
    obtain ⟨rfl, ex⟩ := y
    obtain ⟨t, b, y, M, us, rfl, ft, lkM, ndM, lM, rM, gb, riM, soM⟩ := items i x ex
    refine ⟨t, _, rfl, SqT.of (s8 _ _ ft), rfl, _, _, rfl, _, _, rfl, rfl, ?_⟩
    refine ⟨_, rfl, y, M, rfl, lkM.same s8, ndM, lM, rM, fun b' us' H9 s9 e9 ri9 => ?_⟩
    obtain rfl := ri9.uniq riM
    refine ⟨_, rfl, _, _, .type "tuple", .type "tuple", true, rfl, .ty "tuple", .base (.tup e9), kit_ty (by decide +kernel), true, rfl, ?_⟩
    refine iteF ?_
    have gb9 := s9 _ _ (s8 _ _ gb)
    have sh : Sh 1 (.tuple (us'.map PyData.str)) := Sh.tup fun d hd => by
      obtain ⟨z, hz, rfl⟩ := List.mem_map.mp hd
      exact ⟨by simp only [PyData.canLay0]; exact soM z hz, by simp only [PyData.depth]; omega⟩
    refine ⟨_, rfl, _, rfl, _, _, (Lay.tup e9 (.strs us')).dp', (Lay.tup gb9 (.strs us')).dp', sh.shaped (by decide), sh.shaped (by decide), _, rfl, ?_⟩
    rw [eqv_self _ sh.1]
    exact iteF ⟨_, _, _, rfl, s8.trans s9⟩
  · exact q _
end
end Bf

set_option Elab.async false
set_option linter.all false
set_option maxRecDepth 100000
set_option maxHeartbeats 4000000
namespace Bf
open PySem PySem.Spec PyProof.Rows L2
/-! ### what the top has written -/
theorem all_mk {l : PySem.W.OpenLaw} {w : World} {K : PySem.W.Frag} {h : Heap} {mg : Str → Option Value} {fa f_steps_to f_ring_size f_least_ring f__law_begin f__law_draw f__law_flat_pool f__law_steps f__law_far f_shortest_ring f__law_pick f__law_pop f__law_rare f__law_shuffled f__law_ring f__law_added_rings f__law_changed f__law_hung f__law_links f_law : Addr} (X : K.In h) (G : h.Ns mainGlobals mg) (hfa : mg "law" = some (.ref fa))
    {od2 an2 : Option Addr} {sl2 : Array (Option Value)} {oc2 kV2 dc2 pm2 cd2 ct2 : Value}
    {od4 an4 : Option Addr} {sl4 : Array (Option Value)} {oc4 kV4 dc4 pm4 cd4 ct4 : Value}
    {od6 an6 : Option Addr} {sl6 : Array (Option Value)} {oc6 kV6 dc6 pm6 cd6 ct6 : Value}
    {od8 an8 : Option Addr} {sl8 : Array (Option Value)} {oc8 kV8 dc8 pm8 cd8 ct8 : Value}
    {od10 an10 : Option Addr} {sl10 : Array (Option Value)} {oc10 kV10 dc10 pm10 cd10 ct10 : Value}
    {od12 an12 : Option Addr} {sl12 : Array (Option Value)} {oc12 kV12 dc12 pm12 cd12 ct12 : Value}
    {od14 an14 : Option Addr} {sl14 : Array (Option Value)} {oc14 kV14 dc14 pm14 cd14 ct14 : Value}
    {od16 an16 : Option Addr} {sl16 : Array (Option Value)} {oc16 kV16 dc16 pm16 cd16 ct16 : Value}
    {od18 an18 : Option Addr} {sl18 : Array (Option Value)} {oc18 kV18 dc18 pm18 cd18 ct18 : Value}
    {od20 an20 : Option Addr} {sl20 : Array (Option Value)} {oc20 kV20 dc20 pm20 cd20 ct20 : Value}
    {od22 an22 : Option Addr} {sl22 : Array (Option Value)} {oc22 kV22 dc22 pm22 cd22 ct22 : Value}
    {od24 an24 : Option Addr} {sl24 : Array (Option Value)} {oc24 kV24 dc24 pm24 cd24 ct24 : Value}
    {od26 an26 : Option Addr} {sl26 : Array (Option Value)} {oc26 kV26 dc26 pm26 cd26 ct26 : Value}
    {od28 an28 : Option Addr} {sl28 : Array (Option Value)} {oc28 kV28 dc28 pm28 cd28 ct28 : Value}
    {od30 an30 : Option Addr} {sl30 : Array (Option Value)} {oc30 kV30 dc30 pm30 cd30 ct30 : Value}
    {od32 an32 : Option Addr} {sl32 : Array (Option Value)} {oc32 kV32 dc32 pm32 cd32 ct32 : Value}
    {od34 an34 : Option Addr} {sl34 : Array (Option Value)} {oc34 kV34 dc34 pm34 cd34 ct34 : Value}
    {od36 an36 : Option Addr} {sl36 : Array (Option Value)} {oc36 kV36 dc36 pm36 cd36 ct36 : Value}
    {od38 an38 : Option Addr} {sl38 : Array (Option Value)} {oc38 kV38 dc38 pm38 cd38 ct38 : Value}
    (a1 : PySem.W.nsIn K mainGlobals "steps_to" = some (some (.ref f_steps_to)))
    (l2 : K.lookup f_steps_to = some ⟨oc2, od2, .func (PySem.W.fnOf "steps_to" "steps_to" (defArgs s_steps_to) (defBody s_steps_to) (defScope s_steps_to) .none kV2 dc2 pm2 an2 cd2 ct2), sl2⟩) (c2 : PySem.W.codeIn K cd2 "steps_to" = true) (k2 : PySem.W.keepIn K (.ref f_steps_to) = true)
    (a3 : PySem.W.nsIn K mainGlobals "ring_size" = some (some (.ref f_ring_size)))
    (l4 : K.lookup f_ring_size = some ⟨oc4, od4, .func (PySem.W.fnOf "ring_size" "ring_size" (defArgs s_ring_size) (defBody s_ring_size) (defScope s_ring_size) .none kV4 dc4 pm4 an4 cd4 ct4), sl4⟩) (c4 : PySem.W.codeIn K cd4 "ring_size" = true) (k4 : PySem.W.keepIn K (.ref f_ring_size) = true)
    (a5 : PySem.W.nsIn K mainGlobals "least_ring" = some (some (.ref f_least_ring)))
    (l6 : K.lookup f_least_ring = some ⟨oc6, od6, .func (PySem.W.fnOf "least_ring" "least_ring" (defArgs s_least_ring) (defBody s_least_ring) (defScope s_least_ring) .none kV6 dc6 pm6 an6 cd6 ct6), sl6⟩) (c6 : PySem.W.codeIn K cd6 "least_ring" = true) (k6 : PySem.W.keepIn K (.ref f_least_ring) = true)
    (a7 : PySem.W.nsIn K mainGlobals "_law_begin" = some (some (.ref f__law_begin)))
    (l8 : K.lookup f__law_begin = some ⟨oc8, od8, .func (PySem.W.fnOf "_law_begin" "_law_begin" (defArgs s_law_begin) (defBody s_law_begin) (defScope s_law_begin) .none kV8 dc8 pm8 an8 cd8 ct8), sl8⟩) (c8 : PySem.W.codeIn K cd8 "_law_begin" = true) (k8 : PySem.W.keepIn K (.ref f__law_begin) = true)
    (a9 : PySem.W.nsIn K mainGlobals "_law_draw" = some (some (.ref f__law_draw)))
    (l10 : K.lookup f__law_draw = some ⟨oc10, od10, .func (PySem.W.fnOf "_law_draw" "_law_draw" (defArgs s_law_draw) (defBody s_law_draw) (defScope s_law_draw) .none kV10 dc10 pm10 an10 cd10 ct10), sl10⟩) (c10 : PySem.W.codeIn K cd10 "_law_draw" = true) (k10 : PySem.W.keepIn K (.ref f__law_draw) = true)
    (a11 : PySem.W.nsIn K mainGlobals "_law_flat_pool" = some (some (.ref f__law_flat_pool)))
    (l12 : K.lookup f__law_flat_pool = some ⟨oc12, od12, .func (PySem.W.fnOf "_law_flat_pool" "_law_flat_pool" (defArgs s_law_flat_pool) (defBody s_law_flat_pool) (defScope s_law_flat_pool) .none kV12 dc12 pm12 an12 cd12 ct12), sl12⟩) (c12 : PySem.W.codeIn K cd12 "_law_flat_pool" = true) (k12 : PySem.W.keepIn K (.ref f__law_flat_pool) = true)
    (a13 : PySem.W.nsIn K mainGlobals "_law_steps" = some (some (.ref f__law_steps)))
    (l14 : K.lookup f__law_steps = some ⟨oc14, od14, .func (PySem.W.fnOf "_law_steps" "_law_steps" (defArgs s_law_steps) (defBody s_law_steps) (defScope s_law_steps) .none kV14 dc14 pm14 an14 cd14 ct14), sl14⟩) (c14 : PySem.W.codeIn K cd14 "_law_steps" = true) (k14 : PySem.W.keepIn K (.ref f__law_steps) = true)
    (a15 : PySem.W.nsIn K mainGlobals "_law_far" = some (some (.ref f__law_far)))
    (l16 : K.lookup f__law_far = some ⟨oc16, od16, .func (PySem.W.fnOf "_law_far" "_law_far" (defArgs s_law_far) (defBody s_law_far) (defScope s_law_far) .none kV16 dc16 pm16 an16 cd16 ct16), sl16⟩) (c16 : PySem.W.codeIn K cd16 "_law_far" = true) (k16 : PySem.W.keepIn K (.ref f__law_far) = true)
    (a17 : PySem.W.nsIn K mainGlobals "shortest_ring" = some (some (.ref f_shortest_ring)))
    (l18 : K.lookup f_shortest_ring = some ⟨oc18, od18, .func (PySem.W.fnOf "shortest_ring" "shortest_ring" (defArgs s_shortest_ring) (defBody s_shortest_ring) (defScope s_shortest_ring) .none kV18 dc18 pm18 an18 cd18 ct18), sl18⟩) (c18 : PySem.W.codeIn K cd18 "shortest_ring" = true) (k18 : PySem.W.keepIn K (.ref f_shortest_ring) = true)
    (a19 : PySem.W.nsIn K mainGlobals "_law_pick" = some (some (.ref f__law_pick)))
    (l20 : K.lookup f__law_pick = some ⟨oc20, od20, .func (PySem.W.fnOf "_law_pick" "_law_pick" (defArgs s_law_pick) (defBody s_law_pick) (defScope s_law_pick) .none kV20 dc20 pm20 an20 cd20 ct20), sl20⟩) (c20 : PySem.W.codeIn K cd20 "_law_pick" = true) (k20 : PySem.W.keepIn K (.ref f__law_pick) = true)
    (a21 : PySem.W.nsIn K mainGlobals "_law_pop" = some (some (.ref f__law_pop)))
    (l22 : K.lookup f__law_pop = some ⟨oc22, od22, .func (PySem.W.fnOf "_law_pop" "_law_pop" (defArgs s_law_pop) (defBody s_law_pop) (defScope s_law_pop) .none kV22 dc22 pm22 an22 cd22 ct22), sl22⟩) (c22 : PySem.W.codeIn K cd22 "_law_pop" = true) (k22 : PySem.W.keepIn K (.ref f__law_pop) = true)
    (a23 : PySem.W.nsIn K mainGlobals "_law_rare" = some (some (.ref f__law_rare)))
    (l24 : K.lookup f__law_rare = some ⟨oc24, od24, .func (PySem.W.fnOf "_law_rare" "_law_rare" (defArgs s_law_rare) (defBody s_law_rare) (defScope s_law_rare) .none kV24 dc24 pm24 an24 cd24 ct24), sl24⟩) (c24 : PySem.W.codeIn K cd24 "_law_rare" = true) (k24 : PySem.W.keepIn K (.ref f__law_rare) = true)
    (a25 : PySem.W.nsIn K mainGlobals "_law_shuffled" = some (some (.ref f__law_shuffled)))
    (l26 : K.lookup f__law_shuffled = some ⟨oc26, od26, .func (PySem.W.fnOf "_law_shuffled" "_law_shuffled" (defArgs s_law_shuffled) (defBody s_law_shuffled) (defScope s_law_shuffled) .none kV26 dc26 pm26 an26 cd26 ct26), sl26⟩) (c26 : PySem.W.codeIn K cd26 "_law_shuffled" = true) (k26 : PySem.W.keepIn K (.ref f__law_shuffled) = true)
    (a27 : PySem.W.nsIn K mainGlobals "_law_ring" = some (some (.ref f__law_ring)))
    (l28 : K.lookup f__law_ring = some ⟨oc28, od28, .func (PySem.W.fnOf "_law_ring" "_law_ring" (defArgs s_law_ring) (defBody s_law_ring) (defScope s_law_ring) .none kV28 dc28 pm28 an28 cd28 ct28), sl28⟩) (c28 : PySem.W.codeIn K cd28 "_law_ring" = true) (k28 : PySem.W.keepIn K (.ref f__law_ring) = true)
    (a29 : PySem.W.nsIn K mainGlobals "_law_added_rings" = some (some (.ref f__law_added_rings)))
    (l30 : K.lookup f__law_added_rings = some ⟨oc30, od30, .func (PySem.W.fnOf "_law_added_rings" "_law_added_rings" (defArgs s_law_added_rings) (defBody s_law_added_rings) (defScope s_law_added_rings) .none kV30 dc30 pm30 an30 cd30 ct30), sl30⟩) (c30 : PySem.W.codeIn K cd30 "_law_added_rings" = true) (k30 : PySem.W.keepIn K (.ref f__law_added_rings) = true)
    (a31 : PySem.W.nsIn K mainGlobals "_law_changed" = some (some (.ref f__law_changed)))
    (l32 : K.lookup f__law_changed = some ⟨oc32, od32, .func (PySem.W.fnOf "_law_changed" "_law_changed" (defArgs s_law_changed) (defBody s_law_changed) (defScope s_law_changed) .none kV32 dc32 pm32 an32 cd32 ct32), sl32⟩) (c32 : PySem.W.codeIn K cd32 "_law_changed" = true) (k32 : PySem.W.keepIn K (.ref f__law_changed) = true)
    (a33 : PySem.W.nsIn K mainGlobals "_law_hung" = some (some (.ref f__law_hung)))
    (l34 : K.lookup f__law_hung = some ⟨oc34, od34, .func (PySem.W.fnOf "_law_hung" "_law_hung" (defArgs s_law_hung) (defBody s_law_hung) (defScope s_law_hung) .none kV34 dc34 pm34 an34 cd34 ct34), sl34⟩) (c34 : PySem.W.codeIn K cd34 "_law_hung" = true) (k34 : PySem.W.keepIn K (.ref f__law_hung) = true)
    (a35 : PySem.W.nsIn K mainGlobals "_law_links" = some (some (.ref f__law_links)))
    (l36 : K.lookup f__law_links = some ⟨oc36, od36, .func (PySem.W.fnOf "_law_links" "_law_links" (defArgs s_law_links) (defBody s_law_links) (defScope s_law_links) .none kV36 dc36 pm36 an36 cd36 ct36), sl36⟩) (c36 : PySem.W.codeIn K cd36 "_law_links" = true) (k36 : PySem.W.keepIn K (.ref f__law_links) = true)
    (a37 : PySem.W.nsIn K mainGlobals "law" = some (some (.ref f_law)))
    (l38 : K.lookup f_law = some ⟨oc38, od38, .func (PySem.W.fnOf "law" "law" (defArgs s_law) (defBody s_law) (defScope s_law) .none kV38 dc38 pm38 an38 cd38 ct38), sl38⟩) (c38 : PySem.W.codeIn K cd38 "law" = true) (k38 : PySem.W.keepIn K (.ref f_law) = true)
    (z39 : PySem.W.nsIn K mainGlobals "int" = some none)
    (z40 : PySem.W.nsIn K mainGlobals "len" = some none)
    (z41 : PySem.W.nsIn K mainGlobals "abs" = some none)
    (z42 : PySem.W.nsIn K mainGlobals "range" = some none)
    (z43 : PySem.W.nsIn K mainGlobals "tuple" = some none)
    (z44 : PySem.W.nsIn K mainGlobals "list" = some none)
    (z45 : PySem.W.nsIn K mainGlobals "min" = some none)
    (z46 : PySem.W.nsIn K mainGlobals "any" = some none)
    (z47 : PySem.W.nsIn K mainGlobals "sorted" = some none)
    (z48 : PySem.W.nsIn K mainGlobals "zip" = some none)
    (z49 : PySem.W.nsIn K mainGlobals "dict" = some none)
    (z50 : PySem.W.nsIn K mainGlobals "isinstance" = some none) :
    ∃ fd : FuncData, (∀ (s : Shared) (v : Value), BindsTo s fd ⟨[v], []⟩ [("_law_script", v)]) ∧ ∀ base : Heap, K.In base → base.Ns mainGlobals mg → FnOk l.prog w K mg base CX0 6 fa fd ["_law_script"] (spLaw K) := by
  have e := hfa.symm.trans (PySem.W.mg_of X G a37)
  cases e
  have T : Txt mg := ⟨PySem.W.mg_none_of X G z39, PySem.W.mg_none_of X G z40, PySem.W.mg_none_of X G z41, PySem.W.mg_none_of X G z42, PySem.W.mg_none_of X G z43, PySem.W.mg_none_of X G z44, PySem.W.mg_none_of X G z45, PySem.W.mg_none_of X G z46, PySem.W.mg_none_of X G z47, PySem.W.mg_none_of X G z48, PySem.W.mg_none_of X G z49, PySem.W.mg_none_of X G z50⟩
  have F_steps_to := fun_mk (st := s_steps_to) l2 c2 k2
  have F_ring_size := fun_mk (st := s_ring_size) l4 c4 k4
  have F_least_ring := fun_mk (st := s_least_ring) l6 c6 k6
  have F_law_begin := fun_mk (st := s_law_begin) l8 c8 k8
  have F_law_draw := fun_mk (st := s_law_draw) l10 c10 k10
  have F_law_flat_pool := fun_mk (st := s_law_flat_pool) l12 c12 k12
  have F_law_steps := fun_mk (st := s_law_steps) l14 c14 k14
  have F_law_far := fun_mk (st := s_law_far) l16 c16 k16
  have F_shortest_ring := fun_mk (st := s_shortest_ring) l18 c18 k18
  have F_law_pick := fun_mk (st := s_law_pick) l20 c20 k20
  have F_law_pop := fun_mk (st := s_law_pop) l22 c22 k22
  have F_law_rare := fun_mk (st := s_law_rare) l24 c24 k24
  have F_law_shuffled := fun_mk (st := s_law_shuffled) l26 c26 k26
  have F_law_ring := fun_mk (st := s_law_ring) l28 c28 k28
  have F_law_added_rings := fun_mk (st := s_law_added_rings) l30 c30 k30
  have F_law_changed := fun_mk (st := s_law_changed) l32 c32 k32
  have F_law_hung := fun_mk (st := s_law_hung) l34 c34 k34
  have F_law_links := fun_mk (st := s_law_links) l36 c36 k36
  have F_law := fun_mk (st := s_law) l38 c38 k38
  refine ⟨PySem.W.fnOf "law" "law" (defArgs s_law) (defBody s_law) (defScope s_law) .none kV38 dc38 pm38 an38 cd38 ct38, fun s v => .of_eq rfl, fun base _ _ => ?_⟩
  have D_steps_to : Dn l.prog w K mg base "steps_to" ["name", "hung"] 1 spSteps := ⟨f_steps_to, _, ok_steps F_steps_to T, PySem.W.mg_of X G a1, k2, (F_steps_to.binds (ps := ["name", "hung"]) fun _ _ _ _ _ _ us hl => match us, hl with | [_, _], _ => rfl)⟩
  have D_ring_size : Dn l.prog w K mg base "ring_size" ["name", "hangs", "steps"] 1 spSize := ⟨f_ring_size, _, ok_size F_ring_size T, PySem.W.mg_of X G a3, k4, (F_ring_size.binds (ps := ["name", "hangs", "steps"]) fun _ _ _ _ _ _ us hl => match us, hl with | [_, _, _], _ => rfl)⟩
  have D_least_ring : Dn l.prog w K mg base "least_ring" ["name", "hangs", "steps", "size"] 1 spLeast := ⟨f_least_ring, _, ok_least F_least_ring T, PySem.W.mg_of X G a5, k6, (F_least_ring.binds (ps := ["name", "hangs", "steps", "size"]) fun _ _ _ _ _ _ us hl => match us, hl with | [_, _, _, _], _ => rfl)⟩
  have D_law_begin : Dn l.prog w K mg base "_law_begin" ["_law_script"] 1 (spBegin K) := ⟨f__law_begin, _, ok_begin F_law_begin T, PySem.W.mg_of X G a7, k8, (F_law_begin.binds (ps := ["_law_script"]) fun _ _ _ _ _ _ us hl => match us, hl with | [_], _ => rfl)⟩
  have D_law_draw : Dn l.prog w K mg base "_law_draw" ["_law_d", "_law_many"] 1 spDraw := ⟨f__law_draw, _, ok_draw F_law_draw T, PySem.W.mg_of X G a9, k10, (F_law_draw.binds (ps := ["_law_d", "_law_many"]) fun _ _ _ _ _ _ us hl => match us, hl with | [_, _], _ => rfl)⟩
  have D_law_flat_pool : Dn l.prog w K mg base "_law_flat_pool" [] 1 spFPool := ⟨f__law_flat_pool, _, ok_fpool F_law_flat_pool , PySem.W.mg_of X G a11, k12, (F_law_flat_pool.binds (ps := []) fun _ _ _ _ _ _ us hl => match us, hl with | [], _ => rfl)⟩
  have D_law_steps : Dn l.prog w K mg base "_law_steps" ["_law_links_here"] 1 spLSteps := ⟨f__law_steps, _, ok_lsteps F_law_steps T, PySem.W.mg_of X G a13, k14, (F_law_steps.binds (ps := ["_law_links_here"]) fun _ _ _ _ _ _ us hl => match us, hl with | [_], _ => rfl)⟩
  have D_law_far : Dn l.prog w K mg base "_law_far" ["_law_steps_here", "_law_goal"] 1 spFar := ⟨f__law_far, _, ok_far F_law_far T, PySem.W.mg_of X G a15, k16, (F_law_far.binds (ps := ["_law_steps_here", "_law_goal"]) fun _ _ _ _ _ _ us hl => match us, hl with | [_, _], _ => rfl)⟩
  have D_shortest_ring : Dn l.prog w K mg base "shortest_ring" ["links"] 2 spShort := ⟨f_shortest_ring, _, ok_short F_shortest_ring T D_steps_to D_ring_size D_least_ring, PySem.W.mg_of X G a17, k18, (F_shortest_ring.binds (ps := ["links"]) fun _ _ _ _ _ _ us hl => match us, hl with | [_], _ => rfl)⟩
  have D_law_pick : Dn l.prog w K mg base "_law_pick" ["_law_d", "_law_row"] 2 (spPickA K) := ⟨f__law_pick, _, ok_pickA F_law_pick T D_law_draw, PySem.W.mg_of X G a19, k20, (F_law_pick.binds (ps := ["_law_d", "_law_row"]) fun _ _ _ _ _ _ us hl => match us, hl with | [_, _], _ => rfl)⟩
  have D_law_pop : Dn l.prog w K mg base "_law_pop" ["_law_d", "_law_row"] 2 spPop := ⟨f__law_pop, _, ok_pop F_law_pop T D_law_draw, PySem.W.mg_of X G a21, k22, (F_law_pop.binds (ps := ["_law_d", "_law_row"]) fun _ _ _ _ _ _ us hl => match us, hl with | [_, _], _ => rfl)⟩
  have D_law_rare : Dn l.prog w K mg base "_law_rare" ["_law_d", "_law_many"] 2 spRare := ⟨f__law_rare, _, ok_rare F_law_rare T D_law_draw, PySem.W.mg_of X G a23, k24, (F_law_rare.binds (ps := ["_law_d", "_law_many"]) fun _ _ _ _ _ _ us hl => match us, hl with | [_, _], _ => rfl)⟩
  have D_law_shuffled : Dn l.prog w K mg base "_law_shuffled" ["_law_d", "_law_row"] 2 (spShuf K) := ⟨f__law_shuffled, _, ok_shuf F_law_shuffled T D_law_draw, PySem.W.mg_of X G a25, k26, (F_law_shuffled.binds (ps := ["_law_d", "_law_row"]) fun _ _ _ _ _ _ us hl => match us, hl with | [_, _], _ => rfl)⟩
  have D_law_ring : Dn l.prog w K mg base "_law_ring" ["_law_links_here"] 2 spRing := ⟨f__law_ring, _, ok_ring F_law_ring T D_law_steps D_law_far, PySem.W.mg_of X G a27, k28, (F_law_ring.binds (ps := ["_law_links_here"]) fun _ _ _ _ _ _ us hl => match us, hl with | [_], _ => rfl)⟩
  have D_law_added_rings : Dn l.prog w K mg base "_law_added_rings" ["_law_d", "_law_many", "_law_found"] 3 spAdd := ⟨f__law_added_rings, _, ok_addR F_law_added_rings T D_law_draw D_law_shuffled, PySem.W.mg_of X G a29, k30, (F_law_added_rings.binds (ps := ["_law_d", "_law_many", "_law_found"]) fun _ _ _ _ _ _ us hl => match us, hl with | [_, _, _], _ => rfl)⟩
  have D_law_changed : Dn l.prog w K mg base "_law_changed" ["_law_d", "_law_links_here"] 3 spLChanged := ⟨f__law_changed, _, ok_lchanged F_law_changed T D_law_draw D_law_pick, PySem.W.mg_of X G a31, k32, (F_law_changed.binds (ps := ["_law_d", "_law_links_here"]) fun _ _ _ _ _ _ us hl => match us, hl with | [_, _], _ => rfl)⟩
  have D_law_hung : Dn l.prog w K mg base "_law_hung" ["_law_d", "_law_many"] 4 spLHung := ⟨f__law_hung, _, ok_lhung F_law_hung T D_law_draw D_law_added_rings, PySem.W.mg_of X G a33, k34, (F_law_hung.binds (ps := ["_law_d", "_law_many"]) fun _ _ _ _ _ _ us hl => match us, hl with | [_, _], _ => rfl)⟩
  have D_law_links : Dn l.prog w K mg base "_law_links" ["_law_d"] 5 spLLinks := ⟨f__law_links, _, ok_llinks F_law_links T D_law_draw D_law_flat_pool D_law_rare D_law_pop D_law_hung D_law_pick D_law_shuffled, PySem.W.mg_of X G a35, k36, (F_law_links.binds (ps := ["_law_d"]) fun _ _ _ _ _ _ us hl => match us, hl with | [_], _ => rfl)⟩
  exact ok_law F_law T D_law_begin D_law_links D_law_changed D_law_ring D_shortest_ring
end Bf
open PySem PySem.W PyProof.Rows
set_option maxRecDepth 100000 in
set_option maxHeartbeats 0 in
theorem PySem.Challenge.cw_beatfabric_k19_shortest_rings_holds : PySem.Challenge.rw_beatfabric_k19_shortest_rings.Holds := by
  w_on; o_law; k_head; (case hw => w_witness2)
  k_fill
  refine L2.walk_of (l := PySem.Challenge.rw_beatfabric_k19_shortest_rings) (n := 63) (k := 6) (x := "_law_script") (CX := fun _ => L2.CX0) (sp := fun w => Bf.spLaw _) rfl (by decide) rfl ⟨rfl, by decide, by decide⟩ (fun w h Y => PySem.W.kIn_of Y) ?F (fun _ _ a ns hl _ hS => ⟨a, ns, rfl, hS, hl, fun _ => rfl⟩) (fun _ _ _ _ _ h => h)
  case F =>
    intro w mg fa h KX G hmg
    refine' Bf.all_mk KX G hmg ?a1 ?l2 ?c2 ?k2 ?a3 ?l4 ?c4 ?k4 ?a5 ?l6 ?c6 ?k6 ?a7 ?l8 ?c8 ?k8 ?a9 ?l10 ?c10 ?k10 ?a11 ?l12 ?c12 ?k12 ?a13 ?l14 ?c14 ?k14 ?a15 ?l16 ?c16 ?k16 ?a17 ?l18 ?c18 ?k18 ?a19 ?l20 ?c20 ?k20 ?a21 ?l22 ?c22 ?k22 ?a23 ?l24 ?c24 ?k24 ?a25 ?l26 ?c26 ?k26 ?a27 ?l28 ?c28 ?k28 ?a29 ?l30 ?c30 ?k30 ?a31 ?l32 ?c32 ?k32 ?a33 ?l34 ?c34 ?k34 ?a35 ?l36 ?c36 ?k36 ?a37 ?l38 ?c38 ?k38 ?z39 ?z40 ?z41 ?z42 ?z43 ?z44 ?z45 ?z46 ?z47 ?z48 ?z49 ?z50
    (case a1 => k_is)
    (case l2 => k_is)
    (case c2 => k_is)
    (case k2 => k_is)
    (case a3 => k_is)
    (case l4 => k_is)
    (case c4 => k_is)
    (case k4 => k_is)
    (case a5 => k_is)
    (case l6 => k_is)
    (case c6 => k_is)
    (case k6 => k_is)
    (case a7 => k_is)
    (case l8 => k_is)
    (case c8 => k_is)
    (case k8 => k_is)
    (case a9 => k_is)
    (case l10 => k_is)
    (case c10 => k_is)
    (case k10 => k_is)
    (case a11 => k_is)
    (case l12 => k_is)
    (case c12 => k_is)
    (case k12 => k_is)
    (case a13 => k_is)
    (case l14 => k_is)
    (case c14 => k_is)
    (case k14 => k_is)
    (case a15 => k_is)
    (case l16 => k_is)
    (case c16 => k_is)
    (case k16 => k_is)
    (case a17 => k_is)
    (case l18 => k_is)
    (case c18 => k_is)
    (case k18 => k_is)
    (case a19 => k_is)
    (case l20 => k_is)
    (case c20 => k_is)
    (case k20 => k_is)
    (case a21 => k_is)
    (case l22 => k_is)
    (case c22 => k_is)
    (case k22 => k_is)
    (case a23 => k_is)
    (case l24 => k_is)
    (case c24 => k_is)
    (case k24 => k_is)
    (case a25 => k_is)
    (case l26 => k_is)
    (case c26 => k_is)
    (case k26 => k_is)
    (case a27 => k_is)
    (case l28 => k_is)
    (case c28 => k_is)
    (case k28 => k_is)
    (case a29 => k_is)
    (case l30 => k_is)
    (case c30 => k_is)
    (case k30 => k_is)
    (case a31 => k_is)
    (case l32 => k_is)
    (case c32 => k_is)
    (case k32 => k_is)
    (case a33 => k_is)
    (case l34 => k_is)
    (case c34 => k_is)
    (case k34 => k_is)
    (case a35 => k_is)
    (case l36 => k_is)
    (case c36 => k_is)
    (case k36 => k_is)
    (case a37 => k_is)
    (case l38 => k_is)
    (case c38 => k_is)
    (case k38 => k_is)
    (case z39 => k_is)
    (case z40 => k_is)
    (case z41 => k_is)
    (case z42 => k_is)
    (case z43 => k_is)
    (case z44 => k_is)
    (case z45 => k_is)
    (case z46 => k_is)
    (case z47 => k_is)
    (case z48 => k_is)
    (case z49 => k_is)
    (case z50 => k_is)
