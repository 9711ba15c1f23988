import PyProof.Rows.All
import Wide.All
import OpenK.AllK
import Wide.FinOn
import HandS.Base
import HandS.Call
import HandS.List
import HandS.Comp
import HandS.Ends
import HandS.Words
import HandS.Wide
import HandS.WideBits
import HandS.More
import HandS.IsInst
import HandS.CallLocal
import HandS.Text
import HandS.Iter
import HandS.Dict
import HandS.Defaults
import HandS.DeepEq
import HandS.Codes
import HandS.Walk
import PySem.Challenge.RW_beatfabric_k04_tokens
set_option Elab.async false
set_option linter.all false
set_option maxRecDepth 100000
set_option maxHeartbeats 4000000
namespace Bf
open PySem PySem.Spec PyProof.Rows L2

/-! ### rules that the layer lacks -/
section
variable {X : Cx}
def rGetL : V → V → Hp → VK → Prop := fun o i H Q => ∃ p xs k v, o = .ref p ∧ i = .int k ∧ H p = some (.lst xs) ∧ atI xs k = some v ∧ Q v H
theorem get_list : PGet X rGetL := by
  intro pins s σ H o i ov iv Q I ro ri h
  obtain ⟨p, xs, k, z, rfl, rfl, hp, he, q⟩ := h
  cases ro
  obtain ⟨t, rfl⟩ := ri
  obtain ⟨its, r, pl, hz⟩ := I.list (SqL.of hp)
  obtain ⟨j, h1, h2, h3, h4, h5⟩ := atI_get he
  obtain ⟨w, ew, rw'⟩ := r.get h2
  have hl := r.length
  have hn := line63
  have fin : EP X pins σ Q w s := ⟨z, H, I, rw', q⟩
  by_cases h0 : 0 ≤ k
  · have hj : k.toNat = j := by
      rw [seqIndex_of h0 h5] at h1
      exact Option.some.inj h1
    refine PySem.wpAny_getItem_list pl.isList h0 (by omega) (by rw [hj]; simpa using ew) fin
  · have hj : (k + (its.toArray.size : Int)).toNat = j := by
      rw [seqIndex_neg (by omega) h4] at h1
      rw [List.size_toArray, ← hl]
      exact Option.some.inj h1
    exact wpAny_getItem_list_neg pl.isList (by omega) (by rw [List.size_toArray] <;> omega) (by omega) (by rw [hj]; simpa using ew) fin

/-- max, min of two numbers that are not negative -/
theorem cr_maxN (hc : X.calm = true) : CallR X (.builtin "max") (fun xs H Q => ∃ i j : Nat, xs = [V.int i, V.int j] ∧ Q (V.int ((max i j : Nat) : Int)) H) := by
  intro pins s σ H vs us Q I r h
  obtain ⟨i, j, rfl, q⟩ := h
  refine call_max2 hc pins s σ H _ us Q I r ⟨i, j, rfl, ?_⟩
  have e : (if (j : Int) > (i : Int) then (j : Int) else (i : Int)) = ((max i j : Nat) : Int) := by
    by_cases h : (j : Int) > i
    · rw [if_pos h, Nat.max_eq_right (by omega)]
    · rw [if_neg h, Nat.max_eq_left (by omega)]
  rw [e]
  exact q
theorem cr_minN (hc : X.calm = true) : CallR X (.builtin "min") (fun xs H Q => ∃ i j : Nat, xs = [V.int i, V.int j] ∧ Q (V.int ((min i j : Nat) : Int)) H) := by
  intro pins s σ H vs us Q I r h
  obtain ⟨i, j, rfl, q⟩ := h
  refine call_min2 hc pins s σ H _ us Q I r ⟨i, j, rfl, ?_⟩
  have e : (if (j : Int) < (i : Int) then (j : Int) else (i : Int)) = ((min i j : Nat) : Int) := by
    by_cases h : (j : Int) < i
    · rw [if_pos h, Nat.min_eq_right (by omega)]
    · rw [if_neg h, Nat.min_eq_left (by omega)]
  rw [e]
  exact q
/-- sum of a tuple of ints -/
def rSumT (K : PySem.W.Frag) : List V → Hp → VK → Prop := fun vs H Q => ∃ (a : Addr) (ns : List Int), vs = [V.ref a] ∧ SqT K H a (ns.map V.int) ∧ Q (.int ns.sum) H
theorem cr_sumT (hc : X.calm = true) : CallR X (.builtin "sum") (rSumT X.K) := by
  intro pins s σ H vs us Q I r h
  obtain ⟨a, ns, rfl, hs, q⟩ := h
  obtain ⟨its, rv, hl, _⟩ := I.tuple hs
  rw [Vals.ref1 r]
  obtain ⟨xs, e⟩ := rv.ints.allInts.items
  have hn : numsOf (intItems xs).toList = ns := by rw [← e]; exact rv.ints.numsOf
  rw [nums_intItems] at hn
  have hl' : s.heap.IsTuple a (intItems xs) := by
    rw [← e]
    exact hl
  refine PySem.W.ktm_sumG (I.ok.hd hc) hl' fun h' tk t' hk => ?_
  rw [preSum_eq, List.take_of_length_le (by simp), hn]
  exact ⟨.int _, H, I.kept hk, ⟨_, rfl⟩, q⟩
end

/-- a def that stands, with its promise -/
def vI (n : Nat) : V := .int (n : Int)
structure Dn (P : Program) (w : World) (K : PySem.W.Frag) (mg : Str → Option Value) (base : Heap) (x : Str) (ps : List Str) (k : Nat) (sp : Sp) : Prop where
  ex : ∃ (f : Addr) (fd : FuncData), FnOk P w K mg base CX0 k f fd ps sp ∧ mg x = some (.ref f) ∧ PySem.W.keepIn K (.ref f) = true ∧ Binds K fd ps []
def tCallD (sp : Sp) (t : TA) : TE := fun σ H Q => t σ H fun vs H1 => sp vs H1 Q E0
section
variable {X : Cx} {x : Str} {ps : List Str} {k : Nat} {sp : Sp} {e : Expr} {es : List Expr} {t : TA} {p pos : Pos}
theorem pe_dn (D : Dn X.prog X.w X.K X.mg X.base x ps k sp) (hr : Room k X.A) (hg : Gl X x) (ha : PA X (e :: es) t) (hdb : (x == ("__debug__" : Str)) = false := by decide)
    (he : starEach (e :: es) X.env = (false, eval e X.env) :: starEach es X.env := by rfl) (hpl : (backTo pos (starEach es X.env)).any (·.1) = false := by rfl) :
    PE X (.Call (.Name x p) (e :: es) [] pos) (tCallD sp t) := by
  obtain ⟨f, fd, F, hm, hk, hb⟩ := D.ex
  refine ⟨fun pins s σ H Q I h => (pe_call (E := E0) F hr hg hm hk hb .nil pass0 ha hdb he hpl).run pins s σ H Q I ?_⟩
  have e0 : (fun (vs : List V) (H1 : Hp) => sp (vs ++ []) H1 Q E0) = fun vs H1 => sp vs H1 Q E0 := by
    funext vs H1
    rw [List.append_nil]
  show t σ H (fun vs H1 => sp (vs ++ []) H1 Q E0)
  rw [e0]
  exact h
theorem pe_dn0 (D : Dn X.prog X.w X.K X.mg X.base x ps k sp) (hr : Room k X.A) (hg : Gl X x) (hdb : (x == ("__debug__" : Str)) = false := by decide) :
    PE X (.Call (.Name x p) [] [] pos) (tCallD sp tNil) := by
  obtain ⟨f, fd, F, hm, hk, hb⟩ := D.ex
  exact ⟨fun pins s σ H Q I h => (pe_call0 (E := E0) F hr hg hm hk hb .nil pass0 hdb).run pins s σ H Q I h⟩
end
/-- the same where the last arguments are defaults -/
structure DnD (P : Program) (w : World) (K : PySem.W.Frag) (mg : Str → Option Value) (base : Heap) (x : Str) (ps : List Str) (dvs : List V) (k : Nat) (sp : Sp) : Prop where
  ex : ∃ (f : Addr) (fd : FuncData) (ds : List Value), FnOk P w K mg base CX0 k f fd ps sp ∧ mg x = some (.ref f) ∧ PySem.W.keepIn K (.ref f) = true ∧ Binds K fd ps ds ∧ Vals dvs ds
theorem pe_dnD {X : Cx} {x : Str} {ps : List Str} {dvs : List V} {k : Nat} {sp : Sp} {e : Expr} {es : List Expr} {t : TA} {p pos : Pos} (D : DnD X.prog X.w X.K X.mg X.base x ps dvs k sp) (hr : Room k X.A) (hg : Gl X x) (ha : PA X (e :: es) t) (hdb : (x == ("__debug__" : Str)) = false := by decide)
    (he : starEach (e :: es) X.env = (false, eval e X.env) :: starEach es X.env := by rfl) (hpl : (backTo pos (starEach es X.env)).any (·.1) = false := by rfl) :
    PE X (.Call (.Name x p) (e :: es) [] pos) (tCall sp dvs E0 t) := by
  obtain ⟨f, fd, ds, F, hm, hk, hb, hv⟩ := D.ex
  exact pe_call (E := E0) F hr hg hm hk hb hv pass0 ha hdb he hpl
/-- a def of the text, its promise: the level a letter -/
theorem Dn.mk' {P : Program} {w : World} {K : PySem.W.Frag} {mg : Str → Option Value} {base : Heap} {x : Str} {st : Stmt} {ps : List Str} {k : Nat} {sp : Sp} {f : Addr} {fd : FuncData}
    (F : Fun K x x st f fd) (hm : mg x = some (.ref f)) (hb : Binds K fd ps []) (ok : FnOk P w K mg base CX0 k f fd ps sp) : Dn P w K mg base x ps k sp :=
  ⟨f, fd, ok, hm, F.kp, hb⟩
end Bf
namespace Bf
open PySem PySem.Spec PyProof.Rows L2
section
variable {X : Cx} {d : Addr} {es : Array DictEntry} {n : Nat}
/-- d[k], d a dict of the module with text keys -/
theorem ix_kd (D : KDict X.K X.w d es n) : IxR X (fun x y H Q => ∃ (z : Str) (u0 : Value) (v0 : V), x = .ref d ∧ y = .str z ∧ PySem.W.nsIn X.K d z = some (some u0) ∧ RelV v0 u0 ∧ Q v0 H) := by
  intro value slice pins s σ H x y v u Q I rx ry h hs
  have h0 := h
  obtain ⟨z, u0, v0, rfl, rfl, e, r, q⟩ := h
  cases rx
  exact tail_any (kd_type D I) PySem.slot_dict_getitem.lookup (op_item_kd D pins s σ H (V.ref d) (V.str z) _ u Q I (show RelV (V.ref d) (Value.ref d) from rfl) ry h0) hs
/-- of several defs that the slot may hold: the def and its promise are told in the reading -/
def tCallH (P : Program) (w : World) (K : PySem.W.Frag) (mg : Str → Option Value) (base : Heap) (k i : Nat) (t : TA) : TE := fun σ H Q => ∃ f sp fd ps, σ[i]? = some (some (.ref f)) ∧ FnOk P w K mg base CX0 k f fd ps sp ∧ PySem.W.keepIn K (.ref f) = true ∧ Binds K fd ps [] ∧ t σ H fun vs H1 => sp vs H1 Q E0
theorem pe_held {i k : Nat} {x : Str} {p pos : Pos} {e : Expr} {es : List Expr} {t : TA} (hr : Room k X.A) (hN : X.N[i]? = some x) (hv : Vis X.env.scope x) (ha : PA X (e :: es) t)
    (hdb : (x == ("__debug__" : Str)) = false := by decide) (hcd : (x == ("__classdict__" : Str)) = false := by decide)
    (he : starEach (e :: es) X.env = (false, eval e X.env) :: starEach es X.env := by rfl) (hpl : (backTo pos (starEach es X.env)).any (·.1) = false := by rfl) : PE X (.Call (.Name x p) (e :: es) [] pos) (tCallH X.prog X.w X.K X.mg X.base k i t) := by
  refine ⟨fun pins s σ H Q I h => ?_⟩
  obtain ⟨f, sp, fd, ps, hs, F, hk, hb, ht⟩ := h
  refine (pe_callL (i := i) (f := f) (sp := sp) (dvs := []) (E := E0) F hr hN hv hk hb .nil pass0 ha hdb hcd he hpl).run pins s σ H Q I ⟨hs, ?_⟩
  have e0 : (fun (vs : List V) (H1 : Hp) => sp (vs ++ []) H1 Q E0) = fun vs H1 => sp vs H1 Q E0 := by
    funext vs H1
    rw [List.append_nil]
  show t σ H (fun vs H1 => sp (vs ++ []) H1 Q E0)
  rw [e0]
  exact ht
end
end Bf

set_option Elab.async false
set_option linter.all false
set_option maxRecDepth 100000
set_option maxHeartbeats 4000000
namespace Bf
open PySem PySem.Spec PyProof.Rows L2
/-! ### small steps of a reading -/
theorem ifY {c : Bool} {A B : Prop} (e : c = true) (h : A) : if c = true then A else B := by
  rw [if_pos e]
  exact h
theorem ifN {c : Bool} {A B : Prop} (e : c = false) (h : B) : if c = true then A else B := by
  rw [e]
  exact iteF h
theorem rdL {K : PySem.W.Frag} {H : Hp} {a : Addr} {xs : List V} {i : Int} {v : V} {Q : VK} (h : SqL K H a xs) (e : atI xs i = some v) (k : Q v H) : rIxL K (.ref a) (.int i) H Q := ⟨a, xs, _, v, rfl, rfl, h, e, k⟩
theorem rdC {v : V} {σ : L2.St} {H : Hp} {Q : VK} (k : Q v H) : tC v σ H Q := k
theorem seqNew {K : PySem.W.Frag} {H : Hp} {a p : Addr} {o : HO} {xs : List V} (hp : H p = none) (h : SqL K H a xs) : SqL K (upd H p o) a xs := by
  rcases h with (h | ⟨u, h⟩) | h
  · exact .inl (.inl (by rw [upd_ne (ne_of_none h hp)]; exact h))
  · exact .inl (.inr ⟨u, by rw [upd_ne (ne_of_none h hp)]; exact h⟩)
  · exact .inr h
theorem le1000 {n : Nat} (h : n ≤ 1000) : n ≤ sizeLine := Nat.le_of_lt (small1000 h)
end Bf

set_option Elab.async false
set_option linter.all false
set_option maxRecDepth 100000
set_option maxHeartbeats 4000000
namespace Bf
open PySem PySem.Spec PyProof.Rows L2 SX
/-! ### texts as lists of codes -/
def tx (l : List Nat) : V := .str (S l)
theorem str_tx (z : Str) : V.str z = tx z.cps.toList := congrArg V.str (S_tl z).symm
theorem inV_tx (l : List Nat) (ls : List (List Nat)) : inV (tx l) (ls.map tx) = decide (l ∈ ls) := by
  induction ls with
  | nil => rfl
  | cons a r ih =>
    show (eqV (tx a) (tx l) || inV (tx l) (r.map tx)) = decide (l ∈ a :: r)
    rw [ih]
    have e : eqV (tx a) (tx l) = decide (a = l) := S_beq_eq
    rw [e]
    by_cases h : a = l
    · subst h
      simp
    · have h' : ¬ l = a := fun q => h q.symm
      simp [h, h']
theorem flat_tx (ls : List (List Nat)) : (ls.map tx).all flatV = true := by
  induction ls with
  | nil => rfl
  | cons a r ih => exact ih
theorem cut_nat (l : List Nat) (a b : Nat) (h : a ≤ l.length) : cutS (S l) (some (a : Int)) (some (b : Int)) = S ((l.drop a).take (b - a)) := by
  unfold cutS
  rw [HT.sIx_nat, HT.sIx_nat, S_len, Nat.min_eq_left h]
  refine congrArg (fun z => S z) ?_
  show (l.drop a).take (min b l.length - a) = _
  by_cases hb : b ≤ l.length
  · rw [Nat.min_eq_left hb]
  · rw [Nat.min_eq_right (by omega), List.take_of_length_le (by rw [List.length_drop]; omega), List.take_of_length_le (by rw [List.length_drop]; omega)]
theorem atS {l : List Nat} {a : Nat} (h : a < l.length) : atI (S l).cps.toList ((a : Nat) : Int) = some l[a] := atI_nat (List.getElem?_eq_getElem h)
theorem len16 {l : List Nat} (h : l.length ≤ 16000000) : (S l).length ≤ sizeLine := by
  rw [S_len]
  exact Nat.le_trans h (by decide)
theorem tx_eq (a b : List Nat) : decide (tx a = tx b) = decide (a = b) := by
  by_cases h : a = b
  · subst h
    rw [decide_eq_true rfl, decide_eq_true rfl]
  · rw [decide_eq_false h]
    exact decide_eq_false (fun q => h (S_inj (V.str.inj q)))
/-- a text, so many times -/
theorem foldl_len (x : Array Nat) : ∀ (n : Nat) (acc : Array Nat), ((List.replicate n x).foldl (· ++ ·) acc).size = acc.size + n * x.size
  | 0, acc => by simp
  | n + 1, acc => by
    rw [List.replicate_succ, List.foldl_cons, foldl_len x n, Array.size_append, Nat.add_mul]
    omega
section
variable {X : Cx}
theorem op_rep_str : OpR X (binaryOp .Mult) (fun x y H Q => ∃ (a : List Nat) (n : Nat), x = tx a ∧ y = vI n ∧ 1 ≤ n ∧ n ≤ 100 ∧ a.length ≤ 10000 ∧ ∀ b : List Nat, b.length = a.length * n → Q (tx b) H) := by
  intro pins s σ H x y v u Q I rx ry h
  obtain ⟨a, n, rfl, rfl, h1, h2, h3, q⟩ := h
  obtain ⟨t, rfl⟩ := rx
  obtain ⟨t', rfl⟩ := ry
  have n1 : ¬ (n : Int) < 1 := by omega
  have ht : Builtin.Str.tooLong ((S a).length * (n : Int).toNat) = false := by
    unfold Builtin.Str.tooLong
    rw [S_len, Int.toNat_natCast]
    refine decide_eq_false (fun q => ?_)
    have m : a.length * n ≤ 10000 * 100 := Nat.mul_le_mul h3 h2
    have z : sizeLine = 16777216 := by decide
    omega
  refine PySem.P.mul_str (by rw [decide_eq_false (by omega), decide_eq_false (by omega)]; rfl) (fun _ _ => ?_) (fun _ _ => ht) ?_
  · rw [S_len]
    have m : (9223372036854775807 : Int) / n ≥ 9223372036854775807 / 100 := by
      refine Int.le_ediv_of_mul_le (by omega) ?_
      have : (9223372036854775807 / 100 : Int) * n ≤ (9223372036854775807 / 100) * 100 := Int.mul_le_mul_of_nonneg_left (by omega) (by decide)
      exact Int.le_trans this (by decide)
    have e : (2 ^ 63 - 1 : Int) = 9223372036854775807 := by decide
    rw [e]
    omega
  · rw [if_neg n1]
    have hlen : ∀ z : Array Nat, z.size = a.length * n → EP X pins σ Q (.str ⟨z⟩ s.toks) { s with toks := s.toks + 1 } := fun z hz => by
      have e : (⟨z⟩ : Str) = S z.toList := (S_tl ⟨z⟩).symm
      exact ⟨tx z.toList, H, I.tok _, ⟨_, by rw [← e]⟩, q _ (by rw [Array.length_toList, hz])⟩
    split
    · rename_i h
      have e : a.length = a.length * n := by
        rw [S_len] at h
        rcases Bool.or_eq_true _ _ ▸ h with h | h
        · have : (n : Int) = 1 := eq_of_beq h
          have : n = 1 := by omega
          subst this
          omega
        · have : a.length = 0 := eq_of_beq h
          rw [this]
          omega
      exact ⟨tx a, H, I, ⟨_, rfl⟩, q a e⟩
    · refine ⟨?_, hlen _ ?_⟩
      · show (List.foldl (fun x1 x2 => x1 ++ x2) #[] (List.replicate (n : Int).toNat (S a).cps)).size ≤ sizeLine
        rw [foldl_len, Int.toNat_natCast]
        have e : (S a).cps.size = a.length := by simp
        have m : n * a.length ≤ 100 * 10000 := Nat.mul_le_mul h2 h3
        have z : sizeLine = 16777216 := by decide
        rw [e, z]
        show 0 + n * a.length ≤ 16777216
        omega
      · rw [foldl_len, Int.toNat_natCast]
        show 0 + n * (S a).cps.size = a.length * n
        have e : (S a).cps.size = a.length := by simp
        rw [e, Nat.zero_add, Nat.mul_comm]
end
end Bf

set_option Elab.async false
set_option linter.all false
set_option maxRecDepth 100000
set_option maxHeartbeats 4000000
namespace Bf
open PySem PySem.Spec PyProof.Rows L2 SX
/-! ### tokens, sign by sign, over the codes of the signs -/
def RUNS : Str := "abcdefghijklmnopqrstuvwxyzABCDEFGHIJKLMNOPQRSTUVWXYZ0123456789"
def runL : List Nat := RUNS.cps.toList
def run (c : Nat) : Bool := decide (c ∈ runL)
def gap (c : Nat) : Bool := decide (c ∈ [32, 10])
def longs : List (List Nat) := [[46, 46], [61, 61], [33, 61], [60, 61], [60, 60], [62, 62]]
def longB (l : List Nat) : Bool := decide (l ∈ longs)
def goes (h : List Nat) (c : Nat) : Bool :=
  match h.getLast? with
  | none => false
  | some e => if gap c = true then false else if run e = true then run c else longB (h ++ [c])
def cut0 (c : Nat) : List Nat := if gap c = true then [] else [c]
def tokL : List Nat → List Nat → List (List Nat)
  | _, [] => []
  | h, c :: s => if goes h c = true then tokL (h ++ [c]) s else (if h = [] then [] else [h]) ++ tokL (cut0 c) s
theorem tok_nil (c : Nat) (s : List Nat) : tokL [] (c :: s) = tokL (cut0 c) s := by
  rw [tokL, if_neg (by simp [goes]), if_pos rfl]
  rfl
theorem tok_gap {c : Nat} {s : List Nat} (h : gap c = true) : tokL [] (c :: s) = tokL [] s := by
  rw [tok_nil, cut0, if_pos h]
theorem tok_one {c : Nat} {s : List Nat} (h : gap c = false) : tokL [] (c :: s) = tokL [c] s := by
  rw [tok_nil, cut0, if_neg (by rw [h]; decide)]
theorem tok_stop {h : List Nat} {c : Nat} {s : List Nat} (hn : h ≠ []) (e : goes h c = false) : tokL h (c :: s) = h :: tokL [] (c :: s) := by
  rw [tokL, if_neg (by rw [e]; decide), if_neg hn, tok_nil]
  rfl
theorem tok_go {h : List Nat} {c : Nat} {s : List Nat} (e : goes h c = true) : tokL h (c :: s) = tokL (h ++ [c]) s := by
  rw [tokL, if_pos e]
theorem run_gap {c : Nat} (h : run c = true) : gap c = false := by
  have m : c ∈ runL := of_decide_eq_true h
  refine decide_eq_false fun q => ?_
  have n : ∀ d ∈ [32, 10], d ∉ runL := by decide +kernel
  exact n c q m
theorem tok_run : ∀ (t h : List Nat) (e : Nat), h.getLast? = some e → run e = true → tokL h (t ++ [32]) = (h ++ t.takeWhile run) :: tokL [] (t.dropWhile run ++ [32])
  | [], h, e, hl, he => by
    have hn : h ≠ [] := fun q => by rw [q] at hl; cases hl
    have g : goes h 32 = false := by rw [goes, hl]; rfl
    rw [List.takeWhile_nil, List.dropWhile_nil, List.append_nil, List.nil_append, tok_stop hn g]
  | d :: t, h, e, hl, he => by
    have hn : h ≠ [] := fun q => by rw [q] at hl; cases hl
    cases hd : run d with
    | true =>
      have g : goes h d = true := by
        rw [goes, hl]
        show (if gap d = true then false else if run e = true then run d else longB (h ++ [d])) = true
        rw [if_neg (by rw [run_gap hd]; decide), if_pos he, hd]
      rw [List.cons_append, tok_go g, tok_run t (h ++ [d]) d (by simp) hd, List.takeWhile_cons_of_pos hd, List.dropWhile_cons_of_pos hd, List.append_assoc]
      rfl
    | false =>
      have g : goes h d = false := by
        rw [goes, hl]
        show (if gap d = true then false else if run e = true then run d else longB (h ++ [d])) = false
        rw [if_pos he, hd]
        split <;> rfl
      rw [List.cons_append, tok_stop hn g, List.takeWhile_cons_of_neg (by rw [hd]; decide), List.dropWhile_cons_of_neg (by rw [hd]; decide), List.append_nil]
      rfl
theorem tok_runs {c : Nat} {t : List Nat} (h : run c = true) : tokL [] (c :: t ++ [32]) = (c :: t.takeWhile run) :: tokL [] (t.dropWhile run ++ [32]) := by
  rw [List.cons_append, tok_one (run_gap h), tok_run t [c] c rfl h]
  rfl
theorem long_pair {c d : Nat} (h : longB [c, d] = true) : run c = false ∧ run d = false ∧ gap c = false ∧ gap d = false := by
  have n : ∀ l ∈ longs, ∀ x ∈ l, run x = false ∧ gap x = false := by decide +kernel
  have m := n _ (of_decide_eq_true h)
  exact ⟨(m c (by simp)).1, (m d (by simp)).1, (m c (by simp)).2, (m d (by simp)).2⟩
theorem long_len {l : List Nat} (h : longB l = true) : l.length = 2 := by
  have n : ∀ l ∈ longs, l.length = 2 := by decide +kernel
  exact n _ (of_decide_eq_true h)
theorem goes_sym {h : List Nat} {e c : Nat} (hl : h.getLast? = some e) (he : run e = false) : goes h c = (if gap c = true then false else longB (h ++ [c])) := by
  rw [goes, hl]
  show (if gap c = true then false else if run e = true then run c else longB (h ++ [c])) = _
  rw [if_neg (by rw [he]; decide : ¬ run e = true)]
theorem tok_pair {c d : Nat} {t : List Nat} (h : longB [c, d] = true) : tokL [] (c :: d :: t ++ [32]) = [c, d] :: tokL [] (t ++ [32]) := by
  obtain ⟨rc, rd, gc, gd⟩ := long_pair h
  have g : goes [c] d = true := by
    rw [goes_sym (e := c) rfl rc, if_neg (by rw [gd]; decide)]
    exact h
  rw [List.cons_append, List.cons_append, tok_one gc, tok_go g]
  have g3 : ∀ x, goes [c, d] x = false := fun x => by
    rw [goes_sym (e := d) rfl rd]
    split
    · rfl
    · cases q : longB ([c, d] ++ [x]) with
      | false => rfl
      | true =>
        have := long_len q
        simp at this
  cases t with
  | nil => exact tok_stop (by simp) (g3 _)
  | cons x t => exact tok_stop (by simp) (g3 _)
theorem tok_sign {c : Nat} {t : List Nat} (rc : run c = false) (gc : gap c = false) (h : longB (c :: t.take 1) = false) : tokL [] (c :: t ++ [32]) = [c] :: tokL [] (t ++ [32]) := by
  rw [List.cons_append, tok_one gc]
  cases t with
  | nil =>
    exact tok_stop (by simp) (by rw [goes_sym (e := c) rfl rc]; rfl)
  | cons x t =>
    refine tok_stop (by simp) ?_
    rw [goes_sym (e := c) rfl rc]
    split
    · rfl
    · exact h
end Bf

set_option Elab.async false
set_option linter.all false
set_option maxRecDepth 100000
set_option maxHeartbeats 4000000
namespace Bf
open PySem PySem.Spec PyProof.Rows L2
def topS (i : Nat) : Stmt := PySem.Challenge.pw_beatfabric_k04_tokens.main.body.getD i (.Pass ⟨0, 0, 0, 0⟩)
abbrev s_run_end : Stmt := topS 4
abbrev s_token_end : Stmt := topS 5
abbrev s_tokens_of : Stmt := topS 6
abbrev s_law_begin : Stmt := topS 8
abbrev s_law_draw : Stmt := topS 9
abbrev s_law_pick : Stmt := topS 10
abbrev s_law_run_chars : Stmt := topS 11
abbrev s_law_sign : Stmt := topS 12
abbrev s_law_piece : Stmt := topS 13
abbrev s_law_drawn_text : Stmt := topS 14
abbrev s_law_goes_on : Stmt := topS 15
abbrev s_law_tokens : Stmt := topS 16
abbrev s_law_is_told : Stmt := topS 17
abbrev s_law : Stmt := topS 18
theorem sc_run_end : FnScope ["text", "at", "end"] ["text", "at"] (defScope s_run_end) := ⟨rfl, rfl, rfl, by decide +kernel, rfl, by decide +kernel, by decide +kernel⟩
theorem sc_token_end : FnScope ["text", "at"] ["text", "at"] (defScope s_token_end) := ⟨rfl, rfl, rfl, by decide +kernel, rfl, by decide +kernel, by decide +kernel⟩
theorem sc_tokens_of : FnScope ["text", "tokens", "at", "end"] ["text"] (defScope s_tokens_of) := ⟨rfl, rfl, rfl, by decide +kernel, rfl, by decide +kernel, by decide +kernel⟩
theorem sc_law_begin : FnScope ["_law_script", "_law_cell"] ["_law_script"] (defScope s_law_begin) := ⟨rfl, rfl, rfl, by decide +kernel, rfl, by decide +kernel, by decide +kernel⟩
theorem sc_law_draw : FnScope ["_law_d", "_law_many", "_law_found", "_law_size", "_law_cell"] ["_law_d", "_law_many"] (defScope s_law_draw) := ⟨rfl, rfl, rfl, by decide +kernel, rfl, by decide +kernel, by decide +kernel⟩
theorem sc_law_pick : FnScope ["_law_d", "_law_row"] ["_law_d", "_law_row"] (defScope s_law_pick) := ⟨rfl, rfl, rfl, by decide +kernel, rfl, by decide +kernel, by decide +kernel⟩
theorem sc_law_run_chars : FnScope [] [] (defScope s_law_run_chars) := ⟨rfl, rfl, rfl, by decide +kernel, rfl, by decide +kernel, by decide +kernel⟩
theorem sc_law_sign : FnScope ["_law_d", "_law_is_free", "_law_signs"] ["_law_d", "_law_is_free"] (defScope s_law_sign) := ⟨rfl, rfl, rfl, by decide +kernel, rfl, by decide +kernel, by decide +kernel⟩
theorem sc_law_piece : FnScope ["_law_d", "_law_most", "_law_is_free", "_law_turn", "_law_run", "_law_k"] ["_law_d", "_law_most", "_law_is_free"] (defScope s_law_piece) := ⟨rfl, rfl, rfl, by decide +kernel, rfl, by decide +kernel, by decide +kernel⟩
theorem sc_law_drawn_text : FnScope ["_law_d", "_law_pieces", "_law_most", "_law_is_free", "_law_found", "_law_k"] ["_law_d", "_law_pieces", "_law_most", "_law_is_free"] (defScope s_law_drawn_text) := ⟨rfl, rfl, rfl, by decide +kernel, rfl, by decide +kernel, by decide +kernel⟩
theorem sc_law_goes_on : FnScope ["_law_held", "_law_char"] ["_law_held", "_law_char"] (defScope s_law_goes_on) := ⟨rfl, rfl, rfl, by decide +kernel, rfl, by decide +kernel, by decide +kernel⟩
theorem sc_law_tokens : FnScope ["_law_text", "_law_found", "_law_held", "_law_char"] ["_law_text"] (defScope s_law_tokens) := ⟨rfl, rfl, rfl, by decide +kernel, rfl, by decide +kernel, by decide +kernel⟩
theorem sc_law_is_told : FnScope ["_law_text", "_law_told", "_law_token"] ["_law_text"] (defScope s_law_is_told) := ⟨rfl, rfl, rfl, by decide +kernel, rfl, by decide +kernel, by decide +kernel⟩
theorem sc_law : FnScope ["_law_script", "_law_d", "_law_turn", "_law_one", "_law_two"] ["_law_script"] (defScope s_law) := ⟨rfl, rfl, rfl, by decide +kernel, rfl, by decide +kernel, by decide +kernel⟩
structure Txt (mg : Str → Option Value) : Prop where
  n_int : mg "int" = none
  n_len : mg "len" = none
  n_abs : mg "abs" = none
  n_isinstance : mg "isinstance" = none
  n_range : mg "range" = none
  n_tuple : mg "tuple" = none
  n_list : mg "list" = none
  n_str : mg "str" = none
  n_all : mg "all" = none
/-! ### the draws -/
/-- what stood elsewhere stands -/
def Keep (S : List Addr) (H H' : Hp) : Prop := ∀ b o, b ∉ S → H b = some o → H' b = some o
theorem Keep.refl (S : List Addr) (H : Hp) : Keep S H H := fun _ _ _ h => h
theorem Keep.trans {S : List Addr} {H H1 H2 : Hp} (a : Keep S H H1) (b : Keep S H1 H2) : Keep S H H2 := fun c o n h => b c o n (a c o n h)
theorem Keep.of_same {S : List Addr} {H H1 : Hp} (a : Same H H1) : Keep S H H1 := fun c o _ h => a c o h
theorem Keep.wide {S S' : List Addr} {H H1 : Hp} (a : Keep S H H1) (h : ∀ b, b ∈ S → b ∈ S') : Keep S' H H1 := fun c o n e => a c o (fun q => n (h c q)) e
theorem Keep.upd {S : List Addr} {H : Hp} {a : Addr} {o : HO} (h : a ∈ S) : Keep S H (upd H a o) := fun b u n e => by
  rw [upd_ne (fun q => n (by rw [q]; exact h))]
  exact e
theorem Keep.new {S : List Addr} {H : Hp} {a : Addr} {o : HO} (h : H a = none) : Keep S H (L2.upd H a o) := fun b u n e => by
  rw [upd_ne (ne_of_none e h)]
  exact e
/-- the state of the draws -/
def DS (H : Hp) (a c : Addr) : Prop := ∃ (at_ left st : Int) (cells : List Int), H a = some (.lst [.ref c, .int at_, .int left, .int st, .int 3]) ∧ 0 ≤ at_ ∧ H c = some (.lst (cells.map V.int))
theorem DS.ne {H : Hp} {a c : Addr} {x : V} {xs : List V} {cells : List Int} (h : H a = some (.lst (.ref c :: xs))) (hc : H c = some (.lst (cells.map V.int))) : c ≠ a := by
  intro e
  rw [e, h] at hc
  have q := HO.lst.inj (Option.some.inj hc)
  cases cells with
  | nil => cases q
  | cons x r => cases (List.cons.inj q).1
theorem DS.keep {S : List Addr} {H H' : Hp} {a c : Addr} (h : DS H a c) (k : Keep S H H') (ha : a ∉ S) (hc : c ∉ S) : DS H' a c := by
  obtain ⟨at_, left, st, cells, h1, h2, h3⟩ := h
  exact ⟨at_, left, st, cells, k _ _ ha h1, h2, k _ _ hc h3⟩
theorem DS.same {H H' : Hp} {a c : Addr} (h : DS H a c) (k : Same H H') : DS H' a c := h.keep (S := []) (Keep.of_same k) (by simp) (by simp)
theorem DS.new {H : Hp} {a c l : Addr} (h : DS H a c) (hl : H l = none) : l ≠ a ∧ l ≠ c := by
  obtain ⟨at_, left, st, cells, h1, h2, h3⟩ := h
  exact ⟨(ne_of_none h1 hl).symm, (ne_of_none h3 hl).symm⟩
theorem pow6000 : (0 : Int) < 1 * 2 ^ (6000 : Int).toNat := by
  rw [Int.one_mul]
  exact Int.pow_pos (by decide)
def spDraw : Sp := fun vs H Q _ => ∃ (a c : Addr) (m : Int), vs = [.ref a, .int m] ∧ DS H a c ∧ 1 ≤ m ∧ m < 1073741824 ∧ ∀ (r : Int) (H' : Hp), 0 ≤ r → r < m → DS H' a c → Keep [a] H H' → Q (.int r) H'
section
variable {P : Program} {w : World} {K : PySem.W.Frag} {mg : Str → Option Value} {base : Heap}
theorem ok_draw {f : Addr} {fd : FuncData} (F : Fun K "_law_draw" "_law_draw" s_law_draw f fd) (T : Txt mg) : FnOk P w K mg base CX0 1 f fd ["_law_d", "_law_many"] spDraw := by
  refine F.ok sc_law_draw (fun vs H Q E h => ?_) (fun cdv A outer s H vs Q E hr h => ?_)
  · obtain ⟨a, c, m, rfl, _⟩ := h
    rfl
  obtain ⟨a, c, m, rfl, ⟨at_, left, st, cells, ha, h0, hc⟩, m1, m2, q⟩ := h
  have hca : c ≠ a := DS.ne (x := .non) ha hc
  refine ⟨_, (pss_cons (ps_if (pt_cmpR op_gt (pe_ix ix_list (pv 0) pe_int (fun _ _ => rfl)) pe_int (nomark _)) (pss_cons (ps_set (i := 2) sc_law_draw.nd rfl (Or.inl rfl) (pe_ix ix_list (pv 0) pe_int (fun _ _ => rfl)))
      (pss_cons (ps_asg (pe_op op_fdiv (pv 2) (pv 1)) (pg_sub (pv 0) pe_int set_list))
      (pss_one (ps_ret (pe_op op_mod (pe_callTy call_int1 (by rfl) T.n_int (by decide +kernel) (pa_cons (pv 2) pa_nil)) (pv 1)))))) pss_nil)
      (pss_cons (ps_set (i := 3) sc_law_draw.nd rfl (Or.inl rfl) pe_int)
      (C8.pss_cut (ps_if (pt_cmpR op_lt (pe_ix ix_list (pv 0) pe_int (fun _ _ => rfl)) (pe_callB call_len_seq (by rfl) T.n_len (by decide +kernel) (pa_cons (pe_ix ix_list (pv 0) pe_int (fun _ _ => rfl)) pa_nil)) (nomark _)) (pss_cons (ps_set (i := 4) sc_law_draw.nd rfl (Or.inl rfl) (pe_ix ix_list (pe_ix ix_list (pv 0) pe_int (fun _ _ => rfl)) (pe_ix ix_list (pv 0) pe_int (fun _ _ => rfl)) (fun _ _ => rfl)))
      (pss_one (ps_set (i := 3) sc_law_draw.nd rfl (Or.inl rfl) (pe_op op_add (pe_op op_mul pe_int (pe_callB call_abs (by rfl) T.n_abs (by decide +kernel) (pa_cons (pv 4) pa_nil))) (pe_callTy call_int1 (by rfl) T.n_int (by decide +kernel) (pa_cons (pe_cmpR op_lt (pv 4) pe_int (nomark _)) pa_nil)))))) pss_nil)
      (C8.pss_cut (ps_augS (pv 0) pe_int get_list pe_int ip_add set_list)
      (pss_cons (ps_if (pt_cmpR op_ge (pv 3) (pe_op op_mul pe_int (pe_op op_pow pe_int pe_int)) (nomark _)) (pss_cons (ps_set (i := 2) sc_law_draw.nd rfl (Or.inl rfl) (pe_op op_mod (pe_callTy call_int1 (by rfl) T.n_int (by decide +kernel) (pa_cons (pe_op op_fdiv (pv 3) pe_int) pa_nil)) (pe_op op_shl pe_int pe_int)))
      (pss_cons (ps_asg (pe_op op_fdiv (pv 2) (pv 1)) (pg_sub (pv 0) pe_int set_list))
      (pss_one (ps_ret (pe_op op_mod (pe_callTy call_int1 (by rfl) T.n_int (by decide +kernel) (pa_cons (pv 2) pa_nil)) (pv 1)))))) pss_nil)
      (pss_cons (ps_asg (pe_op op_mod (pe_callTy call_int1 (by rfl) T.n_int (by decide +kernel) (pa_cons (pe_op op_add (pe_op op_add (pe_op op_add (pe_op op_mul (pe_ix ix_list (pv 0) pe_int (fun _ _ => rfl)) pe_int) (pe_op op_mul (pe_op op_mod (pe_callTy call_int1 (by rfl) T.n_int (by decide +kernel) (pa_cons (pv 3) pa_nil)) pe_int) pe_int)) (pe_op op_mul (pe_ix ix_list (pv 0) pe_int (fun _ _ => rfl)) pe_int)) pe_int) pa_nil)) pe_int) (pg_sub (pv 0) pe_int set_list))
      (pss_one (ps_ret (pe_op op_mod (pe_callTy call_int1 (by rfl) T.n_int (by decide +kernel) (pa_cons (pe_op op_fdiv (pe_ix ix_list (pv 0) pe_int (fun _ _ => rfl)) pe_int) pa_nil)) (pv 1)))))))))), ?_⟩
  refine ⟨_, rfl, a, _, _, _, rfl, rfl, SqL.of ha, atI_nat (j := 2) rfl, _, _, rfl, rfl, _, rfl, ?_⟩
  refine ite2 (fun e => ?_) (fun e => ?_)
  · refine ⟨_, rfl, a, _, _, _, rfl, rfl, SqL.of ha, atI_nat (j := 2) rfl, ?_⟩
    refine ⟨_, rfl, _, rfl, left, m, rfl, rfl, ⟨by omega, by omega⟩, _, rfl, a, _, 2, 2, rfl, rfl, ha, rfl, ?_⟩
    refine ⟨_, rfl, .inl ⟨_, rfl, _, rfl, _, _, rfl, rfl, (by omega), ?_⟩⟩
    exact q _ _ (Int.emod_nonneg _ (by omega)) (Int.emod_lt_of_pos _ (by omega)) ⟨at_, left / m, st, cells, upd_same, h0, by rw [upd_ne hca]; exact hc⟩ (Keep.upd (by simp))
  · refine ⟨fun σ' H' => ∃ (z : Int) (v4 : Option V), σ' = [some (.ref a), some (.int m), none, some (.int z), v4] ∧ H' = H, ?_, ?_⟩
    · refine ⟨_, rfl, a, _, _, _, rfl, rfl, SqL.of ha, atI_nat (j := 1) rfl, _, rfl, a, _, _, _, rfl, rfl, SqL.of ha, atI_nat (j := 0) rfl, c, _, rfl, .inl (SqL.of hc), _, _, rfl, rfl, _, rfl, ?_⟩
      refine ite2 (fun e1 => ?_) (fun e1 => ?_)
      · have e2 : at_ < ((cells.map V.int).length : Nat) := of_decide_eq_true e1
        rw [List.length_map] at e2
        have hk : at_.toNat < cells.length := by omega
        have ek : ((at_.toNat : Nat) : Int) = at_ := by omega
        have q1 : atI (cells.map V.int) ((at_.toNat : Nat) : Int) = some (.int cells[at_.toNat]) := atI_nat (by rw [List.getElem?_map, List.getElem?_eq_getElem hk] <;> rfl)
        rw [ek] at q1
        refine ⟨_, rfl, a, _, _, _, rfl, rfl, SqL.of ha, atI_nat (j := 0) rfl, _, rfl, a, _, _, _, rfl, rfl, SqL.of ha, atI_nat (j := 1) rfl, c, _, _, _, rfl, rfl, SqL.of hc, q1, ?_⟩
        refine ⟨_, rfl, _, rfl, _, _, rfl, rfl, .inl ⟨by decide, by decide⟩, _, rfl, _, _, rfl, rfl, .inr ⟨_, rfl, _, _, rfl, rfl, ?_⟩⟩
        exact ⟨_, _, rfl, rfl⟩
      · exact ⟨_, _, rfl, rfl⟩
    · rintro σ' H' ⟨z, v4, rfl, rfl⟩
      refine ⟨fun σ' H1 => σ' = [some (.ref a), some (.int m), none, some (.int z), v4] ∧ H1 a = some (.lst [.ref c, .int (at_ + 1), .int left, .int st, .int 3]) ∧ H1 c = some (.lst (cells.map V.int)) ∧ Keep [a] H' H1, ?_, ?_⟩
      · exact ⟨_, rfl, a, _, 1, .int at_, rfl, rfl, ha, atI_nat (j := 1) rfl, at_, 1, rfl, rfl, a, _, 1, 1, rfl, rfl, ha, rfl, rfl, upd_same, by rw [upd_ne hca]; exact hc, Keep.upd (by simp)⟩
      rintro σ' H1 ⟨rfl, h1, h2, k1⟩
      refine ⟨_, rfl, _, _, rfl, rfl, ⟨by decide, by decide, by decide⟩, _, _, rfl, rfl, .inl ⟨by decide, by decide⟩, _, _, rfl, rfl, _, rfl, ?_⟩
      refine ite2 (fun e3 => ?_) (fun e3 => ?_)
      · refine ⟨_, rfl, z, 2, rfl, rfl, ⟨by decide, by decide⟩, .inl ⟨_, rfl, 1, 6000, rfl, rfl, ⟨by decide, by decide, by decide⟩, _, _, rfl, rfl, pow6000, ?_⟩⟩
        refine ⟨_, rfl, _, rfl, _, m, rfl, rfl, ⟨by omega, by omega⟩, _, rfl, a, _, 2, 2, rfl, rfl, h1, rfl, ?_⟩
        refine ⟨_, rfl, .inl ⟨_, rfl, _, rfl, _, _, rfl, rfl, (by omega), ?_⟩⟩
        refine q _ _ (Int.emod_nonneg _ (by omega)) (Int.emod_lt_of_pos _ (by omega)) ⟨at_ + 1, _, st, cells, upd_same, by omega, by rw [upd_ne hca]; exact h2⟩ (k1.trans (Keep.upd (by simp)))
      · refine ⟨_, rfl, a, _, _, _, rfl, rfl, SqL.of h1, atI_nat (j := 3) rfl, _, _, rfl, rfl, .inr ⟨by decide, by decide⟩, ?_⟩
        refine ⟨_, rfl, .inl ⟨_, rfl, _, _, rfl, rfl, (by show (0 : Int) < 2147483629; decide), _, _, rfl, rfl, .inr ⟨by decide, by decide⟩, _, _, rfl, rfl, ?_⟩⟩
        refine ⟨_, rfl, a, _, _, _, rfl, rfl, SqL.of h1, atI_nat (j := 1) rfl, _, _, rfl, rfl, .inr ⟨by decide, by decide⟩, _, _, rfl, rfl, _, _, rfl, rfl, .inl ⟨_, rfl, _, _, rfl, rfl, (by show (0 : Int) < 2147483647; decide), ?_⟩⟩
        refine ⟨_, rfl, a, _, 3, 3, rfl, rfl, h1, rfl, ?_⟩
        refine ⟨_, rfl, a, _, _, _, rfl, rfl, SqL.of upd_same, atI_nat (j := 3) rfl, _, _, rfl, rfl, ⟨by decide, by decide⟩, .inl ⟨_, rfl, _, rfl, _, _, rfl, rfl, (by omega), ?_⟩⟩
        exact q _ _ (Int.emod_nonneg _ (by omega)) (Int.emod_lt_of_pos _ (by omega)) ⟨at_ + 1, left, _, cells, upd_same, by omega, by rw [upd_ne hca]; exact h2⟩ (k1.trans (Keep.upd (by simp)))
end

/-! ### the beginning of the draws; a draw out of a list; is it an int -/
theorem same_new {H : Hp} {p : Addr} (h : H p = none) (o : HO) : Same H (upd H p o) := fun b u q => by rw [upd_ne (ne_of_none q h)]; exact q
theorem intAt {xs : List Int} {i : Nat} {x : V} (h : (xs.map V.int)[i]? = some x) : ∃ k, xs[i]? = some k ∧ x = V.int k := by
  rw [List.getElem?_map] at h
  cases e : xs[i]? with
  | none => rw [e] at h; cases h
  | some k => rw [e] at h; exact ⟨k, rfl, (Option.some.inj h).symm⟩
def spBegin (K : PySem.W.Frag) : Sp := fun vs H Q _ => ∃ (a : Addr) (ns : List Int), vs = [.ref a] ∧ SqL K H a (ns.map V.int) ∧ ns.length ≤ 63 ∧ ∀ (d c : Addr) (H' : Hp), H d = none → H c = none → DS H' d c → Same H H' → Q (.ref d) H'
section
variable {P : Program} {w : World} {K : PySem.W.Frag} {mg : Str → Option Value} {base : Heap}
theorem ok_begin {f : Addr} {fd : FuncData} (F : Fun K "_law_begin" "_law_begin" s_law_begin f fd) (T : Txt mg) : FnOk P w K mg base CX0 1 f fd ["_law_script"] (spBegin K) := by
  refine F.ok sc_law_begin (fun vs H Q E h => ?_) (fun cdv A outer s H vs Q E hr h => ?_)
  · obtain ⟨a, ns, rfl, _⟩ := h
    rfl
  obtain ⟨a, ns, rfl, hS, h63, q⟩ := h
  refine ⟨_, (pss_one (ps_ret (pe_lst (pa_cons (pe_lc (own := [("_law_cell", 1)]) (g := gName 1) (tt := tYes) rfl sc_law_begin.nd (pi_list (pv 0)) (blkOk_by (N := ["_law_script", "_law_cell"]) (sc := defScope s_law_begin) (by decide +kernel)) (fun _ _ _ _ _ => (pg_name (i := 1) sc_law_begin.nd rfl (Or.inl rfl))) (fun _ _ _ _ _ => pts_nil) (fun _ _ _ _ _ => (pe_callTy call_int1 (by rfl) T.n_int (by decide +kernel) (pa_cons (pv 1) pa_nil)))) (pa_cons pe_int (pa_cons pe_int (pa_cons pe_int (pa_cons pe_int pa_nil)))))))), ?_⟩
  refine ⟨_, rfl, a, rfl, ⟨_, hS⟩, fun D hD => lc_list (K := K) (a := a) (xs := ns.map V.int) (fun i H' => Same H H' ∧ H' D = some (.lst ((ns.take i).map V.int)))
    ⟨same_new hD _, upd_same⟩ (fun i H' _ p => p.1.seq hS) (fun i x H' hx p => ?_) (fun H' p => ?_)⟩
  · obtain ⟨k, hk, rfl⟩ := intAt hx
    refine ⟨rfl, _, rfl, .inl ⟨_, rfl, _, p.2, ?_, ?_, ?_⟩⟩
    · rw [List.length_map, List.length_take]
      exact small1000 (by omega)
    · intro b o e
      rw [upd_ne (ne_of_none e hD)]
      exact p.1 b o e
    · rw [upd_same, List.take_add_one, hk, List.map_append]
      rfl
  · rw [List.length_map, List.take_length] at p
    refine ⟨(by show 5 ≤ sizeLine; decide), fun l hl => ?_⟩
    have nDl : D ≠ l := ne_of_none p.2 hl
    refine q l D _ (p.1.free hl) hD ⟨0, 0, 7, ns, upd_same, Int.le_refl 0, by rw [upd_ne nDl]; exact p.2⟩ (p.1.trans (same_new hl _))
end

end Bf

set_option Elab.async false
set_option linter.all false
set_option maxRecDepth 100000
set_option maxHeartbeats 4000000
namespace Bf
open PySem PySem.Spec PyProof.Rows L2 SX
/-! ### the program -/
def most : Nat := 1000000
theorem lenM {l : List Nat} (h : l.length ≤ most) : (S l).length ≤ sizeLine := len16 (Nat.le_trans h (by decide))
theorem dropAt {l : List Nat} {a : Nat} (h : a < l.length) : l.drop a = l[a] :: l.drop (a + 1) := List.drop_eq_getElem_cons h
def tlen : List Nat → Nat
  | [] => 0
  | c :: r => if run c = true then ((c :: r).takeWhile run).length else if longB (c :: r.take 1) = true then 2 else 1
theorem tlen_cons (c : Nat) (r : List Nat) : tlen (c :: r) = if run c = true then ((c :: r).takeWhile run).length else if longB (c :: r.take 1) = true then 2 else 1 := rfl
theorem tw {p : Nat → Bool} : ∀ l : List Nat, l.take (l.takeWhile p).length = l.takeWhile p ∧ l.drop (l.takeWhile p).length = l.dropWhile p
  | [] => ⟨rfl, rfl⟩
  | c :: r => by
    cases h : p c with
    | true =>
      rw [List.takeWhile_cons_of_pos h, List.dropWhile_cons_of_pos h, List.length_cons, List.take_succ_cons, List.drop_succ_cons]
      exact ⟨by rw [(tw r).1], (tw r).2⟩
    | false =>
      rw [List.takeWhile_cons_of_neg (by rw [h]; decide), List.dropWhile_cons_of_neg (by rw [h]; decide)]
      exact ⟨rfl, rfl⟩
theorem tok_step {c : Nat} {r : List Nat} (g : gap c = false) : 1 ≤ tlen (c :: r) ∧ tlen (c :: r) ≤ (c :: r).length ∧ tokL [] (c :: r ++ [32]) = (c :: r).take (tlen (c :: r)) :: tokL [] ((c :: r).drop (tlen (c :: r)) ++ [32]) := by
  cases hc : run c with
  | true =>
    have e : tlen (c :: r) = ((c :: r).takeWhile run).length := by rw [tlen_cons, if_pos hc]
    rw [e, (tw (c :: r)).1, (tw (c :: r)).2, tok_runs hc, List.takeWhile_cons_of_pos hc, List.dropWhile_cons_of_pos hc]
    refine ⟨by simp, ?_, rfl⟩
    rw [List.length_cons, List.length_cons]
    have := congrArg List.length (List.takeWhile_append_dropWhile (p := run) (l := r))
    rw [List.length_append] at this
    omega
  | false =>
    cases hb : longB (c :: r.take 1) with
    | true =>
      have e : tlen (c :: r) = 2 := by rw [tlen_cons, if_neg (by rw [hc]; decide), if_pos hb]
      have hl := long_len hb
      cases r with
      | nil => simp at hl
      | cons d t =>
        rw [e, tok_pair hb]
        exact ⟨by decide, by simp, rfl⟩
    | false =>
      have e : tlen (c :: r) = 1 := by rw [tlen_cons, if_neg (by rw [hc]; decide), if_neg (by rw [hb]; decide)]
      rw [e, tok_sign hc g hb]
      exact ⟨by decide, by simp, rfl⟩
theorem gap_in (c : Nat) : decide ([c] ∈ [[32], [10]]) = gap c := by
  simp [gap]
def WTok (l : List Nat) (H : Hp) (p : Addr) (m : Nat) (σ' : L2.St) (H' : Hp) : Prop := ∃ (a : Nat) (toks : List (List Nat)) (s3 : Option V), m = l.length - a ∧ σ' = [some (tx l), some (.ref p), some (vI a), s3] ∧ Same H H' ∧ H' p = some (.lst (toks.map tx)) ∧ a ≤ l.length ∧ toks.length ≤ a ∧
  toks ++ tokL [] (l.drop a ++ [32]) = tokL [] (l ++ [32])
def spRunEnd : Sp := fun vs H Q _ => ∃ (l : List Nat) (a : Nat), vs = [tx l, vI a] ∧ a ≤ l.length ∧ l.length ≤ most ∧ Q (vI (a + ((l.drop a).takeWhile run).length)) H
def spTokenEnd : Sp := fun vs H Q _ => ∃ (l : List Nat) (a : Nat), vs = [tx l, vI a] ∧ a < l.length ∧ l.length ≤ most ∧ Q (vI (a + tlen (l.drop a))) H
def spTokens : Sp := fun vs H Q _ => ∃ l : List Nat, vs = [tx l] ∧ l.length ≤ most ∧ ∀ (t : Addr) (H' : Hp), Same H H' → H' t = some (.tup ((tokL [] (l ++ [32])).map tx)) → Q (.ref t) H'
structure TxtP (K : PySem.W.Frag) (mg : Str → Option Value) (pG pL : Addr) : Prop extends Txt mg where
  g_RUN_SIGNS : ∃ t, mg "RUN_SIGNS" = some (.str "abcdefghijklmnopqrstuvwxyzABCDEFGHIJKLMNOPQRSTUVWXYZ0123456789" t)
  g_GAPS : mg "GAPS" = some (.ref pG)
  g_LONG_SIGNS : mg "LONG_SIGNS" = some (.ref pL)
  gaps : ∀ H, SqT K H pG ([[32], [10]].map tx)
  longs_ : ∀ H, SqT K H pL (longs.map tx)
section
variable {P : Program} {w : World} {K : PySem.W.Frag} {mg : Str → Option Value} {base : Heap} {f : Addr} {fd : FuncData} {pG pL : Addr}
theorem ok_run_end (F : Fun K "run_end" "run_end" s_run_end f fd) (T : TxtP K mg pG pL) : FnOk P w K mg base CX0 1 f fd ["text", "at"] spRunEnd := by
  refine F.ok sc_run_end (fun vs H Q E h => ?_) (fun cdv A outer s H vs Q E hr h => ?_)
  · obtain ⟨l, a, rfl, _⟩ := h
    rfl
  obtain ⟨l, a, rfl, ha, hm, q⟩ := h
  obtain ⟨tk, gR⟩ := T.g_RUN_SIGNS
  refine ⟨_, (pss_cons (ps_set (i := 2) sc_run_end.nd rfl (Or.inl rfl) (pv 1))
      (pss_cons (ps_while PassesOwn.never (PW.pt (pw_and (pt_cmpR op_lt (pv 2) (pe_callB call_len_str (by rfl) T.n_len (by decide +kernel) (pa_cons (pv 0) pa_nil)) (nomark _)) (pw_and1 (pt_cmpR op_in_sign (pe_ix ix_str (pv 0) (pv 2) (fun _ _ => rfl)) (pe_glob (v := .str RUNS) rfl gR ⟨_, rfl⟩) (by rfl))))) (pss_one (ps_aug (i := 2) sc_run_end.nd rfl (Or.inl rfl) pe_int ip_add)))
      (pss_one (ps_ret (pv 2))))), ?_⟩
  refine ⟨_, rfl, ?_⟩
  refine ⟨fun m σ' H' => ∃ e : Nat, m = l.length - e ∧ σ' = [some (tx l), some (vI a), some (vI e)] ∧ H' = H ∧ a ≤ e ∧ e ≤ l.length ∧ (e - a) + ((l.drop e).takeWhile run).length = ((l.drop a).takeWhile run).length,
    ⟨l.length - a, a, rfl, rfl, rfl, Nat.le_refl _, ha, by omega⟩, ?_⟩
  rintro m σ' H' ⟨e, rfl, rfl, rfl, h1, h2, h3⟩
  refine ⟨_, rfl, _, rfl, _, rfl, lenM hm, _, _, rfl, rfl, _, rfl, ?_⟩
  rw [S_len]
  by_cases he : e < l.length
  · refine ifY (decide_eq_true (by omega)) ?_
    refine ⟨_, rfl, _, rfl, S l, (e : Int), l[e], rfl, rfl, lenM hm, atS he, l[e], RUNS, rfl, rfl, _, rfl, ?_⟩
    cases hc : run l[e] with
    | true =>
      refine ifY hc ?_
      refine ⟨fun σ' H1 => σ' = [some (tx l), some (vI a), some (vI (e + 1))] ∧ H1 = H', ?_, ?_⟩
      · rintro σ' H1 ⟨rfl, rfl⟩
        refine ⟨l.length - (e + 1), by omega, e + 1, rfl, rfl, rfl, by omega, by omega, ?_⟩
        rw [dropAt he, List.takeWhile_cons_of_pos hc, List.length_cons] at h3
        omega
      · exact ⟨_, rfl, _, _, rfl, rfl, rfl, rfl⟩
    | false =>
      refine ifN hc ?_
      rw [dropAt he, List.takeWhile_cons_of_neg (by rw [hc]; decide)] at h3
      have h4 : e - a = ((l.drop a).takeWhile run).length := h3
      have e1 : a + ((l.drop a).takeWhile run).length = e := by omega
      rw [e1] at q
      exact ⟨_, rfl, q⟩
  · refine ifN (decide_eq_false (by omega)) ?_
    rw [List.drop_eq_nil_of_le (by omega)] at h3
    have h4 : e - a = ((l.drop a).takeWhile run).length := h3
    have e1 : a + ((l.drop a).takeWhile run).length = e := by omega
    rw [e1] at q
    exact ⟨_, rfl, q⟩
theorem ok_token_end (F : Fun K "token_end" "token_end" s_token_end f fd) (T : TxtP K mg pG pL) (D_run_end : Dn P w K mg base "run_end" ["text", "at"] 1 spRunEnd) :
    FnOk P w K mg base CX0 2 f fd ["text", "at"] spTokenEnd := by
  refine F.ok sc_token_end (fun vs H Q E h => ?_) (fun cdv A outer s H vs Q E hr h => ?_)
  · obtain ⟨l, a, rfl, _⟩ := h
    rfl
  obtain ⟨l, a, rfl, ha, hm, q⟩ := h
  obtain ⟨tk, gR⟩ := T.g_RUN_SIGNS
  rw [dropAt ha] at q
  refine ⟨_, (pss_cons (ps_if (pt_cmpR op_in_sign (pe_ix ix_str (pv 0) (pv 1) (fun _ _ => rfl)) (pe_glob (v := .str RUNS) rfl gR ⟨_, rfl⟩) (by rfl)) (pss_one (ps_ret (pe_dn D_run_end (hr.mono (by decide)) (by rfl) (pa_cons (pv 0) (pa_cons (pv 1) pa_nil))))) pss_nil)
      (pss_cons (ps_if (pt_cmpR op_in_seq (pe_slice sl_str (pv 0) (po_some (pv 1)) (po_some (pe_op op_add (pv 1) pe_int))) (pe_glob (v := .ref _) rfl T.g_LONG_SIGNS rfl) (by rfl)) (pss_one (ps_ret (pe_op op_add (pv 1) pe_int))) pss_nil)
      (pss_one (ps_ret (pe_op op_add (pv 1) pe_int))))), ?_⟩
  refine ⟨_, rfl, _, rfl, S l, (a : Int), l[a], rfl, rfl, lenM hm, atS ha, l[a], RUNS, rfl, rfl, _, rfl, ?_⟩
  cases hc : run l[a] with
  | true =>
    refine ifY hc ?_
    rw [tlen_cons] at q
    rw [if_pos hc, ← dropAt ha] at q
    exact ⟨_, rfl, _, rfl, l, a, rfl, by omega, hm, q⟩
  | false =>
    refine ifN hc ?_
    rw [tlen_cons] at q
    rw [if_neg (by rw [hc]; decide)] at q
    have e2 : cutS (S l) (some (a : Int)) (some ((a : Int) + 2)) = S (l[a] :: (l.drop (a + 1)).take 1) := by
      have e := cut_nat l a (a + 2) (by omega)
      rw [show a + 2 - a = 2 by omega, dropAt ha] at e
      exact e
    refine ⟨_, rfl, _, rfl, _, rfl, _, rfl, _, _, rfl, rfl, _, rfl, S l, rfl, lenM hm, ?_⟩
    rw [e2]
    refine ⟨pL, _, rfl, .inr (T.longs_ _), rfl, flat_tx _, _, rfl, ?_⟩
    have e3 : inV (V.str (S (l[a] :: (l.drop (a + 1)).take 1))) (longs.map tx) = longB (l[a] :: (l.drop (a + 1)).take 1) := inV_tx _ _
    cases hb : longB (l[a] :: (l.drop (a + 1)).take 1) with
    | true =>
      refine ifY (e3.trans hb) ?_
      rw [if_pos hb] at q
      exact ⟨_, rfl, _, _, rfl, rfl, q⟩
    | false =>
      refine ifN (e3.trans hb) ?_
      rw [if_neg (by rw [hb]; decide)] at q
      exact ⟨_, rfl, _, _, rfl, rfl, q⟩
theorem ok_tokens (F : Fun K "tokens_of" "tokens_of" s_tokens_of f fd) (T : TxtP K mg pG pL) (D_token_end : Dn P w K mg base "token_end" ["text", "at"] 2 spTokenEnd) :
    FnOk P w K mg base CX0 3 f fd ["text"] spTokens := by
  refine F.ok sc_tokens_of (fun vs H Q E h => ?_) (fun cdv A outer s H vs Q E hr h => ?_)
  · obtain ⟨l, rfl, _⟩ := h
    rfl
  obtain ⟨l, rfl, hm, q⟩ := h
  refine ⟨_, (pss_cons (ps_set (i := 1) sc_tokens_of.nd rfl (Or.inl rfl) (pe_lst pa_nil))
      (pss_cons (ps_set (i := 2) sc_tokens_of.nd rfl (Or.inl rfl) pe_int)
      (pss_cons (ps_while PassesOwn.never (pt_cmpR op_lt (pv 2) (pe_callB call_len_str (by rfl) T.n_len (by decide +kernel) (pa_cons (pv 0) pa_nil)) (nomark _)) (pss_one (ps_if (pt_cmpR op_in_seq (pe_ix ix_str (pv 0) (pv 2) (fun _ _ => rfl)) (pe_glob (v := .ref _) rfl T.g_GAPS rfl) (by rfl)) (pss_one (ps_aug (i := 2) sc_tokens_of.nd rfl (Or.inl rfl) pe_int ip_add)) (pss_cons (ps_set (i := 3) sc_tokens_of.nd rfl (Or.inl rfl) (pe_dn D_token_end (hr.mono (by decide)) (by rfl) (pa_cons (pv 0) (pa_cons (pv 2) pa_nil))))
      (pss_cons (ps_expr (pe_bm PySem.F.plainAttrs_list PySem.F.slot_list_append PySem.F.type_list_append mt_append (pv 1) (pa_cons (pe_slice sl_str (pv 0) (po_some (pv 2)) (po_some (pv 3))) pa_nil)))
      (pss_one (ps_set (i := 2) sc_tokens_of.nd rfl (Or.inl rfl) (pv 3))))))))
      (pss_one (ps_ret (pe_callTy call_tuple_of (by rfl) T.n_tuple (by decide +kernel) (pa_cons (pv 1) pa_nil))))))), ?_⟩
  refine ⟨Nat.zero_le _, fun p hp => ?_⟩
  refine ⟨WTok l H p, ⟨l.length, 0, [], none, rfl, rfl, same_new hp _, upd_same, Nat.zero_le _, Nat.le_refl _, rfl⟩, ?_⟩
  rintro m σ' H' ⟨a, toks, s3, rfl, rfl, sm, hp', ha, hl, e⟩
  refine ⟨_, rfl, _, rfl, _, rfl, lenM hm, _, _, rfl, rfl, _, rfl, ?_⟩
  rw [S_len]
  by_cases he : a < l.length
  · refine ifY (decide_eq_true (by omega)) ?_
    refine ⟨fun σ' H1 => ∃ m', m' < l.length - a ∧ WTok l H p m' σ' H1, fun _ _ h => h, ?_⟩
    refine ⟨_, rfl, _, rfl, S l, (a : Int), l[a], rfl, rfl, lenM hm, atS he, pG, _, rfl, .inr (T.gaps _), rfl, flat_tx _, _, rfl, ?_⟩
    have e3 : inV (V.str (S [l[a]])) ([[32], [10]].map tx) = gap l[a] := (inV_tx _ _).trans (gap_in _)
    rw [dropAt he] at e
    cases hg : gap l[a] with
    | true =>
      refine ifY (e3.trans hg) ?_
      refine ⟨_, rfl, _, _, rfl, rfl, l.length - (a + 1), by omega, a + 1, toks, s3, rfl, rfl, sm, hp', by omega, by omega, ?_⟩
      rw [List.cons_append, tok_gap hg] at e
      exact e
    | false =>
      refine ifN (e3.trans hg) ?_
      obtain ⟨n1, n2, n3⟩ := tok_step (r := l.drop (a + 1)) hg
      rw [← dropAt he] at n1 n2 n3
      rw [List.length_drop] at n2
      refine ⟨_, rfl, _, rfl, l, a, rfl, he, hm, ?_⟩
      have hz : (toks.map tx).length < sizeLine := by
        rw [List.length_map]
        have z : sizeLine = 16777216 := by decide
        have y : most = 1000000 := rfl
        omega
      refine ⟨_, rfl, .inl ⟨rfl, _, SqL.of hp'⟩, _, rfl, _, rfl, _, rfl, _, rfl, _, rfl, S l, rfl, lenM hm, p, _, _, rfl, rfl, hp', hz, ?_⟩
      refine ⟨_, rfl, l.length - (a + tlen (l.drop a)), by omega, a + tlen (l.drop a), toks ++ [(l.drop a).take (tlen (l.drop a))], _, rfl, rfl, ?_, ?_, by omega, ?_, ?_⟩
      · intro b o hb
        rw [upd_ne (ne_of_none hb hp)]
        exact sm b o hb
      · rw [upd_same, cut_nat l a (a + tlen (l.drop a)) ha, List.map_append, Nat.add_sub_cancel_left]
        rfl
      · rw [List.length_append, List.length_singleton]
        omega
      · rw [← dropAt he, n3] at e
        rw [List.append_assoc]
        rw [List.drop_drop] at e
        exact e
  · refine ifN (decide_eq_false (by omega)) ?_
    rw [List.drop_eq_nil_of_le (by omega)] at e
    have e2 : toks = tokL [] (l ++ [32]) := by
      have z : tokL [] ([] ++ [32]) = [] := by decide +kernel
      rw [z, List.append_nil] at e
      exact e
    refine ⟨_, rfl, p, _, rfl, .inl ⟨SqL.of hp', fun t ht => ?_⟩⟩
    refine q t _ (sm.trans (same_new ht _)) ?_
    rw [upd_same, e2]
end
end Bf

set_option Elab.async false
set_option linter.all false
set_option maxRecDepth 100000
set_option maxHeartbeats 4000000
namespace Bf
open PySem PySem.Spec PyProof.Rows L2 SX
/-! ### the law's own defs: does it go on, the tokens sign by sign -/
theorem all_rep : ∀ n : Nat, (List.replicate n true).all id = true
  | 0 => rfl
  | n + 1 => by
    rw [List.replicate_succ, List.all_cons, all_rep n]
    rfl
theorem tok_len : ∀ (s h : List Nat), (tokL h s).length ≤ 0 + s.length
  | [], _ => Nat.zero_le _
  | c :: s, h => by
    rw [tokL]
    split
    · have := tok_len s (h ++ [c])
      rw [List.length_cons]
      omega
    · have := tok_len s (cut0 c)
      rw [List.length_append, List.length_cons]
      split
      · simp only [List.length_nil]
        omega
      · simp only [List.length_singleton]
        omega
def spRuns : Sp := fun vs H Q _ => vs = [] ∧ Q (.str RUNS) H
def spGoes : Sp := fun vs H Q _ => ∃ (h : List Nat) (c : Nat), vs = [tx h, tx [c]] ∧ h.length ≤ 2 * most ∧ ∀ H', Same H H' → Q (.bl (goes h c)) H'
def spTokL : Sp := fun vs H Q _ => ∃ l : List Nat, vs = [tx l] ∧ l.length ≤ most ∧ ∀ (p : Addr) (H' : Hp), Same H H' → H' p = some (.lst ((tokL [] (l ++ [32])).map tx)) → Q (.ref p) H'
def spTold : Sp := fun vs H Q _ => ∃ l : List Nat, vs = [tx l] ∧ l.length ≤ most ∧ ∀ H' : Hp, Same H H' → Q (.bl true) H'
theorem lenG {l : List Nat} (h : l.length ≤ 2 * most + 1) : (S l).length ≤ sizeLine := len16 (Nat.le_trans h (by decide))
section
variable {P : Program} {w : World} {K : PySem.W.Frag} {mg : Str → Option Value} {base : Heap} {f : Addr} {fd : FuncData} {pG pL : Addr}
theorem ok_runs (F : Fun K "_law_run_chars" "_law_run_chars" s_law_run_chars f fd) : FnOk P w K mg base CX0 1 f fd [] spRuns := by
  refine F.ok sc_law_run_chars (fun vs H Q E h => ?_) (fun cdv A outer s H vs Q E hr h => ?_)
  · rw [h.1]
    rfl
  obtain ⟨rfl, q⟩ := h
  exact ⟨_, (pss_one (ps_ret pe_str)), q⟩
theorem ok_goes (F : Fun K "_law_goes_on" "_law_goes_on" s_law_goes_on f fd) (D_law_run_chars : Dn P w K mg base "_law_run_chars" [] 1 spRuns) : FnOk P w K mg base CX0 2 f fd ["_law_held", "_law_char"] spGoes := by
  refine F.ok sc_law_goes_on (fun vs H Q E h => ?_) (fun cdv A outer s H vs Q E hr h => ?_)
  · obtain ⟨l, c, rfl, _⟩ := h
    rfl
  obtain ⟨l, c, rfl, hm, q⟩ := h
  refine ⟨_, (pss_cons (ps_if (PW.pt (pw_or (pt_cmpR op_eq (pv 0) pe_str (nomark _)) (pw_or1 (pt_cmpR op_in_sign (pv 1) pe_str (by rfl))))) (pss_one (ps_ret pe_bl)) pss_nil)
      (pss_cons (ps_if (pt_cmpR op_in_sign (pe_ix ix_str (pv 0) (pe_un un_neg pe_int) (fun _ _ => rfl)) (pe_dn0 D_law_run_chars (hr.mono (by decide)) (by rfl)) (by rfl)) (pss_one (ps_ret (pe_cmpR op_in_sign (pv 1) (pe_dn0 D_law_run_chars (hr.mono (by decide)) (by rfl)) (by rfl)))) pss_nil)
      (pss_one (ps_ret (pe_cmpR op_in_seq (pe_op op_add_str (pv 0) (pv 1)) (pe_lst (pa_cons pe_str (pa_cons pe_str (pa_cons pe_str (pa_cons pe_str (pa_cons pe_str (pa_cons pe_str pa_nil))))))) (by rfl)))))), ?_⟩
  refine ⟨_, rfl, rfl, _, rfl, ?_⟩
  have e0 : decide (tx l = V.str "") = decide (l = []) := tx_eq l []
  rcases List.eq_nil_or_concat l with rfl | ⟨r, e, rfl⟩
  · refine ifY (e0.trans (decide_eq_true rfl)) ?_
    refine ifY rfl ?_
    exact q _ (Same.refl _)
  · refine ifN (e0.trans (decide_eq_false (by simp))) ?_
    refine ⟨_, rfl, c, " \n", rfl, rfl, _, rfl, ?_⟩
    have e1 : decide (c ∈ (" \n" : Str).cps.toList) = gap c := by
      show decide (c ∈ [32, 10]) = gap c
      rfl
    have gl : (r.concat e).getLast? = some e := by simp
    cases hg : gap c with
    | true =>
      refine ifY (e1.trans hg) ?_
      have g : goes (r.concat e) c = false := by
        rw [goes, gl]
        show (if gap c = true then false else if run e = true then run c else longB (r.concat e ++ [c])) = false
        rw [if_pos hg]
      rw [g] at q
      exact q _ (Same.refl _)
    | false =>
      refine ifN (e1.trans hg) ?_
      have g : goes (r.concat e) c = if run e = true then run c else longB (r.concat e ++ [c]) := by
        rw [goes, gl]
        show (if gap c = true then false else if run e = true then run c else longB (r.concat e ++ [c])) = _
        rw [if_neg (by rw [hg]; decide)]
      have la : atI (S (r.concat e)).cps.toList (-1) = some e := by
        rw [List.concat_eq_append]
        exact atI_last r e
      refine ⟨_, rfl, 1, rfl, S (r.concat e), -1, e, rfl, rfl, lenG (by omega), la, rfl, e, RUNS, rfl, rfl, _, rfl, ?_⟩
      cases hc : run e with
      | true =>
        refine ifY hc ?_
        rw [g, if_pos hc] at q
        exact ⟨_, rfl, rfl, c, RUNS, rfl, rfl, q _ (Same.refl _)⟩
      | false =>
        refine ifN hc ?_
        rw [g, if_neg (by rw [hc]; decide)] at q
        refine ⟨_, rfl, _, rfl, S (r.concat e), S [c], rfl, rfl, ?_, le1000 (by simp), fun p hp => ?_⟩
        · rw [S_len, S_len]
          have z : sizeLine = 16777216 := by decide
          have y : most = 1000000 := rfl
          simp only [List.length_singleton]
          omega
        have ei : inV (V.str (S (r.concat e) ++ S [c])) (longs.map tx) = longB (r.concat e ++ [c]) := by
          rw [S_cat]
          exact inV_tx _ _
        refine ⟨p, longs.map tx, rfl, .inl (SqL.of upd_same), rfl, flat_tx _, ?_⟩
        show Q (.bl (inV (V.str (S (r.concat e) ++ S [c])) (longs.map tx))) _
        rw [ei]
        exact q _ (same_new hp _)
theorem ok_tokL (F : Fun K "_law_tokens" "_law_tokens" s_law_tokens f fd) (D_law_goes_on : Dn P w K mg base "_law_goes_on" ["_law_held", "_law_char"] 2 spGoes) : FnOk P w K mg base CX0 3 f fd ["_law_text"] spTokL := by
  refine F.ok sc_law_tokens (fun vs H Q E h => ?_) (fun cdv A outer s H vs Q E hr h => ?_)
  · obtain ⟨l, rfl, _⟩ := h
    rfl
  obtain ⟨l, rfl, hm, q⟩ := h
  refine ⟨_, (pss_cons (ps_set (i := 1) sc_law_tokens.nd rfl (Or.inl rfl) (pe_lst pa_nil))
      (pss_cons (ps_set (i := 2) sc_law_tokens.nd rfl (Or.inl rfl) pe_str)
      (pss_cons (ps_for PassesOwn.never rfl (pi_str (pe_op op_add_str (pv 0) pe_str)) (pg_name (i := 3) sc_law_tokens.nd rfl (Or.inl rfl)) (pss_one (ps_if (pt_val (pe_dn D_law_goes_on (hr.mono (by decide)) (by rfl) (pa_cons (pv 2) (pa_cons (pv 3) pa_nil)))) (pss_one (ps_set (i := 2) sc_law_tokens.nd rfl (Or.inl rfl) (pe_op op_add_str (pv 2) (pv 3)))) (C8.pss_cut (ps_if (pt_cmpR op_ne (pv 2) pe_str (nomark _)) (pss_one (ps_expr (pe_bm PySem.F.plainAttrs_list PySem.F.slot_list_append PySem.F.type_list_append mt_append (pv 1) (pa_cons (pv 2) pa_nil)))) pss_nil)
      (pss_one (ps_set (i := 2) sc_law_tokens.nd rfl (Or.inl rfl) (pe_ifExp (pt_cmpR op_in_sign (pv 3) pe_str (by rfl)) pe_str (pv 3))))))))
      (pss_one (ps_ret (pv 1)))))), ?_⟩
  refine ⟨Nat.zero_le _, fun p hp => ?_⟩
  refine ⟨_, rfl, S l, " ", rfl, rfl, ?_, ?_⟩
  · rw [S_len]
    have z : sizeLine = 16777216 := by decide
    have y : most = 1000000 := rfl
    have x : (" " : Str).length = 1 := by decide +kernel
    omega
  have es : S l ++ (" " : Str) = S (l ++ [32]) := S_cat l [32]
  rw [es]
  have yl : most = 1000000 := rfl
  have zl : sizeLine = 16777216 := by decide
  have ez : (S (l ++ [32])).cps.size = l.length + 1 := by simp
  refine ⟨_, rfl, for_it (walk_str (z := S (l ++ [32]))) (fun i σ' H' => ∃ (h : List Nat) (s3 : Option V) (toks : List (List Nat)), σ' = [some (tx l), some (.ref p), some (tx h), s3] ∧ Same H H' ∧ H' p = some (.lst (toks.map tx)) ∧
      toks ++ tokL h ((l ++ [32]).drop i) = tokL [] (l ++ [32]) ∧ h.length ≤ i ∧ toks.length ≤ i)
    ⟨[], none, [], rfl, same_new hp _, upd_same, rfl, Nat.le_refl _, Nat.le_refl _⟩ (fun _ _ _ _ _ => trivial) (fun i x σ' H1 H2 hi pv y => ?_) (fun σ' H1 pv => ?_)⟩
  · obtain ⟨h, s3, toks, rfl, sm, hp', e, hh, ht⟩ := pv
    obtain ⟨rfl, c, hc, rfl⟩ := y
    rw [ez] at hi
    have hc' : (l ++ [32])[i]? = some c := by simpa using hc
    have hlt : i < (l ++ [32]).length := (List.getElem?_eq_some_iff.mp hc').1
    have ec : (l ++ [32])[i] = c := by
      rw [List.getElem?_eq_getElem hlt] at hc'
      exact Option.some.inj hc'
    rw [List.drop_eq_getElem_cons hlt, ec] at e
    refine ⟨_, rfl, _, rfl, h, c, rfl, by omega, fun H3 s4 => ⟨_, rfl, ?_⟩⟩
    have hp3 := s4 _ _ hp'
    cases hg : goes h c with
    | true =>
      refine ifY rfl ?_
      refine ⟨_, rfl, _, rfl, S h, S [c], rfl, rfl, ?_, h ++ [c], some (tx [c]), toks, ?_, sm.trans s4, hp3, ?_, ?_, by omega⟩
      · rw [S_len, S_len, zl]
        simp only [List.length_singleton]
        omega
      · rw [S_cat]
        rfl
      · rw [tok_go hg] at e
        exact e
      · rw [List.length_append, List.length_singleton]
        omega
    | false =>
      refine ifN rfl ?_
      rw [tokL, if_neg (by rw [hg]; decide)] at e
      refine ⟨fun σ' H4 => σ' = [some (tx l), some (.ref p), some (tx h), some (tx [c])] ∧ Same H H4 ∧ H4 p = some (.lst ((toks ++ if h = [] then [] else [h]).map tx)), ?_, ?_⟩
      · refine ⟨_, rfl, rfl, _, rfl, ?_⟩
        have e0 : (!decide (tx h = V.str "")) = !decide (h = []) := congrArg (fun b => !b) (tx_eq h [])
        by_cases hh0 : h = []
        · refine ifN (e0.trans (by rw [decide_eq_true hh0]; rfl)) ?_
          exact ⟨rfl, sm.trans s4, by rw [if_pos hh0, List.append_nil]; exact hp3⟩
        · refine ifY (e0.trans (by rw [decide_eq_false hh0]; rfl)) ?_
          refine ⟨_, rfl, .inl ⟨rfl, _, SqL.of hp3⟩, _, rfl, p, _, _, rfl, rfl, hp3, ?_, rfl, ?_, ?_⟩
          · rw [List.length_map, zl]
            omega
          · intro b o hb
            rw [upd_ne (ne_of_none hb hp)]
            exact s4 _ _ (sm b o hb)
          · rw [upd_same, if_neg hh0, List.map_append]
            rfl
      rintro σ' H4 ⟨rfl, sm4, hp4⟩
      refine ⟨_, rfl, c, " \n", rfl, rfl, _, rfl, ?_⟩
      have e1 : decide (c ∈ (" \n" : Str).cps.toList) = gap c := by
        show decide (c ∈ [32, 10]) = gap c
        rfl
      rw [← List.append_assoc] at e
      have hlen : (toks ++ if h = [] then [] else [h]).length ≤ i + 1 := by
        rw [List.length_append]
        split
        · simp only [List.length_nil]
          omega
        · simp only [List.length_singleton]
          omega
      cases gc : gap c with
      | true =>
        refine ifY (e1.trans gc) ?_
        have ck : cut0 c = [] := by rw [cut0, if_pos gc]
        rw [ck] at e
        exact ⟨[], _, _, rfl, sm4, hp4, e, Nat.zero_le _, hlen⟩
      | false =>
        refine ifN (e1.trans gc) ?_
        have ck : cut0 c = [c] := by rw [cut0, if_neg (by rw [gc]; decide)]
        rw [ck] at e
        exact ⟨_, rfl, [c], _, _, rfl, sm4, hp4, e, by simp, hlen⟩
  · obtain ⟨h, s3, toks, rfl, sm, hp', e, hh, ht⟩ := pv
    rw [ez, List.drop_eq_nil_of_le (by simp), tokL, List.append_nil] at e
    rw [e] at hp'
    exact ⟨_, rfl, q p _ sm hp'⟩
theorem eqv_tx {H : Hp} : ∀ ls : List (List Nat), Paired (EqV K H 1) (ls.map tx) (ls.map tx)
  | [] => .nil
  | l :: r => .cons (.inl ⟨rfl, rfl⟩) (eqv_tx r)
theorem ok_told (F : Fun K "_law_is_told" "_law_is_told" s_law_is_told f fd) (T : Txt mg) (D_tokens_of : Dn P w K mg base "tokens_of" ["text"] 3 spTokens) (D_law_tokens : Dn P w K mg base "_law_tokens" ["_law_text"] 3 spTokL) :
    FnOk P w K mg base CX0 4 f fd ["_law_text"] spTold := by
  refine F.ok sc_law_is_told (fun vs H Q E h => ?_) (fun cdv A outer s H vs Q E hr h => ?_)
  · obtain ⟨l, rfl, _⟩ := h
    rfl
  obtain ⟨l, rfl, hm, q⟩ := h
  refine ⟨_, (pss_cons (ps_set (i := 1) sc_law_is_told.nd rfl (Or.inl rfl) (pe_dn D_tokens_of (hr.mono (by decide)) (by rfl) (pa_cons (pv 0) pa_nil)))
      (pss_cons (ps_if (PW.pt (pw_or (pt_not (pt_val (pe_callB (call_isi : CallR _ _ (rIsi K)) (by rfl) T.n_isinstance (by decide +kernel) (pa_cons (pv 1) (pa_cons (pe_bltn rfl T.n_tuple (by decide +kernel) (v := .ty "tuple") rfl) pa_nil))))) (pw_or1 (pt_not (pt_val (pe_callB (cr_all rfl) (by rfl) T.n_all (by decide +kernel) (pa_cons (pe_lc (own := [("_law_token", 2)]) (g := gName 2) (tt := tYes) rfl sc_law_is_told.nd (pi_tup (pv 1)) (blkOk_by (N := ["_law_text", "_law_told", "_law_token"]) (sc := defScope s_law_is_told) (by decide +kernel)) (fun _ _ _ _ _ => (pg_name (i := 2) sc_law_is_told.nd rfl (Or.inl rfl))) (fun _ _ _ _ _ => pts_nil) (fun _ _ _ _ _ => (pe_callB (call_isi : CallR _ _ (rIsi K)) (by rfl) T.n_isinstance (by decide +kernel) (pa_cons (pv 2) (pa_cons (pe_bltn rfl T.n_str (by decide +kernel) (v := .ty "str") rfl) pa_nil))))) pa_nil))))))) (pss_one (ps_ret pe_bl)) pss_nil)
      (pss_one (ps_ret (pe_cmpR (op_eqV hr.units) (pe_callTy call_list_of (by rfl) T.n_list (by decide +kernel) (pa_cons (pv 1) pa_nil)) (pe_dn D_law_tokens (hr.mono (by decide)) (by rfl) (pa_cons (pv 0) pa_nil)) (nomark _)))))), ?_⟩
  refine ⟨_, rfl, l, rfl, hm, fun t H1 s1 ht => ?_⟩
  refine ⟨_, rfl, _, _, .type "tuple", .type "tuple", true, rfl, .ty "tuple", .base (.tup ht), kit_ty (by decide +kernel), true, rfl, ?_⟩
  refine iteF ?_
  have hsz : (tokL [] (l ++ [32])).length ≤ most + 1 := Nat.le_trans (tok_len _ []) (by rw [List.length_append, List.length_singleton]; show 0 + (l.length + 1) ≤ most + 1; omega)
  refine ⟨_, rfl, t, rfl, ⟨_, SqT.of ht⟩, fun D hD => lc_tup (K := K) (a := t) (xs := (tokL [] (l ++ [32])).map tx) (fun i H' => Same H1 H' ∧ H' D = some (.lst ((List.replicate i true).map V.bl)))
    ⟨same_new hD _, upd_same⟩ (fun i H' _ p => SqT.of (p.1 _ _ ht)) (fun i x H' hx p => ?_) (fun H' p => ?_)⟩
  · obtain ⟨z, rfl⟩ : ∃ z, x = tx z := by
      rw [List.getElem?_map] at hx
      cases e : (tokL [] (l ++ [32]))[i]? with
      | none => rw [e] at hx; cases hx
      | some z => rw [e] at hx; exact ⟨z, (Option.some.inj hx).symm⟩
    have hi := (List.getElem?_eq_some_iff.mp hx).1
    rw [List.length_map] at hi
    refine ⟨rfl, _, rfl, tx z, _, .type "str", .type "str", true, rfl, .ty "str", .base (.str _), kit_ty (by decide +kernel), _, p.2, ?_, ?_, ?_⟩
    · rw [List.length_map, List.length_replicate]
      have zl : sizeLine = 16777216 := by decide
      have yl : most = 1000000 := rfl
      omega
    · intro b o e
      rw [upd_ne (ne_of_none e hD)]
      exact p.1 b o e
    · rw [upd_same, List.replicate_succ', List.map_append]
      rfl
  · refine ⟨D, _, rfl, SqL.of p.2, true, ?_, ?_⟩
    · rw [all_rep]
    refine iteF ?_
    have ht2 := p.1 _ _ ht
    refine ⟨_, rfl, t, _, rfl, .inr (SqT.of ht2), fun u hu => ⟨_, rfl, l, rfl, hm, fun o H5 s5 ho => ?_⟩⟩
    refine ⟨1, by decide, .inl ⟨u, o, _, _, rfl, rfl, SqL.of (s5 _ _ upd_same), SqL.of ho, eqv_tx _⟩, q _ (((s1.trans p.1).trans (same_new hu _)).trans s5)⟩
end
end Bf

set_option Elab.async false
set_option linter.all false
set_option maxRecDepth 100000
set_option maxHeartbeats 4000000
namespace Bf
open PySem PySem.Spec PyProof.Rows L2 SX
/-! ### the drawn texts -/
/-- an item of a text, or of a list of texts: some text of at most four signs -/
def spPick (K : PySem.W.Frag) : Sp := fun vs H Q _ => ∃ (d c : Addr) (row : V), vs = [.ref d, row] ∧ DS H d c ∧
  ((∃ z : Str, row = .str z ∧ 1 ≤ z.length ∧ z.length ≤ 1000) ∨ (∃ (l : Addr) (ls : List (List Nat)), row = .ref l ∧ l ≠ d ∧ H l = some (.lst (ls.map tx)) ∧ 1 ≤ ls.length ∧ ls.length ≤ 1000 ∧ ∀ z ∈ ls, z.length ≤ 4)) ∧
  ∀ (z : List Nat) (H' : Hp), z.length ≤ 4 → DS H' d c → Keep [d] H H' → Q (tx z) H'
def spSign : Sp := fun vs H Q _ => ∃ (d c : Addr) (b : Bool), vs = [.ref d, .bl b] ∧ DS H d c ∧ ∀ (z : List Nat) (H' : Hp), z.length ≤ 4 → DS H' d c → Keep [d] H H' → Q (tx z) H'
def spPiece : Sp := fun vs H Q _ => ∃ (d c : Addr) (m : Int) (b : Bool), vs = [.ref d, .int m, .bl b] ∧ DS H d c ∧ 1 ≤ m ∧ m ≤ 44 ∧ ∀ (z : List Nat) (H' : Hp), z.length ≤ 1584 → DS H' d c → Keep [d] H H' → Q (tx z) H'
def spDrawn : Sp := fun vs H Q _ => ∃ (d c : Addr) (n m : Int) (b : Bool), vs = [.ref d, .int n, .int m, .bl b] ∧ DS H d c ∧ 0 ≤ n ∧ n ≤ 300 ∧ 1 ≤ m ∧ m ≤ 44 ∧ ∀ (z : List Nat) (H' : Hp), z.length ≤ 476400 → DS H' d c → Keep [d] H H' → Q (tx z) H'
section
variable {P : Program} {w : World} {K : PySem.W.Frag} {mg : Str → Option Value} {base : Heap} {f : Addr} {fd : FuncData}
theorem ok_pick (F : Fun K "_law_pick" "_law_pick" s_law_pick f fd) (T : Txt mg) (D_law_draw : Dn P w K mg base "_law_draw" ["_law_d", "_law_many"] 1 spDraw) :
    FnOk P w K mg base CX0 2 f fd ["_law_d", "_law_row"] (spPick K) := by
  refine F.ok sc_law_pick (fun vs H Q E h => ?_) (fun cdv A outer s H vs Q E hr h => ?_)
  · obtain ⟨d, c, row, rfl, _⟩ := h
    rfl
  obtain ⟨d, c, row, rfl, hd, hrow, q⟩ := h
  refine ⟨_, (pss_one (ps_ret (pe_ix ix_seq (pv 1) (pe_dn D_law_draw (hr.mono (by decide)) (by rfl) (pa_cons (pv 0) (pa_cons (pe_callB call_len (by rfl) T.n_len (by decide +kernel) (pa_cons (pv 1) pa_nil)) pa_nil))) (fun _ _ => rfl)))), ?_⟩
  rcases hrow with ⟨z, rfl, z1, z2⟩ | ⟨l, ls, rfl, nld, hl, l1, l2, l4⟩
  · have zs : z.length ≤ sizeLine := le1000 z2
    refine ⟨_, rfl, _, rfl, _, rfl, .str z, z.length, rfl, ⟨zs, rfl⟩, d, c, _, rfl, hd, (by omega), (by omega), fun r H' r0 r1 hd' k1 => ?_⟩
    obtain ⟨k, rfl⟩ := Int.eq_ofNat_of_zero_le r0
    have ez : z.cps.toList.length = z.length := by simp [Str.length]
    have hk : k < z.cps.toList.length := by omega
    exact .inr (.inr ⟨z, _, z.cps.toList[k], rfl, rfl, zs, atI_nat (List.getElem?_eq_getElem hk), q [z.cps.toList[k]] _ (by simp) hd' k1⟩)
  · have hn : (ls.map tx).length = ls.length := List.length_map _
    refine ⟨_, rfl, _, rfl, _, rfl, .ref l, ls.length, rfl, .inl ⟨_, SqL.of hl, hn.symm⟩, d, c, _, rfl, hd, (by omega), (by omega), fun r H' r0 r1 hd' k1 => ?_⟩
    obtain ⟨k, rfl⟩ := Int.eq_ofNat_of_zero_le r0
    have hk : k < ls.length := by omega
    have hl' : H' l = some (.lst (ls.map tx)) := k1 _ _ (by simp [nld]) hl
    exact .inl ⟨l, _, _, tx ls[k], rfl, rfl, SqL.of hl', atI_nat (by rw [List.getElem?_map, List.getElem?_eq_getElem hk]; rfl), q ls[k] _ (l4 _ (List.getElem_mem hk)) hd' k1⟩
theorem ok_sign (F : Fun K "_law_sign" "_law_sign" s_law_sign f fd) (D_law_pick : Dn P w K mg base "_law_pick" ["_law_d", "_law_row"] 2 (spPick K)) :
    FnOk P w K mg base CX0 3 f fd ["_law_d", "_law_is_free"] spSign := by
  refine F.ok sc_law_sign (fun vs H Q E h => ?_) (fun cdv A outer s H vs Q E hr h => ?_)
  · obtain ⟨d, c, b, rfl, _⟩ := h
    rfl
  obtain ⟨d, c, b, rfl, hd, q⟩ := h
  refine ⟨_, (pss_cons (ps_set (i := 2) sc_law_sign.nd rfl (Or.inl rfl) pe_str)
      (pss_cons (ps_if (pt_val (pv 1)) (pss_one (ps_set (i := 2) sc_law_sign.nd rfl (Or.inl rfl) (pe_op op_add_str (pv 2) pe_str))) pss_nil)
      (pss_one (ps_ret (pe_dn D_law_pick (hr.mono (by decide)) (by rfl) (pa_cons (pv 0) (pa_cons (pv 2) pa_nil))))))), ?_⟩
  refine ⟨_, rfl, b, rfl, ?_⟩
  cases b with
  | true =>
    refine ifY rfl ?_
    refine ⟨_, rfl, _, _, rfl, rfl, by decide +kernel, ?_⟩
    exact ⟨_, rfl, _, rfl, d, c, _, rfl, hd, .inl ⟨_, rfl, by decide +kernel, by decide +kernel⟩, q⟩
  | false =>
    refine ifN rfl ?_
    exact ⟨_, rfl, _, rfl, d, c, _, rfl, hd, .inl ⟨_, rfl, by decide +kernel, by decide +kernel⟩, q⟩
/-- texts of at most four signs, joined by nothing -/
theorem joinL_len : ∀ ls : List (List Nat), (∀ z ∈ ls, z.length ≤ 4) → (TL.joinL [] ls).length ≤ 4 * ls.length
  | [], _ => Nat.zero_le _
  | [p], h => by
    have := h p (by simp)
    show p.length ≤ 4 * 1
    omega
  | p :: q :: r, h => by
    have h1 := h p (by simp)
    have ih := joinL_len (q :: r) (fun z hz => h z (List.mem_cons_of_mem _ hz))
    show (p ++ ([] ++ TL.joinL [] (q :: r))).length ≤ 4 * ((q :: r).length + 1)
    rw [List.nil_append, List.length_append]
    omega
theorem lens_le : ∀ ls : List (List Nat), (∀ z ∈ ls, z.length ≤ 4) → ((ls.map S).map (·.length)).sum ≤ 4 * ls.length
  | [], _ => Nat.zero_le _
  | p :: r, h => by
    have h1 := h p (by simp)
    have ih := lens_le r (fun z hz => h z (List.mem_cons_of_mem _ hz))
    rw [List.map_cons, List.map_cons, List.sum_cons, S_len, List.length_cons]
    omega
def PJ (d c D : Addr) (H : Hp) (i : Nat) (H' : Hp) : Prop := DS H' d c ∧ Keep [d] H H' ∧ ∃ ls : List (List Nat), H' D = some (.lst (ls.map tx)) ∧ ls.length = i ∧ ∀ z ∈ ls, z.length ≤ 4
theorem PJ.start {d c D : Addr} {H H1 : Hp} (hd : DS H1 d c) (k : Keep [d] H H1) (hD : H1 D = none) : PJ d c D H 0 (upd H1 D (.lst [])) :=
  ⟨hd.same (same_new hD _), k.trans (Keep.new hD), [], upd_same, rfl, fun z hz => by cases hz⟩
theorem PJ.step {d c D : Addr} {H H1 H2 : Hp} {i : Nat} {z : List Nat} (hi : i < 1000) (p : PJ d c D H i H1) (hD : H D = none) (nd : D ≠ d) (nc : D ≠ c) (hz : z.length ≤ 4) (hd2 : DS H2 d c) (k2 : Keep [d] H1 H2) :
    ∃ acc, H2 D = some (.lst acc) ∧ acc.length < sizeLine ∧ PJ d c D H (i + 1) (upd H2 D (.lst (acc ++ [tx z]))) := by
  obtain ⟨_, k1, ls, hl, e, h4⟩ := p
  refine ⟨ls.map tx, k2 _ _ (by simp [nd]) hl, by rw [List.length_map]; exact small1000 (by omega), hd2.keep (S := [D]) (Keep.upd (by simp)) (by simp [nd.symm]) (by simp [nc.symm]), ?_, ls ++ [z], by rw [upd_same, List.map_append]; rfl, by rw [List.length_append, List.length_singleton, e], fun y hy => ?_⟩
  · intro b o n he
    rw [upd_ne (ne_of_none he hD)]
    exact k2 b o n (k1 b o n he)
  · rcases List.mem_append.mp hy with hy | hy
    · exact h4 y hy
    · rw [List.mem_singleton] at hy
      rw [hy]
      exact hz
theorem ok_piece (F : Fun K "_law_piece" "_law_piece" s_law_piece f fd) (T : Txt mg) (D_law_draw : Dn P w K mg base "_law_draw" ["_law_d", "_law_many"] 1 spDraw) (D_law_pick : Dn P w K mg base "_law_pick" ["_law_d", "_law_row"] 2 (spPick K))
    (D_law_run_chars : Dn P w K mg base "_law_run_chars" [] 1 spRuns) (D_law_sign : Dn P w K mg base "_law_sign" ["_law_d", "_law_is_free"] 3 spSign) :
    FnOk P w K mg base CX0 4 f fd ["_law_d", "_law_most", "_law_is_free"] spPiece := by
  refine F.ok sc_law_piece (fun vs H Q E h => ?_) (fun cdv A outer s H vs Q E hr h => ?_)
  · obtain ⟨d, c, m, b, rfl, _⟩ := h
    rfl
  obtain ⟨d, c, m, b, rfl, hd, m1, m44, q⟩ := h
  refine ⟨_, (pss_cons (ps_set (i := 3) sc_law_piece.nd rfl (Or.inl rfl) (pe_dn D_law_draw (hr.mono (by decide)) (by rfl) (pa_cons (pv 0) (pa_cons pe_int pa_nil))))
      (pss_cons (ps_if (pt_cmpR op_lt (pv 3) pe_int (nomark _)) (pss_cons (ps_set (i := 4) sc_law_piece.nd rfl (Or.inl rfl) (pe_join pe_str (pe_lc (own := [("_law_k", 5)]) (g := gName 5) (tt := tYes) rfl sc_law_piece.nd (pi_range1 rfl T.n_range (pa_cons (pe_op op_add pe_int (pe_dn D_law_draw (hr.mono (by decide)) (by rfl) (pa_cons (pv 0) (pa_cons pe_int pa_nil)))) pa_nil)) (blkOk_by (N := ["_law_d", "_law_most", "_law_is_free", "_law_turn", "_law_run", "_law_k"]) (sc := defScope s_law_piece) (by decide +kernel)) (fun _ _ _ _ _ => (pg_name (i := 5) sc_law_piece.nd rfl (Or.inl rfl))) (fun _ _ _ _ _ => pts_nil) (fun _ _ _ _ _ => (pe_dn D_law_pick (hr.mono (by decide)) (by rfl) (pa_cons (pv 0) (pa_cons (pe_dn0 D_law_run_chars (hr.mono (by decide)) (by rfl)) pa_nil)))))))
      (pss_one (ps_ret (pe_op op_rep_str (pv 4) (pe_op op_add pe_int (pe_dn D_law_draw (hr.mono (by decide)) (by rfl) (pa_cons (pv 0) (pa_cons (pv 1) pa_nil)))))))) pss_nil)
      (pss_cons (ps_if (pt_cmpR op_eq (pv 3) pe_int (nomark _)) (pss_one (ps_ret (pe_join pe_str (pe_lc (own := [("_law_k", 5)]) (g := gName 5) (tt := tYes) rfl sc_law_piece.nd (pi_range1 rfl T.n_range (pa_cons (pe_op op_add pe_int (pe_dn D_law_draw (hr.mono (by decide)) (by rfl) (pa_cons (pv 0) (pa_cons pe_int pa_nil)))) pa_nil)) (blkOk_by (N := ["_law_d", "_law_most", "_law_is_free", "_law_turn", "_law_run", "_law_k"]) (sc := defScope s_law_piece) (by decide +kernel)) (fun _ _ _ _ _ => (pg_name (i := 5) sc_law_piece.nd rfl (Or.inl rfl))) (fun _ _ _ _ _ => pts_nil) (fun _ _ _ _ _ => (pe_dn D_law_pick (hr.mono (by decide)) (by rfl) (pa_cons (pv 0) (pa_cons pe_str pa_nil)))))))) pss_nil)
      (pss_cons (ps_if (pt_cmpR op_eq (pv 3) pe_int (nomark _)) (pss_one (ps_ret (pe_dn D_law_pick (hr.mono (by decide)) (by rfl) (pa_cons (pv 0) (pa_cons (pe_lst (pa_cons pe_str (pa_cons pe_str (pa_cons pe_str (pa_cons pe_str pa_nil))))) pa_nil))))) pss_nil)
      (pss_one (ps_ret (pe_dn D_law_sign (hr.mono (by decide)) (by rfl) (pa_cons (pv 0) (pa_cons (pv 2) pa_nil))))))))), ?_⟩
  refine ⟨_, rfl, d, c, 7, rfl, hd, by decide, by decide, fun r H1 r0 r1 hd1 k1 => ?_⟩
  refine ⟨_, rfl, _, _, rfl, rfl, _, rfl, ite2 (fun e => ?_) (fun e => ?_)⟩
  · refine ⟨⟨_, rfl⟩, _, rfl, d, c, 9, rfl, hd1, by decide, by decide, fun r2 H2 r20 r21 hd2 k2 => ?_⟩
    obtain ⟨n, rfl⟩ := Int.eq_ofNat_of_zero_le r20
    refine ⟨_, _, rfl, rfl, _, rfl, by omega, by omega, fun D hD => ?_⟩
    have nDd := (hd2.new hD).1
    have nDc := (hd2.new hD).2
    refine lc_range (lo := 0) (PJ d c D H2) (PJ.start hd2 (Keep.refl _ _) hD) (fun i H' hi p => ?_) (fun H' p => ?_)
    · have hi' : i < 1000 := by omega
      exact ⟨rfl, _, rfl, rfl, d, c, _, rfl, p.1, .inl ⟨RUNS, rfl, by decide +kernel, by decide +kernel⟩, fun z H3 hz hd3 k3 => p.step hi' hD nDd nDc hz hd3 k3⟩
    · obtain ⟨hd3, k3, ls, hl, el, h4⟩ := p
      have el' : ls.length = 1 + n := by omega
      refine ⟨_, D, ls.map S, rfl, rfl, .inl (SqL.of (by rw [List.map_map]; exact hl)), ?_, ?_⟩
      · have := lens_le ls h4
        have e0 : ("" : Str).length = 0 := by decide +kernel
        rw [e0, List.length_map]
        omega
      have ej : Txt.join "" (ls.map S) = S (TL.joinL [] ls) := join_S [] ls
      have hj := joinL_len ls h4
      rw [ej]
      refine ⟨_, rfl, _, rfl, _, rfl, d, c, m, rfl, hd3, m1, by omega, fun r4 H4 r40 r41 hd4 k4 => ?_⟩
      obtain ⟨t, rfl⟩ := Int.eq_ofNat_of_zero_le r40
      refine ⟨_, _, rfl, rfl, TL.joinL [] ls, 1 + t, rfl, rfl, by omega, by omega, by omega, fun z hz => ?_⟩
      refine q z _ ?_ hd4 (((k1.trans k2).trans k3).trans k4)
      have a1 : (TL.joinL [] ls).length ≤ 36 := by omega
      have := Nat.mul_le_mul a1 (show 1 + t ≤ 44 by omega)
      omega
  · refine ⟨_, rfl, rfl, _, rfl, ite2 (fun e3 => ?_) (fun e3 => ?_)⟩
    · refine ⟨⟨_, rfl⟩, _, rfl, d, c, 2, rfl, hd1, by decide, by decide, fun r2 H2 r20 r21 hd2 k2 => ?_⟩
      obtain ⟨n, rfl⟩ := Int.eq_ofNat_of_zero_le r20
      refine ⟨_, _, rfl, rfl, _, rfl, by omega, by omega, fun D hD => ?_⟩
      have nDd := (hd2.new hD).1
      have nDc := (hd2.new hD).2
      refine lc_range (lo := 0) (PJ d c D H2) (PJ.start hd2 (Keep.refl _ _) hD) (fun i H' hi p => ?_) (fun H' p => ?_)
      · have hi' : i < 1000 := by omega
        exact ⟨rfl, _, rfl, d, c, _, rfl, p.1, .inl ⟨_, rfl, by decide +kernel, by decide +kernel⟩, fun z H3 hz hd3 k3 => p.step hi' hD nDd nDc hz hd3 k3⟩
      · obtain ⟨hd3, k3, ls, hl, el, h4⟩ := p
        have el' : ls.length = 2 + n := by omega
        refine ⟨_, D, ls.map S, rfl, rfl, .inl (SqL.of (by rw [List.map_map]; exact hl)), ?_, ?_⟩
        · have := lens_le ls h4
          have e0 : ("" : Str).length = 0 := by decide +kernel
          rw [e0, List.length_map]
          omega
        have ej : Txt.join "" (ls.map S) = S (TL.joinL [] ls) := join_S [] ls
        have hj := joinL_len ls h4
        rw [ej]
        exact q _ _ (by omega) hd3 ((k1.trans k2).trans k3)
    · refine ⟨_, rfl, rfl, _, rfl, ite2 (fun e4 => ?_) (fun e4 => ?_)⟩
      · refine ⟨_, rfl, le1000 (by simp), fun o ho => ?_⟩
        refine ⟨d, c, .ref o, rfl, hd1.same (same_new ho _), .inr ⟨o, [[32], [10], [32, 32, 32], [32, 10, 10, 32]], rfl, (hd1.new ho).1, upd_same, by decide, by decide, by decide⟩, fun z H3 hz hd3 k3 => ?_⟩
        exact q z _ (by omega) hd3 ((k1.trans (Keep.new ho)).trans k3)
      · exact ⟨_, rfl, _, rfl, d, c, b, rfl, hd1, fun z H3 hz hd3 k3 => q z _ (by omega) hd3 (k1.trans k3)⟩
end
end Bf

set_option Elab.async false
set_option linter.all false
set_option maxRecDepth 100000
set_option maxHeartbeats 4000000
namespace Bf
open PySem PySem.Spec PyProof.Rows L2 SX
def spLaw (K : PySem.W.Frag) : Sp := fun vs H Q _ => ∃ (a : Addr) (ns : List Int), vs = [.ref a] ∧ SqL K H a (ns.map V.int) ∧ ns.length ≤ 63 ∧ ∀ H', Q (.bl true) H'
theorem cat_len {a b : List Nat} (h : a.length + b.length ≤ 16000000) : (S a).length + (S b).length ≤ sizeLine := by
  rw [S_len, S_len]
  exact Nat.le_trans h (by decide)
section
variable {P : Program} {w : World} {K : PySem.W.Frag} {mg : Str → Option Value} {base : Heap} {f : Addr} {fd : FuncData}
theorem ok_drawn (F : Fun K "_law_drawn_text" "_law_drawn_text" s_law_drawn_text f fd) (T : Txt mg) (D_law_draw : Dn P w K mg base "_law_draw" ["_law_d", "_law_many"] 1 spDraw) (D_law_pick : Dn P w K mg base "_law_pick" ["_law_d", "_law_row"] 2 (spPick K))
    (D_law_piece : Dn P w K mg base "_law_piece" ["_law_d", "_law_most", "_law_is_free"] 4 spPiece) :
    FnOk P w K mg base CX0 5 f fd ["_law_d", "_law_pieces", "_law_most", "_law_is_free"] spDrawn := by
  refine F.ok sc_law_drawn_text (fun vs H Q E h => ?_) (fun cdv A outer s H vs Q E hr h => ?_)
  · obtain ⟨d, c, n, m, b, rfl, _⟩ := h
    rfl
  obtain ⟨d, c, n, m, b, rfl, hd, n0, n300, m1, m44, q⟩ := h
  refine ⟨_, (pss_cons (ps_set (i := 4) sc_law_drawn_text.nd rfl (Or.inl rfl) pe_str)
      (pss_cons (ps_for PassesOwn.never rfl (pi_range1 rfl T.n_range (pa_cons (pv 1) pa_nil)) (pg_name (i := 5) sc_law_drawn_text.nd rfl (Or.inl rfl)) (pss_cons (ps_set (i := 4) sc_law_drawn_text.nd rfl (Or.inl rfl) (pe_op op_add_str (pv 4) (pe_dn D_law_piece (hr.mono (by decide)) (by rfl) (pa_cons (pv 0) (pa_cons (pv 2) (pa_cons (pv 3) pa_nil))))))
      (pss_one (ps_if (pt_cmpR op_eq (pe_dn D_law_draw (hr.mono (by decide)) (by rfl) (pa_cons (pv 0) (pa_cons pe_int pa_nil))) pe_int (nomark _)) (pss_one (ps_set (i := 4) sc_law_drawn_text.nd rfl (Or.inl rfl) (pe_op op_add_str (pv 4) (pe_dn D_law_pick (hr.mono (by decide)) (by rfl) (pa_cons (pv 0) (pa_cons (pe_lst (pa_cons pe_str (pa_cons pe_str (pa_cons pe_str (pa_cons pe_str pa_nil))))) pa_nil)))))) pss_nil))))
      (pss_one (ps_ret (pv 4))))), ?_⟩
  refine ⟨_, rfl, n, rfl, by omega, by omega, for_range (lo := 0) (fun i σ' H' => ∃ (s5 : Option V) (z : List Nat), σ' = [some (.ref d), some (.int n), some (.int m), some (.bl b), some (tx z), s5] ∧ z.length ≤ 1588 * i ∧ DS H' d c ∧ Keep [d] H H')
    ⟨none, [], rfl, Nat.zero_le _, hd, Keep.refl _ _⟩ (fun i σ' H' hi p => ?_) (fun σ' H' p => ?_)⟩
  · obtain ⟨s5, z, rfl, hz, hd1, k1⟩ := p
    have hi' : i < 300 := by omega
    refine ⟨_, rfl, _, rfl, _, rfl, _, rfl, d, c, m, b, rfl, hd1, m1, m44, fun y H2 hy hd2 k2 => ⟨S z, S y, rfl, rfl, cat_len (by omega), ?_⟩⟩
    rw [S_cat]
    have hzy : (z ++ y).length ≤ 1588 * i + 1584 := by
      rw [List.length_append]
      omega
    refine ⟨_, rfl, d, c, 3, rfl, hd2, by decide, by decide, fun r H3 r0 r1 hd3 k3 => ⟨rfl, _, rfl, ite2 (fun e => ?_) (fun e => ?_)⟩⟩
    · refine ⟨_, rfl, _, rfl, le1000 (by simp), fun o ho => ?_⟩
      refine ⟨d, c, .ref o, rfl, hd3.same (same_new ho _), .inr ⟨o, [[32], [10], [32, 32], [10, 32]], rfl, (hd3.new ho).1, upd_same, by decide, by decide, by decide⟩, fun x H4 hx hd4 k4 => ⟨S (z ++ y), S x, rfl, rfl, cat_len (by omega), ?_⟩⟩
      rw [S_cat]
      exact ⟨_, z ++ y ++ x, rfl, by rw [List.length_append]; omega, hd4, (((k1.trans k2).trans k3).trans (Keep.new ho)).trans k4⟩
    · exact ⟨_, z ++ y, rfl, by omega, hd3, (k1.trans k2).trans k3⟩
  · obtain ⟨s5, z, rfl, hz, hd1, k1⟩ := p
    exact ⟨_, rfl, q z _ (by omega) hd1 k1⟩
theorem ok_law (F : Fun K "law" "law" s_law f fd) (T : Txt mg) (D_law_begin : Dn P w K mg base "_law_begin" ["_law_script"] 1 (spBegin K)) (D_law_draw : Dn P w K mg base "_law_draw" ["_law_d", "_law_many"] 1 spDraw)
    (D_law_pick : Dn P w K mg base "_law_pick" ["_law_d", "_law_row"] 2 (spPick K)) (D_law_drawn_text : Dn P w K mg base "_law_drawn_text" ["_law_d", "_law_pieces", "_law_most", "_law_is_free"] 5 spDrawn)
    (D_law_is_told : Dn P w K mg base "_law_is_told" ["_law_text"] 4 spTold) : FnOk P w K mg base CX0 6 f fd ["_law_script"] (spLaw K) := by
  refine F.ok sc_law (fun vs H Q E h => ?_) (fun cdv A outer s H vs Q E hr h => ?_)
  · obtain ⟨a, ns, rfl, _⟩ := h
    rfl
  obtain ⟨a, ns, rfl, hS, h63, q⟩ := h
  have ym : most = 1000000 := rfl
  refine ⟨_, (pss_cons (ps_set (i := 1) sc_law.nd rfl (Or.inl rfl) (pe_dn D_law_begin (hr.mono (by decide)) (by rfl) (pa_cons (pv 0) pa_nil)))
      (pss_cons (ps_set (i := 2) sc_law.nd rfl (Or.inl rfl) (pe_dn D_law_draw (hr.mono (by decide)) (by rfl) (pa_cons (pv 1) (pa_cons pe_int pa_nil))))
      (C8.pss_cut (ps_if (pt_cmpR op_eq (pv 2) pe_int (nomark _)) (pss_one (ps_set (i := 3) sc_law.nd rfl (Or.inl rfl) (pe_dn D_law_drawn_text (hr.mono (by decide)) (by rfl) (pa_cons (pv 1) (pa_cons (pe_op op_add pe_int (pe_dn D_law_draw (hr.mono (by decide)) (by rfl) (pa_cons (pv 1) (pa_cons pe_int pa_nil)))) (pa_cons pe_int (pa_cons pe_bl pa_nil))))))) (pss_one (ps_if (pt_cmpR op_eq (pv 2) pe_int (nomark _)) (pss_one (ps_set (i := 3) sc_law.nd rfl (Or.inl rfl) (pe_dn D_law_drawn_text (hr.mono (by decide)) (by rfl) (pa_cons (pv 1) (pa_cons (pe_dn D_law_draw (hr.mono (by decide)) (by rfl) (pa_cons (pv 1) (pa_cons pe_int pa_nil))) (pa_cons pe_int (pa_cons pe_bl pa_nil))))))) (pss_one (ps_set (i := 3) sc_law.nd rfl (Or.inl rfl) (pe_dn D_law_drawn_text (hr.mono (by decide)) (by rfl) (pa_cons (pv 1) (pa_cons (pe_dn D_law_draw (hr.mono (by decide)) (by rfl) (pa_cons (pv 1) (pa_cons pe_int pa_nil))) (pa_cons pe_int (pa_cons pe_bl pa_nil))))))))))
      (pss_cons (ps_set (i := 4) sc_law.nd rfl (Or.inl rfl) (pe_dn D_law_drawn_text (hr.mono (by decide)) (by rfl) (pa_cons (pv 1) (pa_cons (pe_dn D_law_draw (hr.mono (by decide)) (by rfl) (pa_cons (pv 1) (pa_cons pe_int pa_nil))) (pa_cons pe_int (pa_cons pe_bl pa_nil))))))
      (pss_cons (ps_if (pt_not (PW.pt (pw_and (pt_val (pe_dn D_law_is_told (hr.mono (by decide)) (by rfl) (pa_cons (pv 3) pa_nil))) (pw_and (pt_val (pe_dn D_law_is_told (hr.mono (by decide)) (by rfl) (pa_cons (pv 4) pa_nil))) (pw_and1 (pt_val (pe_dn D_law_is_told (hr.mono (by decide)) (by rfl) (pa_cons (pv 3) pa_nil)))))))) (pss_one (ps_ret pe_bl)) pss_nil)
      (pss_one (ps_ret (pe_dn D_law_is_told (hr.mono (by decide)) (by rfl) (pa_cons (pe_op op_add_str (pe_op op_add_str (pv 3) (pe_dn D_law_pick (hr.mono (by decide)) (by rfl) (pa_cons (pv 1) (pa_cons (pe_lst (pa_cons pe_str (pa_cons pe_str pa_nil))) pa_nil)))) (pv 4)) pa_nil))))))))), ?_⟩
  refine ⟨_, rfl, a, ns, rfl, hS, h63, fun d c H1 nd nc hd s1 => ?_⟩
  refine ⟨_, rfl, d, c, 15, rfl, hd, by decide, by decide, fun r H2 r0 r1 hd2 k2 => ?_⟩
  refine ⟨fun σ' H3 => ∃ one : List Nat, σ' = [some (.ref a), some (.ref d), some (.int r), some (tx one), none] ∧ one.length ≤ 476400 ∧ DS H3 d c, ?_, ?_⟩
  · refine ⟨_, rfl, rfl, _, rfl, ite2 (fun e => ?_) (fun e => ?_)⟩
    · refine ⟨_, rfl, _, rfl, d, c, 200, rfl, hd2, by decide, by decide, fun r3 H3 a0 a1 hd3 k3 => ?_⟩
      exact ⟨_, _, rfl, rfl, d, c, 100 + r3, 1, false, rfl, hd3, by omega, by omega, by decide, by decide, fun z H4 hz hd4 k4 => ⟨z, rfl, hz, hd4⟩⟩
    · refine ⟨_, rfl, rfl, _, rfl, ite2 (fun e => ?_) (fun e => ?_)⟩
      · refine ⟨_, rfl, _, rfl, d, c, 21, rfl, hd2, by decide, by decide, fun r3 H3 a0 a1 hd3 k3 => ?_⟩
        exact ⟨d, c, r3, 44, true, rfl, hd3, by omega, by omega, by decide, by decide, fun z H4 hz hd4 k4 => ⟨z, rfl, hz, hd4⟩⟩
      · refine ⟨_, rfl, _, rfl, d, c, 21, rfl, hd2, by decide, by decide, fun r3 H3 a0 a1 hd3 k3 => ?_⟩
        exact ⟨d, c, r3, 1, true, rfl, hd3, by omega, by omega, by decide, by decide, fun z H4 hz hd4 k4 => ⟨z, rfl, hz, hd4⟩⟩
  rintro σ' H3 ⟨one, rfl, h1, hd3⟩
  refine ⟨_, rfl, _, rfl, d, c, 11, rfl, hd3, by decide, by decide, fun r3 H4 a0 a1 hd4 k4 => ?_⟩
  refine ⟨d, c, r3, 1, true, rfl, hd4, by omega, by omega, by decide, by decide, fun two H5 h2 hd5 k5 => ?_⟩
  refine ⟨_, rfl, one, rfl, by omega, fun H6 s6 => ⟨true, rfl, ?_⟩⟩
  refine iteT ?_
  refine ⟨_, rfl, two, rfl, by omega, fun H7 s7 => ⟨true, rfl, ?_⟩⟩
  refine iteT ?_
  refine ⟨_, rfl, one, rfl, by omega, fun H8 s8 => ⟨true, rfl, ?_⟩⟩
  refine iteF ?_
  have hd8 := hd5.same ((s6.trans s7).trans s8)
  refine ⟨_, rfl, _, rfl, le1000 (by simp), fun o ho => ?_⟩
  refine ⟨d, c, .ref o, rfl, hd8.same (same_new ho _), .inr ⟨o, [[32], [10]], rfl, (hd8.new ho).1, upd_same, by decide, by decide, by decide⟩, fun x H9 hx hd9 k9 => ⟨S one, S x, rfl, rfl, cat_len (by omega), ?_⟩⟩
  rw [S_cat]
  refine ⟨_, rfl, S (one ++ x), S two, rfl, rfl, cat_len (by rw [List.length_append]; omega), ?_⟩
  rw [S_cat]
  exact ⟨one ++ x ++ two, rfl, by rw [List.length_append, List.length_append]; omega, fun H10 _ => q H10⟩
end
end Bf

set_option Elab.async false
set_option linter.all false
set_option maxRecDepth 100000
set_option maxHeartbeats 4000000
namespace Bf
open PySem PySem.Spec PyProof.Rows L2 SX
/-! ### what the top has written -/
theorem all_mk {l : PySem.W.OpenLaw} {w : World} {K : PySem.W.Frag} {h : Heap} {mg : Str → Option Value} {fa f__law_draw f__law_begin f__law_run_chars f__law_goes_on f__law_tokens f_run_end f_token_end f_tokens_of f__law_is_told f__law_pick f__law_sign f__law_piece f__law_drawn_text f_law pG pL : Addr} (X : K.In h) (G : h.Ns mainGlobals mg) (hfa : mg "law" = some (.ref fa))
    {od2 an2 : Option Addr} {sl2 : Array (Option Value)} {oc2 kV2 dc2 pm2 cd2 ct2 : Value}
    {od4 an4 : Option Addr} {sl4 : Array (Option Value)} {oc4 kV4 dc4 pm4 cd4 ct4 : Value}
    {od6 an6 : Option Addr} {sl6 : Array (Option Value)} {oc6 kV6 dc6 pm6 cd6 ct6 : Value}
    {od8 an8 : Option Addr} {sl8 : Array (Option Value)} {oc8 kV8 dc8 pm8 cd8 ct8 : Value}
    {od10 an10 : Option Addr} {sl10 : Array (Option Value)} {oc10 kV10 dc10 pm10 cd10 ct10 : Value}
    {od12 an12 : Option Addr} {sl12 : Array (Option Value)} {oc12 kV12 dc12 pm12 cd12 ct12 : Value}
    {od14 an14 : Option Addr} {sl14 : Array (Option Value)} {oc14 kV14 dc14 pm14 cd14 ct14 : Value}
    {od16 an16 : Option Addr} {sl16 : Array (Option Value)} {oc16 kV16 dc16 pm16 cd16 ct16 : Value}
    {od18 an18 : Option Addr} {sl18 : Array (Option Value)} {oc18 kV18 dc18 pm18 cd18 ct18 : Value}
    {od20 an20 : Option Addr} {sl20 : Array (Option Value)} {oc20 kV20 dc20 pm20 cd20 ct20 : Value}
    {od22 an22 : Option Addr} {sl22 : Array (Option Value)} {oc22 kV22 dc22 pm22 cd22 ct22 : Value}
    {od24 an24 : Option Addr} {sl24 : Array (Option Value)} {oc24 kV24 dc24 pm24 cd24 ct24 : Value}
    {od26 an26 : Option Addr} {sl26 : Array (Option Value)} {oc26 kV26 dc26 pm26 cd26 ct26 : Value}
    {od28 an28 : Option Addr} {sl28 : Array (Option Value)} {oc28 kV28 dc28 pm28 cd28 ct28 : Value}
    {odG odL : Option Addr} {tR tG1 tG2 tL1 tL2 tL3 tL4 tL5 tL6 : Tok} {nG nL : Nat} {slG slL : Array (Option Value)}
    (a1 : PySem.W.nsIn K mainGlobals "_law_draw" = some (some (.ref f__law_draw)))
    (l2 : K.lookup f__law_draw = some ⟨oc2, od2, .func (PySem.W.fnOf "_law_draw" "_law_draw" (defArgs s_law_draw) (defBody s_law_draw) (defScope s_law_draw) .none kV2 dc2 pm2 an2 cd2 ct2), sl2⟩) (c2 : PySem.W.codeIn K cd2 "_law_draw" = true) (k2 : PySem.W.keepIn K (.ref f__law_draw) = true)
    (a3 : PySem.W.nsIn K mainGlobals "_law_begin" = some (some (.ref f__law_begin)))
    (l4 : K.lookup f__law_begin = some ⟨oc4, od4, .func (PySem.W.fnOf "_law_begin" "_law_begin" (defArgs s_law_begin) (defBody s_law_begin) (defScope s_law_begin) .none kV4 dc4 pm4 an4 cd4 ct4), sl4⟩) (c4 : PySem.W.codeIn K cd4 "_law_begin" = true) (k4 : PySem.W.keepIn K (.ref f__law_begin) = true)
    (a5 : PySem.W.nsIn K mainGlobals "_law_run_chars" = some (some (.ref f__law_run_chars)))
    (l6 : K.lookup f__law_run_chars = some ⟨oc6, od6, .func (PySem.W.fnOf "_law_run_chars" "_law_run_chars" (defArgs s_law_run_chars) (defBody s_law_run_chars) (defScope s_law_run_chars) .none kV6 dc6 pm6 an6 cd6 ct6), sl6⟩) (c6 : PySem.W.codeIn K cd6 "_law_run_chars" = true) (k6 : PySem.W.keepIn K (.ref f__law_run_chars) = true)
    (a7 : PySem.W.nsIn K mainGlobals "_law_goes_on" = some (some (.ref f__law_goes_on)))
    (l8 : K.lookup f__law_goes_on = some ⟨oc8, od8, .func (PySem.W.fnOf "_law_goes_on" "_law_goes_on" (defArgs s_law_goes_on) (defBody s_law_goes_on) (defScope s_law_goes_on) .none kV8 dc8 pm8 an8 cd8 ct8), sl8⟩) (c8 : PySem.W.codeIn K cd8 "_law_goes_on" = true) (k8 : PySem.W.keepIn K (.ref f__law_goes_on) = true)
    (a9 : PySem.W.nsIn K mainGlobals "_law_tokens" = some (some (.ref f__law_tokens)))
    (l10 : K.lookup f__law_tokens = some ⟨oc10, od10, .func (PySem.W.fnOf "_law_tokens" "_law_tokens" (defArgs s_law_tokens) (defBody s_law_tokens) (defScope s_law_tokens) .none kV10 dc10 pm10 an10 cd10 ct10), sl10⟩) (c10 : PySem.W.codeIn K cd10 "_law_tokens" = true) (k10 : PySem.W.keepIn K (.ref f__law_tokens) = true)
    (a11 : PySem.W.nsIn K mainGlobals "run_end" = some (some (.ref f_run_end)))
    (l12 : K.lookup f_run_end = some ⟨oc12, od12, .func (PySem.W.fnOf "run_end" "run_end" (defArgs s_run_end) (defBody s_run_end) (defScope s_run_end) .none kV12 dc12 pm12 an12 cd12 ct12), sl12⟩) (c12 : PySem.W.codeIn K cd12 "run_end" = true) (k12 : PySem.W.keepIn K (.ref f_run_end) = true)
    (a13 : PySem.W.nsIn K mainGlobals "token_end" = some (some (.ref f_token_end)))
    (l14 : K.lookup f_token_end = some ⟨oc14, od14, .func (PySem.W.fnOf "token_end" "token_end" (defArgs s_token_end) (defBody s_token_end) (defScope s_token_end) .none kV14 dc14 pm14 an14 cd14 ct14), sl14⟩) (c14 : PySem.W.codeIn K cd14 "token_end" = true) (k14 : PySem.W.keepIn K (.ref f_token_end) = true)
    (a15 : PySem.W.nsIn K mainGlobals "tokens_of" = some (some (.ref f_tokens_of)))
    (l16 : K.lookup f_tokens_of = some ⟨oc16, od16, .func (PySem.W.fnOf "tokens_of" "tokens_of" (defArgs s_tokens_of) (defBody s_tokens_of) (defScope s_tokens_of) .none kV16 dc16 pm16 an16 cd16 ct16), sl16⟩) (c16 : PySem.W.codeIn K cd16 "tokens_of" = true) (k16 : PySem.W.keepIn K (.ref f_tokens_of) = true)
    (a17 : PySem.W.nsIn K mainGlobals "_law_is_told" = some (some (.ref f__law_is_told)))
    (l18 : K.lookup f__law_is_told = some ⟨oc18, od18, .func (PySem.W.fnOf "_law_is_told" "_law_is_told" (defArgs s_law_is_told) (defBody s_law_is_told) (defScope s_law_is_told) .none kV18 dc18 pm18 an18 cd18 ct18), sl18⟩) (c18 : PySem.W.codeIn K cd18 "_law_is_told" = true) (k18 : PySem.W.keepIn K (.ref f__law_is_told) = true)
    (a19 : PySem.W.nsIn K mainGlobals "_law_pick" = some (some (.ref f__law_pick)))
    (l20 : K.lookup f__law_pick = some ⟨oc20, od20, .func (PySem.W.fnOf "_law_pick" "_law_pick" (defArgs s_law_pick) (defBody s_law_pick) (defScope s_law_pick) .none kV20 dc20 pm20 an20 cd20 ct20), sl20⟩) (c20 : PySem.W.codeIn K cd20 "_law_pick" = true) (k20 : PySem.W.keepIn K (.ref f__law_pick) = true)
    (a21 : PySem.W.nsIn K mainGlobals "_law_sign" = some (some (.ref f__law_sign)))
    (l22 : K.lookup f__law_sign = some ⟨oc22, od22, .func (PySem.W.fnOf "_law_sign" "_law_sign" (defArgs s_law_sign) (defBody s_law_sign) (defScope s_law_sign) .none kV22 dc22 pm22 an22 cd22 ct22), sl22⟩) (c22 : PySem.W.codeIn K cd22 "_law_sign" = true) (k22 : PySem.W.keepIn K (.ref f__law_sign) = true)
    (a23 : PySem.W.nsIn K mainGlobals "_law_piece" = some (some (.ref f__law_piece)))
    (l24 : K.lookup f__law_piece = some ⟨oc24, od24, .func (PySem.W.fnOf "_law_piece" "_law_piece" (defArgs s_law_piece) (defBody s_law_piece) (defScope s_law_piece) .none kV24 dc24 pm24 an24 cd24 ct24), sl24⟩) (c24 : PySem.W.codeIn K cd24 "_law_piece" = true) (k24 : PySem.W.keepIn K (.ref f__law_piece) = true)
    (a25 : PySem.W.nsIn K mainGlobals "_law_drawn_text" = some (some (.ref f__law_drawn_text)))
    (l26 : K.lookup f__law_drawn_text = some ⟨oc26, od26, .func (PySem.W.fnOf "_law_drawn_text" "_law_drawn_text" (defArgs s_law_drawn_text) (defBody s_law_drawn_text) (defScope s_law_drawn_text) .none kV26 dc26 pm26 an26 cd26 ct26), sl26⟩) (c26 : PySem.W.codeIn K cd26 "_law_drawn_text" = true) (k26 : PySem.W.keepIn K (.ref f__law_drawn_text) = true)
    (a27 : PySem.W.nsIn K mainGlobals "law" = some (some (.ref f_law)))
    (l28 : K.lookup f_law = some ⟨oc28, od28, .func (PySem.W.fnOf "law" "law" (defArgs s_law) (defBody s_law) (defScope s_law) .none kV28 dc28 pm28 an28 cd28 ct28), sl28⟩) (c28 : PySem.W.codeIn K cd28 "law" = true) (k28 : PySem.W.keepIn K (.ref f_law) = true)
    (x29 : PySem.W.nsIn K mainGlobals "RUN_SIGNS" = some (some (.str "abcdefghijklmnopqrstuvwxyzABCDEFGHIJKLMNOPQRSTUVWXYZ0123456789" tR)))
    (a30 : PySem.W.nsIn K mainGlobals "GAPS" = some (some (.ref pG)))
    (x31 : K.lookup pG = some ⟨.type "tuple", odG, .seq #[.str " " tG1, .str "\n" tG2] nG, slG⟩)
    (a32 : PySem.W.nsIn K mainGlobals "LONG_SIGNS" = some (some (.ref pL)))
    (x33 : K.lookup pL = some ⟨.type "tuple", odL, .seq #[.str ".." tL1, .str "==" tL2, .str "!=" tL3, .str "<=" tL4, .str "<<" tL5, .str ">>" tL6] nL, slL⟩)
    (z34 : PySem.W.nsIn K mainGlobals "int" = some none)
    (z35 : PySem.W.nsIn K mainGlobals "len" = some none)
    (z36 : PySem.W.nsIn K mainGlobals "abs" = some none)
    (z37 : PySem.W.nsIn K mainGlobals "isinstance" = some none)
    (z38 : PySem.W.nsIn K mainGlobals "range" = some none)
    (z39 : PySem.W.nsIn K mainGlobals "tuple" = some none)
    (z40 : PySem.W.nsIn K mainGlobals "list" = some none)
    (z41 : PySem.W.nsIn K mainGlobals "str" = some none)
    (z42 : PySem.W.nsIn K mainGlobals "all" = some none) :
    ∃ fd : FuncData, (∀ (s : Shared) (v : Value), BindsTo s fd ⟨[v], []⟩ [("_law_script", v)]) ∧ ∀ base : Heap, K.In base → base.Ns mainGlobals mg → FnOk l.prog w K mg base CX0 6 fa fd ["_law_script"] (spLaw K) := by
  have e := hfa.symm.trans (PySem.W.mg_of X G a27)
  cases e
  have T : Txt mg := ⟨PySem.W.mg_none_of X G z34, PySem.W.mg_none_of X G z35, PySem.W.mg_none_of X G z36, PySem.W.mg_none_of X G z37, PySem.W.mg_none_of X G z38, PySem.W.mg_none_of X G z39, PySem.W.mg_none_of X G z40, PySem.W.mg_none_of X G z41, PySem.W.mg_none_of X G z42⟩
  have TP : TxtP K mg pG pL := ⟨T, ⟨_, PySem.W.mg_of X G x29⟩, PySem.W.mg_of X G a30, PySem.W.mg_of X G a32, fun H => .inr ⟨_, _, _, x31, rfl, rfl, (by show _ ≤ 2 ^ 24; simp), .cons ⟨_, rfl⟩ (.cons ⟨_, rfl⟩ .nil)⟩,
    fun H => .inr ⟨_, _, _, x33, rfl, rfl, (by show _ ≤ 2 ^ 24; simp), .cons ⟨_, rfl⟩ (.cons ⟨_, rfl⟩ (.cons ⟨_, rfl⟩ (.cons ⟨_, rfl⟩ (.cons ⟨_, rfl⟩ (.cons ⟨_, rfl⟩ .nil)))))⟩⟩
  have F_law_draw := fun_mk (st := s_law_draw) l2 c2 k2
  have F_law_begin := fun_mk (st := s_law_begin) l4 c4 k4
  have F_law_run_chars := fun_mk (st := s_law_run_chars) l6 c6 k6
  have F_law_goes_on := fun_mk (st := s_law_goes_on) l8 c8 k8
  have F_law_tokens := fun_mk (st := s_law_tokens) l10 c10 k10
  have F_run_end := fun_mk (st := s_run_end) l12 c12 k12
  have F_token_end := fun_mk (st := s_token_end) l14 c14 k14
  have F_tokens_of := fun_mk (st := s_tokens_of) l16 c16 k16
  have F_law_is_told := fun_mk (st := s_law_is_told) l18 c18 k18
  have F_law_pick := fun_mk (st := s_law_pick) l20 c20 k20
  have F_law_sign := fun_mk (st := s_law_sign) l22 c22 k22
  have F_law_piece := fun_mk (st := s_law_piece) l24 c24 k24
  have F_law_drawn_text := fun_mk (st := s_law_drawn_text) l26 c26 k26
  have F_law := fun_mk (st := s_law) l28 c28 k28
  refine ⟨PySem.W.fnOf "law" "law" (defArgs s_law) (defBody s_law) (defScope s_law) .none kV28 dc28 pm28 an28 cd28 ct28, fun s v => .of_eq rfl, fun base _ _ => ?_⟩
  have D_law_draw : Dn l.prog w K mg base "_law_draw" ["_law_d", "_law_many"] 1 spDraw := ⟨f__law_draw, _, ok_draw F_law_draw T, PySem.W.mg_of X G a1, k2, (F_law_draw.binds (ps := ["_law_d", "_law_many"]) fun _ _ _ _ _ _ us hl => match us, hl with | [_, _], _ => rfl)⟩
  have D_law_begin : Dn l.prog w K mg base "_law_begin" ["_law_script"] 1 (spBegin K) := ⟨f__law_begin, _, ok_begin F_law_begin T, PySem.W.mg_of X G a3, k4, (F_law_begin.binds (ps := ["_law_script"]) fun _ _ _ _ _ _ us hl => match us, hl with | [_], _ => rfl)⟩
  have D_law_run_chars : Dn l.prog w K mg base "_law_run_chars" [] 1 spRuns := ⟨f__law_run_chars, _, ok_runs F_law_run_chars , PySem.W.mg_of X G a5, k6, (F_law_run_chars.binds (ps := []) fun _ _ _ _ _ _ us hl => match us, hl with | [], _ => rfl)⟩
  have D_law_goes_on : Dn l.prog w K mg base "_law_goes_on" ["_law_held", "_law_char"] 2 spGoes := ⟨f__law_goes_on, _, ok_goes F_law_goes_on D_law_run_chars, PySem.W.mg_of X G a7, k8, (F_law_goes_on.binds (ps := ["_law_held", "_law_char"]) fun _ _ _ _ _ _ us hl => match us, hl with | [_, _], _ => rfl)⟩
  have D_law_tokens : Dn l.prog w K mg base "_law_tokens" ["_law_text"] 3 spTokL := ⟨f__law_tokens, _, ok_tokL F_law_tokens D_law_goes_on, PySem.W.mg_of X G a9, k10, (F_law_tokens.binds (ps := ["_law_text"]) fun _ _ _ _ _ _ us hl => match us, hl with | [_], _ => rfl)⟩
  have D_run_end : Dn l.prog w K mg base "run_end" ["text", "at"] 1 spRunEnd := ⟨f_run_end, _, ok_run_end F_run_end TP, PySem.W.mg_of X G a11, k12, (F_run_end.binds (ps := ["text", "at"]) fun _ _ _ _ _ _ us hl => match us, hl with | [_, _], _ => rfl)⟩
  have D_token_end : Dn l.prog w K mg base "token_end" ["text", "at"] 2 spTokenEnd := ⟨f_token_end, _, ok_token_end F_token_end TP D_run_end, PySem.W.mg_of X G a13, k14, (F_token_end.binds (ps := ["text", "at"]) fun _ _ _ _ _ _ us hl => match us, hl with | [_, _], _ => rfl)⟩
  have D_tokens_of : Dn l.prog w K mg base "tokens_of" ["text"] 3 spTokens := ⟨f_tokens_of, _, ok_tokens F_tokens_of TP D_token_end, PySem.W.mg_of X G a15, k16, (F_tokens_of.binds (ps := ["text"]) fun _ _ _ _ _ _ us hl => match us, hl with | [_], _ => rfl)⟩
  have D_law_is_told : Dn l.prog w K mg base "_law_is_told" ["_law_text"] 4 spTold := ⟨f__law_is_told, _, ok_told F_law_is_told T D_tokens_of D_law_tokens, PySem.W.mg_of X G a17, k18, (F_law_is_told.binds (ps := ["_law_text"]) fun _ _ _ _ _ _ us hl => match us, hl with | [_], _ => rfl)⟩
  have D_law_pick : Dn l.prog w K mg base "_law_pick" ["_law_d", "_law_row"] 2 (spPick K) := ⟨f__law_pick, _, ok_pick F_law_pick T D_law_draw, PySem.W.mg_of X G a19, k20, (F_law_pick.binds (ps := ["_law_d", "_law_row"]) fun _ _ _ _ _ _ us hl => match us, hl with | [_, _], _ => rfl)⟩
  have D_law_sign : Dn l.prog w K mg base "_law_sign" ["_law_d", "_law_is_free"] 3 spSign := ⟨f__law_sign, _, ok_sign F_law_sign D_law_pick, PySem.W.mg_of X G a21, k22, (F_law_sign.binds (ps := ["_law_d", "_law_is_free"]) fun _ _ _ _ _ _ us hl => match us, hl with | [_, _], _ => rfl)⟩
  have D_law_piece : Dn l.prog w K mg base "_law_piece" ["_law_d", "_law_most", "_law_is_free"] 4 spPiece := ⟨f__law_piece, _, ok_piece F_law_piece T D_law_draw D_law_pick D_law_run_chars D_law_sign, PySem.W.mg_of X G a23, k24, (F_law_piece.binds (ps := ["_law_d", "_law_most", "_law_is_free"]) fun _ _ _ _ _ _ us hl => match us, hl with | [_, _, _], _ => rfl)⟩
  have D_law_drawn_text : Dn l.prog w K mg base "_law_drawn_text" ["_law_d", "_law_pieces", "_law_most", "_law_is_free"] 5 spDrawn := ⟨f__law_drawn_text, _, ok_drawn F_law_drawn_text T D_law_draw D_law_pick D_law_piece, PySem.W.mg_of X G a25, k26, (F_law_drawn_text.binds (ps := ["_law_d", "_law_pieces", "_law_most", "_law_is_free"]) fun _ _ _ _ _ _ us hl => match us, hl with | [_, _, _, _], _ => rfl)⟩
  exact ok_law F_law T D_law_begin D_law_draw D_law_pick D_law_drawn_text D_law_is_told
end Bf
open PySem PySem.W PyProof.Rows
set_option maxRecDepth 100000 in
set_option maxHeartbeats 0 in
theorem PySem.Challenge.cw_beatfabric_k04_tokens_holds : PySem.Challenge.rw_beatfabric_k04_tokens.Holds := by
  w_on; o_law; k_head; (case hw => w_witness2)
  k_fill
  refine L2.walk_of (l := PySem.Challenge.rw_beatfabric_k04_tokens) (n := 63) (k := 6) (x := "_law_script") (CX := fun _ => L2.CX0) (sp := fun w => Bf.spLaw _) rfl (by decide) rfl ⟨rfl, by decide, by decide⟩ (fun w h Y => PySem.W.kIn_of Y) ?F (fun _ _ a ns hl _ hS => ⟨a, ns, rfl, hS, hl, fun _ => rfl⟩) (fun _ _ _ _ _ h => h)
  case F =>
    intro w mg fa h KX G hmg
    refine' Bf.all_mk KX G hmg ?a1 ?l2 ?c2 ?k2 ?a3 ?l4 ?c4 ?k4 ?a5 ?l6 ?c6 ?k6 ?a7 ?l8 ?c8 ?k8 ?a9 ?l10 ?c10 ?k10 ?a11 ?l12 ?c12 ?k12 ?a13 ?l14 ?c14 ?k14 ?a15 ?l16 ?c16 ?k16 ?a17 ?l18 ?c18 ?k18 ?a19 ?l20 ?c20 ?k20 ?a21 ?l22 ?c22 ?k22 ?a23 ?l24 ?c24 ?k24 ?a25 ?l26 ?c26 ?k26 ?a27 ?l28 ?c28 ?k28 ?x29 ?a30 ?x31 ?a32 ?x33 ?z34 ?z35 ?z36 ?z37 ?z38 ?z39 ?z40 ?z41 ?z42
    (case a1 => k_is)
    (case l2 => k_is)
    (case c2 => k_is)
    (case k2 => k_is)
    (case a3 => k_is)
    (case l4 => k_is)
    (case c4 => k_is)
    (case k4 => k_is)
    (case a5 => k_is)
    (case l6 => k_is)
    (case c6 => k_is)
    (case k6 => k_is)
    (case a7 => k_is)
    (case l8 => k_is)
    (case c8 => k_is)
    (case k8 => k_is)
    (case a9 => k_is)
    (case l10 => k_is)
    (case c10 => k_is)
    (case k10 => k_is)
    (case a11 => k_is)
    (case l12 => k_is)
    (case c12 => k_is)
    (case k12 => k_is)
    (case a13 => k_is)
    (case l14 => k_is)
    (case c14 => k_is)
    (case k14 => k_is)
    (case a15 => k_is)
    (case l16 => k_is)
    (case c16 => k_is)
    (case k16 => k_is)
    (case a17 => k_is)
    (case l18 => k_is)
    (case c18 => k_is)
    (case k18 => k_is)
    (case a19 => k_is)
    (case l20 => k_is)
    (case c20 => k_is)
    (case k20 => k_is)
    (case a21 => k_is)
    (case l22 => k_is)
    (case c22 => k_is)
    (case k22 => k_is)
    (case a23 => k_is)
    (case l24 => k_is)
    (case c24 => k_is)
    (case k24 => k_is)
    (case a25 => k_is)
    (case l26 => k_is)
    (case c26 => k_is)
    (case k26 => k_is)
    (case a27 => k_is)
    (case l28 => k_is)
    (case c28 => k_is)
    (case k28 => k_is)
    (case x29 => k_is)
    (case a30 => k_is)
    (case x31 => k_is)
    (case a32 => k_is)
    (case x33 => k_is)
    (case z34 => k_is)
    (case z35 => k_is)
    (case z36 => k_is)
    (case z37 => k_is)
    (case z38 => k_is)
    (case z39 => k_is)
    (case z40 => k_is)
    (case z41 => k_is)
    (case z42 => k_is)
