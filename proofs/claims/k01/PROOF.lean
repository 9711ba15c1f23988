import PyProof.Rows.All
import Wide.All
import OpenK.AllK
import Wide.FinOn
import HandS.Base
import HandS.Call
import HandS.List
import HandS.Comp
import HandS.Ends
import HandS.Words
import HandS.Wide
import HandS.WideBits
import HandS.More
import HandS.IsInst
import HandS.CallLocal
import HandS.Text
import HandS.Iter
import HandS.Dict
import HandS.Defaults
import HandS.Codes
import PyProof.Rows.BitMore
import PySem.Challenge.RW_beatfabric_k01_word_operations
set_option Elab.async false
set_option linter.all false
set_option maxRecDepth 100000
set_option maxHeartbeats 4000000
namespace Bf
open PySem PySem.Spec PyProof.Rows L2

/-! ### rules that the layer lacks -/
section
variable {X : Cx}
def rGetL : V → V → Hp → VK → Prop := fun o i H Q => ∃ p xs k v, o = .ref p ∧ i = .int k ∧ H p = some (.lst xs) ∧ atI xs k = some v ∧ Q v H
theorem get_list : PGet X rGetL := by
  intro pins s σ H o i ov iv Q I ro ri h
  obtain ⟨p, xs, k, z, rfl, rfl, hp, he, q⟩ := h
  cases ro
  obtain ⟨t, rfl⟩ := ri
  obtain ⟨its, r, pl, hz⟩ := I.list (SqL.of hp)
  obtain ⟨j, h1, h2, h3, h4, h5⟩ := atI_get he
  obtain ⟨w, ew, rw'⟩ := r.get h2
  have hl := r.length
  have hn := line63
  have fin : EP X pins σ Q w s := ⟨z, H, I, rw', q⟩
  by_cases h0 : 0 ≤ k
  · have hj : k.toNat = j := by
      rw [seqIndex_of h0 h5] at h1
      exact Option.some.inj h1
    refine PySem.wpAny_getItem_list pl.isList h0 (by omega) (by rw [hj]; simpa using ew) fin
  · have hj : (k + (its.toArray.size : Int)).toNat = j := by
      rw [seqIndex_neg (by omega) h4] at h1
      rw [List.size_toArray, ← hl]
      exact Option.some.inj h1
    exact wpAny_getItem_list_neg pl.isList (by omega) (by rw [List.size_toArray] <;> omega) (by omega) (by rw [hj]; simpa using ew) fin

/-- max, min of two numbers that are not negative -/
theorem cr_maxN (hc : X.calm = true) : CallR X (.builtin "max") (fun xs H Q => ∃ i j : Nat, xs = [V.int i, V.int j] ∧ Q (V.int ((max i j : Nat) : Int)) H) := by
  intro pins s σ H vs us Q I r h
  obtain ⟨i, j, rfl, q⟩ := h
  refine call_max2 hc pins s σ H _ us Q I r ⟨i, j, rfl, ?_⟩
  have e : (if (j : Int) > (i : Int) then (j : Int) else (i : Int)) = ((max i j : Nat) : Int) := by
    by_cases h : (j : Int) > i
    · rw [if_pos h, Nat.max_eq_right (by omega)]
    · rw [if_neg h, Nat.max_eq_left (by omega)]
  rw [e]
  exact q
theorem cr_minN (hc : X.calm = true) : CallR X (.builtin "min") (fun xs H Q => ∃ i j : Nat, xs = [V.int i, V.int j] ∧ Q (V.int ((min i j : Nat) : Int)) H) := by
  intro pins s σ H vs us Q I r h
  obtain ⟨i, j, rfl, q⟩ := h
  refine call_min2 hc pins s σ H _ us Q I r ⟨i, j, rfl, ?_⟩
  have e : (if (j : Int) < (i : Int) then (j : Int) else (i : Int)) = ((min i j : Nat) : Int) := by
    by_cases h : (j : Int) < i
    · rw [if_pos h, Nat.min_eq_right (by omega)]
    · rw [if_neg h, Nat.min_eq_left (by omega)]
  rw [e]
  exact q
/-- sum of a tuple of ints -/
def rSumT (K : PySem.W.Frag) : List V → Hp → VK → Prop := fun vs H Q => ∃ (a : Addr) (ns : List Int), vs = [V.ref a] ∧ SqT K H a (ns.map V.int) ∧ Q (.int ns.sum) H
theorem cr_sumT (hc : X.calm = true) : CallR X (.builtin "sum") (rSumT X.K) := by
  intro pins s σ H vs us Q I r h
  obtain ⟨a, ns, rfl, hs, q⟩ := h
  obtain ⟨its, rv, hl, _⟩ := I.tuple hs
  rw [Vals.ref1 r]
  obtain ⟨xs, e⟩ := rv.ints.allInts.items
  have hn : numsOf (intItems xs).toList = ns := by rw [← e]; exact rv.ints.numsOf
  rw [nums_intItems] at hn
  have hl' : s.heap.IsTuple a (intItems xs) := by
    rw [← e]
    exact hl
  refine PySem.W.ktm_sumG (I.ok.hd hc) hl' fun h' tk t' hk => ?_
  rw [preSum_eq, List.take_of_length_le (by simp), hn]
  exact ⟨.int _, H, I.kept hk, ⟨_, rfl⟩, q⟩
end

/-- a def that stands, with its promise -/
def vI (n : Nat) : V := .int (n : Int)
structure Dn (P : Program) (w : World) (K : PySem.W.Frag) (mg : Str → Option Value) (base : Heap) (x : Str) (ps : List Str) (k : Nat) (sp : Sp) : Prop where
  ex : ∃ (f : Addr) (fd : FuncData), FnOk P w K mg base CX0 k f fd ps sp ∧ mg x = some (.ref f) ∧ PySem.W.keepIn K (.ref f) = true ∧ Binds K fd ps []
def tCallD (sp : Sp) (t : TA) : TE := fun σ H Q => t σ H fun vs H1 => sp vs H1 Q E0
section
variable {X : Cx} {x : Str} {ps : List Str} {k : Nat} {sp : Sp} {e : Expr} {es : List Expr} {t : TA} {p pos : Pos}
theorem pe_dn (D : Dn X.prog X.w X.K X.mg X.base x ps k sp) (hr : Room k X.A) (hg : Gl X x) (ha : PA X (e :: es) t) (hdb : (x == ("__debug__" : Str)) = false := by decide)
    (he : starEach (e :: es) X.env = (false, eval e X.env) :: starEach es X.env := by rfl) (hpl : (backTo pos (starEach es X.env)).any (·.1) = false := by rfl) :
    PE X (.Call (.Name x p) (e :: es) [] pos) (tCallD sp t) := by
  obtain ⟨f, fd, F, hm, hk, hb⟩ := D.ex
  refine ⟨fun pins s σ H Q I h => (pe_call (E := E0) F hr hg hm hk hb .nil pass0 ha hdb he hpl).run pins s σ H Q I ?_⟩
  have e0 : (fun (vs : List V) (H1 : Hp) => sp (vs ++ []) H1 Q E0) = fun vs H1 => sp vs H1 Q E0 := by
    funext vs H1
    rw [List.append_nil]
  show t σ H (fun vs H1 => sp (vs ++ []) H1 Q E0)
  rw [e0]
  exact h
theorem pe_dn0 (D : Dn X.prog X.w X.K X.mg X.base x ps k sp) (hr : Room k X.A) (hg : Gl X x) (hdb : (x == ("__debug__" : Str)) = false := by decide) :
    PE X (.Call (.Name x p) [] [] pos) (tCallD sp tNil) := by
  obtain ⟨f, fd, F, hm, hk, hb⟩ := D.ex
  exact ⟨fun pins s σ H Q I h => (pe_call0 (E := E0) F hr hg hm hk hb .nil pass0 hdb).run pins s σ H Q I h⟩
end
/-- the same where the last arguments are defaults -/
structure DnD (P : Program) (w : World) (K : PySem.W.Frag) (mg : Str → Option Value) (base : Heap) (x : Str) (ps : List Str) (dvs : List V) (k : Nat) (sp : Sp) : Prop where
  ex : ∃ (f : Addr) (fd : FuncData) (ds : List Value), FnOk P w K mg base CX0 k f fd ps sp ∧ mg x = some (.ref f) ∧ PySem.W.keepIn K (.ref f) = true ∧ Binds K fd ps ds ∧ Vals dvs ds
theorem pe_dnD {X : Cx} {x : Str} {ps : List Str} {dvs : List V} {k : Nat} {sp : Sp} {e : Expr} {es : List Expr} {t : TA} {p pos : Pos} (D : DnD X.prog X.w X.K X.mg X.base x ps dvs k sp) (hr : Room k X.A) (hg : Gl X x) (ha : PA X (e :: es) t) (hdb : (x == ("__debug__" : Str)) = false := by decide)
    (he : starEach (e :: es) X.env = (false, eval e X.env) :: starEach es X.env := by rfl) (hpl : (backTo pos (starEach es X.env)).any (·.1) = false := by rfl) :
    PE X (.Call (.Name x p) (e :: es) [] pos) (tCall sp dvs E0 t) := by
  obtain ⟨f, fd, ds, F, hm, hk, hb, hv⟩ := D.ex
  exact pe_call (E := E0) F hr hg hm hk hb hv pass0 ha hdb he hpl
/-- a def of the text, its promise: the level a letter -/
theorem Dn.mk' {P : Program} {w : World} {K : PySem.W.Frag} {mg : Str → Option Value} {base : Heap} {x : Str} {st : Stmt} {ps : List Str} {k : Nat} {sp : Sp} {f : Addr} {fd : FuncData}
    (F : Fun K x x st f fd) (hm : mg x = some (.ref f)) (hb : Binds K fd ps []) (ok : FnOk P w K mg base CX0 k f fd ps sp) : Dn P w K mg base x ps k sp :=
  ⟨f, fd, ok, hm, F.kp, hb⟩
end Bf
namespace Bf
open PySem PySem.Spec PyProof.Rows L2
section
variable {X : Cx} {d : Addr} {es : Array DictEntry} {n : Nat}
/-- d[k], d a dict of the module with text keys -/
theorem ix_kd (D : KDict X.K X.w d es n) : IxR X (fun x y H Q => ∃ (z : Str) (u0 : Value) (v0 : V), x = .ref d ∧ y = .str z ∧ PySem.W.nsIn X.K d z = some (some u0) ∧ RelV v0 u0 ∧ Q v0 H) := by
  intro value slice pins s σ H x y v u Q I rx ry h hs
  have h0 := h
  obtain ⟨z, u0, v0, rfl, rfl, e, r, q⟩ := h
  cases rx
  exact tail_any (kd_type D I) PySem.slot_dict_getitem.lookup (op_item_kd D pins s σ H (V.ref d) (V.str z) _ u Q I (show RelV (V.ref d) (Value.ref d) from rfl) ry h0) hs
/-- of several defs that the slot may hold: the def and its promise are told in the reading -/
def tCallH (P : Program) (w : World) (K : PySem.W.Frag) (mg : Str → Option Value) (base : Heap) (k i : Nat) (t : TA) : TE := fun σ H Q => ∃ f sp fd ps, σ[i]? = some (some (.ref f)) ∧ FnOk P w K mg base CX0 k f fd ps sp ∧ PySem.W.keepIn K (.ref f) = true ∧ Binds K fd ps [] ∧ t σ H fun vs H1 => sp vs H1 Q E0
theorem pe_held {i k : Nat} {x : Str} {p pos : Pos} {e : Expr} {es : List Expr} {t : TA} (hr : Room k X.A) (hN : X.N[i]? = some x) (hv : Vis X.env.scope x) (ha : PA X (e :: es) t)
    (hdb : (x == ("__debug__" : Str)) = false := by decide) (hcd : (x == ("__classdict__" : Str)) = false := by decide)
    (he : starEach (e :: es) X.env = (false, eval e X.env) :: starEach es X.env := by rfl) (hpl : (backTo pos (starEach es X.env)).any (·.1) = false := by rfl) : PE X (.Call (.Name x p) (e :: es) [] pos) (tCallH X.prog X.w X.K X.mg X.base k i t) := by
  refine ⟨fun pins s σ H Q I h => ?_⟩
  obtain ⟨f, sp, fd, ps, hs, F, hk, hb, ht⟩ := h
  refine (pe_callL (i := i) (f := f) (sp := sp) (dvs := []) (E := E0) F hr hN hv hk hb .nil pass0 ha hdb hcd he hpl).run pins s σ H Q I ⟨hs, ?_⟩
  have e0 : (fun (vs : List V) (H1 : Hp) => sp (vs ++ []) H1 Q E0) = fun vs H1 => sp vs H1 Q E0 := by
    funext vs H1
    rw [List.append_nil]
  show t σ H (fun vs H1 => sp (vs ++ []) H1 Q E0)
  rw [e0]
  exact ht
end
end Bf

set_option Elab.async false
set_option linter.all false
set_option maxRecDepth 100000
set_option maxHeartbeats 4000000
namespace Bf
open PySem PySem.Spec PyProof.Rows L2
theorem ltC {x w : Nat} (h : x < 2 ^ w) : (x : Int) < 2 ^ w := by
  have := Int.ofNat_lt.mpr h
  rwa [Int.natCast_pow] at this
theorem posC (w : Nat) : (0 : Int) < 2 ^ w := Int.pow_pos (by decide)
theorem leC {v w : Nat} (h : v ≤ w) : (2 : Int) ^ v ≤ 2 ^ w := by
  have q : (2 : Nat) ^ v ≤ 2 ^ w := Nat.pow_le_pow_right (by decide) h
  have := Int.ofNat_le.mpr q
  rwa [Int.natCast_pow, Int.natCast_pow] at this
theorem m_small {x w : Nat} (h : x < 2 ^ w) : (x : Int) = (x : Int) % 2 ^ w := (Int.emod_eq_of_lt (Int.natCast_nonneg _) (ltC h)).symm
theorem m_not {x w : Nat} (h : x < 2 ^ w) : (2 : Int) ^ w - 1 - x = (2 ^ w - 1 - x) % 2 ^ w := by
  have := ltC h
  exact (Int.emod_eq_of_lt (by omega) (by omega)).symm
theorem m_neg {x w : Nat} : ((2 : Int) ^ w - x) % 2 ^ w = (-(x : Int)) % 2 ^ w := by
  rw [show (2 : Int) ^ w - x = -(x : Int) + 2 ^ w * 1 by omega, Int.add_mul_emod_self_left]
theorem m_wide {x W : Nat} : (x : Int) / 2 ^ 0 % 2 ^ W = (x : Int) % 2 ^ W := by
  rw [Int.pow_zero, Int.ediv_one]
theorem half {x w : Nat} (h1 : 1 ≤ w) : ((x : Int) / 2 ^ (w - 1) != 0) = decide (2 ^ (w - 1) ≤ x) := by
  have e : (x : Int) / 2 ^ (w - 1) = ((x / 2 ^ (w - 1) : Nat) : Int) := by simp
  rw [e]
  by_cases h : 2 ^ (w - 1) ≤ x
  · rw [decide_eq_true h]
    have : 0 < x / 2 ^ (w - 1) := Nat.div_pos h (Nat.pow_pos (by decide))
    rw [bne_iff_ne]
    omega
  · rw [decide_eq_false h, Nat.div_eq_of_lt (by omega)]
    rfl
theorem m_signY {x w W : Nat} (hl : w ≤ W) (h : x < 2 ^ w) : (x : Int) + 2 ^ W - 2 ^ w = ((x : Int) - 2 ^ w) % 2 ^ W := by
  have a := ltC h
  have b := leC hl
  have c := posC w
  rw [show (x : Int) - 2 ^ w = (x + 2 ^ W - 2 ^ w) + 2 ^ W * (-1) by omega, Int.add_mul_emod_self_left]
  exact (Int.emod_eq_of_lt (by omega) (by omega)).symm
theorem ltW {x w W : Nat} (hl : w ≤ W) (h : x < 2 ^ w) : x < 2 ^ W := Nat.lt_of_lt_of_le h (Nat.pow_le_pow_right (by decide) hl)
theorem m_bit {p : Bool} : (if p = true then (1 : Int) else 0) = (if p = true then 1 else 0) % 2 ^ 1 := by cases p <;> rfl
theorem m_any {x : Nat} : (if (!decide (vI x = V.int 0)) = true then (1 : Int) else 0) = (if decide ((0 : Int) < x) = true then 1 else 0) % 2 ^ 1 := by
  have e : (!decide (vI x = V.int 0)) = decide ((0 : Int) < x) := by
    by_cases h : x = 0
    · subst h
      rfl
    · rw [decide_eq_false (fun q : vI x = V.int 0 => h (by have := V.int.inj q; omega)), decide_eq_true (by omega)]
      rfl
  rw [e]
  exact m_bit
theorem m_join {u w x y : Nat} (hx : x < 2 ^ u) (hy : y < 2 ^ w) : (x : Int) * 2 ^ w + y = ((x : Int) * 2 ^ w + y) % 2 ^ (u + w) := by
  have n : x * 2 ^ w + y < 2 ^ (u + w) := by
    rw [Nat.pow_add]
    calc x * 2 ^ w + y < x * 2 ^ w + 2 ^ w := by omega
      _ = (x + 1) * 2 ^ w := by rw [Nat.add_mul, Nat.one_mul]
      _ ≤ 2 ^ u * 2 ^ w := Nat.mul_le_mul_right _ hx
  have e : (x : Int) * 2 ^ w + y = ((x * 2 ^ w + y : Nat) : Int) := by simp
  rw [e]
  exact m_small n
theorem m_sub {w : Nat} {x y : Int} : (x + 2 ^ w - y) % 2 ^ w = (x - y) % 2 ^ w := by
  rw [show x + 2 ^ w - y = (x - y) + 2 ^ w * 1 by omega, Int.add_mul_emod_self_left]
theorem m_shl0 {w x y : Nat} (h : w ≤ y) : (0 : Int) = ((x : Int) * 2 ^ y) % 2 ^ w := by
  rw [show (x : Int) * 2 ^ y = 2 ^ w * (x * 2 ^ (y - w)) by
    rw [show y = w + (y - w) by omega, Int.pow_add, show w + (y - w) - w = y - w by omega, ← Int.mul_assoc, ← Int.mul_assoc, Int.mul_comm (x : Int)]]
  rw [Int.mul_emod_right]
theorem m_shr0 {w x y : Nat} (h : w ≤ y) (hx : x < 2 ^ w) : (0 : Int) = ((x : Int) / 2 ^ y) % 2 ^ w := by
  have e : (x : Int) / 2 ^ y = ((x / 2 ^ y : Nat) : Int) := by simp
  rw [e, Nat.div_eq_of_lt (ltW h hx)]
  rfl
theorem m_shr {w x y : Nat} (hx : x < 2 ^ w) : (x : Int) / 2 ^ y = ((x : Int) / 2 ^ y) % 2 ^ w := by
  have e : (x : Int) / 2 ^ y = ((x / 2 ^ y : Nat) : Int) := by simp
  rw [e]
  exact m_small (Nat.lt_of_le_of_lt (Nat.div_le_self _ _) hx)
theorem m_and {w x y : Nat} (hx : x < 2 ^ w) (hy : y < 2 ^ w) : Builtin.bitAnd x y = Builtin.bitAnd x y % 2 ^ w := by
  have e : Builtin.bitAnd (x : Int) y = ((x &&& y : Nat) : Int) := by simp [Builtin.bitAnd]
  rw [e]
  exact m_small (Nat.and_lt_two_pow _ hy)
theorem m_or {w x y : Nat} (hx : x < 2 ^ w) (hy : y < 2 ^ w) : Builtin.bitOr x y = Builtin.bitOr x y % 2 ^ w := by
  have e : Builtin.bitOr (x : Int) y = ((x ||| y : Nat) : Int) := by rw [Bits.bitOr_pp (Int.natCast_nonneg _) (Int.natCast_nonneg _), Int.toNat_natCast, Int.toNat_natCast]
  rw [e]
  exact m_small (Nat.or_lt_two_pow hx hy)
theorem m_xor {w x y : Nat} (hx : x < 2 ^ w) (hy : y < 2 ^ w) : Builtin.bitXor x y = Builtin.bitXor x y % 2 ^ w := by
  have e : Builtin.bitXor (x : Int) y = ((x ^^^ y : Nat) : Int) := by rw [Bits.bitXor_pp (Int.natCast_nonneg _) (Int.natCast_nonneg _), Int.toNat_natCast, Int.toNat_natCast]
  rw [e]
  exact m_small (Nat.xor_lt_two_pow hx hy)
end Bf

set_option Elab.async false
set_option linter.all false
set_option maxRecDepth 100000
set_option maxHeartbeats 4000000
namespace Bf
open PySem PySem.Spec PyProof.Rows L2
def topS (i : Nat) : Stmt := PySem.Challenge.pw_beatfabric_k01_word_operations.main.body.getD i (.Pass ⟨0, 0, 0, 0⟩)
abbrev s_added : Stmt := topS 1
abbrev s_subtracted : Stmt := topS 2
abbrev s_multiplied : Stmt := topS 3
abbrev s_bitwise_and : Stmt := topS 4
abbrev s_bitwise_or : Stmt := topS 5
abbrev s_bitwise_xor : Stmt := topS 6
abbrev s_shifted_up : Stmt := topS 7
abbrev s_shifted_down : Stmt := topS 8
abbrev s_is_less : Stmt := topS 9
abbrev s_is_at_most : Stmt := topS 10
abbrev s_is_same : Stmt := topS 11
abbrev s_is_other : Stmt := topS 12
abbrev s_one_word_result : Stmt := topS 14
abbrev s_result : Stmt := topS 15
abbrev s_to_bits : Stmt := topS 16
abbrev s_law_begin : Stmt := topS 18
abbrev s_law_draw : Stmt := topS 19
abbrev s_law_pop : Stmt := topS 20
abbrev s_law_is_int : Stmt := topS 21
abbrev s_law_word : Stmt := topS 22
abbrev s_law_shape : Stmt := topS 23
abbrev s_law_rows : Stmt := topS 24
abbrev s_law : Stmt := topS 25
theorem sc_added : FnScope ["left", "right"] ["left", "right"] (defScope s_added) := ⟨rfl, rfl, rfl, by decide +kernel, rfl, by decide +kernel, by decide +kernel⟩
theorem sc_subtracted : FnScope ["left", "right"] ["left", "right"] (defScope s_subtracted) := ⟨rfl, rfl, rfl, by decide +kernel, rfl, by decide +kernel, by decide +kernel⟩
theorem sc_multiplied : FnScope ["left", "right"] ["left", "right"] (defScope s_multiplied) := ⟨rfl, rfl, rfl, by decide +kernel, rfl, by decide +kernel, by decide +kernel⟩
theorem sc_bitwise_and : FnScope ["left", "right"] ["left", "right"] (defScope s_bitwise_and) := ⟨rfl, rfl, rfl, by decide +kernel, rfl, by decide +kernel, by decide +kernel⟩
theorem sc_bitwise_or : FnScope ["left", "right"] ["left", "right"] (defScope s_bitwise_or) := ⟨rfl, rfl, rfl, by decide +kernel, rfl, by decide +kernel, by decide +kernel⟩
theorem sc_bitwise_xor : FnScope ["left", "right"] ["left", "right"] (defScope s_bitwise_xor) := ⟨rfl, rfl, rfl, by decide +kernel, rfl, by decide +kernel, by decide +kernel⟩
theorem sc_shifted_up : FnScope ["left", "right"] ["left", "right"] (defScope s_shifted_up) := ⟨rfl, rfl, rfl, by decide +kernel, rfl, by decide +kernel, by decide +kernel⟩
theorem sc_shifted_down : FnScope ["left", "right"] ["left", "right"] (defScope s_shifted_down) := ⟨rfl, rfl, rfl, by decide +kernel, rfl, by decide +kernel, by decide +kernel⟩
theorem sc_is_less : FnScope ["left", "right"] ["left", "right"] (defScope s_is_less) := ⟨rfl, rfl, rfl, by decide +kernel, rfl, by decide +kernel, by decide +kernel⟩
theorem sc_is_at_most : FnScope ["left", "right"] ["left", "right"] (defScope s_is_at_most) := ⟨rfl, rfl, rfl, by decide +kernel, rfl, by decide +kernel, by decide +kernel⟩
theorem sc_is_same : FnScope ["left", "right"] ["left", "right"] (defScope s_is_same) := ⟨rfl, rfl, rfl, by decide +kernel, rfl, by decide +kernel, by decide +kernel⟩
theorem sc_is_other : FnScope ["left", "right"] ["left", "right"] (defScope s_is_other) := ⟨rfl, rfl, rfl, by decide +kernel, rfl, by decide +kernel, by decide +kernel⟩
theorem sc_one_word_result : FnScope ["op", "inner", "word", "low", "full"] ["op", "inner", "word", "low"] (defScope s_one_word_result) := ⟨rfl, rfl, rfl, by decide +kernel, rfl, by decide +kernel, by decide +kernel⟩
theorem sc_result : FnScope ["op", "width", "widths", "words", "low", "action", "word"] ["op", "width", "widths", "words", "low"] (defScope s_result) := ⟨rfl, rfl, rfl, by decide +kernel, rfl, by decide +kernel, by decide +kernel⟩
theorem sc_to_bits : FnScope ["width", "word", "at"] ["width", "word"] (defScope s_to_bits) := ⟨rfl, rfl, rfl, by decide +kernel, rfl, by decide +kernel, by decide +kernel⟩
theorem sc_law_begin : FnScope ["_law_script", "_law_cell"] ["_law_script"] (defScope s_law_begin) := ⟨rfl, rfl, rfl, by decide +kernel, rfl, by decide +kernel, by decide +kernel⟩
theorem sc_law_draw : FnScope ["_law_d", "_law_many", "_law_found", "_law_size", "_law_cell"] ["_law_d", "_law_many"] (defScope s_law_draw) := ⟨rfl, rfl, rfl, by decide +kernel, rfl, by decide +kernel, by decide +kernel⟩
theorem sc_law_pop : FnScope ["_law_d", "_law_row"] ["_law_d", "_law_row"] (defScope s_law_pop) := ⟨rfl, rfl, rfl, by decide +kernel, rfl, by decide +kernel, by decide +kernel⟩
theorem sc_law_is_int : FnScope ["_law_thing"] ["_law_thing"] (defScope s_law_is_int) := ⟨rfl, rfl, rfl, by decide +kernel, rfl, by decide +kernel, by decide +kernel⟩
theorem sc_law_word : FnScope ["_law_op", "_law_width", "_law_wides", "_law_words", "_law_low", "_law_room", "_law_first", "_law_second", "_law_k"] ["_law_op", "_law_width", "_law_wides", "_law_words", "_law_low"] (defScope s_law_word) := ⟨rfl, rfl, rfl, by decide +kernel, rfl, by decide +kernel, by decide +kernel⟩
theorem sc_law_shape : FnScope ["_law_d", "_law_op", "_law_most", "_law_wide", "_law_other", "_law_low"] ["_law_d", "_law_op", "_law_most"] (defScope s_law_shape) := ⟨rfl, rfl, rfl, by decide +kernel, rfl, by decide +kernel, by decide +kernel⟩
theorem sc_law_rows : FnScope ["_law_d", "_law_wides", "_law_many", "_law_rows_here", "_law_number", "_law_row", "_law_wide", "_law_k", "_law_edge"] ["_law_d", "_law_wides"] (defScope s_law_rows) := ⟨rfl, rfl, rfl, by decide +kernel, rfl, by decide +kernel, by decide +kernel⟩
theorem sc_law : FnScope ["_law_script", "_law_d", "_law_ops", "_law_most", "_law_k", "_law_op", "_law_width", "_law_wides", "_law_low", "_law_row", "_law_due", "_law_told"] ["_law_script"] (defScope s_law) := ⟨rfl, rfl, rfl, by decide +kernel, rfl, by decide +kernel, by decide +kernel⟩
end Bf

set_option Elab.async false
set_option linter.all false
set_option maxRecDepth 100000
set_option maxHeartbeats 4000000
namespace Bf
open PySem PySem.Spec PyProof.Rows L2
structure Txt (mg : Str → Option Value) : Prop where
  n_int : mg "int" = none
  n_len : mg "len" = none
  n_abs : mg "abs" = none
  n_isinstance : mg "isinstance" = none
  n_bool : mg "bool" = none
  n_range : mg "range" = none
  n_tuple : mg "tuple" = none
  n_sum : mg "sum" = none
  n_list : mg "list" = none
  n_max : mg "max" = none
  n_min : mg "min" = none
/-! ### the draws -/
/-- what stood elsewhere stands -/
def Keep (S : List Addr) (H H' : Hp) : Prop := ∀ b o, b ∉ S → H b = some o → H' b = some o
theorem Keep.refl (S : List Addr) (H : Hp) : Keep S H H := fun _ _ _ h => h
theorem Keep.trans {S : List Addr} {H H1 H2 : Hp} (a : Keep S H H1) (b : Keep S H1 H2) : Keep S H H2 := fun c o n h => b c o n (a c o n h)
theorem Keep.of_same {S : List Addr} {H H1 : Hp} (a : Same H H1) : Keep S H H1 := fun c o _ h => a c o h
theorem Keep.wide {S S' : List Addr} {H H1 : Hp} (a : Keep S H H1) (h : ∀ b, b ∈ S → b ∈ S') : Keep S' H H1 := fun c o n e => a c o (fun q => n (h c q)) e
theorem Keep.upd {S : List Addr} {H : Hp} {a : Addr} {o : HO} (h : a ∈ S) : Keep S H (upd H a o) := fun b u n e => by
  rw [upd_ne (fun q => n (by rw [q]; exact h))]
  exact e
theorem Keep.new {S : List Addr} {H : Hp} {a : Addr} {o : HO} (h : H a = none) : Keep S H (L2.upd H a o) := fun b u n e => by
  rw [upd_ne (ne_of_none e h)]
  exact e
/-- the state of the draws -/
def DS (H : Hp) (a c : Addr) : Prop := ∃ (at_ left st : Int) (cells : List Int), H a = some (.lst [.ref c, .int at_, .int left, .int st, .int 3]) ∧ 0 ≤ at_ ∧ H c = some (.lst (cells.map V.int))
theorem DS.ne {H : Hp} {a c : Addr} {x : V} {xs : List V} {cells : List Int} (h : H a = some (.lst (.ref c :: xs))) (hc : H c = some (.lst (cells.map V.int))) : c ≠ a := by
  intro e
  rw [e, h] at hc
  have q := HO.lst.inj (Option.some.inj hc)
  cases cells with
  | nil => cases q
  | cons x r => cases (List.cons.inj q).1
theorem DS.keep {S : List Addr} {H H' : Hp} {a c : Addr} (h : DS H a c) (k : Keep S H H') (ha : a ∉ S) (hc : c ∉ S) : DS H' a c := by
  obtain ⟨at_, left, st, cells, h1, h2, h3⟩ := h
  exact ⟨at_, left, st, cells, k _ _ ha h1, h2, k _ _ hc h3⟩
theorem DS.same {H H' : Hp} {a c : Addr} (h : DS H a c) (k : Same H H') : DS H' a c := h.keep (S := []) (Keep.of_same k) (by simp) (by simp)
theorem DS.new {H : Hp} {a c l : Addr} (h : DS H a c) (hl : H l = none) : l ≠ a ∧ l ≠ c := by
  obtain ⟨at_, left, st, cells, h1, h2, h3⟩ := h
  exact ⟨(ne_of_none h1 hl).symm, (ne_of_none h3 hl).symm⟩
theorem pow6000 : (0 : Int) < 1 * 2 ^ (6000 : Int).toNat := by
  rw [Int.one_mul]
  exact Int.pow_pos (by decide)
def spDraw : Sp := fun vs H Q _ => ∃ (a c : Addr) (m : Int), vs = [.ref a, .int m] ∧ DS H a c ∧ 1 ≤ m ∧ m < 1073741824 ∧ ∀ (r : Int) (H' : Hp), 0 ≤ r → r < m → DS H' a c → Keep [a] H H' → Q (.int r) H'
section
variable {P : Program} {w : World} {K : PySem.W.Frag} {mg : Str → Option Value} {base : Heap}
theorem ok_draw {f : Addr} {fd : FuncData} (F : Fun K "_law_draw" "_law_draw" s_law_draw f fd) (T : Txt mg) : FnOk P w K mg base CX0 1 f fd ["_law_d", "_law_many"] spDraw := by
  refine F.ok sc_law_draw (fun vs H Q E h => ?_) (fun cdv A outer s H vs Q E hr h => ?_)
  · obtain ⟨a, c, m, rfl, _⟩ := h
    rfl
  obtain ⟨a, c, m, rfl, ⟨at_, left, st, cells, ha, h0, hc⟩, m1, m2, q⟩ := h
  have hca : c ≠ a := DS.ne (x := .non) ha hc
  refine ⟨_, (pss_cons (ps_if (pt_cmpR op_gt (pe_ix ix_list (pv 0) pe_int (fun _ _ => rfl)) pe_int (nomark _)) (pss_cons (ps_set (i := 2) sc_law_draw.nd rfl (Or.inl rfl) (pe_ix ix_list (pv 0) pe_int (fun _ _ => rfl)))
      (pss_cons (ps_asg (pe_op op_fdiv (pv 2) (pv 1)) (pg_sub (pv 0) pe_int set_list))
      (pss_one (ps_ret (pe_op op_mod (pe_callTy call_int1 (by rfl) T.n_int (by decide +kernel) (pa_cons (pv 2) pa_nil)) (pv 1)))))) pss_nil)
      (pss_cons (ps_set (i := 3) sc_law_draw.nd rfl (Or.inl rfl) pe_int)
      (C8.pss_cut (ps_if (pt_cmpR op_lt (pe_ix ix_list (pv 0) pe_int (fun _ _ => rfl)) (pe_callB call_len_seq (by rfl) T.n_len (by decide +kernel) (pa_cons (pe_ix ix_list (pv 0) pe_int (fun _ _ => rfl)) pa_nil)) (nomark _)) (pss_cons (ps_set (i := 4) sc_law_draw.nd rfl (Or.inl rfl) (pe_ix ix_list (pe_ix ix_list (pv 0) pe_int (fun _ _ => rfl)) (pe_ix ix_list (pv 0) pe_int (fun _ _ => rfl)) (fun _ _ => rfl)))
      (pss_one (ps_set (i := 3) sc_law_draw.nd rfl (Or.inl rfl) (pe_op op_add (pe_op op_mul pe_int (pe_callB call_abs (by rfl) T.n_abs (by decide +kernel) (pa_cons (pv 4) pa_nil))) (pe_callTy call_int1 (by rfl) T.n_int (by decide +kernel) (pa_cons (pe_cmpR op_lt (pv 4) pe_int (nomark _)) pa_nil)))))) pss_nil)
      (C8.pss_cut (ps_augS (pv 0) pe_int get_list pe_int ip_add set_list)
      (pss_cons (ps_if (pt_cmpR op_ge (pv 3) (pe_op op_mul pe_int (pe_op op_pow pe_int pe_int)) (nomark _)) (pss_cons (ps_set (i := 2) sc_law_draw.nd rfl (Or.inl rfl) (pe_op op_mod (pe_callTy call_int1 (by rfl) T.n_int (by decide +kernel) (pa_cons (pe_op op_fdiv (pv 3) pe_int) pa_nil)) (pe_op op_shl pe_int pe_int)))
      (pss_cons (ps_asg (pe_op op_fdiv (pv 2) (pv 1)) (pg_sub (pv 0) pe_int set_list))
      (pss_one (ps_ret (pe_op op_mod (pe_callTy call_int1 (by rfl) T.n_int (by decide +kernel) (pa_cons (pv 2) pa_nil)) (pv 1)))))) pss_nil)
      (pss_cons (ps_asg (pe_op op_mod (pe_callTy call_int1 (by rfl) T.n_int (by decide +kernel) (pa_cons (pe_op op_add (pe_op op_add (pe_op op_add (pe_op op_mul (pe_ix ix_list (pv 0) pe_int (fun _ _ => rfl)) pe_int) (pe_op op_mul (pe_op op_mod (pe_callTy call_int1 (by rfl) T.n_int (by decide +kernel) (pa_cons (pv 3) pa_nil)) pe_int) pe_int)) (pe_op op_mul (pe_ix ix_list (pv 0) pe_int (fun _ _ => rfl)) pe_int)) pe_int) pa_nil)) pe_int) (pg_sub (pv 0) pe_int set_list))
      (pss_one (ps_ret (pe_op op_mod (pe_callTy call_int1 (by rfl) T.n_int (by decide +kernel) (pa_cons (pe_op op_fdiv (pe_ix ix_list (pv 0) pe_int (fun _ _ => rfl)) pe_int) pa_nil)) (pv 1)))))))))), ?_⟩
  refine ⟨_, rfl, a, _, _, _, rfl, rfl, SqL.of ha, atI_nat (j := 2) rfl, _, _, rfl, rfl, _, rfl, ?_⟩
  refine ite2 (fun e => ?_) (fun e => ?_)
  · refine ⟨_, rfl, a, _, _, _, rfl, rfl, SqL.of ha, atI_nat (j := 2) rfl, ?_⟩
    refine ⟨_, rfl, _, rfl, left, m, rfl, rfl, ⟨by omega, by omega⟩, _, rfl, a, _, 2, 2, rfl, rfl, ha, rfl, ?_⟩
    refine ⟨_, rfl, .inl ⟨_, rfl, _, rfl, _, _, rfl, rfl, (by omega), ?_⟩⟩
    exact q _ _ (Int.emod_nonneg _ (by omega)) (Int.emod_lt_of_pos _ (by omega)) ⟨at_, left / m, st, cells, upd_same, h0, by rw [upd_ne hca]; exact hc⟩ (Keep.upd (by simp))
  · refine ⟨fun σ' H' => ∃ (z : Int) (v4 : Option V), σ' = [some (.ref a), some (.int m), none, some (.int z), v4] ∧ H' = H, ?_, ?_⟩
    · refine ⟨_, rfl, a, _, _, _, rfl, rfl, SqL.of ha, atI_nat (j := 1) rfl, _, rfl, a, _, _, _, rfl, rfl, SqL.of ha, atI_nat (j := 0) rfl, c, _, rfl, .inl (SqL.of hc), _, _, rfl, rfl, _, rfl, ?_⟩
      refine ite2 (fun e1 => ?_) (fun e1 => ?_)
      · have e2 : at_ < ((cells.map V.int).length : Nat) := of_decide_eq_true e1
        rw [List.length_map] at e2
        have hk : at_.toNat < cells.length := by omega
        have ek : ((at_.toNat : Nat) : Int) = at_ := by omega
        have q1 : atI (cells.map V.int) ((at_.toNat : Nat) : Int) = some (.int cells[at_.toNat]) := atI_nat (by rw [List.getElem?_map, List.getElem?_eq_getElem hk] <;> rfl)
        rw [ek] at q1
        refine ⟨_, rfl, a, _, _, _, rfl, rfl, SqL.of ha, atI_nat (j := 0) rfl, _, rfl, a, _, _, _, rfl, rfl, SqL.of ha, atI_nat (j := 1) rfl, c, _, _, _, rfl, rfl, SqL.of hc, q1, ?_⟩
        refine ⟨_, rfl, _, rfl, _, _, rfl, rfl, .inl ⟨by decide, by decide⟩, _, rfl, _, _, rfl, rfl, .inr ⟨_, rfl, _, _, rfl, rfl, ?_⟩⟩
        exact ⟨_, _, rfl, rfl⟩
      · exact ⟨_, _, rfl, rfl⟩
    · rintro σ' H' ⟨z, v4, rfl, rfl⟩
      refine ⟨fun σ' H1 => σ' = [some (.ref a), some (.int m), none, some (.int z), v4] ∧ H1 a = some (.lst [.ref c, .int (at_ + 1), .int left, .int st, .int 3]) ∧ H1 c = some (.lst (cells.map V.int)) ∧ Keep [a] H' H1, ?_, ?_⟩
      · exact ⟨_, rfl, a, _, 1, .int at_, rfl, rfl, ha, atI_nat (j := 1) rfl, at_, 1, rfl, rfl, a, _, 1, 1, rfl, rfl, ha, rfl, rfl, upd_same, by rw [upd_ne hca]; exact hc, Keep.upd (by simp)⟩
      rintro σ' H1 ⟨rfl, h1, h2, k1⟩
      refine ⟨_, rfl, _, _, rfl, rfl, ⟨by decide, by decide, by decide⟩, _, _, rfl, rfl, .inl ⟨by decide, by decide⟩, _, _, rfl, rfl, _, rfl, ?_⟩
      refine ite2 (fun e3 => ?_) (fun e3 => ?_)
      · refine ⟨_, rfl, z, 2, rfl, rfl, ⟨by decide, by decide⟩, .inl ⟨_, rfl, 1, 6000, rfl, rfl, ⟨by decide, by decide, by decide⟩, _, _, rfl, rfl, pow6000, ?_⟩⟩
        refine ⟨_, rfl, _, rfl, _, m, rfl, rfl, ⟨by omega, by omega⟩, _, rfl, a, _, 2, 2, rfl, rfl, h1, rfl, ?_⟩
        refine ⟨_, rfl, .inl ⟨_, rfl, _, rfl, _, _, rfl, rfl, (by omega), ?_⟩⟩
        refine q _ _ (Int.emod_nonneg _ (by omega)) (Int.emod_lt_of_pos _ (by omega)) ⟨at_ + 1, _, st, cells, upd_same, by omega, by rw [upd_ne hca]; exact h2⟩ (k1.trans (Keep.upd (by simp)))
      · refine ⟨_, rfl, a, _, _, _, rfl, rfl, SqL.of h1, atI_nat (j := 3) rfl, _, _, rfl, rfl, .inr ⟨by decide, by decide⟩, ?_⟩
        refine ⟨_, rfl, .inl ⟨_, rfl, _, _, rfl, rfl, (by show (0 : Int) < 2147483629; decide), _, _, rfl, rfl, .inr ⟨by decide, by decide⟩, _, _, rfl, rfl, ?_⟩⟩
        refine ⟨_, rfl, a, _, _, _, rfl, rfl, SqL.of h1, atI_nat (j := 1) rfl, _, _, rfl, rfl, .inr ⟨by decide, by decide⟩, _, _, rfl, rfl, _, _, rfl, rfl, .inl ⟨_, rfl, _, _, rfl, rfl, (by show (0 : Int) < 2147483647; decide), ?_⟩⟩
        refine ⟨_, rfl, a, _, 3, 3, rfl, rfl, h1, rfl, ?_⟩
        refine ⟨_, rfl, a, _, _, _, rfl, rfl, SqL.of upd_same, atI_nat (j := 3) rfl, _, _, rfl, rfl, ⟨by decide, by decide⟩, .inl ⟨_, rfl, _, rfl, _, _, rfl, rfl, (by omega), ?_⟩⟩
        exact q _ _ (Int.emod_nonneg _ (by omega)) (Int.emod_lt_of_pos _ (by omega)) ⟨at_ + 1, left, _, cells, upd_same, by omega, by rw [upd_ne hca]; exact h2⟩ (k1.trans (Keep.upd (by simp)))
end

/-! ### the beginning of the draws; a draw out of a list; is it an int -/
theorem same_new {H : Hp} {p : Addr} (h : H p = none) (o : HO) : Same H (upd H p o) := fun b u q => by rw [upd_ne (ne_of_none q h)]; exact q
theorem intAt {xs : List Int} {i : Nat} {x : V} (h : (xs.map V.int)[i]? = some x) : ∃ k, xs[i]? = some k ∧ x = V.int k := by
  rw [List.getElem?_map] at h
  cases e : xs[i]? with
  | none => rw [e] at h; cases h
  | some k => rw [e] at h; exact ⟨k, rfl, (Option.some.inj h).symm⟩
def spBegin (K : PySem.W.Frag) : Sp := fun vs H Q _ => ∃ (a : Addr) (ns : List Int), vs = [.ref a] ∧ SqL K H a (ns.map V.int) ∧ ns.length ≤ 63 ∧ ∀ (d c : Addr) (H' : Hp), H d = none → H c = none → DS H' d c → Same H H' → Q (.ref d) H'
/-- a draw of an item of a list, which is taken out -/
def spPop : Sp := fun vs H Q _ => ∃ (d c l : Addr) (xs : List V), vs = [.ref d, .ref l] ∧ DS H d c ∧ H l = some (.lst xs) ∧ l ≠ d ∧ l ≠ c ∧ 1 ≤ xs.length ∧ xs.length ≤ 1000 ∧
  ∀ (k : Nat) (y : V) (H' : Hp), xs[k]? = some y → DS H' d c → H' l = some (.lst (xs.eraseIdx k)) → Keep [d, l] H H' → Q y H'
def spIsInt : Sp := fun vs H Q _ => ∃ i : Int, vs = [.int i] ∧ Q (.bl true) H
section
variable {P : Program} {w : World} {K : PySem.W.Frag} {mg : Str → Option Value} {base : Heap}
theorem ok_begin {f : Addr} {fd : FuncData} (F : Fun K "_law_begin" "_law_begin" s_law_begin f fd) (T : Txt mg) : FnOk P w K mg base CX0 1 f fd ["_law_script"] (spBegin K) := by
  refine F.ok sc_law_begin (fun vs H Q E h => ?_) (fun cdv A outer s H vs Q E hr h => ?_)
  · obtain ⟨a, ns, rfl, _⟩ := h
    rfl
  obtain ⟨a, ns, rfl, hS, h63, q⟩ := h
  refine ⟨_, (pss_one (ps_ret (pe_lst (pa_cons (pe_lc (own := [("_law_cell", 1)]) (g := gName 1) (tt := tYes) rfl sc_law_begin.nd (pi_list (pv 0)) (blkOk_by (N := ["_law_script", "_law_cell"]) (sc := defScope s_law_begin) (by decide +kernel)) (fun _ _ _ _ _ => (pg_name (i := 1) sc_law_begin.nd rfl (Or.inl rfl))) (fun _ _ _ _ _ => pts_nil) (fun _ _ _ _ _ => (pe_callTy call_int1 (by rfl) T.n_int (by decide +kernel) (pa_cons (pv 1) pa_nil)))) (pa_cons pe_int (pa_cons pe_int (pa_cons pe_int (pa_cons pe_int pa_nil)))))))), ?_⟩
  refine ⟨_, rfl, a, rfl, ⟨_, hS⟩, fun D hD => lc_list (K := K) (a := a) (xs := ns.map V.int) (fun i H' => Same H H' ∧ H' D = some (.lst ((ns.take i).map V.int)))
    ⟨same_new hD _, upd_same⟩ (fun i H' _ p => p.1.seq hS) (fun i x H' hx p => ?_) (fun H' p => ?_)⟩
  · obtain ⟨k, hk, rfl⟩ := intAt hx
    refine ⟨rfl, _, rfl, .inl ⟨_, rfl, _, p.2, ?_, ?_, ?_⟩⟩
    · rw [List.length_map, List.length_take]
      exact small1000 (by omega)
    · intro b o e
      rw [upd_ne (ne_of_none e hD)]
      exact p.1 b o e
    · rw [upd_same, List.take_add_one, hk, List.map_append]
      rfl
  · rw [List.length_map, List.take_length] at p
    refine ⟨(by show 5 ≤ sizeLine; decide), fun l hl => ?_⟩
    have nDl : D ≠ l := ne_of_none p.2 hl
    refine q l D _ (p.1.free hl) hD ⟨0, 0, 7, ns, upd_same, Int.le_refl 0, by rw [upd_ne nDl]; exact p.2⟩ (p.1.trans (same_new hl _))
theorem ok_isInt {f : Addr} {fd : FuncData} (F : Fun K "_law_is_int" "_law_is_int" s_law_is_int f fd) (T : Txt mg) : FnOk P w K mg base CX0 1 f fd ["_law_thing"] spIsInt := by
  refine F.ok sc_law_is_int (fun vs H Q E h => ?_) (fun cdv A outer s H vs Q E hr h => ?_)
  · obtain ⟨i, rfl, _⟩ := h
    rfl
  obtain ⟨i, rfl, q⟩ := h
  refine ⟨_, (pss_one (ps_ret (pe_and (pe_callB call_isi (by rfl) T.n_isinstance (by decide +kernel) (pa_cons (pv 0) (pa_cons (pe_bltn rfl T.n_int (by decide +kernel) (v := .ty "int") rfl) pa_nil))) (pe_one (pe_not (pe_callB call_isi (by rfl) T.n_isinstance (by decide +kernel) (pa_cons (pv 0) (pa_cons (pe_bltn rfl T.n_bool (by decide +kernel) (v := .ty "bool") rfl) pa_nil)))))))), ?_⟩
  refine ⟨_, rfl, _, _, .type "int", .type "int", true, rfl, .ty "int", .base (.int i), kit_ty (by decide +kernel), true, rfl, ?_⟩
  refine iteT ?_
  refine ⟨_, rfl, _, _, .type "int", .type "bool", false, rfl, .ty "bool", .base (.int i), kit_ty (by decide +kernel), false, rfl, ?_⟩
  exact q
theorem ok_pop {f : Addr} {fd : FuncData} (F : Fun K "_law_pop" "_law_pop" s_law_pop f fd) (T : Txt mg) (D_law_draw : Dn P w K mg base "_law_draw" ["_law_d", "_law_many"] 1 spDraw) :
    FnOk P w K mg base CX0 2 f fd ["_law_d", "_law_row"] spPop := by
  refine F.ok sc_law_pop (fun vs H Q E h => ?_) (fun cdv A outer s H vs Q E hr h => ?_)
  · obtain ⟨d, c, l, xs, rfl, _⟩ := h
    rfl
  obtain ⟨d, c, l, xs, rfl, hd, hl, nld, nlc, h1, h2, q⟩ := h
  refine ⟨_, (pss_one (ps_ret (pe_bm PySem.F.plainAttrs_list PySem.F.slot_list_pop PySem.F.type_list_pop mt_popAt (pv 1) (pa_cons (pe_dn D_law_draw (hr.mono (by decide)) (by rfl) (pa_cons (pv 0) (pa_cons (pe_callB call_len_seq (by rfl) T.n_len (by decide +kernel) (pa_cons (pv 1) pa_nil)) pa_nil))) pa_nil)))), ?_⟩
  refine ⟨_, rfl, .inl ⟨rfl, _, SqL.of hl⟩, _, rfl, _, rfl, l, _, rfl, .inl (SqL.of hl), d, c, _, rfl, hd, (by omega), (by omega), fun r H' r0 r1 hd' k1 => ?_⟩
  have hl' : H' l = some (.lst xs) := k1 _ _ (by simp [nld]) hl
  have hk : r.toNat < xs.length := by omega
  refine ⟨l, xs, r, r.toNat, xs[r.toNat], rfl, rfl, hl', by omega, by omega, seqIndex_of r0 (by omega), List.getElem?_eq_getElem hk, ?_⟩
  refine q _ _ _ (List.getElem?_eq_getElem hk) (hd'.keep (S := [l]) (Keep.upd (by simp)) (by simp [nld.symm]) (by simp [nlc.symm])) upd_same ((k1.wide (by simp)).trans (Keep.upd (by simp)))
end

end Bf

set_option Elab.async false
set_option linter.all false
set_option maxRecDepth 100000
set_option maxHeartbeats 4000000
namespace Bf
open PySem PySem.Spec PyProof.Rows L2
/-! ### two ways of an if by a ground test -/
theorem ifY {c : Bool} {A B : Prop} (e : c = true) (h : A) : if c = true then A else B := by
  rw [if_pos e]
  exact h
theorem ifN {c : Bool} {A B : Prop} (e : c = false) (h : B) : if c = true then A else B := by
  rw [e]
  exact iteF h
local macro_rules | `(tactic| walk_at "ifs") => `(tactic| repeat (first | refine ⟨_, rfl, rfl, _, rfl, ifN (by decide +kernel) ?_⟩ | refine ⟨_, rfl, rfl, _, rfl, ifY (by decide +kernel) ?_⟩))

/-! ### the small defs of two words -/
def sp2 (C : Int → Int → Prop) (g : Int → Int → V) : Sp := fun vs H Q _ => ∃ i j, vs = [.int i, .int j] ∧ C i j ∧ Q (g i j) H
section
variable {P : Program} {w : World} {K : PySem.W.Frag} {mg : Str → Option Value} {base : Heap} {f : Addr} {fd : FuncData}
theorem len2 {C : Int → Int → Prop} {g : Int → Int → V} {vs : List V} {H : Hp} {Q : VK} {E : XK} (h : sp2 C g vs H Q E) : vs.length = 2 := by
  obtain ⟨i, j, rfl, _⟩ := h
  rfl
theorem ok_added (F : Fun K "added" "added" s_added f fd) : FnOk P w K mg base CX0 1 f fd ["left", "right"] (sp2 (fun _ _ => True) fun i j => .int (i + j)) := by
  refine F.ok sc_added (fun vs H Q E h => len2 h) (fun cdv A outer s H vs Q E hr h => ?_)
  obtain ⟨i, j, rfl, _, q⟩ := h
  exact ⟨_, (pss_one (ps_ret (pe_op op_add (pv 0) (pv 1)))), _, rfl, _, rfl, i, j, rfl, rfl, q⟩
theorem ok_subtracted (F : Fun K "subtracted" "subtracted" s_subtracted f fd) : FnOk P w K mg base CX0 1 f fd ["left", "right"] (sp2 (fun _ _ => True) fun i j => .int (i - j)) := by
  refine F.ok sc_subtracted (fun vs H Q E h => len2 h) (fun cdv A outer s H vs Q E hr h => ?_)
  obtain ⟨i, j, rfl, _, q⟩ := h
  exact ⟨_, (pss_one (ps_ret (pe_op op_sub (pv 0) (pv 1)))), _, rfl, _, rfl, i, j, rfl, rfl, q⟩
theorem ok_multiplied (F : Fun K "multiplied" "multiplied" s_multiplied f fd) : FnOk P w K mg base CX0 1 f fd ["left", "right"] (sp2 (fun i _ => -(2 ^ 64) < i ∧ i < 2 ^ 64) fun i j => .int (i * j)) := by
  refine F.ok sc_multiplied (fun vs H Q E h => len2 h) (fun cdv A outer s H vs Q E hr h => ?_)
  obtain ⟨i, j, rfl, c, q⟩ := h
  exact ⟨_, (pss_one (ps_ret (pe_op op_mul (pv 0) (pv 1)))), _, rfl, _, rfl, i, j, rfl, rfl, .inl c, q⟩
theorem ok_bitwise_and (F : Fun K "bitwise_and" "bitwise_and" s_bitwise_and f fd) : FnOk P w K mg base CX0 1 f fd ["left", "right"] (sp2 (fun _ _ => True) fun i j => .int (Builtin.bitAnd i j)) := by
  refine F.ok sc_bitwise_and (fun vs H Q E h => len2 h) (fun cdv A outer s H vs Q E hr h => ?_)
  obtain ⟨i, j, rfl, _, q⟩ := h
  exact ⟨_, (pss_one (ps_ret (pe_op op_and (pv 0) (pv 1)))), _, rfl, _, rfl, i, j, rfl, rfl, q⟩
theorem ok_bitwise_or (F : Fun K "bitwise_or" "bitwise_or" s_bitwise_or f fd) : FnOk P w K mg base CX0 1 f fd ["left", "right"] (sp2 (fun _ _ => True) fun i j => .int (Builtin.bitOr i j)) := by
  refine F.ok sc_bitwise_or (fun vs H Q E h => len2 h) (fun cdv A outer s H vs Q E hr h => ?_)
  obtain ⟨i, j, rfl, _, q⟩ := h
  exact ⟨_, (pss_one (ps_ret (pe_op op_or (pv 0) (pv 1)))), _, rfl, _, rfl, i, j, rfl, rfl, q⟩
theorem ok_bitwise_xor (F : Fun K "bitwise_xor" "bitwise_xor" s_bitwise_xor f fd) : FnOk P w K mg base CX0 1 f fd ["left", "right"] (sp2 (fun _ _ => True) fun i j => .int (Builtin.bitXor i j)) := by
  refine F.ok sc_bitwise_xor (fun vs H Q E h => len2 h) (fun cdv A outer s H vs Q E hr h => ?_)
  obtain ⟨i, j, rfl, _, q⟩ := h
  exact ⟨_, (pss_one (ps_ret (pe_op op_xor (pv 0) (pv 1)))), _, rfl, _, rfl, i, j, rfl, rfl, q⟩
theorem ok_shifted_up (F : Fun K "shifted_up" "shifted_up" s_shifted_up f fd) : FnOk P w K mg base CX0 1 f fd ["left", "right"] (sp2 (fun i j => 0 ≤ j ∧ j ≤ 1000000 ∧ i.natAbs < 2 ^ 64) fun i j => .int (i * 2 ^ j.toNat)) := by
  refine F.ok sc_shifted_up (fun vs H Q E h => len2 h) (fun cdv A outer s H vs Q E hr h => ?_)
  obtain ⟨i, j, rfl, c, q⟩ := h
  exact ⟨_, (pss_one (ps_ret (pe_op op_shl (pv 0) (pv 1)))), _, rfl, _, rfl, i, j, rfl, rfl, c, q⟩
theorem ok_shifted_down (F : Fun K "shifted_down" "shifted_down" s_shifted_down f fd) : FnOk P w K mg base CX0 1 f fd ["left", "right"] (sp2 (fun _ j => 0 ≤ j) fun i j => .int (i / 2 ^ j.toNat)) := by
  refine F.ok sc_shifted_down (fun vs H Q E h => len2 h) (fun cdv A outer s H vs Q E hr h => ?_)
  obtain ⟨i, j, rfl, c, q⟩ := h
  exact ⟨_, (pss_one (ps_ret (pe_op op_shr (pv 0) (pv 1)))), _, rfl, _, rfl, i, j, rfl, rfl, c, q⟩
theorem ok_is_less (F : Fun K "is_less" "is_less" s_is_less f fd) : FnOk P w K mg base CX0 1 f fd ["left", "right"] (sp2 (fun _ _ => True) fun i j => .bl (decide (i < j))) := by
  refine F.ok sc_is_less (fun vs H Q E h => len2 h) (fun cdv A outer s H vs Q E hr h => ?_)
  obtain ⟨i, j, rfl, _, q⟩ := h
  exact ⟨_, (pss_one (ps_ret (pe_cmpR op_lt (pv 0) (pv 1) (nomark _)))), _, rfl, _, rfl, i, j, rfl, rfl, q⟩
theorem ok_is_at_most (F : Fun K "is_at_most" "is_at_most" s_is_at_most f fd) : FnOk P w K mg base CX0 1 f fd ["left", "right"] (sp2 (fun _ _ => True) fun i j => .bl (decide (i ≤ j))) := by
  refine F.ok sc_is_at_most (fun vs H Q E h => len2 h) (fun cdv A outer s H vs Q E hr h => ?_)
  obtain ⟨i, j, rfl, _, q⟩ := h
  exact ⟨_, (pss_one (ps_ret (pe_cmpR op_le (pv 0) (pv 1) (nomark _)))), _, rfl, _, rfl, i, j, rfl, rfl, q⟩
theorem ok_is_same (F : Fun K "is_same" "is_same" s_is_same f fd) : FnOk P w K mg base CX0 1 f fd ["left", "right"] (sp2 (fun _ _ => True) fun i j => .bl (decide (V.int i = V.int j))) := by
  refine F.ok sc_is_same (fun vs H Q E h => len2 h) (fun cdv A outer s H vs Q E hr h => ?_)
  obtain ⟨i, j, rfl, _, q⟩ := h
  exact ⟨_, (pss_one (ps_ret (pe_cmpR op_eq (pv 0) (pv 1) (nomark _)))), _, rfl, _, rfl, rfl, q⟩
theorem ok_is_other (F : Fun K "is_other" "is_other" s_is_other f fd) : FnOk P w K mg base CX0 1 f fd ["left", "right"] (sp2 (fun _ _ => True) fun i j => .bl (!decide (V.int i = V.int j))) := by
  refine F.ok sc_is_other (fun vs H Q E h => len2 h) (fun cdv A outer s H vs Q E hr h => ?_)
  obtain ⟨i, j, rfl, _, q⟩ := h
  exact ⟨_, (pss_one (ps_ret (pe_cmpR op_ne (pv 0) (pv 1) (nomark _)))), _, rfl, _, rfl, rfl, q⟩
/-! ### a word as bits -/
def bitsOf (n x : Nat) : List Int := (List.range n).map fun i => ((x / 2 ^ i % 2 : Nat) : Int)
def spBits : Sp := fun vs H Q _ => ∃ n x : Nat, vs = [vI n, vI x] ∧ n ≤ 8 ∧ ∀ (t : Addr) (H' : Hp), Same H H' → H t = none → H' t = some (.tup ((bitsOf n x).map V.int)) → Q (.ref t) H'
theorem ok_to_bits (F : Fun K "to_bits" "to_bits" s_to_bits f fd) (T : Txt mg) : FnOk P w K mg base CX0 1 f fd ["width", "word"] spBits := by
  refine F.ok sc_to_bits (fun vs H Q E h => ?_) (fun cdv A outer s H vs Q E hr h => ?_)
  · obtain ⟨n, x, rfl, _⟩ := h
    rfl
  obtain ⟨n, x, rfl, h8, q⟩ := h
  refine ⟨_, (pss_one (ps_ret (pe_callTy call_tuple_of (by rfl) T.n_tuple (by decide +kernel) (pa_cons (pe_lc (own := [("at", 2)]) (g := gName 2) (tt := tYes) rfl sc_to_bits.nd (pi_range1 rfl T.n_range (pa_cons (pv 0) pa_nil)) (blkOk_by (N := ["width", "word", "at"]) (sc := defScope s_to_bits) (by decide +kernel)) (fun _ _ _ _ _ => (pg_name (i := 2) sc_to_bits.nd rfl (Or.inl rfl))) (fun _ _ _ _ _ => pts_nil) (fun _ _ _ _ _ => (pe_op op_odd (pe_op op_shrN (pv 1) (pv 2)) pe_int))) pa_nil)))), ?_⟩
  refine ⟨_, rfl, (n : Int), rfl, by omega, by omega, fun D hD => lc_range (lo := 0) (n := n) (fun i H' => Same H H' ∧ H' D = some (.lst ((bitsOf i x).map V.int)))
    ⟨same_new hD _, upd_same⟩ (fun i H' hi p => ?_) (fun H' p => ?_)⟩
  · refine ⟨rfl, _, rfl, _, rfl, (x : Int), i, rfl, congrArg V.int (by omega), x / 2 ^ i, congrArg V.int (by simp), rfl, _, p.2, ?_, ?_, ?_⟩
    · rw [List.length_map]
      unfold bitsOf
      rw [List.length_map, List.length_range]
      exact small1000 (by omega)
    · intro b o e
      rw [upd_ne (ne_of_none e hD)]
      exact p.1 b o e
    · rw [upd_same]
      unfold bitsOf
      rw [List.range_succ, List.map_append, List.map_append]
      rfl
  · refine ⟨D, _, rfl, .inl ⟨SqL.of p.2, fun l hl => ?_⟩⟩
    exact q l _ (p.1.trans (same_new hl _)) (p.1.free hl) upd_same
end
end Bf

set_option Elab.async false
set_option linter.all false
set_option maxRecDepth 100000
set_option maxHeartbeats 4000000
namespace Bf
open PySem PySem.Spec PyProof.Rows L2
local macro_rules | `(tactic| walk_at "ifs") => `(tactic| repeat (first | refine iteF ?_ | refine iteT ?_ | refine ⟨_, rfl, rfl, _, rfl, ifN (by decide +kernel) ?_⟩ | refine ⟨_, rfl, rfl, _, rfl, ifY (by decide +kernel) ?_⟩))
/-! ### one word -/
inductive One : Str → Nat → Nat → Nat → Int → Prop
  | not (w x : Nat) : One "not" w x 0 (2 ^ w - 1 - x)
  | neg (w x : Nat) : One "neg" w x 0 (-(x : Int))
  | bits (w x low : Nat) : One "bits" w x low ((x : Int) / 2 ^ low)
  | sign (w x : Nat) (h : 1 ≤ w) : One "sign" w x 0 (if (x : Int) / 2 ^ (w - 1) != 0 then (x : Int) - 2 ^ w else x)
  | any (w x : Nat) : One "any" w x 0 (if decide ((0 : Int) < x) = true then 1 else 0)
  | all (w x : Nat) : One "all" w x 0 (if decide (V.int x = V.int (2 ^ w - 1)) = true then 1 else 0)
  | odd (w x : Nat) : One "odd" w x 0 (bitsOf w x).sum
  | wide (w x : Nat) : One "wide" w x 0 x
def spOne : Sp := fun vs H Q _ => ∃ (op : Str) (n x low : Nat) (v : Int), vs = [.str op, vI n, vI x, vI low] ∧ One op n x low v ∧ n ≤ 8 ∧ ∀ H', Same H H' → Q (.int v) H'
section
variable {P : Program} {w : World} {K : PySem.W.Frag} {mg : Str → Option Value} {base : Heap} {f : Addr} {fd : FuncData}
theorem ok_one (F : Fun K "one_word_result" "one_word_result" s_one_word_result f fd) (T : Txt mg) (D_to_bits : Dn P w K mg base "to_bits" ["width", "word"] 1 spBits) :
    FnOk P w K mg base CX0 2 f fd ["op", "inner", "word", "low"] spOne := by
  refine F.ok sc_one_word_result (fun vs H Q E h => ?_) (fun cdv A outer s H vs Q E hr h => ?_)
  · obtain ⟨op, n, x, low, v, rfl, _⟩ := h
    rfl
  obtain ⟨op, n, x, low, v, rfl, h1, h8, q⟩ := h
  refine ⟨_, (pss_cons (ps_set (i := 4) sc_one_word_result.nd rfl (Or.inl rfl) (pe_op op_sub (pe_op op_oneShl pe_int (pv 1)) pe_int))
      (pss_cons (ps_if (pt_cmpR op_eq (pv 0) pe_str (nomark _)) (pss_one (ps_ret (pe_op op_sub (pv 4) (pv 2)))) pss_nil)
      (pss_cons (ps_if (pt_cmpR op_eq (pv 0) pe_str (nomark _)) (pss_one (ps_ret (pe_un un_neg (pv 2)))) pss_nil)
      (pss_cons (ps_if (pt_cmpR op_eq (pv 0) pe_str (nomark _)) (pss_one (ps_ret (pe_op op_shrN (pv 2) (pv 3)))) pss_nil)
      (pss_cons (ps_if (PW.pt (pw_and (pt_cmpR op_eq (pv 0) pe_str (nomark _)) (pw_and1 (pt_truth (pe_op op_shrN (pv 2) (pe_op op_sub (pv 1) pe_int)) (by intro _; rfl))))) (pss_one (ps_ret (pe_op op_sub (pv 2) (pe_op op_oneShl pe_int (pv 1))))) pss_nil)
      (pss_cons (ps_if (pt_cmpR op_eq (pv 0) pe_str (nomark _)) (pss_one (ps_ret (pe_callTy call_int1 (by rfl) T.n_int (by decide +kernel) (pa_cons (pe_cmpR op_gt (pv 2) pe_int (nomark _)) pa_nil)))) pss_nil)
      (pss_cons (ps_if (pt_cmpR op_eq (pv 0) pe_str (nomark _)) (pss_one (ps_ret (pe_callTy call_int1 (by rfl) T.n_int (by decide +kernel) (pa_cons (pe_cmpR op_eq (pv 2) (pv 4) (nomark _)) pa_nil)))) pss_nil)
      (pss_cons (ps_if (pt_cmpR op_eq (pv 0) pe_str (nomark _)) (pss_one (ps_ret (pe_callB (cr_sumT rfl) (by rfl) T.n_sum (by decide +kernel) (pa_cons (pe_dn D_to_bits (hr.mono (by decide)) (by rfl) (pa_cons (pv 1) (pa_cons (pv 2) pa_nil))) pa_nil)))) pss_nil)
      (pss_one (ps_ret (pv 2))))))))))), ?_⟩
  refine ⟨_, rfl, n, rfl, rfl, by omega, _, _, rfl, rfl, ?_⟩
  cases h1 with
  | not =>
    walk_at "ifs"
    exact ⟨_, rfl, _, rfl, _, _, rfl, rfl, q _ (Same.refl _)⟩
  | neg =>
    walk_at "ifs"
    exact ⟨_, rfl, _, rfl, q _ (Same.refl _)⟩
  | bits =>
    walk_at "ifs"
    exact ⟨_, rfl, _, rfl, _, _, rfl, rfl, q _ (Same.refl _)⟩
  | sign _ _ hw =>
    walk_at "ifs"
    refine ⟨_, rfl, _, rfl, _, _, rfl, rfl, (x : Int), n - 1, rfl, congrArg V.int (by omega), _, rfl, ?_⟩
    refine ite2 (fun e => ?_) (fun e => ?_)
    · simp only [if_pos e] at q
      exact ⟨_, rfl, _, rfl, n, rfl, rfl, by omega, _, _, rfl, rfl, q _ (Same.refl _)⟩
    · simp only [if_neg e] at q
      walk_at "ifs"
      exact ⟨_, rfl, q _ (Same.refl _)⟩
  | any =>
    walk_at "ifs"
    exact ⟨_, rfl, _, _, rfl, rfl, .inr ⟨_, rfl, q _ (Same.refl _)⟩⟩
  | all =>
    walk_at "ifs"
    exact ⟨_, rfl, _, rfl, rfl, .inr ⟨_, rfl, q _ (Same.refl _)⟩⟩
  | odd =>
    walk_at "ifs"
    exact ⟨_, rfl, _, rfl, n, x, rfl, h8, fun t H' s1 ht0 ht => ⟨t, _, rfl, .inl (.inl ht), q _ s1⟩⟩
  | wide =>
    walk_at "ifs"
    exact ⟨_, rfl, q _ (Same.refl _)⟩
/-! ### the word of an operation -/
/-- the def that a word of the table means, and what it gives -/
inductive Two : Str → Nat → Nat → (Int → Int → Prop) → (Int → Int → V) → Int → Prop
  | add (x y : Nat) : Two "add" x y (fun _ _ => True) (fun i j => .int (i + j)) (x + y)
  | sub (x y : Nat) : Two "sub" x y (fun _ _ => True) (fun i j => .int (i - j)) (x - y)
  | mul (x y : Nat) : Two "mul" x y (fun i _ => -(2 ^ 64) < i ∧ i < 2 ^ 64) (fun i j => .int (i * j)) (x * y)
  | and (x y : Nat) : Two "and" x y (fun _ _ => True) (fun i j => .int (Builtin.bitAnd i j)) (Builtin.bitAnd x y)
  | or (x y : Nat) : Two "or" x y (fun _ _ => True) (fun i j => .int (Builtin.bitOr i j)) (Builtin.bitOr x y)
  | xor (x y : Nat) : Two "xor" x y (fun _ _ => True) (fun i j => .int (Builtin.bitXor i j)) (Builtin.bitXor x y)
  | shl (x y : Nat) : Two "shl" x y (fun i j => 0 ≤ j ∧ j ≤ 1000000 ∧ i.natAbs < 2 ^ 64) (fun i j => .int (i * 2 ^ j.toNat)) (x * 2 ^ y)
  | shr (x y : Nat) : Two "shr" x y (fun _ j => 0 ≤ j) (fun i j => .int (i / 2 ^ j.toNat)) ((x : Int) / 2 ^ y)
  | lt (x y : Nat) : Two "lt" x y (fun _ _ => True) (fun i j => .bl (decide (i < j))) (if decide ((x : Int) < y) = true then 1 else 0)
  | le (x y : Nat) : Two "le" x y (fun _ _ => True) (fun i j => .bl (decide (i ≤ j))) (if decide ((x : Int) ≤ y) = true then 1 else 0)
  | eq (x y : Nat) : Two "eq" x y (fun _ _ => True) (fun i j => .bl (decide (V.int i = V.int j))) (if decide (V.int x = V.int y) = true then 1 else 0)
  | ne (x y : Nat) : Two "ne" x y (fun _ _ => True) (fun i j => .bl (!decide (V.int i = V.int j))) (if (!decide (V.int x = V.int y)) = true then 1 else 0)
/-- by the words: the value before it is cut to its width -/
inductive Raw : Str → List Nat → List Nat → Nat → Int → Prop
  | two {op : Str} {x y : Nat} {C g v} (u w : Nat) (h : Two op x y C g v) (hx : x < 256) (hy : y < 256) : Raw op [u, w] [x, y] 0 v
  | pick (u a b c x y : Nat) : Raw "pick" [u, a, b] [c, x, y] 0 (if decide (vI c = V.int 1) = true then x else y)
  | join (u w x y : Nat) (hx : x < 256) (hw : w ≤ 8) : Raw "join" [u, w] [x, y] 0 (x * 2 ^ w + y)
  | one {op : Str} {u x low : Nat} {v : Int} (h : One op u x low v) (hu : u ≤ 8) : Raw op [u] [x] low v
def spResult (K : PySem.W.Frag) : Sp := fun vs H Q _ => ∃ (op : Str) (W low : Nat) (a b : Addr) (ws xs : List Nat) (v : Int), vs = [.str op, vI W, .ref a, .ref b, vI low] ∧ W ≤ 8 ∧ SqT K H a (ws.map vI) ∧ SqT K H b (xs.map vI) ∧ Raw op ws xs low v ∧ ∀ H', Same H H' → Q (.int (v % 2 ^ W)) H'
end
end Bf

set_option Elab.async false
set_option linter.all false
set_option maxRecDepth 100000
set_option maxHeartbeats 4000000
namespace Bf
open PySem PySem.Spec PyProof.Rows L2
local macro_rules | `(tactic| walk_at "ifs") => `(tactic| repeat (first | refine iteF ?_ | refine iteT ?_ | refine ⟨_, rfl, rfl, _, rfl, ifN (by decide +kernel) ?_⟩ | refine ⟨_, rfl, rfl, _, rfl, ifY (by decide +kernel) ?_⟩))
theorem two_C {op : Str} {x y : Nat} {C : Int → Int → Prop} {g v} (h : Two op x y C g v) (hx : x < 256) (hy : y < 256) : C x y := by
  have p64 : (256 : Int) < 2 ^ 64 := by decide
  have m64 : -(2 ^ 64 : Int) < 0 := by decide
  have q64 : 256 < 2 ^ 64 := by decide
  cases h <;> first
    | exact True.intro
    | exact Int.natCast_nonneg _
    | exact ⟨Int.lt_of_lt_of_le m64 (Int.natCast_nonneg _), Int.lt_trans (by omega) p64⟩
    | exact ⟨Int.natCast_nonneg _, by omega, Nat.lt_trans (by omega) q64⟩
structure TxtR (K : PySem.W.Frag) (w : World) (mg : Str → Option Value) (d : Addr) (es : Array DictEntry) (n : Nat) : Prop extends Txt mg where
  kd : KDict K w d es n
  g_TWO_WORDS : mg "TWO_WORDS" = some (.ref d)
structure Tab (P : Program) (w : World) (K : PySem.W.Frag) (mg : Str → Option Value) (base : Heap) (d : Addr) : Prop where
  two : ∀ {op : Str} {x y : Nat} {C g v}, Two op x y C g v → ∃ (f : Addr) (fd : FuncData), PySem.W.nsIn K d op = some (some (.ref f)) ∧ FnOk P w K mg base CX0 1 f fd ["left", "right"] (sp2 C g) ∧ PySem.W.keepIn K (.ref f) = true ∧ Binds K fd ["left", "right"] []
  one : ∀ {op : Str} {u x low : Nat} {v : Int}, One op u x low v → PySem.W.nsIn K d op = some none
  pick : PySem.W.nsIn K d "pick" = some none
  join : PySem.W.nsIn K d "join" = some none
section
variable {P : Program} {w : World} {K : PySem.W.Frag} {mg : Str → Option Value} {base : Heap} {f : Addr} {fd : FuncData}
theorem ok_result {d : Addr} {es : Array DictEntry} {n : Nat} (F : FunD K "result" "result" (defArgs s_result) (defBody s_result) (defScope s_result) [vI 0] [] f fd) (T : TxtR K w mg d es n) (B : Tab P w K mg base d)
    (D_one_word_result : Dn P w K mg base "one_word_result" ["op", "inner", "word", "low"] 2 spOne) :
    FnOk P w K mg base CX0 3 f fd ["op", "width", "widths", "words", "low"] (spResult K) := by
  refine F.ok sc_result (fun vs H Q E h => ?_) (fun cdv A outer s H vs Q E hr h => ?_)
  · obtain ⟨op, W, low, a, b, ws, xs, v, rfl, _⟩ := h
    rfl
  obtain ⟨op, W, low, a, b, ws, xs, v, rfl, hW, ha, hb, h1, q⟩ := h
  refine ⟨_, (pss_cons (ps_if (pt_cmpR (op_in_kd T.kd) (pv 0) (pe_glob (v := .ref _) rfl T.g_TWO_WORDS rfl) (by rfl)) (pss_cons (ps_set (i := 5) sc_result.nd rfl (Or.inl rfl) (pe_ix (ix_kd T.kd) (pe_glob (v := .ref _) rfl T.g_TWO_WORDS rfl) (pv 0) (fun _ _ => rfl)))
      (pss_one (ps_set (i := 6) sc_result.nd rfl (Or.inl rfl) (pe_callTy call_int1 (by rfl) T.n_int (by decide +kernel) (pa_cons (pe_held (k := 1) (i := 5) (hr.mono (by decide)) rfl (Or.inl rfl) (pa_cons (pe_ix ix_tup (pv 3) pe_int (fun _ _ => rfl)) (pa_cons (pe_ix ix_tup (pv 3) pe_int (fun _ _ => rfl)) pa_nil))) pa_nil))))) (pss_one (ps_if (pt_cmpR op_eq (pv 0) pe_str (nomark _)) (pss_one (ps_set (i := 6) sc_result.nd rfl (Or.inl rfl) (pe_ifExp (pt_cmpR op_eq (pe_ix ix_tup (pv 3) pe_int (fun _ _ => rfl)) pe_int (nomark _)) (pe_ix ix_tup (pv 3) pe_int (fun _ _ => rfl)) (pe_ix ix_tup (pv 3) pe_int (fun _ _ => rfl))))) (pss_one (ps_if (pt_cmpR op_eq (pv 0) pe_str (nomark _)) (pss_one (ps_set (i := 6) sc_result.nd rfl (Or.inl rfl) (pe_op op_add (pe_op op_shl (pe_ix ix_tup (pv 3) pe_int (fun _ _ => rfl)) (pe_ix ix_tup (pv 2) pe_int (fun _ _ => rfl))) (pe_ix ix_tup (pv 3) pe_int (fun _ _ => rfl))))) (pss_one (ps_set (i := 6) sc_result.nd rfl (Or.inl rfl) (pe_dn D_one_word_result (hr.mono (by decide)) (by rfl) (pa_cons (pv 0) (pa_cons (pe_ix ix_tup (pv 2) pe_int (fun _ _ => rfl)) (pa_cons (pe_ix ix_tup (pv 3) pe_int (fun _ _ => rfl)) (pa_cons (pv 4) pa_nil))))))))))))
      (pss_one (ps_ret (pe_op op_andM (pv 6) (pe_op op_sub (pe_op op_oneShl pe_int (pv 1)) pe_int))))), ?_⟩
  cases h1 with
  | two u w h hx hy =>
    obtain ⟨g, gd, e1, F1, k1, b1⟩ := B.two h
    refine ⟨_, rfl, op, _, rfl, rfl, e1, _, rfl, ifY rfl ?_⟩
    refine ⟨_, rfl, op, _, .ref g, rfl, rfl, e1, rfl, ?_⟩
    refine ⟨g, _, gd, _, rfl, F1, k1, b1, _, rfl, b, _, 0, _, rfl, rfl, hb, atI_nat (j := 0) rfl, _, rfl, b, _, 1, _, rfl, rfl, hb, atI_nat (j := 1) rfl, _, _, rfl, ?_⟩
    refine ⟨two_C h hx hy, ?_⟩
    cases h
    all_goals first
      | refine .inl ⟨_, rfl, ?_⟩
      | refine .inr ⟨_, rfl, ?_⟩
    all_goals exact ⟨_, rfl, _, rfl, W, rfl, rfl, by omega, _, _, rfl, rfl, _, _, rfl, rfl, q _ (Same.refl _)⟩
  | pick u a1 b1 c x y =>
    refine ⟨_, rfl, _, _, rfl, rfl, B.pick, _, rfl, ifN rfl ?_⟩
    walk_at "ifs"
    refine ⟨_, rfl, b, _, 0, _, rfl, rfl, hb, atI_nat (j := 0) rfl, rfl, _, rfl, ?_⟩
    refine ite2 (fun e => ?_) (fun e => ?_)
    · simp only [if_pos e] at q
      exact ⟨_, rfl, b, _, 1, _, rfl, rfl, hb, atI_nat (j := 1) rfl, _, rfl, _, rfl, W, rfl, rfl, by omega, _, _, rfl, rfl, _, _, rfl, rfl, q _ (Same.refl _)⟩
    · simp only [if_neg e] at q
      exact ⟨_, rfl, b, _, 2, _, rfl, rfl, hb, atI_nat (j := 2) rfl, _, rfl, _, rfl, W, rfl, rfl, by omega, _, _, rfl, rfl, _, _, rfl, rfl, q _ (Same.refl _)⟩
  | join u w x y hx hw =>
    have q64 : 256 < 2 ^ 64 := by decide
    refine ⟨_, rfl, _, _, rfl, rfl, B.join, _, rfl, ifN rfl ?_⟩
    walk_at "ifs"
    refine ⟨_, rfl, b, _, 0, _, rfl, rfl, hb, atI_nat (j := 0) rfl, _, rfl, a, _, 1, _, rfl, rfl, ha, atI_nat (j := 1) rfl, ?_⟩
    refine ⟨x, w, rfl, rfl, ⟨by omega, by omega, Nat.lt_trans (by omega) q64⟩, _, rfl, b, _, 1, _, rfl, rfl, hb, atI_nat (j := 1) rfl, _, _, rfl, rfl, ?_⟩
    exact ⟨_, rfl, _, rfl, W, rfl, rfl, by omega, _, _, rfl, rfl, _, _, rfl, rfl, q _ (Same.refl _)⟩
  | one h hu =>
    have h0 := h
    refine ⟨_, rfl, _, _, rfl, rfl, B.one h, _, rfl, ifN rfl ?_⟩
    cases h
    all_goals walk_at "ifs"
    all_goals refine ⟨_, rfl, _, rfl, a, _, 0, _, rfl, rfl, ha, atI_nat (j := 0) rfl, _, rfl, b, _, 0, _, rfl, rfl, hb, atI_nat (j := 0) rfl, _, rfl, _, _, _, _, _, rfl, h0, hu, fun H' s1 => ?_⟩
    all_goals exact ⟨_, rfl, _, rfl, W, rfl, rfl, by omega, _, _, rfl, rfl, _, _, rfl, rfl, q _ s1⟩
end
end Bf

set_option Elab.async false
set_option linter.all false
set_option maxRecDepth 100000
set_option maxHeartbeats 4000000
namespace Bf
open PySem PySem.Spec PyProof.Rows L2
/-! ### reading by itself -/
theorem rdL {K : PySem.W.Frag} {H : Hp} {a : Addr} {xs : List V} {i : Int} {v : V} {Q : VK} (h : SqL K H a xs) (e : atI xs i = some v) (k : Q v H) : rIxL K (.ref a) (.int i) H Q := ⟨a, xs, _, v, rfl, rfl, h, e, k⟩
theorem rdC {v : V} {σ : L2.St} {H : Hp} {Q : VK} (k : Q v H) : tC v σ H Q := k
theorem seqNew {K : PySem.W.Frag} {H : Hp} {a p : Addr} {o : HO} {xs : List V} (hp : H p = none) (h : SqL K H a xs) : SqL K (upd H p o) a xs := (same_new hp o).seq h
theorem mul_ok {x : Nat} (h : x < 2 ^ 8) : -(2 ^ 64) < (x : Int) ∧ (x : Int) < 2 ^ 64 := by
  have p64 : (256 : Int) < 2 ^ 64 := by decide
  have m64 : -(2 ^ 64 : Int) < 0 := by decide
  exact ⟨Int.lt_of_lt_of_le m64 (Int.natCast_nonneg _), Int.lt_trans (by omega) p64⟩
theorem shl_okN {x : Nat} (h : x < 2 ^ 8) : (x : Int).natAbs < 2 ^ 64 := by
  have q64 : 256 < 2 ^ 64 := by decide
  exact Nat.lt_trans (by omega) q64
theorem le1000 {n : Nat} (h : n ≤ 1000) : n ≤ sizeLine := Nat.le_of_lt (small1000 h)
theorem fin {H H' : Hp} {Q : VK} {v e : Int} (q : ∀ H', Same H H' → Q (.int v) H') (m : e = v) (s : Same H H') : Q (.int e) H' := by
  rw [m]
  exact q _ s
local macro_rules | `(tactic| walk_at "sq") => `(tactic| repeat (first | assumption | (apply seqNew; assumption)))
local macro_rules | `(tactic| walk_at "sm") => `(tactic| repeat (first | exact Same.refl _ | assumption | refine Same.trans ?_ (same_new (by assumption) _)))
local macro_rules | `(tactic| walk_at "ifs") => `(tactic| repeat (first | refine iteF ?_ | refine iteT ?_ | refine ⟨_, rfl, rfl, _, rfl, ifN (by decide +kernel) ?_⟩ | refine ⟨_, rfl, rfl, _, rfl, ifY (by decide +kernel) ?_⟩ | refine ⟨_, rfl, le1000 (by simp), fun t ht => ⟨t, _, rfl, .inr (SqT.of upd_same), rfl, rfl, _, rfl, ifN (by decide +kernel) ?_⟩⟩ | refine ⟨_, rfl, le1000 (by simp), fun t ht => ⟨t, _, rfl, .inr (SqT.of upd_same), rfl, rfl, _, rfl, ifY (by decide +kernel) ?_⟩⟩))
local macro_rules | `(tactic| walk_at "rd") => `(tactic| repeat (first | refine rdC ?_ | refine ⟨_, rfl, ?_⟩ | (apply rdL; (focus (walk_at "sq")); rfl) | refine iteF ?_ | refine iteT ?_ | refine ⟨rfl, _, rfl, ifN (by decide +kernel) ?_⟩ | refine ⟨rfl, _, rfl, ifY (by decide +kernel) ?_⟩ | refine ⟨le1000 (by simp), fun t ht => ⟨t, _, rfl, .inr (SqT.of upd_same), rfl, rfl, _, rfl, ifN (by decide +kernel) ?_⟩⟩ | refine ⟨le1000 (by simp), fun t ht => ⟨t, _, rfl, .inr (SqT.of upd_same), rfl, rfl, _, rfl, ifY (by decide +kernel) ?_⟩⟩ | refine ⟨_, rfl, rfl, (by omega), ?_⟩ | refine ⟨_, _, rfl, rfl, ?_⟩))
theorem bitsOf_succ (i x : Nat) : bitsOf (i + 1) x = bitsOf i x ++ [((x / 2 ^ i % 2 : Nat) : Int)] := by
  unfold bitsOf
  rw [List.range_succ, List.map_append]
  rfl
def popc (n x : Nat) : Nat := ((List.range n).map fun i => x / 2 ^ i % 2).sum
theorem popc_succ (n x : Nat) : popc (n + 1) x = popc n x + x / 2 ^ n % 2 := by
  unfold popc
  rw [List.range_succ, List.map_append, List.sum_append]
  simp
theorem bitsOf_sum (n x : Nat) : (bitsOf n x).sum = ((popc n x : Nat) : Int) := by
  induction n with
  | zero => rfl
  | succ n ih =>
    rw [bitsOf_succ, List.sum_append, ih, popc_succ]
    simp
theorem popc_cut {n x : Nat} (hx : x < 2 ^ n) : ∀ k, popc (n + k) x = popc n x
  | 0 => rfl
  | k + 1 => by
    rw [show n + (k + 1) = (n + k) + 1 by omega, popc_succ, popc_cut hx k, Nat.div_eq_of_lt (ltW (by omega) hx)]
    rfl
theorem m_odd {n x : Nat} (h8 : n ≤ 8) (hx : x < 2 ^ n) : ((popc 8 x % 2 : Nat) : Int) = (bitsOf n x).sum % 2 ^ 1 := by
  have e := popc_cut hx (8 - n)
  rw [show n + (8 - n) = 8 by omega] at e
  rw [bitsOf_sum, e]
  simp
inductive Fit : Str → Nat → List Nat → List Nat → Nat → Int → Prop
  | not (w x : Nat) (h1 : 1 ≤ w) (h8 : w ≤ 8) (hx : x < 2 ^ w) : Fit "not" w [w] [x] 0 (2 ^ w - 1 - x)
  | neg (w x : Nat) (h1 : 1 ≤ w) (h8 : w ≤ 8) (hx : x < 2 ^ w) : Fit "neg" w [w] [x] 0 (-(x : Int))
  | bits (w W x low : Nat) (h1 : 1 ≤ W) (hl : low + W ≤ w) (h8 : w ≤ 8) (hx : x < 2 ^ w) : Fit "bits" W [w] [x] low ((x : Int) / 2 ^ low)
  | wide (w W x : Nat) (h1 : 1 ≤ w) (h8 : w ≤ 8) (g1 : 1 ≤ W) (g8 : W ≤ 8) (hx : x < 2 ^ w) : Fit "wide" W [w] [x] 0 x
  | sign (w W x : Nat) (h1 : 1 ≤ w) (hl : w ≤ W) (h8 : W ≤ 8) (hx : x < 2 ^ w) : Fit "sign" W [w] [x] 0 (if (x : Int) / 2 ^ (w - 1) != 0 then (x : Int) - 2 ^ w else x)
  | any (w x : Nat) (h1 : 1 ≤ w) (h8 : w ≤ 8) (hx : x < 2 ^ w) : Fit "any" 1 [w] [x] 0 (if decide ((0 : Int) < x) = true then 1 else 0)
  | all (w x : Nat) (h1 : 1 ≤ w) (h8 : w ≤ 8) (hx : x < 2 ^ w) : Fit "all" 1 [w] [x] 0 (if decide (V.int x = V.int (2 ^ w - 1)) = true then 1 else 0)
  | odd (w x : Nat) (h1 : 1 ≤ w) (h8 : w ≤ 8) (hx : x < 2 ^ w) : Fit "odd" 1 [w] [x] 0 (bitsOf w x).sum
  | pick (w c x y : Nat) (h1 : 1 ≤ w) (h8 : w ≤ 8) (hc : c < 2 ^ 1) (hx : x < 2 ^ w) (hy : y < 2 ^ w) : Fit "pick" w [1, w, w] [c, x, y] 0 (if decide (vI c = V.int 1) = true then x else y)
  | join (u w x y : Nat) (h1 : 1 ≤ u) (h4 : u ≤ 4) (g1 : 1 ≤ w) (g4 : w ≤ 4) (hx : x < 2 ^ u) (hy : y < 2 ^ w) : Fit "join" (u + w) [u, w] [x, y] 0 (x * 2 ^ w + y)
  | lt (w x y : Nat) (h1 : 1 ≤ w) (h8 : w ≤ 8) (hx : x < 2 ^ w) (hy : y < 2 ^ w) : Fit "lt" 1 [w, w] [x, y] 0 (if decide ((x : Int) < y) = true then 1 else 0)
  | le (w x y : Nat) (h1 : 1 ≤ w) (h8 : w ≤ 8) (hx : x < 2 ^ w) (hy : y < 2 ^ w) : Fit "le" 1 [w, w] [x, y] 0 (if decide ((x : Int) ≤ y) = true then 1 else 0)
  | eq (w x y : Nat) (h1 : 1 ≤ w) (h8 : w ≤ 8) (hx : x < 2 ^ w) (hy : y < 2 ^ w) : Fit "eq" 1 [w, w] [x, y] 0 (if decide (V.int x = V.int y) = true then 1 else 0)
  | ne (w x y : Nat) (h1 : 1 ≤ w) (h8 : w ≤ 8) (hx : x < 2 ^ w) (hy : y < 2 ^ w) : Fit "ne" 1 [w, w] [x, y] 0 (if (!decide (V.int x = V.int y)) = true then 1 else 0)
  | shl (w o x y : Nat) (h1 : 1 ≤ w) (h8 : w ≤ 8) (g1 : 1 ≤ o) (g8 : o ≤ 8) (hx : x < 2 ^ w) (hy : y < 2 ^ o) : Fit "shl" w [w, o] [x, y] 0 (x * 2 ^ y)
  | shr (w o x y : Nat) (h1 : 1 ≤ w) (h8 : w ≤ 8) (g1 : 1 ≤ o) (g8 : o ≤ 8) (hx : x < 2 ^ w) (hy : y < 2 ^ o) : Fit "shr" w [w, o] [x, y] 0 ((x : Int) / 2 ^ y)
  | add (w x y : Nat) (h1 : 1 ≤ w) (h8 : w ≤ 8) (hx : x < 2 ^ w) (hy : y < 2 ^ w) : Fit "add" w [w, w] [x, y] 0 (x + y)
  | sub (w x y : Nat) (h1 : 1 ≤ w) (h8 : w ≤ 8) (hx : x < 2 ^ w) (hy : y < 2 ^ w) : Fit "sub" w [w, w] [x, y] 0 (x - y)
  | mul (w x y : Nat) (h1 : 1 ≤ w) (h8 : w ≤ 8) (hx : x < 2 ^ w) (hy : y < 2 ^ w) : Fit "mul" w [w, w] [x, y] 0 (x * y)
  | and (w x y : Nat) (h1 : 1 ≤ w) (h8 : w ≤ 8) (hx : x < 2 ^ w) (hy : y < 2 ^ w) : Fit "and" w [w, w] [x, y] 0 (Builtin.bitAnd x y)
  | or (w x y : Nat) (h1 : 1 ≤ w) (h8 : w ≤ 8) (hx : x < 2 ^ w) (hy : y < 2 ^ w) : Fit "or" w [w, w] [x, y] 0 (Builtin.bitOr x y)
  | xor (w x y : Nat) (h1 : 1 ≤ w) (h8 : w ≤ 8) (hx : x < 2 ^ w) (hy : y < 2 ^ w) : Fit "xor" w [w, w] [x, y] 0 (Builtin.bitXor x y)
def spWord (K : PySem.W.Frag) : Sp := fun vs H Q _ => ∃ (op : Str) (W low : Nat) (a b : Addr) (ws xs : List Nat) (v : Int), vs = [.str op, vI W, .ref a, .ref b, vI low] ∧ SqL K H a (ws.map vI) ∧ SqL K H b (xs.map vI) ∧ Fit op W ws xs low v ∧ ∀ H', Same H H' → Q (.int (v % 2 ^ W)) H'
section
variable {P : Program} {w : World} {K : PySem.W.Frag} {mg : Str → Option Value} {base : Heap} {f : Addr} {fd : FuncData}
theorem ok_word (F : Fun K "_law_word" "_law_word" s_law_word f fd) (T : Txt mg) : FnOk P w K mg base CX0 1 f fd ["_law_op", "_law_width", "_law_wides", "_law_words", "_law_low"] (spWord K) := by
  refine F.ok sc_law_word (fun vs H Q E h => ?_) (fun cdv A outer s H vs Q E hr h => ?_)
  · obtain ⟨op, W, low, a, b, ws, xs, v, rfl, _⟩ := h
    rfl
  obtain ⟨op, W, low, a, b, ws, xs, v, rfl, ha, hb, h1, q⟩ := h
  refine ⟨_, (pss_cons (ps_set (i := 5) sc_law_word.nd rfl (Or.inl rfl) (pe_op op_oneShl pe_int (pv 1)))
      (pss_cons (ps_set (i := 6) sc_law_word.nd rfl (Or.inr rfl) (pe_ix ix_list (pv 3) pe_int (fun _ _ => rfl)))
      (pss_cons (ps_if (pt_cmpR op_eq (pv 0) pe_str (nomark _)) (pss_one (ps_ret (pe_op op_sub (pe_op op_sub (pe_op op_oneShl pe_int (pe_ix ix_list (pv 2) pe_int (fun _ _ => rfl))) pe_int) (pv 6)))) pss_nil)
      (pss_cons (ps_if (pt_cmpR op_eq (pv 0) pe_str (nomark _)) (pss_one (ps_ret (pe_op op_andM (pe_op op_sub (pe_op op_oneShl pe_int (pe_ix ix_list (pv 2) pe_int (fun _ _ => rfl))) (pv 6)) (pe_op op_sub (pv 5) pe_int)))) pss_nil)
      (pss_cons (ps_if (pt_cmpR op_in_seq (pv 0) (pe_tup (pa_cons pe_str (pa_cons pe_str pa_nil))) (by rfl)) (pss_one (ps_ret (pe_op op_andM (pe_op op_shrN (pv 6) (pv 4)) (pe_op op_sub (pv 5) pe_int)))) pss_nil)
      (pss_cons (ps_if (pt_cmpR op_eq (pv 0) pe_str (nomark _)) (pss_cons (ps_if (pt_truth (pe_op op_shrN (pv 6) (pe_op op_sub (pe_ix ix_list (pv 2) pe_int (fun _ _ => rfl)) pe_int)) (by intro _; rfl)) (pss_one (ps_ret (pe_op op_sub (pe_op op_add (pv 6) (pv 5)) (pe_op op_oneShl pe_int (pe_ix ix_list (pv 2) pe_int (fun _ _ => rfl)))))) pss_nil)
      (pss_one (ps_ret (pv 6)))) pss_nil)
      (pss_cons (ps_if (pt_cmpR op_eq (pv 0) pe_str (nomark _)) (pss_one (ps_ret (pe_callTy call_int1 (by rfl) T.n_int (by decide +kernel) (pa_cons (pe_cmpR op_ne (pv 6) pe_int (nomark _)) pa_nil)))) pss_nil)
      (pss_cons (ps_if (pt_cmpR op_eq (pv 0) pe_str (nomark _)) (pss_one (ps_ret (pe_callTy call_int1 (by rfl) T.n_int (by decide +kernel) (pa_cons (pe_cmpR op_eq (pv 6) (pe_op op_sub (pe_op op_oneShl pe_int (pe_ix ix_list (pv 2) pe_int (fun _ _ => rfl))) pe_int) (nomark _)) pa_nil)))) pss_nil)
      (pss_cons (ps_if (pt_cmpR op_eq (pv 0) pe_str (nomark _)) (pss_one (ps_ret (pe_op op_odd (pe_callB (cr_sum rfl) (by rfl) T.n_sum (by decide +kernel) (pa_cons (pe_lc (own := [("_law_k", 8)]) (g := gName 8) (tt := tYes) rfl sc_law_word.nd (pi_range1 rfl T.n_range (pa_cons pe_int pa_nil)) (blkOk_by (N := ["_law_op", "_law_width", "_law_wides", "_law_words", "_law_low", "_law_room", "_law_first", "_law_second", "_law_k"]) (sc := defScope s_law_word) (by decide +kernel)) (fun _ _ _ _ _ => (pg_name (i := 8) sc_law_word.nd rfl (Or.inl rfl))) (fun _ _ _ _ _ => pts_nil) (fun _ _ _ _ _ => (pe_op op_odd (pe_op op_shrN (pv 6) (pv 8)) pe_int))) pa_nil)) pe_int))) pss_nil)
      (pss_cons (ps_if (pt_cmpR op_eq (pv 0) pe_str (nomark _)) (pss_one (ps_ret (pe_ifExp (pt_cmpR op_eq (pv 6) pe_int (nomark _)) (pe_ix ix_list (pv 3) pe_int (fun _ _ => rfl)) (pe_ix ix_list (pv 3) pe_int (fun _ _ => rfl))))) pss_nil)
      (pss_cons (ps_set (i := 7) sc_law_word.nd rfl (Or.inl rfl) (pe_ix ix_list (pv 3) pe_int (fun _ _ => rfl)))
      (pss_cons (ps_if (pt_cmpR op_eq (pv 0) pe_str (nomark _)) (pss_one (ps_ret (pe_op op_add (pe_op op_mul (pv 6) (pe_op op_oneShl pe_int (pe_ix ix_list (pv 2) pe_int (fun _ _ => rfl)))) (pv 7)))) pss_nil)
      (pss_cons (ps_if (pt_cmpR op_in_seq (pv 0) (pe_tup (pa_cons pe_str (pa_cons pe_str (pa_cons pe_str (pa_cons pe_str pa_nil))))) (by rfl)) (pss_one (ps_ret (pe_callTy call_int1 (by rfl) T.n_int (by decide +kernel) (pa_cons (pe_or (pe_and (pe_cmpR op_eq (pv 0) pe_str (nomark _)) (pe_one (pe_cmpR op_lt (pv 6) (pv 7) (nomark _)))) (pe_or (pe_and (pe_cmpR op_eq (pv 0) pe_str (nomark _)) (pe_one (pe_cmpR op_le (pv 6) (pv 7) (nomark _)))) (pe_or (pe_and (pe_cmpR op_eq (pv 0) pe_str (nomark _)) (pe_one (pe_cmpR op_eq (pv 6) (pv 7) (nomark _)))) (pe_one (pe_and (pe_cmpR op_eq (pv 0) pe_str (nomark _)) (pe_one (pe_cmpR op_ne (pv 6) (pv 7) (nomark _)))))))) pa_nil)))) pss_nil)
      (pss_cons (ps_if (pt_cmpR op_eq (pv 0) pe_str (nomark _)) (pss_one (ps_ret (pe_op op_andM (pe_op op_add (pv 6) (pv 7)) (pe_op op_sub (pv 5) pe_int)))) pss_nil)
      (pss_cons (ps_if (pt_cmpR op_eq (pv 0) pe_str (nomark _)) (pss_one (ps_ret (pe_op op_andM (pe_op op_sub (pe_op op_add (pv 6) (pv 5)) (pv 7)) (pe_op op_sub (pv 5) pe_int)))) pss_nil)
      (pss_cons (ps_if (pt_cmpR op_eq (pv 0) pe_str (nomark _)) (pss_one (ps_ret (pe_op op_andM (pe_op op_mul (pv 6) (pv 7)) (pe_op op_sub (pv 5) pe_int)))) pss_nil)
      (pss_cons (ps_if (pt_cmpR op_eq (pv 0) pe_str (nomark _)) (pss_one (ps_ret (pe_op op_and (pv 6) (pv 7)))) pss_nil)
      (pss_cons (ps_if (pt_cmpR op_eq (pv 0) pe_str (nomark _)) (pss_one (ps_ret (pe_op op_or (pv 6) (pv 7)))) pss_nil)
      (pss_cons (ps_if (pt_cmpR op_eq (pv 0) pe_str (nomark _)) (pss_one (ps_ret (pe_op op_xor (pv 6) (pv 7)))) pss_nil)
      (pss_cons (ps_if (pt_cmpR op_ge (pv 7) (pv 1) (nomark _)) (pss_one (ps_ret pe_int)) pss_nil)
      (pss_cons (ps_if (pt_cmpR op_eq (pv 0) pe_str (nomark _)) (pss_one (ps_ret (pe_op op_andM (pe_op op_shl (pv 6) (pv 7)) (pe_op op_sub (pv 5) pe_int)))) pss_nil)
      (pss_one (ps_ret (pe_op op_shrN (pv 6) (pv 7))))))))))))))))))))))))), ?_⟩
  cases h1 with
  | not n x h1 h8 hx => walk_at "rd"; exact fin q (m_not hx) (by walk_at "sm")
  | neg n x h1 h8 hx => walk_at "rd"; exact fin q m_neg (by walk_at "sm")
  | bits n n' x l h1 hl h8 hx => walk_at "rd"; exact fin q rfl (by walk_at "sm")
  | wide n n' x h1 h8 g1 g8 hx => walk_at "rd"; exact fin q m_wide (by walk_at "sm")
  | sign n n' x h1 hl h8 hx =>
    walk_at "rd"
    refine ⟨x, n - 1, rfl, congrArg V.int (by omega), _, rfl, ite2 (fun e => ?_) (fun e => ?_)⟩
    · simp only [if_pos e] at q
      walk_at "rd"
      exact fin q (m_signY hl hx) (by walk_at "sm")
    · simp only [if_neg e] at q
      walk_at "rd"
      exact fin q (m_small (ltW hl hx)) (by walk_at "sm")
  | any n x h1 h8 hx =>
    walk_at "rd"
    exact ⟨rfl, .inr ⟨_, rfl, fin q m_any (by walk_at "sm")⟩⟩
  | all n x h1 h8 hx =>
    walk_at "rd"
    exact ⟨rfl, .inr ⟨_, rfl, fin q m_bit (by walk_at "sm")⟩⟩
  | odd n x h1 h8 hx =>
    walk_at "rd"
    refine ⟨by decide, by decide, fun D hD => lc_range (lo := 0) (n := 8) (fun i H' => Same H H' ∧ H' D = some (.lst ((bitsOf i x).map V.int)))
      ⟨(by walk_at "sm"), upd_same⟩ (fun i H' hi p => ?_) (fun H' p => ?_)⟩
    · refine ⟨rfl, _, rfl, _, rfl, (x : Int), i, rfl, congrArg V.int (by omega), x / 2 ^ i, congrArg V.int (by simp), rfl, _, p.2, ?_, ?_, ?_⟩
      · rw [List.length_map]
        unfold bitsOf
        rw [List.length_map, List.length_range]
        exact small1000 (by omega)
      · intro b o e
        rw [upd_ne (ne_of_none e ((same_new (by assumption) _).free hD))]
        exact p.1 b o e
      · rw [upd_same, bitsOf_succ, List.map_append]
        rfl
    · exact ⟨D, bitsOf 8 x, rfl, SqL.of p.2, popc 8 x, congrArg V.int (bitsOf_sum 8 x), rfl, fin q (m_odd h8 hx) p.1⟩
  | pick n c x y h1 h8 hc hx hy =>
    walk_at "rd"
    refine ⟨rfl, _, rfl, ite2 (fun e => ?_) (fun e => ?_)⟩
    · simp only [if_pos e] at q
      walk_at "rd"
      exact fin q (m_small hx) (by walk_at "sm")
    · simp only [if_neg e] at q
      walk_at "rd"
      exact fin q (m_small hy) (by walk_at "sm")
  | join u n x y h1 h4 g1 g4 hx hy =>
    walk_at "rd"
    refine ⟨.inl (mul_ok (ltW (by omega) hx)), ?_⟩
    walk_at "rd"
    exact fin q (m_join hx hy) (by walk_at "sm")
  | lt n x y h1 h8 hx hy =>
    walk_at "rd"
    refine ite2 (fun e => ?_) (fun e => ?_)
    · simp only [if_pos e] at q
      walk_at "rd"
      exact .inr ⟨_, rfl, fin q (by decide) (by walk_at "sm")⟩
    · simp only [if_neg e] at q
      walk_at "rd"
      exact .inr ⟨_, rfl, fin q (by decide) (by walk_at "sm")⟩
  | le n x y h1 h8 hx hy =>
    walk_at "rd"
    refine ite2 (fun e => ?_) (fun e => ?_)
    · simp only [if_pos e] at q
      walk_at "rd"
      exact .inr ⟨_, rfl, fin q (by decide) (by walk_at "sm")⟩
    · simp only [if_neg e] at q
      walk_at "rd"
      exact .inr ⟨_, rfl, fin q (by decide) (by walk_at "sm")⟩
  | eq n x y h1 h8 hx hy =>
    walk_at "rd"
    refine ⟨rfl, _, rfl, ite2 (fun e => ?_) (fun e => ?_)⟩
    · have e' : decide (V.int (x : Int) = V.int (y : Int)) = true := e
      simp only [if_pos e'] at q
      walk_at "rd"
      exact .inr ⟨_, rfl, fin q (by decide) (by walk_at "sm")⟩
    · have e' : ¬ decide (V.int (x : Int) = V.int (y : Int)) = true := e
      simp only [if_neg e'] at q
      walk_at "rd"
      exact .inr ⟨_, rfl, fin q (by decide) (by walk_at "sm")⟩
  | ne n x y h1 h8 hx hy =>
    walk_at "rd"
    exact ⟨rfl, .inr ⟨_, rfl, fin q m_bit (by walk_at "sm")⟩⟩
  | shl n o x y h1 h8 g1 g8 hx hy =>
    walk_at "rd"
    refine ite2 (fun e => ?_) (fun e => ?_)
    · have e' := of_decide_eq_true e
      walk_at "rd"
      exact fin q (m_shl0 (by omega)) (by walk_at "sm")
    · walk_at "rd"
      have := ltW g8 hy
      refine ⟨⟨Int.natCast_nonneg _, (by show (y : Int) ≤ 1000000; omega), shl_okN (ltW h8 hx)⟩, ?_⟩
      walk_at "rd"
      exact fin q rfl (by walk_at "sm")
  | shr n o x y h1 h8 g1 g8 hx hy =>
    walk_at "rd"
    refine ite2 (fun e => ?_) (fun e => ?_)
    · have e' := of_decide_eq_true e
      walk_at "rd"
      exact fin q (m_shr0 (by omega) hx) (by walk_at "sm")
    · walk_at "rd"
      exact fin q (m_shr hx) (by walk_at "sm")
  | add n x y h1 h8 hx hy => walk_at "rd"; exact fin q rfl (by walk_at "sm")
  | sub n x y h1 h8 hx hy => walk_at "rd"; exact fin q m_sub (by walk_at "sm")
  | mul n x y h1 h8 hx hy =>
    walk_at "rd"
    refine ⟨.inl (mul_ok (ltW h8 hx)), ?_⟩
    walk_at "rd"
    exact fin q rfl (by walk_at "sm")
  | and n x y h1 h8 hx hy => walk_at "rd"; exact fin q (m_and hx hy) (by walk_at "sm")
  | or n x y h1 h8 hx hy => walk_at "rd"; exact fin q (m_or hx hy) (by walk_at "sm")
  | xor n x y h1 h8 hx hy => walk_at "rd"; exact fin q (m_xor hx hy) (by walk_at "sm")
end
end Bf

set_option Elab.async false
set_option linter.all false
set_option maxRecDepth 100000
set_option maxHeartbeats 4000000
namespace Bf
open PySem PySem.Spec PyProof.Rows L2
local macro_rules | `(tactic| walk_at "sq") => `(tactic| repeat (first | assumption | (apply seqNew; assumption)))
local macro_rules | `(tactic| walk_at "sm") => `(tactic| repeat (first | exact Same.refl _ | assumption | refine Same.trans ?_ (same_new (by assumption) _)))
local macro_rules | `(tactic| walk_at "rd") => `(tactic| repeat (first | refine rdC ?_ | refine ⟨_, rfl, ?_⟩ | (apply rdL; (focus (walk_at "sq")); rfl) | refine iteF ?_ | refine iteT ?_ | refine ⟨rfl, _, rfl, ifN (by decide +kernel) ?_⟩ | refine ⟨rfl, _, rfl, ifY (by decide +kernel) ?_⟩ | refine ⟨le1000 (by simp), fun t ht => ⟨t, _, rfl, .inr (SqT.of upd_same), rfl, rfl, _, rfl, ifN (by decide +kernel) ?_⟩⟩ | refine ⟨le1000 (by simp), fun t ht => ⟨t, _, rfl, .inr (SqT.of upd_same), rfl, rfl, _, rfl, ifY (by decide +kernel) ?_⟩⟩ | refine ⟨_, rfl, rfl, (by omega), ?_⟩ | refine ⟨_, _, rfl, rfl, ?_⟩))
/-! ### the shape of an operation -/
def FitsW : List Nat → List Nat → Prop := Paired fun n x => x < 2 ^ n
def Shape (op : Str) (W : Nat) (ws : List Nat) (low : Nat) : Prop := W ≤ 8 ∧ ∀ xs, FitsW ws xs → ∃ v, Fit op W ws xs low v
def Good (ws : List Nat) : Prop := ws.length ≤ 3 ∧ ∀ n ∈ ws, 1 ≤ n ∧ n ≤ 8
theorem fits1 {n : Nat} {xs : List Nat} (h : FitsW [n] xs) : ∃ x, xs = [x] ∧ x < 2 ^ n := by
  cases h with
  | cons a r =>
    cases r
    exact ⟨_, rfl, a⟩
theorem fits2 {n m : Nat} {xs : List Nat} (h : FitsW [n, m] xs) : ∃ x y, xs = [x, y] ∧ x < 2 ^ n ∧ y < 2 ^ m := by
  cases h with
  | cons a r =>
    obtain ⟨y, rfl, hy⟩ := fits1 r
    exact ⟨_, _, rfl, a, hy⟩
theorem fits3 {n m l : Nat} {xs : List Nat} (h : FitsW [n, m, l] xs) : ∃ x y z, xs = [x, y, z] ∧ x < 2 ^ n ∧ y < 2 ^ m ∧ z < 2 ^ l := by
  cases h with
  | cons a r =>
    obtain ⟨y, z, rfl, hy, hz⟩ := fits2 r
    exact ⟨_, _, _, rfl, a, hy, hz⟩
theorem sh1 {op : Str} {W n low : Nat} (hW : W ≤ 8) (h : ∀ x, x < 2 ^ n → ∃ v, Fit op W [n] [x] low v) : Shape op W [n] low := ⟨hW, fun xs f => by
  obtain ⟨x, rfl, hx⟩ := fits1 f
  exact h x hx⟩
theorem sh2 {op : Str} {W n m low : Nat} (hW : W ≤ 8) (h : ∀ x y, x < 2 ^ n → y < 2 ^ m → ∃ v, Fit op W [n, m] [x, y] low v) : Shape op W [n, m] low := ⟨hW, fun xs f => by
  obtain ⟨x, y, rfl, hx, hy⟩ := fits2 f
  exact h x y hx hy⟩
theorem sh3 {op : Str} {W n m k low : Nat} (hW : W ≤ 8) (h : ∀ x y z, x < 2 ^ n → y < 2 ^ m → z < 2 ^ k → ∃ v, Fit op W [n, m, k] [x, y, z] low v) : Shape op W [n, m, k] low := ⟨hW, fun xs f => by
  obtain ⟨x, y, z, rfl, hx, hy, hz⟩ := fits3 f
  exact h x y z hx hy hz⟩
theorem good1 {n : Nat} (h1 : 1 ≤ n) (h8 : n ≤ 8) : Good [n] := ⟨by simp, fun k hk => by
  rw [List.mem_singleton] at hk
  omega⟩
theorem good2 {n m : Nat} (h1 : 1 ≤ n) (h8 : n ≤ 8) (g1 : 1 ≤ m) (g8 : m ≤ 8) : Good [n, m] := ⟨by simp, fun k hk => by
  simp only [List.mem_cons, List.not_mem_nil, or_false] at hk
  omega⟩
theorem good3 {n m l : Nat} (h1 : 1 ≤ n) (h8 : n ≤ 8) (g1 : 1 ≤ m) (g8 : m ≤ 8) (f1 : 1 ≤ l) (f8 : l ≤ 8) : Good [n, m, l] := ⟨by simp, fun k hk => by
  simp only [List.mem_cons, List.not_mem_nil, or_false] at hk
  omega⟩
def ops22 : List Str := ["not", "neg", "add", "sub", "mul", "and", "or", "xor", "shl", "shr", "lt", "le", "eq", "ne", "pick", "bits", "join", "wide", "sign", "any", "all", "odd"]
def spShape : Sp := fun vs H Q _ => ∃ (d c : Addr) (op : Str) (most : Int), vs = [.ref d, .str op, .int most] ∧ DS H d c ∧ op ∈ ops22 ∧ 1 ≤ most ∧ most ≤ 8 ∧
  ∀ (t l : Addr) (W low : Nat) (ws : List Nat) (H' : Hp), Shape op W ws low → Good ws → DS H' d c → Keep [d] H H' → H' l = some (.lst (ws.map vI)) → H' t = some (.tup [vI W, .ref l, vI low]) → Q (.ref t) H'
theorem shape_end {op : Str} {H H1 H2 : Hp} {d c t l : Addr} {Q : VK} (W low : Nat) (ws : List Nat)
    (q : ∀ (t l : Addr) (W low : Nat) (ws : List Nat) (H' : Hp), Shape op W ws low → Good ws → DS H' d c → Keep [d] H H' → H' l = some (.lst (ws.map vI)) → H' t = some (.tup [vI W, .ref l, vI low]) → Q (.ref t) H')
    (sh : Shape op W ws low) (g : Good ws) (k1 : Keep [d] H H1) (hd1 : DS H1 d c) (s : Same H1 H2) (hl : H2 l = none) (ht : upd H2 l (.lst (ws.map vI)) t = none) :
    Q (.ref t) (upd (upd H2 l (.lst (ws.map vI))) t (.tup [vI W, .ref l, vI low])) := by
  have s3 : Same H1 (upd (upd H2 l (.lst (ws.map vI))) t (.tup [vI W, .ref l, vI low])) := (s.trans (same_new hl _)).trans (same_new ht _)
  exact q t l W low ws _ sh g (hd1.same s3) (k1.trans (Keep.of_same s3)) (by rw [upd_ne (ne_of_none upd_same ht)]; exact upd_same) upd_same
section
variable {P : Program} {w : World} {K : PySem.W.Frag} {mg : Str → Option Value} {base : Heap} {f : Addr} {fd : FuncData}
theorem ok_shape (F : Fun K "_law_shape" "_law_shape" s_law_shape f fd) (T : Txt mg) (D_law_draw : Dn P w K mg base "_law_draw" ["_law_d", "_law_many"] 1 spDraw) :
    FnOk P w K mg base CX0 2 f fd ["_law_d", "_law_op", "_law_most"] spShape := by
  refine F.ok sc_law_shape (fun vs H Q E h => ?_) (fun cdv A outer s H vs Q E hr h => ?_)
  · obtain ⟨d, c, op, most, rfl, _⟩ := h
    rfl
  obtain ⟨d, c, op, most, rfl, hd, hop, m1, m8, q⟩ := h
  refine ⟨_, (pss_cons (ps_set (i := 3) sc_law_shape.nd rfl (Or.inl rfl) (pe_op op_add pe_int (pe_dn D_law_draw (hr.mono (by decide)) (by rfl) (pa_cons (pv 0) (pa_cons (pv 2) pa_nil)))))
      (C8.pss_cut (ps_set (i := 4) sc_law_shape.nd rfl (Or.inl rfl) (pe_op op_add pe_int (pe_dn D_law_draw (hr.mono (by decide)) (by rfl) (pa_cons (pv 0) (pa_cons (pv 2) pa_nil)))))
      (pss_cons (ps_if (pt_cmpR op_in_seq (pv 1) (pe_tup (pa_cons pe_str (pa_cons pe_str pa_nil))) (by rfl)) (pss_one (ps_ret (pe_tup (pa_cons (pv 3) (pa_cons (pe_lst (pa_cons (pv 3) pa_nil)) (pa_cons pe_int pa_nil)))))) pss_nil)
      (pss_cons (ps_if (pt_cmpR op_in_seq (pv 1) (pe_tup (pa_cons pe_str (pa_cons pe_str (pa_cons pe_str pa_nil)))) (by rfl)) (pss_one (ps_ret (pe_tup (pa_cons pe_int (pa_cons (pe_lst (pa_cons (pv 3) pa_nil)) (pa_cons pe_int pa_nil)))))) pss_nil)
      (pss_cons (ps_if (pt_cmpR op_eq (pv 1) pe_str (nomark _)) (pss_one (ps_ret (pe_tup (pa_cons (pv 4) (pa_cons (pe_lst (pa_cons (pv 3) pa_nil)) (pa_cons pe_int pa_nil)))))) pss_nil)
      (pss_cons (ps_if (pt_cmpR op_eq (pv 1) pe_str (nomark _)) (pss_one (ps_ret (pe_tup (pa_cons (pe_callB (cr_maxN rfl) (by rfl) T.n_max (by decide +kernel) (pa_cons (pv 3) (pa_cons (pv 4) pa_nil))) (pa_cons (pe_lst (pa_cons (pe_callB (cr_minN rfl) (by rfl) T.n_min (by decide +kernel) (pa_cons (pv 3) (pa_cons (pv 4) pa_nil))) pa_nil)) (pa_cons pe_int pa_nil)))))) pss_nil)
      (pss_cons (ps_if (pt_cmpR op_eq (pv 1) pe_str (nomark _)) (pss_cons (ps_set (i := 5) sc_law_shape.nd rfl (Or.inl rfl) (pe_dn D_law_draw (hr.mono (by decide)) (by rfl) (pa_cons (pv 0) (pa_cons (pv 3) pa_nil))))
      (pss_one (ps_ret (pe_tup (pa_cons (pe_op op_add pe_int (pe_dn D_law_draw (hr.mono (by decide)) (by rfl) (pa_cons (pv 0) (pa_cons (pe_op op_sub (pv 3) (pv 5)) pa_nil)))) (pa_cons (pe_lst (pa_cons (pv 3) pa_nil)) (pa_cons (pv 5) pa_nil))))))) pss_nil)
      (pss_cons (ps_if (pt_cmpR op_in_seq (pv 1) (pe_tup (pa_cons pe_str (pa_cons pe_str pa_nil))) (by rfl)) (pss_one (ps_ret (pe_tup (pa_cons (pv 3) (pa_cons (pe_lst (pa_cons (pv 3) (pa_cons (pv 4) pa_nil))) (pa_cons pe_int pa_nil)))))) pss_nil)
      (pss_cons (ps_if (pt_cmpR op_in_seq (pv 1) (pe_tup (pa_cons pe_str (pa_cons pe_str (pa_cons pe_str (pa_cons pe_str pa_nil))))) (by rfl)) (pss_one (ps_ret (pe_tup (pa_cons pe_int (pa_cons (pe_lst (pa_cons (pv 3) (pa_cons (pv 3) pa_nil))) (pa_cons pe_int pa_nil)))))) pss_nil)
      (pss_cons (ps_if (pt_cmpR op_eq (pv 1) pe_str (nomark _)) (pss_one (ps_ret (pe_tup (pa_cons (pv 3) (pa_cons (pe_lst (pa_cons pe_int (pa_cons (pv 3) (pa_cons (pv 3) pa_nil)))) (pa_cons pe_int pa_nil)))))) pss_nil)
      (pss_cons (ps_if (pt_cmpR op_eq (pv 1) pe_str (nomark _)) (pss_cons (ps_par (i := 3) (j := 4) (by rfl) sc_law_shape.nd rfl rfl (by decide) rfl rfl (pa_cons (pe_callB (cr_minN rfl) (by rfl) T.n_min (by decide +kernel) (pa_cons (pv 3) (pa_cons pe_int pa_nil))) (pa_cons (pe_callB (cr_minN rfl) (by rfl) T.n_min (by decide +kernel) (pa_cons (pv 4) (pa_cons pe_int pa_nil))) pa_nil)) (by rfl))
      (pss_one (ps_ret (pe_tup (pa_cons (pe_op op_add (pv 3) (pv 4)) (pa_cons (pe_lst (pa_cons (pv 3) (pa_cons (pv 4) pa_nil))) (pa_cons pe_int pa_nil))))))) pss_nil)
      (pss_one (ps_ret (pe_tup (pa_cons (pv 3) (pa_cons (pe_lst (pa_cons (pv 3) (pa_cons (pv 3) pa_nil))) (pa_cons pe_int pa_nil))))))))))))))))), ?_⟩
  refine ⟨_, rfl, _, rfl, d, c, most, rfl, hd, m1, by omega, fun r H0 r0 r1 hd0 k0 => ?_⟩
  obtain ⟨n, rfl⟩ := Int.eq_ofNat_of_zero_le r0
  refine ⟨_, _, rfl, rfl, ?_⟩
  refine ⟨fun σ' H' => ∃ m : Nat, m < 8 ∧ σ' = [some (.ref d), some (.str op), some (.int most), some (vI (1 + n)), some (vI (1 + m)), none] ∧ DS H' d c ∧ Keep [d] H H', ?_, ?_⟩
  · refine ⟨_, rfl, _, rfl, d, c, most, rfl, hd0, m1, by omega, fun r H1 r0' r1' hd1 k1 => ?_⟩
    obtain ⟨m, rfl⟩ := Int.eq_ofNat_of_zero_le r0'
    exact ⟨_, _, rfl, rfl, m, by omega, rfl, hd1, k0.trans k1⟩
  rintro σ' H1 ⟨m, hm, rfl, hd1, k1⟩
  have hn : n < 8 := by omega
  clear m1 m8 r0 r1 k0 hd0
  simp only [ops22, List.mem_cons, List.not_mem_nil, or_false] at hop
  rcases hop with rfl | rfl | rfl | rfl | rfl | rfl | rfl | rfl | rfl | rfl | rfl | rfl | rfl | rfl | rfl | rfl | rfl | rfl | rfl | rfl | rfl | rfl
  · -- not
    walk_at "rd"
    refine ⟨le1000 (by simp), fun l hl => ?_⟩
    walk_at "rd"
    exact ⟨le1000 (by simp), fun t ht => shape_end (1 + n) 0 [1 + n] q (sh1 (by omega) fun x hx => ⟨_, .not _ _ (by omega) (by omega) hx⟩) (good1 (by omega) (by omega)) k1 hd1 (by walk_at "sm") hl ht⟩
  · -- neg
    walk_at "rd"
    refine ⟨le1000 (by simp), fun l hl => ?_⟩
    walk_at "rd"
    exact ⟨le1000 (by simp), fun t ht => shape_end (1 + n) 0 [1 + n] q (sh1 (by omega) fun x hx => ⟨_, .neg _ _ (by omega) (by omega) hx⟩) (good1 (by omega) (by omega)) k1 hd1 (by walk_at "sm") hl ht⟩
  · -- add
    walk_at "rd"
    refine ⟨le1000 (by simp), fun l hl => ?_⟩
    walk_at "rd"
    exact ⟨le1000 (by simp), fun t ht => shape_end (1 + n) 0 [1 + n, 1 + n] q (sh2 (by omega) fun x y hx hy => ⟨_, .add _ _ _ (by omega) (by omega) hx hy⟩) (good2 (by omega) (by omega) (by omega) (by omega)) k1 hd1 (by walk_at "sm") hl ht⟩
  · -- sub
    walk_at "rd"
    refine ⟨le1000 (by simp), fun l hl => ?_⟩
    walk_at "rd"
    exact ⟨le1000 (by simp), fun t ht => shape_end (1 + n) 0 [1 + n, 1 + n] q (sh2 (by omega) fun x y hx hy => ⟨_, .sub _ _ _ (by omega) (by omega) hx hy⟩) (good2 (by omega) (by omega) (by omega) (by omega)) k1 hd1 (by walk_at "sm") hl ht⟩
  · -- mul
    walk_at "rd"
    refine ⟨le1000 (by simp), fun l hl => ?_⟩
    walk_at "rd"
    exact ⟨le1000 (by simp), fun t ht => shape_end (1 + n) 0 [1 + n, 1 + n] q (sh2 (by omega) fun x y hx hy => ⟨_, .mul _ _ _ (by omega) (by omega) hx hy⟩) (good2 (by omega) (by omega) (by omega) (by omega)) k1 hd1 (by walk_at "sm") hl ht⟩
  · -- and
    walk_at "rd"
    refine ⟨le1000 (by simp), fun l hl => ?_⟩
    walk_at "rd"
    exact ⟨le1000 (by simp), fun t ht => shape_end (1 + n) 0 [1 + n, 1 + n] q (sh2 (by omega) fun x y hx hy => ⟨_, .and _ _ _ (by omega) (by omega) hx hy⟩) (good2 (by omega) (by omega) (by omega) (by omega)) k1 hd1 (by walk_at "sm") hl ht⟩
  · -- or
    walk_at "rd"
    refine ⟨le1000 (by simp), fun l hl => ?_⟩
    walk_at "rd"
    exact ⟨le1000 (by simp), fun t ht => shape_end (1 + n) 0 [1 + n, 1 + n] q (sh2 (by omega) fun x y hx hy => ⟨_, .or _ _ _ (by omega) (by omega) hx hy⟩) (good2 (by omega) (by omega) (by omega) (by omega)) k1 hd1 (by walk_at "sm") hl ht⟩
  · -- xor
    walk_at "rd"
    refine ⟨le1000 (by simp), fun l hl => ?_⟩
    walk_at "rd"
    exact ⟨le1000 (by simp), fun t ht => shape_end (1 + n) 0 [1 + n, 1 + n] q (sh2 (by omega) fun x y hx hy => ⟨_, .xor _ _ _ (by omega) (by omega) hx hy⟩) (good2 (by omega) (by omega) (by omega) (by omega)) k1 hd1 (by walk_at "sm") hl ht⟩
  · -- shl
    walk_at "rd"
    refine ⟨le1000 (by simp), fun l hl => ?_⟩
    walk_at "rd"
    exact ⟨le1000 (by simp), fun t ht => shape_end (1 + n) 0 [1 + n, 1 + m] q (sh2 (by omega) fun x y hx hy => ⟨_, .shl _ _ _ _ (by omega) (by omega) (by omega) (by omega) hx hy⟩) (good2 (by omega) (by omega) (by omega) (by omega)) k1 hd1 (by walk_at "sm") hl ht⟩
  · -- shr
    walk_at "rd"
    refine ⟨le1000 (by simp), fun l hl => ?_⟩
    walk_at "rd"
    exact ⟨le1000 (by simp), fun t ht => shape_end (1 + n) 0 [1 + n, 1 + m] q (sh2 (by omega) fun x y hx hy => ⟨_, .shr _ _ _ _ (by omega) (by omega) (by omega) (by omega) hx hy⟩) (good2 (by omega) (by omega) (by omega) (by omega)) k1 hd1 (by walk_at "sm") hl ht⟩
  · -- lt
    walk_at "rd"
    refine ⟨le1000 (by simp), fun l hl => ?_⟩
    walk_at "rd"
    exact ⟨le1000 (by simp), fun t ht => shape_end 1 0 [1 + n, 1 + n] q (sh2 (by omega) fun x y hx hy => ⟨_, .lt _ _ _ (by omega) (by omega) hx hy⟩) (good2 (by omega) (by omega) (by omega) (by omega)) k1 hd1 (by walk_at "sm") hl ht⟩
  · -- le
    walk_at "rd"
    refine ⟨le1000 (by simp), fun l hl => ?_⟩
    walk_at "rd"
    exact ⟨le1000 (by simp), fun t ht => shape_end 1 0 [1 + n, 1 + n] q (sh2 (by omega) fun x y hx hy => ⟨_, .le _ _ _ (by omega) (by omega) hx hy⟩) (good2 (by omega) (by omega) (by omega) (by omega)) k1 hd1 (by walk_at "sm") hl ht⟩
  · -- eq
    walk_at "rd"
    refine ⟨le1000 (by simp), fun l hl => ?_⟩
    walk_at "rd"
    exact ⟨le1000 (by simp), fun t ht => shape_end 1 0 [1 + n, 1 + n] q (sh2 (by omega) fun x y hx hy => ⟨_, .eq _ _ _ (by omega) (by omega) hx hy⟩) (good2 (by omega) (by omega) (by omega) (by omega)) k1 hd1 (by walk_at "sm") hl ht⟩
  · -- ne
    walk_at "rd"
    refine ⟨le1000 (by simp), fun l hl => ?_⟩
    walk_at "rd"
    exact ⟨le1000 (by simp), fun t ht => shape_end 1 0 [1 + n, 1 + n] q (sh2 (by omega) fun x y hx hy => ⟨_, .ne _ _ _ (by omega) (by omega) hx hy⟩) (good2 (by omega) (by omega) (by omega) (by omega)) k1 hd1 (by walk_at "sm") hl ht⟩
  · -- pick
    walk_at "rd"
    refine ⟨le1000 (by simp), fun l hl => ?_⟩
    walk_at "rd"
    exact ⟨le1000 (by simp), fun t ht => shape_end (1 + n) 0 [1, 1 + n, 1 + n] q (sh3 (by omega) fun x y z hx hy hz => ⟨_, .pick _ _ _ _ (by omega) (by omega) hx hy hz⟩) (good3 (by omega) (by omega) (by omega) (by omega) (by omega) (by omega)) k1 hd1 (by walk_at "sm") hl ht⟩
  · -- bits
    walk_at "rd"
    refine ⟨d, c, _, rfl, hd1.same (by walk_at "sm"), by omega, by omega, fun r H2 r0 r1 hd2 k2 => ?_⟩
    obtain ⟨lo, rfl⟩ := Int.eq_ofNat_of_zero_le r0
    have k3 : Keep [d] H H2 := (k1.trans (Keep.of_same (by walk_at "sm"))).trans k2
    walk_at "rd"
    refine ⟨d, c, _, rfl, hd2, by omega, by omega, fun r H3 r0' r1' hd3 k4 => ?_⟩
    obtain ⟨wi, rfl⟩ := Int.eq_ofNat_of_zero_le r0'
    have k5 : Keep [d] H H3 := k3.trans k4
    walk_at "rd"
    refine ⟨le1000 (by simp), fun l hl => ?_⟩
    walk_at "rd"
    exact ⟨le1000 (by simp), fun t ht => shape_end (1 + wi) lo [1 + n] q (sh1 (by omega) fun x hx => ⟨_, .bits _ _ _ _ (by omega) (by omega) (by omega) hx⟩) (good1 (by omega) (by omega)) k5 hd3 (Same.refl _) hl ht⟩
  · -- join
    walk_at "rd"
    refine ⟨1 + n, 4, rfl, ?_⟩
    walk_at "rd"
    refine ⟨1 + m, 4, rfl, ?_⟩
    refine ⟨_, _, rfl, ?_⟩
    walk_at "rd"
    refine ⟨le1000 (by simp), fun l hl => ?_⟩
    walk_at "rd"
    exact ⟨le1000 (by simp), fun t ht => shape_end (min (1 + n) 4 + min (1 + m) 4) 0 [min (1 + n) 4, min (1 + m) 4] q (sh2 (by omega) fun x y hx hy => ⟨_, .join _ _ _ _ (by omega) (by omega) (by omega) (by omega) hx hy⟩) (good2 (by omega) (by omega) (by omega) (by omega)) k1 hd1 (by walk_at "sm") hl ht⟩
  · -- wide
    walk_at "rd"
    refine ⟨le1000 (by simp), fun l hl => ?_⟩
    walk_at "rd"
    exact ⟨le1000 (by simp), fun t ht => shape_end (1 + m) 0 [1 + n] q (sh1 (by omega) fun x hx => ⟨_, .wide _ _ _ (by omega) (by omega) (by omega) (by omega) hx⟩) (good1 (by omega) (by omega)) k1 hd1 (by walk_at "sm") hl ht⟩
  · -- sign
    walk_at "rd"
    refine ⟨1 + n, 1 + m, rfl, ?_⟩
    walk_at "rd"
    refine ⟨1 + n, 1 + m, rfl, ?_⟩
    refine ⟨le1000 (by simp), fun l hl => ?_⟩
    walk_at "rd"
    exact ⟨le1000 (by simp), fun t ht => shape_end (max (1 + n) (1 + m)) 0 [min (1 + n) (1 + m)] q (sh1 (by omega) fun x hx => ⟨_, .sign _ _ _ (by omega) (by omega) (by omega) hx⟩) (good1 (by omega) (by omega)) k1 hd1 (by walk_at "sm") hl ht⟩
  · -- any
    walk_at "rd"
    refine ⟨le1000 (by simp), fun l hl => ?_⟩
    walk_at "rd"
    exact ⟨le1000 (by simp), fun t ht => shape_end 1 0 [1 + n] q (sh1 (by omega) fun x hx => ⟨_, .any _ _ (by omega) (by omega) hx⟩) (good1 (by omega) (by omega)) k1 hd1 (by walk_at "sm") hl ht⟩
  · -- all
    walk_at "rd"
    refine ⟨le1000 (by simp), fun l hl => ?_⟩
    walk_at "rd"
    exact ⟨le1000 (by simp), fun t ht => shape_end 1 0 [1 + n] q (sh1 (by omega) fun x hx => ⟨_, .all _ _ (by omega) (by omega) hx⟩) (good1 (by omega) (by omega)) k1 hd1 (by walk_at "sm") hl ht⟩
  · -- odd
    walk_at "rd"
    refine ⟨le1000 (by simp), fun l hl => ?_⟩
    walk_at "rd"
    exact ⟨le1000 (by simp), fun t ht => shape_end 1 0 [1 + n] q (sh1 (by omega) fun x hx => ⟨_, .odd _ _ (by omega) (by omega) hx⟩) (good1 (by omega) (by omega)) k1 hd1 (by walk_at "sm") hl ht⟩
end
end Bf

set_option Elab.async false
set_option linter.all false
set_option maxRecDepth 100000
set_option maxHeartbeats 4000000
namespace Bf
open PySem PySem.Spec PyProof.Rows L2
local macro_rules | `(tactic| walk_at "sq") => `(tactic| repeat (first | assumption | (apply seqNew; assumption)))
local macro_rules | `(tactic| walk_at "sm") => `(tactic| repeat (first | exact Same.refl _ | assumption | refine Same.trans ?_ (same_new (by assumption) _)))
/-! ### the rows of words -/
theorem fits_snoc : ∀ {ws xs : List Nat} {n x : Nat}, FitsW ws xs → x < 2 ^ n → FitsW (ws ++ [n]) (xs ++ [x])
  | _, _, _, _, .nil, h => .cons h .nil
  | _, _, _, _, .cons a r, h => .cons a (fits_snoc r h)
theorem fits_take {ws xs : List Nat} {n x j : Nat} (h : FitsW (ws.take j) xs) (e : ws[j]? = some n) (hx : x < 2 ^ n) : FitsW (ws.take (j + 1)) (xs ++ [x]) := by
  rw [List.take_add_one, e]
  exact fits_snoc h hx
theorem natAt {xs : List Nat} {i : Nat} {x : V} (h : (xs.map vI)[i]? = some x) : ∃ k, xs[i]? = some k ∧ x = vI k := by
  rw [List.getElem?_map] at h
  cases e : xs[i]? with
  | none => rw [e] at h; cases h
  | some k => rw [e] at h; exact ⟨k, rfl, (Option.some.inj h).symm⟩
theorem snoc_eq {xs : List Nat} {x : Nat} {v : V} (e : v = vI x) : xs.map vI ++ [v] = (xs ++ [x]).map vI := by
  rw [List.map_append, e]
  rfl
theorem map_vI (ws : List Nat) : ws.map vI = (ws.map fun n : Nat => (n : Int)).map V.int := by
  rw [List.map_map]
  rfl
theorem sum_cast : ∀ ws : List Nat, (ws.map fun n : Nat => (n : Int)).sum = ((ws.sum : Nat) : Int)
  | [] => rfl
  | n :: r => by
    rw [List.map_cons, List.sum_cons, List.sum_cons, sum_cast r]
    exact (Int.natCast_add _ _).symm
structure RInv (ws : List Nat) (rows : List V) (d c l r : Addr) (H H' : Hp) : Prop where
  keep : Keep [d] H H'
  ds : DS H' d c
  wl : H' l = some (.lst (ws.map vI))
  rl : H' r = some (.lst rows)
  ok : ∀ y ∈ rows, ∃ t xs, y = V.ref t ∧ H' t = some (.tup (xs.map vI)) ∧ FitsW ws xs
section
variable {ws : List Nat} {rows : List V} {d c l r p : Addr} {H H' H'' : Hp} {o : HO}
theorem RInv.new (h : RInv ws rows d c l r H H') (hp : H' p = none) : RInv ws rows d c l r H (upd H' p o) where
  keep := h.keep.trans (Keep.new hp)
  ds := h.ds.same (same_new hp _)
  wl := same_new hp _ _ _ h.wl
  rl := same_new hp _ _ _ h.rl
  ok := fun y hy => by
    obtain ⟨t, xs, e, ht, f⟩ := h.ok y hy
    exact ⟨t, xs, e, same_new hp _ _ _ ht, f⟩
theorem RInv.upd {xs ys : List V} (h : RInv ws rows d c l r H H') (hp : H' p = some (.lst xs)) (hp0 : H p = none) (nd : p ≠ d) (nc : p ≠ c) (nl : p ≠ l) (nr : p ≠ r) : RInv ws rows d c l r H (upd H' p (.lst ys)) where
  keep := fun b u n e => by
    rw [upd_ne (ne_of_none e hp0)]
    exact h.keep b u n e
  ds := h.ds.keep (S := [p]) (Keep.upd (by simp)) (by simp [nd.symm]) (by simp [nc.symm])
  wl := by rw [upd_ne nl.symm]; exact h.wl
  rl := by rw [upd_ne nr.symm]; exact h.rl
  ok := fun y hy => by
    obtain ⟨t, zs, e, ht, f⟩ := h.ok y hy
    exact ⟨t, zs, e, by rw [upd_ne (ne_of ht hp (by intro q; cases q))]; exact ht, f⟩
theorem RInv.draw (h : RInv ws rows d c l r H H') (k : Keep [d] H' H'') (ds : DS H'' d c) (nl : l ≠ d) (nr : r ≠ d) : RInv ws rows d c l r H H'' where
  keep := h.keep.trans k
  ds := ds
  wl := k _ _ (by simp [nl]) h.wl
  rl := k _ _ (by simp [nr]) h.rl
  ok := fun y hy => by
    obtain ⟨t, zs, e, ht, f⟩ := h.ok y hy
    obtain ⟨_, _, _, _, hd, _⟩ := h.ds
    exact ⟨t, zs, e, k _ _ (by simp [ne_of ht hd (by intro q; cases q)]) ht, f⟩
theorem RInv.free (h : RInv ws rows d c l r H H') (hp : H' p = none) : H p = none := by
  cases e : H p with
  | none => rfl
  | some u =>
    have n := (h.ds.new hp).1
    rw [h.keep p u (by simp [n]) e] at hp
    cases hp
/-- a row is made a tuple and laid to the others -/
theorem RInv.add {t : Addr} {xs : List Nat} (h : RInv ws rows d c l r H H') (hr0 : H r = none) (ht : H' t = none) (nd : r ≠ d) (nc : r ≠ c) (nl : r ≠ l) (f : FitsW ws xs) :
    RInv ws (rows ++ [V.ref t]) d c l r H (L2.upd (L2.upd H' t (.tup (xs.map vI))) r (.lst (rows ++ [V.ref t]))) := by
  have h1 := h.new (o := .tup (xs.map vI)) ht
  have ntr : t ≠ r := (ne_of_none h.rl ht).symm
  refine ⟨fun b u n e => ?_, h1.ds.keep (S := [r]) (Keep.upd (by simp)) (by simp [nd.symm]) (by simp [nc.symm]), by rw [upd_ne nl.symm]; exact h1.wl, upd_same, fun y hy => ?_⟩
  · rw [upd_ne (ne_of_none e hr0)]
    exact h1.keep b u n e
  · rcases List.mem_append.mp hy with hy | hy
    · obtain ⟨a, zs, e, ha, g⟩ := h1.ok y hy
      exact ⟨a, zs, e, by rw [upd_ne (ne_of ha h1.rl (by intro q; cases q))]; exact ha, g⟩
    · rw [List.mem_singleton] at hy
      exact ⟨t, xs, hy, by rw [upd_ne ntr]; exact upd_same, f⟩
end
def spRows : Sp := fun vs H Q _ => ∃ (d c l : Addr) (ws : List Nat), vs = [.ref d, .ref l] ∧ DS H d c ∧ l ≠ d ∧ H l = some (.lst (ws.map vI)) ∧ Good ws ∧
  ∀ (r : Addr) (rows : List V) (H' : Hp), RInv ws rows d c l r H H' → Q (.ref r) H'
section
variable {P : Program} {w : World} {K : PySem.W.Frag} {mg : Str → Option Value} {base : Heap} {f : Addr} {fd : FuncData}
theorem ok_rows (F : Fun K "_law_rows" "_law_rows" s_law_rows f fd) (T : Txt mg) (D_law_draw : Dn P w K mg base "_law_draw" ["_law_d", "_law_many"] 1 spDraw) :
    FnOk P w K mg base CX0 2 f fd ["_law_d", "_law_wides"] spRows := by
  refine F.ok sc_law_rows (fun vs H Q E h => ?_) (fun cdv A outer s H vs Q E hr h => ?_)
  · obtain ⟨d, c, l, ws, rfl, _⟩ := h
    rfl
  obtain ⟨d, c, l, ws, rfl, hd, nld, hl, g, q⟩ := h
  refine ⟨_, (C8.pss_cut (ps_set (i := 2) sc_law_rows.nd rfl (Or.inl rfl) (pe_callB (cr_sum rfl) (by rfl) T.n_sum (by decide +kernel) (pa_cons (pv 1) pa_nil)))
      (pss_cons (ps_set (i := 3) sc_law_rows.nd rfl (Or.inl rfl) (pe_lst pa_nil))
      (pss_cons (ps_if (pt_cmpR op_le (pv 2) pe_int (nomark _)) (pss_cons (ps_for PassesOwn.never rfl (pi_range1 rfl T.n_range (pa_cons (pe_op op_oneShl pe_int (pv 2)) pa_nil)) (pg_name (i := 4) sc_law_rows.nd rfl (Or.inl rfl)) (pss_cons (ps_set (i := 5) sc_law_rows.nd rfl (Or.inl rfl) (pe_lst pa_nil))
      (pss_cons (ps_for PassesOwn.never rfl (pi_list (pv 1)) (pg_name (i := 6) sc_law_rows.nd rfl (Or.inl rfl)) (pss_cons (ps_expr (pe_bm PySem.F.plainAttrs_list PySem.F.slot_list_append PySem.F.type_list_append mt_append (pv 5) (pa_cons (pe_op op_andM (pv 4) (pe_op op_sub (pe_op op_oneShl pe_int (pv 6)) pe_int)) pa_nil)))
      (pss_one (ps_set (i := 4) sc_law_rows.nd rfl (Or.inl rfl) (pe_op op_shrN (pv 4) (pv 6))))))
      (pss_one (ps_expr (pe_bm PySem.F.plainAttrs_list PySem.F.slot_list_append PySem.F.type_list_append mt_append (pv 3) (pa_cons (pe_callTy call_tuple_of (by rfl) T.n_tuple (by decide +kernel) (pa_cons (pv 5) pa_nil)) pa_nil)))))))
      (pss_one (ps_ret (pv 3)))) pss_nil)
      (pss_cons (ps_for PassesOwn.never rfl (pi_range1 rfl T.n_range (pa_cons pe_int pa_nil)) (pg_name (i := 7) sc_law_rows.nd rfl (Or.inl rfl)) (pss_cons (ps_set (i := 5) sc_law_rows.nd rfl (Or.inl rfl) (pe_lst pa_nil))
      (pss_cons (ps_for PassesOwn.never rfl (pi_list (pv 1)) (pg_name (i := 6) sc_law_rows.nd rfl (Or.inl rfl)) (pss_cons (ps_set (i := 8) sc_law_rows.nd rfl (Or.inl rfl) (pe_dn D_law_draw (hr.mono (by decide)) (by rfl) (pa_cons (pv 0) (pa_cons pe_int pa_nil))))
      (pss_one (ps_expr (pe_bm PySem.F.plainAttrs_list PySem.F.slot_list_append PySem.F.type_list_append mt_append (pv 5) (pa_cons (pe_ifExp (pt_cmpR op_lt (pv 8) pe_int (nomark _)) (pe_ix ix_list (pe_lst (pa_cons pe_int (pa_cons (pe_op op_sub (pe_op op_oneShl pe_int (pv 6)) pe_int) (pa_cons (pe_op op_oneShl pe_int (pe_op op_sub (pv 6) pe_int)) pa_nil)))) (pv 8) (fun _ _ => rfl)) (pe_dn D_law_draw (hr.mono (by decide)) (by rfl) (pa_cons (pv 0) (pa_cons (pe_op op_oneShl pe_int (pv 6)) pa_nil)))) pa_nil))))))
      (pss_one (ps_expr (pe_bm PySem.F.plainAttrs_list PySem.F.slot_list_append PySem.F.type_list_append mt_append (pv 3) (pa_cons (pe_callTy call_tuple_of (by rfl) T.n_tuple (by decide +kernel) (pa_cons (pv 5) pa_nil)) pa_nil)))))))
      (pss_one (ps_ret (pv 3))))))), ?_⟩
  refine ⟨fun σ' H' => σ' = [some (.ref d), some (.ref l), some (vI ws.sum), none, none, none, none, none, none] ∧ H' = H, ?_, ?_⟩
  · refine ⟨_, rfl, l, ws.map (fun n : Nat => (n : Int)), rfl, SqL.of (by rw [← map_vI]; exact hl), ?_, rfl⟩
    rw [sum_cast]
    rfl
  rintro σ' H1 ⟨rfl, rfl⟩
  refine ⟨Nat.zero_le _, fun r hr0 => ?_⟩
  have nrd : r ≠ d := (hd.new hr0).1
  have nrc : r ≠ c := (hd.new hr0).2
  have nrl : r ≠ l := (ne_of_none hl hr0).symm
  have R0 : RInv ws [] d c l r H1 (upd H1 r (.lst [])) := ⟨Keep.new hr0, hd.same (same_new hr0 _), same_new hr0 _ _ _ hl, upd_same, fun y hy => by cases hy⟩
  refine ⟨_, rfl, _, _, rfl, rfl, _, rfl, ite2 (fun e => ?_) (fun e => ?_)⟩
  · have e6 : (ws.sum : Int) ≤ 6 := of_decide_eq_true e
    have b64 : (2 : Int) ^ ws.sum ≤ 64 := leC (show ws.sum ≤ 6 by omega)
    have p0 : (0 : Int) < 2 ^ ws.sum := posC _
    refine ⟨_, rfl, _, rfl, rfl, (by omega), _, rfl, Int.le_trans (by decide) (Int.le_of_lt p0), Int.lt_of_le_of_lt b64 (by decide), for_range (lo := 0) (fun i σ' H' => ∃ s4 s5 s6 rows, σ' = [some (.ref d), some (.ref l), some (vI ws.sum), some (.ref r), s4, s5, s6, none, none] ∧ RInv ws rows d c l r H1 H' ∧ rows.length ≤ i)
      ⟨none, none, none, [], rfl, R0, Nat.le_refl _⟩ (fun i σ' H' hi p => ?_) (fun σ' H' p => ?_)⟩
    · obtain ⟨s4, s5, s6, rows, rfl, R, hlen⟩ := p
      have hi64 : i < 64 := by omega
      refine ⟨Nat.zero_le _, fun p hp => ?_⟩
      have R1 := R.new (o := .lst []) hp
      have n1 := R.ds.new hp
      have npl : p ≠ l := (ne_of_none R.wl hp).symm
      have npr : p ≠ r := (ne_of_none R.rl hp).symm
      have hp0 := R.free hp
      refine ⟨_, rfl, l, rfl, ⟨_, SqL.of R1.wl⟩, for_list (K := K) (a := l) (xs := ws.map vI) (fun j σ' H2 => ∃ (k : Nat) (s6 : Option V) (xs : List Nat), σ' = [some (.ref d), some (.ref l), some (vI ws.sum), some (.ref r), some (vI k), some (.ref p), s6, none, none] ∧ RInv ws rows d c l r H1 H2 ∧ H2 p = some (.lst (xs.map vI)) ∧ FitsW (ws.take j) xs)
        ⟨i, s6, [], by rw [Int.zero_add]; rfl, R1, upd_same, .nil⟩ (fun j σ' H2 _ pv => ?_) (fun j x σ' H2 hx pv => ?_) (fun σ' H2 pv => ?_)⟩
      · obtain ⟨k, s6', xs, rfl, R2, hp2, f⟩ := pv
        exact SqL.of R2.wl
      · obtain ⟨k, s6', xs, rfl, R2, hp2, f⟩ := pv
        obtain ⟨n, hn, rfl⟩ := natAt hx
        have hn8 := g.2 n (List.mem_of_getElem? hn)
        have hlx : (xs.map vI).length < sizeLine := by
          have q1 := Paired.length f
          rw [List.length_map, ← q1, List.length_take]
          have := g.1
          exact small1000 (by omega)
        refine ⟨_, rfl, .inl ⟨rfl, _, SqL.of hp2⟩, _, rfl, _, rfl, n, rfl, rfl, (by omega), _, _, rfl, rfl, (k : Int), n, rfl, rfl, p, _, _, rfl, rfl, hp2, hlx, ?_⟩
        refine ⟨_, rfl, _, rfl, (k : Int), n, rfl, rfl, k / 2 ^ n, some (vI n), xs ++ [k % 2 ^ n], ?_, R2.upd hp2 hp0 n1.1 n1.2 npl npr, ?_, fits_take f hn (Nat.mod_lt _ (Nat.pow_pos (by decide)))⟩
        · rw [show (k : Int) / 2 ^ n = ((k / 2 ^ n : Nat) : Int) by simp]
          rfl
        · rw [upd_same, List.map_append, show (k : Int) % 2 ^ n = ((k % 2 ^ n : Nat) : Int) by simp]
          rfl
      · obtain ⟨k, s6', xs, rfl, R2, hp2, f⟩ := pv
        rw [List.length_map, List.take_length] at f
        refine ⟨_, rfl, .inl ⟨rfl, _, SqL.of R2.rl⟩, _, rfl, p, _, rfl, .inl ⟨SqL.of hp2, fun t ht => ⟨r, _, _, rfl, rfl, same_new ht _ _ _ R2.rl, small1000 (by omega), ?_⟩⟩⟩
        exact ⟨_, _, _, rows ++ [.ref t], rfl, R2.add hr0 ht nrd nrc nrl f, by rw [List.length_append, List.length_singleton]; omega⟩
    · obtain ⟨s4, s5, s6, rows, rfl, R, hlen⟩ := p
      exact ⟨_, rfl, q r rows _ R⟩
  · refine ⟨40, rfl, by decide, by decide, for_range (lo := 0) (fun i σ' H' => ∃ s5 s6 s7 s8 rows, σ' = [some (.ref d), some (.ref l), some (vI ws.sum), some (.ref r), none, s5, s6, s7, s8] ∧ RInv ws rows d c l r H1 H' ∧ rows.length ≤ i)
      ⟨none, none, none, none, [], rfl, R0, Nat.le_refl _⟩ (fun i σ' H' hi p => ?_) (fun σ' H' p => ?_)⟩
    · obtain ⟨s5, s6, s7, s8, rows, rfl, R, hlen⟩ := p
      have hi64 : i < 64 := Nat.lt_trans hi (by decide)
      refine ⟨Nat.zero_le _, fun p hp => ?_⟩
      have R1 := R.new (o := .lst []) hp
      have n1 := R.ds.new hp
      have npl : p ≠ l := (ne_of_none R.wl hp).symm
      have npr : p ≠ r := (ne_of_none R.rl hp).symm
      have hp0 := R.free hp
      refine ⟨_, rfl, l, rfl, ⟨_, SqL.of R1.wl⟩, for_list (K := K) (a := l) (xs := ws.map vI) (fun j σ' H2 => ∃ (s6 s8 : Option V) (xs : List Nat), σ' = [some (.ref d), some (.ref l), some (vI ws.sum), some (.ref r), none, some (.ref p), s6, some (.int (0 + (i : Int))), s8] ∧ RInv ws rows d c l r H1 H2 ∧ H2 p = some (.lst (xs.map vI)) ∧ FitsW (ws.take j) xs)
        ⟨s6, s8, [], rfl, R1, upd_same, .nil⟩ (fun j σ' H2 _ pv => ?_) (fun j x σ' H2 hx pv => ?_) (fun σ' H2 pv => ?_)⟩
      · obtain ⟨s6', s8', xs, rfl, R2, hp2, f⟩ := pv
        exact SqL.of R2.wl
      · obtain ⟨s6', s8', xs, rfl, R2, hp2, f⟩ := pv
        obtain ⟨n, hn, rfl⟩ := natAt hx
        have hn8 := g.2 n (List.mem_of_getElem? hn)
        have hlx : (xs.map vI).length < sizeLine := by
          have q1 := Paired.length f
          rw [List.length_map, ← q1, List.length_take]
          have := g.1
          exact small1000 (by omega)
        refine ⟨_, rfl, d, c, 5, rfl, R2.ds, by decide, by decide, fun e5 H3 e0 e1 hd3 k3 => ?_⟩
        have R3 := R2.draw k3 hd3 nld nrd
        have hp3 : H3 p = some (.lst (xs.map vI)) := k3 _ _ (by simp [n1.1]) hp2
        have b30 : (2 : Int) ^ n ≤ 2 ^ 8 := leC hn8.2
        have b1 : (0 : Int) < 2 ^ n := posC n
        refine ⟨_, rfl, .inl ⟨rfl, _, SqL.of hp3⟩, _, rfl, _, _, rfl, rfl, _, rfl, ite2 (fun e3 => ?_) (fun e3 => ?_)⟩
        · have e3' : e5 < 3 := of_decide_eq_true e3
          refine ⟨_, rfl, n, rfl, rfl, (by omega), _, _, rfl, rfl, _, rfl, _, _, rfl, rfl, n - 1, rfl, congrArg V.int (by omega), (by omega), le1000 (by simp), fun z hz => ?_⟩
          have R4 := R3.new (o := .lst [.int 0, .int (2 ^ n - 1), .int (2 ^ (n - 1))]) hz
          have hp4 := same_new hz (.lst [.int 0, .int (2 ^ n - 1), .int (2 ^ (n - 1))]) _ _ hp3
          have h3 : e5 = 0 ∨ e5 = 1 ∨ e5 = 2 := by omega
          rcases h3 with rfl | rfl | rfl
          · refine ⟨_, rfl, z, _, 0, _, rfl, rfl, SqL.of upd_same, atI_nat (j := 0) rfl, p, _, _, rfl, rfl, hp4, hlx, ?_⟩
            exact ⟨some (vI n), some (.int 0), xs ++ [0], rfl, R4.upd hp4 hp0 n1.1 n1.2 npl npr, upd_same.trans (congrArg (fun z => some (HO.lst z)) (snoc_eq rfl)), fits_take f hn (Nat.pow_pos (by decide))⟩
          · refine ⟨_, rfl, z, _, 1, _, rfl, rfl, SqL.of upd_same, atI_nat (j := 1) rfl, p, _, _, rfl, rfl, hp4, hlx, ?_⟩
            have e1' : V.int ((2 : Int) ^ n - 1) = vI (2 ^ n - 1) := by
              unfold vI
              rw [Int.natCast_sub Nat.one_le_two_pow, Int.natCast_pow]
              rfl
            exact ⟨some (vI n), some (.int 1), xs ++ [2 ^ n - 1], rfl, R4.upd hp4 hp0 n1.1 n1.2 npl npr, upd_same.trans (congrArg (fun z => some (HO.lst z)) (snoc_eq e1')), fits_take f hn (Nat.sub_lt Nat.one_le_two_pow (by decide))⟩
          · refine ⟨_, rfl, z, _, 2, _, rfl, rfl, SqL.of upd_same, atI_nat (j := 2) rfl, p, _, _, rfl, rfl, hp4, hlx, ?_⟩
            have e1' : V.int ((2 : Int) ^ (n - 1)) = vI (2 ^ (n - 1)) := by
              unfold vI
              rw [Int.natCast_pow]
              rfl
            exact ⟨some (vI n), some (.int 2), xs ++ [2 ^ (n - 1)], rfl, R4.upd hp4 hp0 n1.1 n1.2 npl npr, upd_same.trans (congrArg (fun z => some (HO.lst z)) (snoc_eq e1')), fits_take f hn (Nat.pow_lt_pow_right (by decide) (by omega))⟩
        · refine ⟨_, rfl, _, rfl, n, rfl, rfl, (by omega), d, c, 2 ^ n, rfl, hd3, by omega, Int.lt_of_le_of_lt b30 (by decide), fun v H4 v0 v1 hd4 k4 => ?_⟩
          have R4 := R3.draw k4 hd4 nld nrd
          have hp4 : H4 p = some (.lst (xs.map vI)) := k4 _ _ (by simp [n1.1]) hp3
          obtain ⟨v, rfl⟩ := Int.eq_ofNat_of_zero_le v0
          have hv : v < 2 ^ n := Int.ofNat_lt.mp (by rw [Int.natCast_pow]; exact v1)
          exact ⟨p, _, _, rfl, rfl, hp4, hlx, some (vI n), some (.int e5), xs ++ [v], rfl, R4.upd hp4 hp0 n1.1 n1.2 npl npr, upd_same.trans (congrArg (fun z => some (HO.lst z)) (snoc_eq rfl)), fits_take f hn hv⟩
      · obtain ⟨s6', s8', xs, rfl, R2, hp2, f⟩ := pv
        rw [List.length_map, List.take_length] at f
        refine ⟨_, rfl, .inl ⟨rfl, _, SqL.of R2.rl⟩, _, rfl, p, _, rfl, .inl ⟨SqL.of hp2, fun t ht => ⟨r, _, _, rfl, rfl, same_new ht _ _ _ R2.rl, small1000 (by omega), ?_⟩⟩⟩
        exact ⟨_, _, _, _, rows ++ [.ref t], rfl, R2.add hr0 ht nrd nrc nrl f, by rw [List.length_append, List.length_singleton]; omega⟩
    · obtain ⟨s5, s6, s7, s8, rows, rfl, R, hlen⟩ := p
      exact ⟨_, rfl, q r rows _ R⟩
end
end Bf

set_option Elab.async false
set_option linter.all false
set_option maxRecDepth 100000
set_option maxHeartbeats 4000000
namespace Bf
open PySem PySem.Spec PyProof.Rows L2
/-! ### the law -/
theorem fit_low {op : Str} {W low : Nat} {ws xs : List Nat} {v : Int} (h : Fit op W ws xs low v) (n : ¬ op = "bits") : low = 0 := by
  cases h <;> first | rfl | exact absurd rfl n
theorem lt256 {n x : Nat} (h8 : n ≤ 8) (h : x < 2 ^ n) : x < 256 := ltW h8 h
theorem fit_raw {op : Str} {W low : Nat} {ws xs : List Nat} {v : Int} (h : Fit op W ws xs low v) : Raw op ws xs low v := by
  cases h with
  | not n x h1 h8 hx => exact .one (.not _ _) h8
  | neg n x h1 h8 hx => exact .one (.neg _ _) h8
  | bits n n' x l h1 hl h8 hx => exact .one (.bits _ _ _) h8
  | wide n n' x h1 h8 g1 g8 hx => exact .one (.wide _ _) h8
  | sign n n' x h1 hl h8 hx => exact .one (.sign _ _ h1) (by omega)
  | any n x h1 h8 hx => exact .one (.any _ _) h8
  | all n x h1 h8 hx => exact .one (.all _ _) h8
  | odd n x h1 h8 hx => exact .one (.odd _ _) h8
  | pick n c x y h1 h8 hc hx hy => exact .pick _ _ _ _ _ _
  | join u n x y h1 h4 g1 g4 hx hy => exact .join _ _ _ _ (lt256 (by omega) hx) (by omega)
  | lt n x y h1 h8 hx hy => exact .two _ _ (.lt _ _) (lt256 h8 hx) (lt256 h8 hy)
  | le n x y h1 h8 hx hy => exact .two _ _ (.le _ _) (lt256 h8 hx) (lt256 h8 hy)
  | eq n x y h1 h8 hx hy => exact .two _ _ (.eq _ _) (lt256 h8 hx) (lt256 h8 hy)
  | ne n x y h1 h8 hx hy => exact .two _ _ (.ne _ _) (lt256 h8 hx) (lt256 h8 hy)
  | shl n o x y h1 h8 g1 g8 hx hy => exact .two _ _ (.shl _ _) (lt256 h8 hx) (lt256 g8 hy)
  | shr n o x y h1 h8 g1 g8 hx hy => exact .two _ _ (.shr _ _) (lt256 h8 hx) (lt256 g8 hy)
  | add n x y h1 h8 hx hy => exact .two _ _ (.add _ _) (lt256 h8 hx) (lt256 h8 hy)
  | sub n x y h1 h8 hx hy => exact .two _ _ (.sub _ _) (lt256 h8 hx) (lt256 h8 hy)
  | mul n x y h1 h8 hx hy => exact .two _ _ (.mul _ _) (lt256 h8 hx) (lt256 h8 hy)
  | and n x y h1 h8 hx hy => exact .two _ _ (.and _ _) (lt256 h8 hx) (lt256 h8 hy)
  | or n x y h1 h8 hx hy => exact .two _ _ (.or _ _) (lt256 h8 hx) (lt256 h8 hy)
  | xor n x y h1 h8 hx hy => exact .two _ _ (.xor _ _) (lt256 h8 hx) (lt256 h8 hy)
theorem erase_map {α β : Type} (f : α → β) : ∀ (xs : List α) (k : Nat), (xs.eraseIdx k).map f = (xs.map f).eraseIdx k
  | [], _ => rfl
  | _ :: _, 0 => rfl
  | x :: r, k + 1 => by
    show f x :: (r.eraseIdx k).map f = f x :: (r.map f).eraseIdx k
    rw [erase_map f r k]
theorem split22 : Txt.split "not neg add sub mul and or xor shl shr lt le eq ne pick bits join wide sign any all odd" " " = ops22 := by decide +kernel
def spLaw (K : PySem.W.Frag) : Sp := fun vs H Q _ => ∃ (a : Addr) (ns : List Int), vs = [.ref a] ∧ SqL K H a (ns.map V.int) ∧ ns.length ≤ 63 ∧ ∀ H', Q (.bl true) H'
section
variable {P : Program} {w : World} {K : PySem.W.Frag} {mg : Str → Option Value} {base : Heap} {f : Addr} {fd : FuncData}
theorem ok_law (F : Fun K "law" "law" s_law f fd) (T : Txt mg) (D_law_begin : Dn P w K mg base "_law_begin" ["_law_script"] 1 (spBegin K)) (D_law_draw : Dn P w K mg base "_law_draw" ["_law_d", "_law_many"] 1 spDraw)
    (D_law_pop : Dn P w K mg base "_law_pop" ["_law_d", "_law_row"] 2 spPop) (D_law_is_int : Dn P w K mg base "_law_is_int" ["_law_thing"] 1 spIsInt)
    (D_law_word : Dn P w K mg base "_law_word" ["_law_op", "_law_width", "_law_wides", "_law_words", "_law_low"] 1 (spWord K)) (D_law_shape : Dn P w K mg base "_law_shape" ["_law_d", "_law_op", "_law_most"] 2 spShape)
    (D_law_rows : Dn P w K mg base "_law_rows" ["_law_d", "_law_wides"] 2 spRows) (D_result : Dn P w K mg base "result" ["op", "width", "widths", "words", "low"] 3 (spResult K))
    (D_result4 : DnD P w K mg base "result" ["op", "width", "widths", "words", "low"] [vI 0] 3 (spResult K)) :
    FnOk P w K mg base CX0 4 f fd ["_law_script"] (spLaw K) := by
  refine F.ok sc_law (fun vs H Q E h => ?_) (fun cdv A outer s H vs Q E hr h => ?_)
  · obtain ⟨a, ns, rfl, _⟩ := h
    rfl
  obtain ⟨a, ns, rfl, hS, h63, q⟩ := h
  refine ⟨_, (pss_cons (ps_set (i := 1) sc_law.nd rfl (Or.inl rfl) (pe_dn D_law_begin (hr.mono (by decide)) (by rfl) (pa_cons (pv 0) pa_nil)))
      (C8.pss_cut (ps_set (i := 2) sc_law.nd rfl (Or.inl rfl) (pe_split pe_str pe_str))
      (C8.pss_cut (ps_set (i := 3) sc_law.nd rfl (Or.inl rfl) (pe_ifExp (pt_cmpR op_eq (pe_dn D_law_draw (hr.mono (by decide)) (by rfl) (pa_cons (pv 1) (pa_cons pe_int pa_nil))) pe_int (nomark _)) pe_int pe_int))
      (pss_cons (ps_for PassesOwn.never rfl (pi_range1 rfl T.n_range (pa_cons pe_int pa_nil)) (pg_name (i := 4) sc_law.nd rfl (Or.inl rfl)) (pss_cons (ps_set (i := 5) sc_law.nd rfl (Or.inl rfl) (pe_dn D_law_pop (hr.mono (by decide)) (by rfl) (pa_cons (pv 1) (pa_cons (pv 2) pa_nil))))
      (pss_cons (ps_asg (pe_dn D_law_shape (hr.mono (by decide)) (by rfl) (pa_cons (pv 1) (pa_cons (pv 5) (pa_cons (pv 3) pa_nil)))) (pg_tup rfl (pgs_cons (pg_name (i := 6) sc_law.nd rfl (Or.inl rfl)) (pgs_cons (pg_name (i := 7) sc_law.nd rfl (Or.inl rfl)) (pgs_cons (pg_name (i := 8) sc_law.nd rfl (Or.inl rfl)) pgs_nil)))))
      (pss_one (ps_for PassesOwn.never rfl (pi_list (pe_dn D_law_rows (hr.mono (by decide)) (by rfl) (pa_cons (pv 1) (pa_cons (pv 7) pa_nil)))) (pg_name (i := 9) sc_law.nd rfl (Or.inl rfl)) (pss_cons (ps_set (i := 10) sc_law.nd rfl (Or.inl rfl) (pe_dn D_law_word (hr.mono (by decide)) (by rfl) (pa_cons (pv 5) (pa_cons (pv 6) (pa_cons (pv 7) (pa_cons (pe_callTy call_list_of (by rfl) T.n_list (by decide +kernel) (pa_cons (pv 9) pa_nil)) (pa_cons (pv 8) pa_nil)))))))
      (C8.pss_cut (ps_if (pt_cmpR op_eq (pv 5) pe_str (nomark _)) (pss_one (ps_set (i := 11) sc_law.nd rfl (Or.inl rfl) (pe_dn D_result (hr.mono (by decide)) (by rfl) (pa_cons (pv 5) (pa_cons (pv 6) (pa_cons (pe_callTy call_tuple_of (by rfl) T.n_tuple (by decide +kernel) (pa_cons (pv 7) pa_nil)) (pa_cons (pv 9) (pa_cons (pv 8) pa_nil)))))))) (pss_one (ps_set (i := 11) sc_law.nd rfl (Or.inl rfl) (pe_dnD D_result4 (hr.mono (by decide)) (by rfl) (pa_cons (pv 5) (pa_cons (pv 6) (pa_cons (pe_callTy call_tuple_of (by rfl) T.n_tuple (by decide +kernel) (pa_cons (pv 7) pa_nil)) (pa_cons (pv 9) pa_nil))))))))
      (pss_one (ps_if (PW.pt (pw_or (pt_not (pt_val (pe_dn D_law_is_int (hr.mono (by decide)) (by rfl) (pa_cons (pv 11) pa_nil)))) (pw_or1 (pt_cmpR op_ne (pv 11) (pv 10) (nomark _))))) (pss_one (ps_ret pe_bl)) pss_nil)))))))))
      (pss_one (ps_ret pe_bl)))))), ?_⟩
  refine ⟨_, rfl, a, ns, rfl, hS, h63, fun d c H1 nd nc hd s1 => ?_⟩
  refine ⟨fun σ' H2 => ∃ o, σ' = [some (.ref a), some (.ref d), some (.ref o), none, none, none, none, none, none, none, none, none] ∧ DS H2 d c ∧ H2 o = some (.lst (ops22.map V.str)) ∧ o ≠ d ∧ o ≠ c, ?_, ?_⟩
  · refine ⟨⟨_, rfl⟩, _, _, rfl, rfl, by decide +kernel, by decide +kernel, fun o ho => ?_⟩
    refine ⟨o, rfl, hd.same (same_new ho _), ?_, (hd.new ho).1, (hd.new ho).2⟩
    rw [upd_same, split22]
  rintro σ' H2 ⟨o, rfl, hd2, ho2, nod, noc⟩
  refine ⟨fun σ' H3 => ∃ most : Int, σ' = [some (.ref a), some (.ref d), some (.ref o), some (.int most), none, none, none, none, none, none, none, none] ∧ 1 ≤ most ∧ most ≤ 8 ∧ DS H3 d c ∧ H3 o = some (.lst (ops22.map V.str)), ?_, ?_⟩
  · refine ⟨_, rfl, d, c, 2, rfl, hd2, by decide, by decide, fun r H3 r0 r1 hd3 k3 => ⟨rfl, _, rfl, ite2 (fun e => ?_) (fun e => ?_)⟩⟩
    · exact ⟨3, rfl, by decide, by decide, hd3, k3 _ _ (by simp [nod]) ho2⟩
    · exact ⟨8, rfl, by decide, by decide, hd3, k3 _ _ (by simp [nod]) ho2⟩
  rintro σ' H3 ⟨most, rfl, m1, m8, hd3, ho3⟩
  refine ⟨4, rfl, by decide, by decide, for_range (lo := 0) (fun i σ' H' => ∃ s4 s5 s6 s7 s8 s9 s10 s11 xs, σ' = [some (.ref a), some (.ref d), some (.ref o), some (.int most), s4, s5, s6, s7, s8, s9, s10, s11] ∧ DS H' d c ∧ H' o = some (.lst (xs.map V.str)) ∧ (∀ x ∈ xs, x ∈ ops22) ∧ xs.length + i = 22)
    ⟨none, none, none, none, none, none, none, none, ops22, rfl, hd3, ho3, fun x h => h, by decide⟩ (fun i σ' H' hi p => ?_) (fun σ' H' p => ?_)⟩
  · obtain ⟨s4, s5, s6, s7, s8, s9, s10, s11, xs, rfl, hd4, ho4, hxs, hlen⟩ := p
    have hi4 : i < 4 := hi
    refine ⟨_, rfl, _, rfl, d, c, o, _, rfl, hd4, ho4, nod, noc, by rw [List.length_map]; omega, by rw [List.length_map]; omega, fun k y H5 hy hd5 ho5 k5 => ?_⟩
    obtain ⟨op, hop, rfl⟩ : ∃ op, xs[k]? = some op ∧ y = V.str op := by
      rw [List.getElem?_map] at hy
      cases e : xs[k]? with
      | none => rw [e] at hy; cases hy
      | some x => rw [e] at hy; exact ⟨x, rfl, (Option.some.inj hy).symm⟩
    have mop : op ∈ ops22 := hxs _ (List.mem_of_getElem? hop)
    have hk : k < xs.length := (List.getElem?_eq_some_iff.mp hop).1
    refine ⟨_, rfl, _, rfl, _, rfl, d, c, op, most, rfl, hd5, mop, m1, m8, fun t l W low ws H6 sh g hd6 k6 hl6 ht6 => ?_⟩
    have nld : l ≠ d := by
      obtain ⟨_, _, _, _, hdd, _⟩ := hd6
      intro e
      rw [e, hdd] at hl6
      have q := HO.lst.inj (Option.some.inj hl6)
      cases ws with
      | nil => cases q
      | cons n r => cases (List.cons.inj q).1
    have ho6 : H6 o = some (.lst ((xs.map V.str).eraseIdx k)) := k6 _ _ (by simp [nod]) ho5
    refine ⟨t, _, rfl, SqT.of ht6, rfl, _, _, rfl, _, _, rfl, _, _, rfl, rfl, ?_⟩
    refine ⟨_, rfl, _, rfl, d, c, l, ws, rfl, hd6, nld, hl6, g, fun r rows H7 R => ?_⟩
    have ho7 : H7 o = some (.lst ((xs.map V.str).eraseIdx k)) := R.keep _ _ (by simp [nod]) ho6
    refine ⟨r, rfl, ⟨_, SqL.of R.rl⟩, for_list (K := K) (a := r) (xs := rows) (fun j σ' H8 => ∃ s9 s10 s11, σ' = [some (.ref a), some (.ref d), some (.ref o), some (.int most), some (.int (0 + (i : Int))), some (.str op), some (vI W), some (.ref l), some (vI low), s9, s10, s11] ∧ Same H7 H8)
      ⟨s9, s10, s11, rfl, Same.refl _⟩ (fun j σ' H8 _ p => ?_) (fun j x σ' H8 hx p => ?_) (fun σ' H8 p => ?_)⟩
    · obtain ⟨_, _, _, _, s8⟩ := p
      exact SqL.of (s8 _ _ R.rl)
    · obtain ⟨s9, s10, s11, rfl, s8⟩ := p
      obtain ⟨b, ys, rfl, hb, fy⟩ := R.ok x (List.mem_of_getElem? hx)
      obtain ⟨hW, sv⟩ := sh
      obtain ⟨v, hf⟩ := sv ys fy
      refine ⟨_, rfl, _, rfl, _, rfl, _, rfl, b, _, rfl, .inr (SqT.of (s8 _ _ hb)), fun z hz => ⟨_, rfl, op, W, low, l, z, ws, ys, v, rfl, SqL.of (same_new hz _ _ _ (s8 _ _ R.wl)), SqL.of upd_same, hf, fun H9 s9' => ?_⟩⟩
      have s10' : Same H7 H9 := (s8.trans (same_new hz _)).trans s9'
      refine ⟨fun σ' H10 => σ' = [some (.ref a), some (.ref d), some (.ref o), some (.int most), some (.int (0 + (i : Int))), some (.str op), some (vI W), some (.ref l), some (vI low), some (.ref b), some (.int (v % 2 ^ W)), some (.int (v % 2 ^ W))] ∧ Same H7 H10, ?_, ?_⟩
      · refine ⟨_, rfl, rfl, _, rfl, ite2 (fun e => ?_) (fun e => ?_)⟩
        · refine ⟨_, rfl, _, rfl, _, rfl, l, _, rfl, .inl ⟨SqL.of (s10' _ _ R.wl), fun u hu => ⟨_, rfl, _, rfl, op, W, low, u, b, ws, ys, v, rfl, hW, SqT.of upd_same, SqT.of (same_new hu _ _ _ (s10' _ _ hb)), fit_raw hf, fun H11 s11' => ?_⟩⟩⟩
          exact ⟨rfl, (s10'.trans (same_new hu _)).trans s11'⟩
        · have e0 : low = 0 := fit_low hf (fun q => e (decide_eq_true (by rw [q])))
          subst e0
          refine ⟨_, rfl, _, rfl, _, rfl, l, _, rfl, .inl ⟨SqL.of (s10' _ _ R.wl), fun u hu => ⟨_, rfl, op, W, 0, u, b, ws, ys, v, rfl, hW, SqT.of upd_same, SqT.of (same_new hu _ _ _ (s10' _ _ hb)), fit_raw hf, fun H11 s11' => ?_⟩⟩⟩
          exact ⟨rfl, (s10'.trans (same_new hu _)).trans s11'⟩
      rintro σ' H10 ⟨rfl, s12⟩
      refine ⟨_, rfl, _, rfl, _, rfl, ?_⟩
      refine iteF ?_
      refine ⟨_, rfl, _, rfl, rfl, _, rfl, iteNS rfl ?_⟩
      exact ⟨_, _, _, rfl, s12⟩
    · obtain ⟨s9, s10, s11, rfl, s8⟩ := p
      refine ⟨_, _, _, _, _, _, _, _, xs.eraseIdx k, rfl, R.ds.same s8, ?_, fun x h => hxs x (List.mem_of_mem_eraseIdx h), ?_⟩
      · rw [s8 _ _ ho7, ← erase_map]
      · rw [List.length_eraseIdx_of_lt hk]
        omega
  · obtain ⟨s4, s5, s6, s7, s8, s9, s10, s11, xs, rfl, _⟩ := p
    exact q _
end
end Bf

set_option Elab.async false
set_option linter.all false
set_option maxRecDepth 100000
set_option maxHeartbeats 4000000
namespace Bf
open PySem PySem.Spec PyProof.Rows L2
/-! ### what the top has written -/
theorem all_mk {l : PySem.W.OpenLaw} {w : World} {K : PySem.W.Frag} {h : Heap} {mg : Str → Option Value} {fa f_to_bits f_one_word_result f__law_begin f__law_draw f__law_pop f__law_is_int f__law_word f__law_shape f__law_rows f_law f_result T_res dd g_added g_subtracted g_multiplied g_bitwise_and g_bitwise_or g_bitwise_xor g_shifted_up g_shifted_down g_is_less g_is_at_most g_is_same g_is_other : Addr} (X : K.In h) (G : h.Ns mainGlobals mg) (hfa : mg "law" = some (.ref fa))
    {od2 an2 : Option Addr} {sl2 : Array (Option Value)} {oc2 kV2 dc2 pm2 cd2 ct2 : Value}
    {od4 an4 : Option Addr} {sl4 : Array (Option Value)} {oc4 kV4 dc4 pm4 cd4 ct4 : Value}
    {od6 an6 : Option Addr} {sl6 : Array (Option Value)} {oc6 kV6 dc6 pm6 cd6 ct6 : Value}
    {od8 an8 : Option Addr} {sl8 : Array (Option Value)} {oc8 kV8 dc8 pm8 cd8 ct8 : Value}
    {od10 an10 : Option Addr} {sl10 : Array (Option Value)} {oc10 kV10 dc10 pm10 cd10 ct10 : Value}
    {od12 an12 : Option Addr} {sl12 : Array (Option Value)} {oc12 kV12 dc12 pm12 cd12 ct12 : Value}
    {od14 an14 : Option Addr} {sl14 : Array (Option Value)} {oc14 kV14 dc14 pm14 cd14 ct14 : Value}
    {od16 an16 : Option Addr} {sl16 : Array (Option Value)} {oc16 kV16 dc16 pm16 cd16 ct16 : Value}
    {od18 an18 : Option Addr} {sl18 : Array (Option Value)} {oc18 kV18 dc18 pm18 cd18 ct18 : Value}
    {od20 an20 : Option Addr} {sl20 : Array (Option Value)} {oc20 kV20 dc20 pm20 cd20 ct20 : Value}
    {od22 an22 : Option Addr} {sl22 : Array (Option Value)} {oc22 kV22 dc22 pm22 cd22 ct22 : Value}
    {od29 an29 : Option Addr} {sl29 : Array (Option Value)} {oc29 kV29 dc29 pm29 cd29 ct29 : Value}
    {od31 an31 : Option Addr} {sl31 : Array (Option Value)} {oc31 kV31 dc31 pm31 cd31 ct31 : Value}
    {od33 an33 : Option Addr} {sl33 : Array (Option Value)} {oc33 kV33 dc33 pm33 cd33 ct33 : Value}
    {od35 an35 : Option Addr} {sl35 : Array (Option Value)} {oc35 kV35 dc35 pm35 cd35 ct35 : Value}
    {od37 an37 : Option Addr} {sl37 : Array (Option Value)} {oc37 kV37 dc37 pm37 cd37 ct37 : Value}
    {od39 an39 : Option Addr} {sl39 : Array (Option Value)} {oc39 kV39 dc39 pm39 cd39 ct39 : Value}
    {od41 an41 : Option Addr} {sl41 : Array (Option Value)} {oc41 kV41 dc41 pm41 cd41 ct41 : Value}
    {od43 an43 : Option Addr} {sl43 : Array (Option Value)} {oc43 kV43 dc43 pm43 cd43 ct43 : Value}
    {od45 an45 : Option Addr} {sl45 : Array (Option Value)} {oc45 kV45 dc45 pm45 cd45 ct45 : Value}
    {od47 an47 : Option Addr} {sl47 : Array (Option Value)} {oc47 kV47 dc47 pm47 cd47 ct47 : Value}
    {od49 an49 : Option Addr} {sl49 : Array (Option Value)} {oc49 kV49 dc49 pm49 cd49 ct49 : Value}
    {od51 an51 : Option Addr} {sl51 : Array (Option Value)} {oc51 kV51 dc51 pm51 cd51 ct51 : Value}
    {ocT : Value} {odT : Option Addr} {tkT : Tok} {nT : Nat} {slT : Array (Option Value)} {es : Array DictEntry} {n : Nat}
    (a1 : PySem.W.nsIn K mainGlobals "to_bits" = some (some (.ref f_to_bits)))
    (l2 : K.lookup f_to_bits = some ⟨oc2, od2, .func (PySem.W.fnOf "to_bits" "to_bits" (defArgs s_to_bits) (defBody s_to_bits) (defScope s_to_bits) .none kV2 dc2 pm2 an2 cd2 ct2), sl2⟩) (c2 : PySem.W.codeIn K cd2 "to_bits" = true) (k2 : PySem.W.keepIn K (.ref f_to_bits) = true)
    (a3 : PySem.W.nsIn K mainGlobals "one_word_result" = some (some (.ref f_one_word_result)))
    (l4 : K.lookup f_one_word_result = some ⟨oc4, od4, .func (PySem.W.fnOf "one_word_result" "one_word_result" (defArgs s_one_word_result) (defBody s_one_word_result) (defScope s_one_word_result) .none kV4 dc4 pm4 an4 cd4 ct4), sl4⟩) (c4 : PySem.W.codeIn K cd4 "one_word_result" = true) (k4 : PySem.W.keepIn K (.ref f_one_word_result) = true)
    (a5 : PySem.W.nsIn K mainGlobals "_law_begin" = some (some (.ref f__law_begin)))
    (l6 : K.lookup f__law_begin = some ⟨oc6, od6, .func (PySem.W.fnOf "_law_begin" "_law_begin" (defArgs s_law_begin) (defBody s_law_begin) (defScope s_law_begin) .none kV6 dc6 pm6 an6 cd6 ct6), sl6⟩) (c6 : PySem.W.codeIn K cd6 "_law_begin" = true) (k6 : PySem.W.keepIn K (.ref f__law_begin) = true)
    (a7 : PySem.W.nsIn K mainGlobals "_law_draw" = some (some (.ref f__law_draw)))
    (l8 : K.lookup f__law_draw = some ⟨oc8, od8, .func (PySem.W.fnOf "_law_draw" "_law_draw" (defArgs s_law_draw) (defBody s_law_draw) (defScope s_law_draw) .none kV8 dc8 pm8 an8 cd8 ct8), sl8⟩) (c8 : PySem.W.codeIn K cd8 "_law_draw" = true) (k8 : PySem.W.keepIn K (.ref f__law_draw) = true)
    (a9 : PySem.W.nsIn K mainGlobals "_law_pop" = some (some (.ref f__law_pop)))
    (l10 : K.lookup f__law_pop = some ⟨oc10, od10, .func (PySem.W.fnOf "_law_pop" "_law_pop" (defArgs s_law_pop) (defBody s_law_pop) (defScope s_law_pop) .none kV10 dc10 pm10 an10 cd10 ct10), sl10⟩) (c10 : PySem.W.codeIn K cd10 "_law_pop" = true) (k10 : PySem.W.keepIn K (.ref f__law_pop) = true)
    (a11 : PySem.W.nsIn K mainGlobals "_law_is_int" = some (some (.ref f__law_is_int)))
    (l12 : K.lookup f__law_is_int = some ⟨oc12, od12, .func (PySem.W.fnOf "_law_is_int" "_law_is_int" (defArgs s_law_is_int) (defBody s_law_is_int) (defScope s_law_is_int) .none kV12 dc12 pm12 an12 cd12 ct12), sl12⟩) (c12 : PySem.W.codeIn K cd12 "_law_is_int" = true) (k12 : PySem.W.keepIn K (.ref f__law_is_int) = true)
    (a13 : PySem.W.nsIn K mainGlobals "_law_word" = some (some (.ref f__law_word)))
    (l14 : K.lookup f__law_word = some ⟨oc14, od14, .func (PySem.W.fnOf "_law_word" "_law_word" (defArgs s_law_word) (defBody s_law_word) (defScope s_law_word) .none kV14 dc14 pm14 an14 cd14 ct14), sl14⟩) (c14 : PySem.W.codeIn K cd14 "_law_word" = true) (k14 : PySem.W.keepIn K (.ref f__law_word) = true)
    (a15 : PySem.W.nsIn K mainGlobals "_law_shape" = some (some (.ref f__law_shape)))
    (l16 : K.lookup f__law_shape = some ⟨oc16, od16, .func (PySem.W.fnOf "_law_shape" "_law_shape" (defArgs s_law_shape) (defBody s_law_shape) (defScope s_law_shape) .none kV16 dc16 pm16 an16 cd16 ct16), sl16⟩) (c16 : PySem.W.codeIn K cd16 "_law_shape" = true) (k16 : PySem.W.keepIn K (.ref f__law_shape) = true)
    (a17 : PySem.W.nsIn K mainGlobals "_law_rows" = some (some (.ref f__law_rows)))
    (l18 : K.lookup f__law_rows = some ⟨oc18, od18, .func (PySem.W.fnOf "_law_rows" "_law_rows" (defArgs s_law_rows) (defBody s_law_rows) (defScope s_law_rows) .none kV18 dc18 pm18 an18 cd18 ct18), sl18⟩) (c18 : PySem.W.codeIn K cd18 "_law_rows" = true) (k18 : PySem.W.keepIn K (.ref f__law_rows) = true)
    (a19 : PySem.W.nsIn K mainGlobals "law" = some (some (.ref f_law)))
    (l20 : K.lookup f_law = some ⟨oc20, od20, .func (PySem.W.fnOf "law" "law" (defArgs s_law) (defBody s_law) (defScope s_law) .none kV20 dc20 pm20 an20 cd20 ct20), sl20⟩) (c20 : PySem.W.codeIn K cd20 "law" = true) (k20 : PySem.W.keepIn K (.ref f_law) = true)
    (a21 : PySem.W.nsIn K mainGlobals "result" = some (some (.ref f_result)))
    (l22 : K.lookup f_result = some ⟨oc22, od22, .func (PySem.W.fnOf "result" "result" (defArgs s_result) (defBody s_result) (defScope s_result) (.ref T_res) kV22 dc22 pm22 an22 cd22 ct22), sl22⟩) (c22 : PySem.W.codeIn K cd22 "result" = true) (k22 : PySem.W.keepIn K (.ref f_result) = true)
    (x23 : K.lookup T_res = some ⟨ocT, odT, .seq #[.int 0 tkT] nT, slT⟩)
    (a24 : PySem.W.nsIn K mainGlobals "TWO_WORDS" = some (some (.ref dd)))
    (x25 : K.lookup dd = some ⟨.type "dict", none, .dict es n, #[]⟩)
    (x26 : PySem.W.KeysLit w.params es.toList)
    (x27 : (dd == sysModules) = false)
    (x28 : PySem.W.nsIn K dd "add" = some (some (.ref g_added)))
    (l29 : K.lookup g_added = some ⟨oc29, od29, .func (PySem.W.fnOf "added" "added" (defArgs s_added) (defBody s_added) (defScope s_added) .none kV29 dc29 pm29 an29 cd29 ct29), sl29⟩) (c29 : PySem.W.codeIn K cd29 "added" = true) (k29 : PySem.W.keepIn K (.ref g_added) = true)
    (x30 : PySem.W.nsIn K dd "sub" = some (some (.ref g_subtracted)))
    (l31 : K.lookup g_subtracted = some ⟨oc31, od31, .func (PySem.W.fnOf "subtracted" "subtracted" (defArgs s_subtracted) (defBody s_subtracted) (defScope s_subtracted) .none kV31 dc31 pm31 an31 cd31 ct31), sl31⟩) (c31 : PySem.W.codeIn K cd31 "subtracted" = true) (k31 : PySem.W.keepIn K (.ref g_subtracted) = true)
    (x32 : PySem.W.nsIn K dd "mul" = some (some (.ref g_multiplied)))
    (l33 : K.lookup g_multiplied = some ⟨oc33, od33, .func (PySem.W.fnOf "multiplied" "multiplied" (defArgs s_multiplied) (defBody s_multiplied) (defScope s_multiplied) .none kV33 dc33 pm33 an33 cd33 ct33), sl33⟩) (c33 : PySem.W.codeIn K cd33 "multiplied" = true) (k33 : PySem.W.keepIn K (.ref g_multiplied) = true)
    (x34 : PySem.W.nsIn K dd "and" = some (some (.ref g_bitwise_and)))
    (l35 : K.lookup g_bitwise_and = some ⟨oc35, od35, .func (PySem.W.fnOf "bitwise_and" "bitwise_and" (defArgs s_bitwise_and) (defBody s_bitwise_and) (defScope s_bitwise_and) .none kV35 dc35 pm35 an35 cd35 ct35), sl35⟩) (c35 : PySem.W.codeIn K cd35 "bitwise_and" = true) (k35 : PySem.W.keepIn K (.ref g_bitwise_and) = true)
    (x36 : PySem.W.nsIn K dd "or" = some (some (.ref g_bitwise_or)))
    (l37 : K.lookup g_bitwise_or = some ⟨oc37, od37, .func (PySem.W.fnOf "bitwise_or" "bitwise_or" (defArgs s_bitwise_or) (defBody s_bitwise_or) (defScope s_bitwise_or) .none kV37 dc37 pm37 an37 cd37 ct37), sl37⟩) (c37 : PySem.W.codeIn K cd37 "bitwise_or" = true) (k37 : PySem.W.keepIn K (.ref g_bitwise_or) = true)
    (x38 : PySem.W.nsIn K dd "xor" = some (some (.ref g_bitwise_xor)))
    (l39 : K.lookup g_bitwise_xor = some ⟨oc39, od39, .func (PySem.W.fnOf "bitwise_xor" "bitwise_xor" (defArgs s_bitwise_xor) (defBody s_bitwise_xor) (defScope s_bitwise_xor) .none kV39 dc39 pm39 an39 cd39 ct39), sl39⟩) (c39 : PySem.W.codeIn K cd39 "bitwise_xor" = true) (k39 : PySem.W.keepIn K (.ref g_bitwise_xor) = true)
    (x40 : PySem.W.nsIn K dd "shl" = some (some (.ref g_shifted_up)))
    (l41 : K.lookup g_shifted_up = some ⟨oc41, od41, .func (PySem.W.fnOf "shifted_up" "shifted_up" (defArgs s_shifted_up) (defBody s_shifted_up) (defScope s_shifted_up) .none kV41 dc41 pm41 an41 cd41 ct41), sl41⟩) (c41 : PySem.W.codeIn K cd41 "shifted_up" = true) (k41 : PySem.W.keepIn K (.ref g_shifted_up) = true)
    (x42 : PySem.W.nsIn K dd "shr" = some (some (.ref g_shifted_down)))
    (l43 : K.lookup g_shifted_down = some ⟨oc43, od43, .func (PySem.W.fnOf "shifted_down" "shifted_down" (defArgs s_shifted_down) (defBody s_shifted_down) (defScope s_shifted_down) .none kV43 dc43 pm43 an43 cd43 ct43), sl43⟩) (c43 : PySem.W.codeIn K cd43 "shifted_down" = true) (k43 : PySem.W.keepIn K (.ref g_shifted_down) = true)
    (x44 : PySem.W.nsIn K dd "lt" = some (some (.ref g_is_less)))
    (l45 : K.lookup g_is_less = some ⟨oc45, od45, .func (PySem.W.fnOf "is_less" "is_less" (defArgs s_is_less) (defBody s_is_less) (defScope s_is_less) .none kV45 dc45 pm45 an45 cd45 ct45), sl45⟩) (c45 : PySem.W.codeIn K cd45 "is_less" = true) (k45 : PySem.W.keepIn K (.ref g_is_less) = true)
    (x46 : PySem.W.nsIn K dd "le" = some (some (.ref g_is_at_most)))
    (l47 : K.lookup g_is_at_most = some ⟨oc47, od47, .func (PySem.W.fnOf "is_at_most" "is_at_most" (defArgs s_is_at_most) (defBody s_is_at_most) (defScope s_is_at_most) .none kV47 dc47 pm47 an47 cd47 ct47), sl47⟩) (c47 : PySem.W.codeIn K cd47 "is_at_most" = true) (k47 : PySem.W.keepIn K (.ref g_is_at_most) = true)
    (x48 : PySem.W.nsIn K dd "eq" = some (some (.ref g_is_same)))
    (l49 : K.lookup g_is_same = some ⟨oc49, od49, .func (PySem.W.fnOf "is_same" "is_same" (defArgs s_is_same) (defBody s_is_same) (defScope s_is_same) .none kV49 dc49 pm49 an49 cd49 ct49), sl49⟩) (c49 : PySem.W.codeIn K cd49 "is_same" = true) (k49 : PySem.W.keepIn K (.ref g_is_same) = true)
    (x50 : PySem.W.nsIn K dd "ne" = some (some (.ref g_is_other)))
    (l51 : K.lookup g_is_other = some ⟨oc51, od51, .func (PySem.W.fnOf "is_other" "is_other" (defArgs s_is_other) (defBody s_is_other) (defScope s_is_other) .none kV51 dc51 pm51 an51 cd51 ct51), sl51⟩) (c51 : PySem.W.codeIn K cd51 "is_other" = true) (k51 : PySem.W.keepIn K (.ref g_is_other) = true)
    (x52 : PySem.W.nsIn K dd "not" = some none)
    (x53 : PySem.W.nsIn K dd "neg" = some none)
    (x54 : PySem.W.nsIn K dd "bits" = some none)
    (x55 : PySem.W.nsIn K dd "sign" = some none)
    (x56 : PySem.W.nsIn K dd "any" = some none)
    (x57 : PySem.W.nsIn K dd "all" = some none)
    (x58 : PySem.W.nsIn K dd "odd" = some none)
    (x59 : PySem.W.nsIn K dd "wide" = some none)
    (x60 : PySem.W.nsIn K dd "pick" = some none)
    (x61 : PySem.W.nsIn K dd "join" = some none)
    (z62 : PySem.W.nsIn K mainGlobals "int" = some none)
    (z63 : PySem.W.nsIn K mainGlobals "len" = some none)
    (z64 : PySem.W.nsIn K mainGlobals "abs" = some none)
    (z65 : PySem.W.nsIn K mainGlobals "isinstance" = some none)
    (z66 : PySem.W.nsIn K mainGlobals "bool" = some none)
    (z67 : PySem.W.nsIn K mainGlobals "range" = some none)
    (z68 : PySem.W.nsIn K mainGlobals "tuple" = some none)
    (z69 : PySem.W.nsIn K mainGlobals "sum" = some none)
    (z70 : PySem.W.nsIn K mainGlobals "list" = some none)
    (z71 : PySem.W.nsIn K mainGlobals "max" = some none)
    (z72 : PySem.W.nsIn K mainGlobals "min" = some none) :
    ∃ fd : FuncData, (∀ (s : Shared) (v : Value), BindsTo s fd ⟨[v], []⟩ [("_law_script", v)]) ∧ ∀ base : Heap, K.In base → base.Ns mainGlobals mg → FnOk l.prog w K mg base CX0 4 fa fd ["_law_script"] (spLaw K) := by
  have e := hfa.symm.trans (PySem.W.mg_of X G a19)
  cases e
  have T : Txt mg := ⟨PySem.W.mg_none_of X G z62, PySem.W.mg_none_of X G z63, PySem.W.mg_none_of X G z64, PySem.W.mg_none_of X G z65, PySem.W.mg_none_of X G z66, PySem.W.mg_none_of X G z67, PySem.W.mg_none_of X G z68, PySem.W.mg_none_of X G z69, PySem.W.mg_none_of X G z70, PySem.W.mg_none_of X G z71, PySem.W.mg_none_of X G z72⟩
  have TR : TxtR K w mg dd es n := ⟨T, ⟨x25, x26, x27⟩, PySem.W.mg_of X G a24⟩
  have F_to_bits := fun_mk (st := s_to_bits) l2 c2 k2
  have F_one_word_result := fun_mk (st := s_one_word_result) l4 c4 k4
  have F_law_begin := fun_mk (st := s_law_begin) l6 c6 k6
  have F_law_draw := fun_mk (st := s_law_draw) l8 c8 k8
  have F_law_pop := fun_mk (st := s_law_pop) l10 c10 k10
  have F_law_is_int := fun_mk (st := s_law_is_int) l12 c12 k12
  have F_law_word := fun_mk (st := s_law_word) l14 c14 k14
  have F_law_shape := fun_mk (st := s_law_shape) l16 c16 k16
  have F_law_rows := fun_mk (st := s_law_rows) l18 c18 k18
  have F_law := fun_mk (st := s_law) l20 c20 k20
  have G_added := fun_mk (st := s_added) l29 c29 k29
  have G_subtracted := fun_mk (st := s_subtracted) l31 c31 k31
  have G_multiplied := fun_mk (st := s_multiplied) l33 c33 k33
  have G_bitwise_and := fun_mk (st := s_bitwise_and) l35 c35 k35
  have G_bitwise_or := fun_mk (st := s_bitwise_or) l37 c37 k37
  have G_bitwise_xor := fun_mk (st := s_bitwise_xor) l39 c39 k39
  have G_shifted_up := fun_mk (st := s_shifted_up) l41 c41 k41
  have G_shifted_down := fun_mk (st := s_shifted_down) l43 c43 k43
  have G_is_less := fun_mk (st := s_is_less) l45 c45 k45
  have G_is_at_most := fun_mk (st := s_is_at_most) l47 c47 k47
  have G_is_same := fun_mk (st := s_is_same) l49 c49 k49
  have G_is_other := fun_mk (st := s_is_other) l51 c51 k51
  have F_result : FunD K "result" "result" (defArgs s_result) (defBody s_result) (defScope s_result) [vI 0] [] f_result _ :=
    ⟨⟨_, _, _, _, _, _, _, _, _, _, rfl, l22, c22, .inr ⟨by simp, T_res, _, [.int 0 tkT], _, rfl, x23, rfl, .cons ⟨_, rfl⟩ .nil⟩, .inl rfl⟩, k22⟩
  obtain ⟨ds5, v5, b5⟩ := F_result.binds1 (ps := ["op", "width", "widths", "words", "low"]) 5 1 (by simp) rfl (fun T kV doc pm an cdv ct us its hu hi => match us, hu, its, hi with | [_, _, _, _, _], _, [_], _ => ⟨_, rfl, rfl⟩)
  obtain ⟨ds4, v4, b4⟩ := F_result.binds1 (ps := ["op", "width", "widths", "words", "low"]) 4 0 (by simp) rfl (fun T kV doc pm an cdv ct us its hu hi => match us, hu, its, hi with | [_, _, _, _], _, [_], _ => ⟨_, rfl, rfl⟩)
  cases v5
  refine ⟨PySem.W.fnOf "law" "law" (defArgs s_law) (defBody s_law) (defScope s_law) .none kV20 dc20 pm20 an20 cd20 ct20, fun s v => .of_eq rfl, fun base _ _ => ?_⟩
  have B : Tab l.prog w K mg base dd := by
    refine ⟨fun h => ?_, fun h => ?_, x60, x61⟩
    · cases h with
      | add x y => exact ⟨_, _, x28, ok_added G_added, k29, (G_added.binds (ps := ["left", "right"]) fun _ _ _ _ _ _ us hl => match us, hl with | [_, _], _ => rfl)⟩
      | sub x y => exact ⟨_, _, x30, ok_subtracted G_subtracted, k31, (G_subtracted.binds (ps := ["left", "right"]) fun _ _ _ _ _ _ us hl => match us, hl with | [_, _], _ => rfl)⟩
      | mul x y => exact ⟨_, _, x32, ok_multiplied G_multiplied, k33, (G_multiplied.binds (ps := ["left", "right"]) fun _ _ _ _ _ _ us hl => match us, hl with | [_, _], _ => rfl)⟩
      | and x y => exact ⟨_, _, x34, ok_bitwise_and G_bitwise_and, k35, (G_bitwise_and.binds (ps := ["left", "right"]) fun _ _ _ _ _ _ us hl => match us, hl with | [_, _], _ => rfl)⟩
      | or x y => exact ⟨_, _, x36, ok_bitwise_or G_bitwise_or, k37, (G_bitwise_or.binds (ps := ["left", "right"]) fun _ _ _ _ _ _ us hl => match us, hl with | [_, _], _ => rfl)⟩
      | xor x y => exact ⟨_, _, x38, ok_bitwise_xor G_bitwise_xor, k39, (G_bitwise_xor.binds (ps := ["left", "right"]) fun _ _ _ _ _ _ us hl => match us, hl with | [_, _], _ => rfl)⟩
      | shl x y => exact ⟨_, _, x40, ok_shifted_up G_shifted_up, k41, (G_shifted_up.binds (ps := ["left", "right"]) fun _ _ _ _ _ _ us hl => match us, hl with | [_, _], _ => rfl)⟩
      | shr x y => exact ⟨_, _, x42, ok_shifted_down G_shifted_down, k43, (G_shifted_down.binds (ps := ["left", "right"]) fun _ _ _ _ _ _ us hl => match us, hl with | [_, _], _ => rfl)⟩
      | lt x y => exact ⟨_, _, x44, ok_is_less G_is_less, k45, (G_is_less.binds (ps := ["left", "right"]) fun _ _ _ _ _ _ us hl => match us, hl with | [_, _], _ => rfl)⟩
      | le x y => exact ⟨_, _, x46, ok_is_at_most G_is_at_most, k47, (G_is_at_most.binds (ps := ["left", "right"]) fun _ _ _ _ _ _ us hl => match us, hl with | [_, _], _ => rfl)⟩
      | eq x y => exact ⟨_, _, x48, ok_is_same G_is_same, k49, (G_is_same.binds (ps := ["left", "right"]) fun _ _ _ _ _ _ us hl => match us, hl with | [_, _], _ => rfl)⟩
      | ne x y => exact ⟨_, _, x50, ok_is_other G_is_other, k51, (G_is_other.binds (ps := ["left", "right"]) fun _ _ _ _ _ _ us hl => match us, hl with | [_, _], _ => rfl)⟩
    · cases h with
      | not w x => exact x52
      | neg w x => exact x53
      | bits w x low => exact x54
      | sign w x h => exact x55
      | any w x => exact x56
      | all w x => exact x57
      | odd w x => exact x58
      | wide w x => exact x59
  have D_law_draw : Dn l.prog w K mg base "_law_draw" ["_law_d", "_law_many"] 1 spDraw := ⟨f__law_draw, _, ok_draw F_law_draw T, PySem.W.mg_of X G a7, k8, (F_law_draw.binds (ps := ["_law_d", "_law_many"]) fun _ _ _ _ _ _ us hl => match us, hl with | [_, _], _ => rfl)⟩
  have D_to_bits : Dn l.prog w K mg base "to_bits" ["width", "word"] 1 spBits := ⟨f_to_bits, _, ok_to_bits F_to_bits T, PySem.W.mg_of X G a1, k2, (F_to_bits.binds (ps := ["width", "word"]) fun _ _ _ _ _ _ us hl => match us, hl with | [_, _], _ => rfl)⟩
  have D_one_word_result : Dn l.prog w K mg base "one_word_result" ["op", "inner", "word", "low"] 2 spOne := ⟨f_one_word_result, _, ok_one F_one_word_result T D_to_bits, PySem.W.mg_of X G a3, k4, (F_one_word_result.binds (ps := ["op", "inner", "word", "low"]) fun _ _ _ _ _ _ us hl => match us, hl with | [_, _, _, _], _ => rfl)⟩
  have D_law_begin : Dn l.prog w K mg base "_law_begin" ["_law_script"] 1 (spBegin K) := ⟨f__law_begin, _, ok_begin F_law_begin T, PySem.W.mg_of X G a5, k6, (F_law_begin.binds (ps := ["_law_script"]) fun _ _ _ _ _ _ us hl => match us, hl with | [_], _ => rfl)⟩
  have D_law_pop : Dn l.prog w K mg base "_law_pop" ["_law_d", "_law_row"] 2 spPop := ⟨f__law_pop, _, ok_pop F_law_pop T D_law_draw, PySem.W.mg_of X G a9, k10, (F_law_pop.binds (ps := ["_law_d", "_law_row"]) fun _ _ _ _ _ _ us hl => match us, hl with | [_, _], _ => rfl)⟩
  have D_law_is_int : Dn l.prog w K mg base "_law_is_int" ["_law_thing"] 1 spIsInt := ⟨f__law_is_int, _, ok_isInt F_law_is_int T, PySem.W.mg_of X G a11, k12, (F_law_is_int.binds (ps := ["_law_thing"]) fun _ _ _ _ _ _ us hl => match us, hl with | [_], _ => rfl)⟩
  have D_law_word : Dn l.prog w K mg base "_law_word" ["_law_op", "_law_width", "_law_wides", "_law_words", "_law_low"] 1 (spWord K) := ⟨f__law_word, _, ok_word F_law_word T, PySem.W.mg_of X G a13, k14, (F_law_word.binds (ps := ["_law_op", "_law_width", "_law_wides", "_law_words", "_law_low"]) fun _ _ _ _ _ _ us hl => match us, hl with | [_, _, _, _, _], _ => rfl)⟩
  have D_law_shape : Dn l.prog w K mg base "_law_shape" ["_law_d", "_law_op", "_law_most"] 2 spShape := ⟨f__law_shape, _, ok_shape F_law_shape T D_law_draw, PySem.W.mg_of X G a15, k16, (F_law_shape.binds (ps := ["_law_d", "_law_op", "_law_most"]) fun _ _ _ _ _ _ us hl => match us, hl with | [_, _, _], _ => rfl)⟩
  have D_law_rows : Dn l.prog w K mg base "_law_rows" ["_law_d", "_law_wides"] 2 spRows := ⟨f__law_rows, _, ok_rows F_law_rows T D_law_draw, PySem.W.mg_of X G a17, k18, (F_law_rows.binds (ps := ["_law_d", "_law_wides"]) fun _ _ _ _ _ _ us hl => match us, hl with | [_, _], _ => rfl)⟩
  have R := ok_result (base := base) (P := l.prog) F_result TR B D_one_word_result
  exact ok_law F_law T D_law_begin D_law_draw D_law_pop D_law_is_int D_law_word D_law_shape D_law_rows ⟨f_result, _, R, PySem.W.mg_of X G a21, k22, b5⟩ ⟨f_result, _, ds4, R, PySem.W.mg_of X G a21, k22, b4, v4⟩
end Bf
open PySem PySem.W PyProof.Rows
set_option maxRecDepth 100000 in
set_option maxHeartbeats 0 in
theorem PySem.Challenge.cw_beatfabric_k01_word_operations_holds : PySem.Challenge.rw_beatfabric_k01_word_operations.Holds := by
  w_on; o_law; k_head; (case hw => w_witness2)
  k_fill
  refine L2.walk_of (l := PySem.Challenge.rw_beatfabric_k01_word_operations) (n := 63) (k := 4) (x := "_law_script") (CX := fun _ => L2.CX0) (sp := fun w => Bf.spLaw _) rfl (by decide) rfl ⟨rfl, by decide, by decide⟩ (fun w h Y => PySem.W.kIn_of Y) ?F (fun _ _ a ns hl _ hS => ⟨a, ns, rfl, hS, hl, fun _ => rfl⟩) (fun _ _ _ _ _ h => h)
  case F =>
    intro w mg fa h KX G hmg
    refine' Bf.all_mk KX G hmg ?a1 ?l2 ?c2 ?k2 ?a3 ?l4 ?c4 ?k4 ?a5 ?l6 ?c6 ?k6 ?a7 ?l8 ?c8 ?k8 ?a9 ?l10 ?c10 ?k10 ?a11 ?l12 ?c12 ?k12 ?a13 ?l14 ?c14 ?k14 ?a15 ?l16 ?c16 ?k16 ?a17 ?l18 ?c18 ?k18 ?a19 ?l20 ?c20 ?k20 ?a21 ?l22 ?c22 ?k22 ?x23 ?a24 ?x25 ?x26 ?x27 ?x28 ?l29 ?c29 ?k29 ?x30 ?l31 ?c31 ?k31 ?x32 ?l33 ?c33 ?k33 ?x34 ?l35 ?c35 ?k35 ?x36 ?l37 ?c37 ?k37 ?x38 ?l39 ?c39 ?k39 ?x40 ?l41 ?c41 ?k41 ?x42 ?l43 ?c43 ?k43 ?x44 ?l45 ?c45 ?k45 ?x46 ?l47 ?c47 ?k47 ?x48 ?l49 ?c49 ?k49 ?x50 ?l51 ?c51 ?k51 ?x52 ?x53 ?x54 ?x55 ?x56 ?x57 ?x58 ?x59 ?x60 ?x61 ?z62 ?z63 ?z64 ?z65 ?z66 ?z67 ?z68 ?z69 ?z70 ?z71 ?z72
    (case a1 => k_is)
    (case l2 => k_is)
    (case c2 => k_is)
    (case k2 => k_is)
    (case a3 => k_is)
    (case l4 => k_is)
    (case c4 => k_is)
    (case k4 => k_is)
    (case a5 => k_is)
    (case l6 => k_is)
    (case c6 => k_is)
    (case k6 => k_is)
    (case a7 => k_is)
    (case l8 => k_is)
    (case c8 => k_is)
    (case k8 => k_is)
    (case a9 => k_is)
    (case l10 => k_is)
    (case c10 => k_is)
    (case k10 => k_is)
    (case a11 => k_is)
    (case l12 => k_is)
    (case c12 => k_is)
    (case k12 => k_is)
    (case a13 => k_is)
    (case l14 => k_is)
    (case c14 => k_is)
    (case k14 => k_is)
    (case a15 => k_is)
    (case l16 => k_is)
    (case c16 => k_is)
    (case k16 => k_is)
    (case a17 => k_is)
    (case l18 => k_is)
    (case c18 => k_is)
    (case k18 => k_is)
    (case a19 => k_is)
    (case l20 => k_is)
    (case c20 => k_is)
    (case k20 => k_is)
    (case a21 => k_is)
    (case l22 => k_is)
    (case c22 => k_is)
    (case k22 => k_is)
    (case x23 => k_is)
    (case a24 => k_is)
    (case x25 => k_is)
    (case x26 => k_keys)
    (case x27 => decide)
    (case x28 => k_is)
    (case l29 => k_is)
    (case c29 => k_is)
    (case k29 => k_is)
    (case x30 => k_is)
    (case l31 => k_is)
    (case c31 => k_is)
    (case k31 => k_is)
    (case x32 => k_is)
    (case l33 => k_is)
    (case c33 => k_is)
    (case k33 => k_is)
    (case x34 => k_is)
    (case l35 => k_is)
    (case c35 => k_is)
    (case k35 => k_is)
    (case x36 => k_is)
    (case l37 => k_is)
    (case c37 => k_is)
    (case k37 => k_is)
    (case x38 => k_is)
    (case l39 => k_is)
    (case c39 => k_is)
    (case k39 => k_is)
    (case x40 => k_is)
    (case l41 => k_is)
    (case c41 => k_is)
    (case k41 => k_is)
    (case x42 => k_is)
    (case l43 => k_is)
    (case c43 => k_is)
    (case k43 => k_is)
    (case x44 => k_is)
    (case l45 => k_is)
    (case c45 => k_is)
    (case k45 => k_is)
    (case x46 => k_is)
    (case l47 => k_is)
    (case c47 => k_is)
    (case k47 => k_is)
    (case x48 => k_is)
    (case l49 => k_is)
    (case c49 => k_is)
    (case k49 => k_is)
    (case x50 => k_is)
    (case l51 => k_is)
    (case c51 => k_is)
    (case k51 => k_is)
    (case x52 => k_is)
    (case x53 => k_is)
    (case x54 => k_is)
    (case x55 => k_is)
    (case x56 => k_is)
    (case x57 => k_is)
    (case x58 => k_is)
    (case x59 => k_is)
    (case x60 => k_is)
    (case x61 => k_is)
    (case z62 => k_is)
    (case z63 => k_is)
    (case z64 => k_is)
    (case z65 => k_is)
    (case z66 => k_is)
    (case z67 => k_is)
    (case z68 => k_is)
    (case z69 => k_is)
    (case z70 => k_is)
    (case z71 => k_is)
    (case z72 => k_is)
