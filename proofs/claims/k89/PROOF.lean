import PyProof.Rows.All
import Wide.All
import OpenK.AllK
import Wide.FinOn
import HandS.ForMost
import HandS.Wide
import HandS.Sort
import HandS.Codes
import HandS.Conv
import HandS.ExcInit
import HandS.ExcIs
import HandS.ExcField
import HandS.ExcValue
import HandS.IsInst
import HandS.DictComp
import PyProof.Rows.CountFlat
import HandS.Walk
import PySem.Challenge.RW_contraryrolls_k89_errors_keep_any_value
set_option Elab.async false
set_option linter.all false
set_option maxRecDepth 100000
set_option autoImplicit false
/-! What all laws of this set share: the draws. -/
namespace Vb
open PySem L2 PySem.Spec PyProof.Rows

/-! ### heaps: all that was tracked is as it was, but at p -/
def SameBut (p : Addr) (H H' : Hp) : Prop := ∀ b o, b ≠ p → H b = some o → H' b = some o
theorem SameBut.refl (p : Addr) (H : Hp) : SameBut p H H := fun _ _ _ h => h
theorem SameBut.trans {p : Addr} {H H1 H2 : Hp} (a : SameBut p H H1) (b : SameBut p H1 H2) : SameBut p H H2 := fun c o n h => b c o n (a c o n h)
theorem Same.but {p : Addr} {H H' : Hp} (e : Same H H') : SameBut p H H' := fun b o _ h => e b o h
theorem SameBut.upd (p : Addr) (H : Hp) (o : HO) : SameBut p H (upd H p o) := fun b u n h => by rw [upd_ne n]; exact h
theorem Same.new {H : Hp} {p : Addr} {o : HO} (h : H p = none) : Same H (upd H p o) := fun b u e => by rw [upd_ne (ne_of_none e h)]; exact e
theorem SameBut.new {q : Addr} {H : Hp} {p : Addr} {o : HO} (h : H p = none) : SameBut q H (L2.upd H p o) := Same.but (Same.new h)
theorem SameBut.seqL {K : PySem.W.Frag} {p a : Addr} {H H' : Hp} {xs : List V} (e : SameBut p H H') (n : a ≠ p) (h : SqL K H a xs) : SqL K H' a xs := by
  rcases h with (h | ⟨o, h⟩) | h
  · exact .inl (.inl (e _ _ n h))
  · exact .inl (.inr ⟨o, e _ _ n h⟩)
  · exact .inr h
/-- two addresses hold unlike things -/
theorem ne_at {H : Hp} {a b : Addr} {o u : HO} (h : H a = some o) (h' : H b = some u) (d : o ≠ u) : a ≠ b := ne_of h h' d

/-! ### powers of great numbers -/
def CPowW (i j : Int) : Prop := 0 ≤ j ∧ (Builtin.Int.intBits i : Int) * j ≤ 2 ^ 27
theorem op_powW {X : Cx} : OpR X (binaryOp .Pow) (rI CPowW fun i j => .int (i ^ j.toNat)) := opI fun _ _ _ _ _ _ _ hc q => pow_int hc.1 hc.2 q

/-! ### the pot: three ints -/
def potL (a b c : Int) : HO := .lst [.int a, .int b, .int c]
/-- at p stands a pot that can still be asked m times -/
def PotAt (H : Hp) (p : Addr) (m : Nat) : Prop := ∃ a b c : Int, H p = some (potL a b c) ∧ 0 ≤ a ∧ 0 ≤ b ∧ b < 2305843009213693952 ∧ 0 ≤ c ∧ c + (m : Int) ≤ 10000000
theorem PotAt.le {H : Hp} {p : Addr} {m n : Nat} (h : PotAt H p m) (l : n ≤ m) : PotAt H p n := by
  obtain ⟨a, b, c, e, h1, h2, h3, h4, h5⟩ := h
  exact ⟨a, b, c, e, h1, h2, h3, h4, by omega⟩
theorem PotAt.same {H H' : Hp} {p : Addr} {m : Nat} (h : PotAt H p m) (e : Same H H') : PotAt H' p m := by
  obtain ⟨a, b, c, q, r⟩ := h
  exact ⟨a, b, c, e _ _ q, r⟩
/-- an upto drawn: d below it, the pot a draw poorer -/
def Drew (H H' : Hp) (p : Addr) (m : Nat) : Prop := SameBut p H H' ∧ PotAt H' p m
theorem PotAt.drew {H : Hp} {p : Addr} {m : Nat} (h : PotAt H p m) : Drew H H p m := ⟨.refl _ _, h⟩
theorem Drew.trans {H H1 H2 : Hp} {p : Addr} {m n : Nat} (a : Drew H H1 p m) (b : Drew H1 H2 p n) : Drew H H2 p n := ⟨a.1.trans b.1, b.2⟩
theorem Drew.same {H H1 H2 : Hp} {p : Addr} {m : Nat} (a : Drew H H1 p m) (b : Same H1 H2) : Drew H H2 p m := ⟨a.1.trans (Same.but b), a.2.same b⟩
theorem Drew.le {H H1 : Hp} {p : Addr} {m n : Nat} (a : Drew H H1 p m) (l : n ≤ m) : Drew H H1 p n := ⟨a.1, a.2.le l⟩

/-! ### promises -/
def spTake : Sp := fun vs H Q _ => ∃ (p : Addr) (u : Int) (m : Nat), vs = [.ref p, .int u] ∧ PotAt H p (m + 1) ∧ 0 < u ∧ u < 1073741824 ∧
  ∀ (d : Int) (H' : Hp), 0 ≤ d → d < u → Drew H H' p m → Q (.int d) H'
def spPot (K : PySem.W.Frag) : Sp := fun vs H Q _ => ∃ (a : Addr) (ns : List Int) (j : Int), vs = [.ref a, .int j] ∧ SqL K H a (ns.map V.int) ∧ ns.length ≤ 63 ∧ 0 ≤ j ∧ j < 60 ∧
  ∀ (p : Addr) (H' : Hp), H p = none → Same H H' → PotAt H' p 9999999 → Q (.ref p) H'
def spOf (K : PySem.W.Frag) : Sp := fun vs H Q _ => ∃ (p l : Addr) (xs : List V) (m : Nat), vs = [.ref p, .ref l] ∧ PotAt H p (m + 1) ∧ SqL K H l xs ∧ l ≠ p ∧ 0 < xs.length ∧ xs.length < 1073741824 ∧
  ∀ (i : Nat) (v : V) (H' : Hp), xs[i]? = some v → Drew H H' p m → Q v H'
def spCells (K : PySem.W.Frag) (most : Int) : Sp := fun vs H Q _ => ∃ (a : Addr) (ns : List Int), vs = [.ref a, .int most] ∧ SqL K H a (ns.map V.int) ∧ ns.length ≤ 63 ∧
  ∀ (n : Nat) (l : Addr), 0 < n → (n : Int) ≤ most → H l = none → Q (.ref l) (upd H l (.lst ((List.range n).map fun k => V.int (k : Nat))))
theorem prime_at {i : Int} (h0 : 0 ≤ i) (h1 : i < 5) : ∃ v : Int, atI ([.int 2147483647, .int 2147483629, .int 2147483587, .int 2147483579, .int 2147483563] : List V) i = some (.int v) ∧ 2147483500 < v ∧ v < 2147483648 := by
  have e : i = ((i.toNat : Nat) : Int) := by omega
  rcases (show i.toNat = 0 ∨ i.toNat = 1 ∨ i.toNat = 2 ∨ i.toNat = 3 ∨ i.toNat = 4 by omega) with h | h | h | h | h <;> rw [h] at e <;> subst e
  · exact ⟨_, atI_nat rfl, by decide, by decide⟩
  · exact ⟨_, atI_nat rfl, by decide, by decide⟩
  · exact ⟨_, atI_nat rfl, by decide, by decide⟩
  · exact ⟨_, atI_nat rfl, by decide, by decide⟩
  · exact ⟨_, atI_nat rfl, by decide, by decide⟩
end Vb
namespace Vb
open PySem L2 PySem.Spec PyProof.Rows
theorem at0 {a : V} {r : List V} : atI (a :: r) 0 = some a := atI_nat (j := 0) rfl
theorem at1 {a b : V} {r : List V} : atI (a :: b :: r) 1 = some b := atI_nat (j := 1) rfl
theorem at2 {a b c : V} {r : List V} : atI (a :: b :: c :: r) 2 = some c := atI_nat (j := 2) rfl
theorem mulOk {i j : Int} (h1 : -(2 ^ 64) < i) (h2 : i < 2 ^ 64) : CMul i j := .inl ⟨h1, h2⟩
/-- the pot behind a draw -/
theorem drew_of {H H' : Hp} {p : Addr} {m : Nat} {a b c : Int} (s : SameBut p H H') (e : H' p = some (potL a b c)) (h1 : 0 ≤ a) (h2 : 0 ≤ b) (h3 : b < 2305843009213693952) (h4 : 0 ≤ c) (h5 : c + (m : Int) ≤ 10000000) : Drew H H' p m := ⟨s, a, b, c, e, h1, h2, h3, h4, h5⟩
theorem powOk {i : Int} (h0 : 0 ≤ i) (h : i < 2 ^ 64) : CPowW i 3 := ⟨by decide, by
  have := intBits_le_64 (k := i) (by omega) h
  have e : (2 : Int) ^ 27 = 134217728 := by decide
  rw [e]
  omega⟩
end Vb
namespace Vb
open PySem L2 PySem.Spec PyProof.Rows
section
variable {P : Program} {w : World} {K : PySem.W.Frag} {mg : Str → Option Value} {base : Heap}
/-- a def that may be called by its name, all its parameters given by position -/
structure Cal (P : Program) (w : World) (K : PySem.W.Frag) (mg : Str → Option Value) (base : Heap) (k : Nat) (x : Str) (sp : Sp) : Prop where
  ex : ∃ (f : Addr) (fd : FuncData) (ps : List Str), FnOk P w K mg base CX0 k f fd ps sp ∧ mg x = some (.ref f) ∧ PySem.W.keepIn K (.ref f) = true ∧ Binds K fd ps []
/-- the def st stands under the name x -/
structure Df (K : PySem.W.Frag) (mg : Str → Option Value) (x : Str) (st : Stmt) : Prop where
  ex : ∃ (f : Addr) (fd : FuncData), Fun K x x st f fd ∧ mg x = some (.ref f)
theorem Df.cal {x : Str} {st : Stmt} {k : Nat} {sp : Sp} (ps : List Str) (D : Df K mg x st) (ok : ∀ f fd, Fun K x x st f fd → FnOk P w K mg base CX0 k f fd ps sp)
    (b : ∀ (kV doc pm : Value) (an : Option Addr) (cdv ct : Value) (us : List Value), us.length = ps.length → bindArgs (PySem.W.fnOf x x (defArgs st) (defBody st) (defScope st) .none kV doc pm an cdv ct) ⟨us, []⟩ = pure (ps.zip us)) : Cal P w K mg base k x sp := by
  obtain ⟨f, fd, F, m⟩ := D.ex
  exact ⟨f, fd, ps, ok f fd F, m, F.kp, F.binds b⟩
theorem own_bound {x M : Int} {c : Bool} (hM : 0 < M) : 0 ≤ x % M * (if c = true then 1 else 0) := by
  have h := Int.emod_nonneg x (show M ≠ 0 by omega)
  cases c
  · simp
  · simpa using h
end
section
variable {X : Cx} {x : Str} {e : Expr} {es : List Expr} {p pos : Pos} {k j : Nat} {sp : Sp} {t : TA}
def tCal (sp : Sp) (t : TA) : TE := fun σ H Q => t σ H fun vs H1 => sp vs H1 Q E0
theorem pe_c (c : Cal X.prog X.w X.K X.mg X.base k x sp) (hr : Room j X.A) (hk : k ≤ j) (hg : Gl X x) (ha : PA X (e :: es) t)
    (hdb : (x == ("__debug__" : Str)) = false := by decide) (he : starEach (e :: es) X.env = (false, eval e X.env) :: starEach es X.env := by rfl) (hpl : (backTo pos (starEach es X.env)).any (·.1) = false := by rfl) :
    PE X (.Call (.Name x p) (e :: es) [] pos) (tCal sp t) := by
  obtain ⟨f, fd, ps, F, hm, kp, b⟩ := c.ex
  have h := pe_call (p := p) (dvs := []) F (hr.mono hk) hg hm kp b .nil pass0 ha hdb he hpl
  refine ⟨fun pins s σ H Q I z => h.run pins s σ H Q I ?_⟩
  unfold tCal at z
  show t σ H fun vs H1 => sp (vs ++ []) H1 Q E0
  simpa only [List.append_nil] using z
end
end Vb
namespace Vb
open PySem L2 PySem.Spec PyProof.Rows
theorem mulBit {x : Int} {c : Bool} : CMul x (if c = true then 1 else 0) := .inr (by cases c <;> decide)
theorem cut_to (xs : List V) (n : Nat) : cutV xs Option.none (some (n : Int)) = xs.take n := by
  unfold cutV
  rw [HT.sIx_none, HT.sIx_nat, List.drop_zero, Nat.sub_zero, List.take_eq_take_iff]
  omega
theorem cut_from (xs : List V) (n : Nat) : cutV xs (some (n : Int)) Option.none = xs.drop n := by
  unfold cutV
  rw [HT.sIx_none, HT.sIx_nat]
  by_cases h : n ≤ xs.length
  · rw [Nat.min_eq_left h]
    exact List.take_of_length_le (by rw [List.length_drop]; omega)
  · rw [Nat.min_eq_right (by omega), Nat.sub_self, List.take_zero, List.drop_eq_nil_of_le (by omega)]
end Vb

set_option Elab.async false
set_option linter.all false
set_option maxRecDepth 100000
set_option autoImplicit false
set_option maxHeartbeats 1000000
/-! Exceptions of own classes as values: made, asked for a field, asked by isinstance. -/
namespace Vb
open PySem L2 PySem.Spec PyProof.Rows
section
variable {X : Cx} {e : Expr} {es : List Expr} {ta : TA} {p pos : Pos}
/-- C(e, ..) as a value, C's __init__ keeping sp -/
def tOexV (C : Addr) (sp : Sp) (ta : TA) : TE := fun σ H Q => ta σ H fun vs H1 => vs.length ≤ 1000 ∧ ∀ a, H1 a = none → sp (.ref a :: vs) (upd H1 a (exo a C none)) (fun v H2 => v = .non ∧ Q (.ref a) H2) (fun _ _ _ => False)
theorem pe_oexV {CX : CXT} {x : Str} {C fI : Addr} {k : Nat} {fd : FuncData} {ps : List Str} {sp : Sp} (T : OexC X.K C) (iC : PySem.W.findIn X.K (.ref C) "__init__" = some (some (.ref fI))) (tI : PySem.W.typeIn X.K (.ref fI) = some (.type "function"))
    (F1 : FnOk X.prog X.w X.K X.mg X.base CX k fI fd ps sp) (hr : Room (k + 1) X.A) (hb : Binds X.K fd ps []) (hx : Passes CX X (fun _ _ _ => False)) (hg : Gl X x) (hm : X.mg x = some (.ref C)) (ha : PA X (e :: es) ta)
    (hdb : (x == ("__debug__" : Str)) = false := by decide) (he : starEach (e :: es) X.env = (false, eval e X.env) :: starEach es X.env := by rfl) (hpl : (backTo pos (starEach es X.env)).any (·.1) = false := by rfl) :
    PE X (.Call (.Name x p) (e :: es) [] pos) (tOexV C sp ta) := by
  refine ⟨fun pins s σ H Q I h => ?_⟩
  obtain ⟨nm, q, N, bs, bm, sn, sub, ab, col, dd, k0, k1, k2, k3, k5, hC, hbm⟩ := T.cls
  refine wpAny_Call_Name_kw (ld_glob I hg hm ?_ hdb)
  refine PySem.W.callWith_K (h₀ := X.base) I.ok.mod.kin T.kC (thn (ha.run pos pins s σ H _ I h) fun us s1 ⟨vs, H1, I1, r1, hz, q1⟩ => ⟨I1.kIn, ?_⟩) he hpl
  show wpAny _ _ (call (.ref C) us) _ _ _
  obtain ⟨hp, g, dr, tk, os⟩ := s1
  have hsz : hp.objs.size ≤ hp.objs.size + 1 := Nat.le_succ _
  have hn : H1 (hp.objs.size + 1) = none := I1.hok.fresh hsz
  have hq := q1 (hp.objs.size + 1) hn
  have kk : ∀ b o, hp.get? b = some o → ((hp.push (PySem.W.kdv_tup us)).push (PySem.HandSPX.excO C hp.objs.size)).get? b = some o := fun b o e => Heap.get?_push_of_some _ (Heap.get?_push_of_some _ e)
  have hget : ((hp.push (PySem.W.kdv_tup us)).push (PySem.HandSPX.excO C hp.objs.size)).get? (hp.objs.size + 1) = some (PySem.HandSPX.excO C hp.objs.size) := by heap_get
  have I2 : Inv X pins σ (upd H1 (hp.objs.size + 1) (exo (hp.objs.size + 1) C none)) ⟨(hp.push (PySem.W.kdv_tup us)).push (PySem.HandSPX.excO C hp.objs.size), g, dr, tk, os⟩ :=
    I1.laid (t' := tk) (a := hp.objs.size + 1) (o := exo (hp.objs.size + 1) C none) (h' := (hp.push (PySem.W.kdv_tup us)).push (PySem.HandSPX.excO C hp.objs.size)) kk hsz (exo_ok hget)
  have r2 : Vals (V.ref (hp.objs.size + 1) :: vs) (Value.ref (hp.objs.size + 1) :: us) := .cons rfl r1
  have hl : (Value.ref (hp.objs.size + 1) :: us).length = ps.length := by
    have e := r2.length
    rw [F1.len _ _ _ _ hq] at e
    exact e.symm
  have hus : us.length ≤ sizeLine := by
    rw [← Paired.length r1, sizeLine_eq]
    omega
  have hb' := hb _ (Value.ref (hp.objs.size + 1) :: us) I2.kIn (by simpa using hl)
  rw [List.append_nil] at hb'
  refine wpAny_call (PySem.HandSPX.call_own F.excBase_ValueError (fun Y => PySem.HandSPX.refsVE_contains Y bm hbm) (I1.kIn _ _ hC) (PySem.W.looks_findIn I1.kIn iC) (fun self => PySem.W.bind_fn I1.kIn self tI) hus
    (codeAny_mono (F1.run _ X.stack _ _ ⟨Value.ref (hp.objs.size + 1) :: us, []⟩ (Value.ref (hp.objs.size + 1) :: us) _ _ (fun _ _ _ => False) (hr.make C us []) (I2.env0.make C us []) hb' r2 hq) fun r s' hq' => ?_))
  cases r with
  | error er => exact hx pins σ _ _ er s' I2 hq'
  | ok fl =>
    cases fl with
    | ret u =>
      obtain ⟨v, H2, os2, bare2, un2, hok2, rv, ev, q2⟩ := hq'
      subst ev
      obtain ⟨h2, g2, d2, t2, os'⟩ := s'
      have U : Un (frs X.stack) [] H1 H2 hp h2 := (Un.laid kk hsz hn).trans un2
      exact ⟨rv, .ref (hp.objs.size + 1), H2, I1.call' (ch := []) os2 U hok2 bare2 (fun b z => absurd z (by simp)), rfl, q2⟩
    | next => exact False.elim hq'
    | brk => exact False.elim hq'
    | cont => exact False.elim hq'
/-- the exception at a, made of the class at C: its dict holds these -/
def ExAt (H : Hp) (a C : Addr) (fs : List (Str × V)) : Prop := ∃ d, H a = some (exo a C (some d)) ∧ H d = some (exd d fs)
theorem ExAt.same {H H' : Hp} {a C : Addr} {fs : List (Str × V)} (h : ExAt H a C fs) (s : Same H H') : ExAt H' a C fs := by
  obtain ⟨d, h1, h2⟩ := h
  exact ⟨d, s _ _ h1, s _ _ h2⟩
end
/-! ### what an exception with its dict is asked -/
section
open PySem.W PySem.Calls
variable {prog : Program} {w : World} {A : Around} {E : Value → Shared → Prop} {s : Shared} {K : Frag} {x D : Addr} {ox od : Obj}
/-- a data descriptor of the class goes ahead of whatever the instance's dict holds -/
theorem findObj_dat {C : Addr} {name : Str} {a g : Value} {od : Option Obj} (hc : (clsIn K C).isSome = true) (ha : findIn K (.ref C) name = some (some a)) (hg : specialIn K a "__get__" = some (some g)) (ht : takesIn K a = some true) : findObj K C od name = some (.bind g a) := by
  cases e : clsIn K C with
  | none => rw [e] at hc; cases hc
  | some cd =>
    unfold findObj
    simp only [e, ha, hg, ht, Option.bind_some]
/-- x.__class__ of an exception that has a dict -/
theorem classOfEx (C : L2.ExcC K D) {Q : Option Value → Shared → Prop} (X : K.In s.heap) (I : InstAt s.heap x ox D (some od)) (h : Q (some (.ref D)) { s with toks := s.toks + 1 }) : wpAny (model prog w) A (getAttr? (.ref x) "__class__") Q E s := by
  have there : (clsIn K D).isSome = true := by
    obtain ⟨cd, e, _⟩ := any_some C.hd
    rw [e]
    rfl
  have found := findObj_dat (od := some od) there C.ha C.hn C.ht
  obtain ⟨hp, g, d, t, os⟩ := s
  have own := I.type (M := model prog w)
  have finds := looks_find (M := model prog w) X I found
  have isE : Looks (model prog w) hp (isInstance (.ref x) (.type "BaseException")) true := own.andThen (looks_subIn X C.hs)
  have other : (Value.builtin "BaseException.__getattribute__" == Value.builtin "object.__getattribute__") = false := by decide +kernel
  have off : (onTheHeap (Value.ref D) && Value.builtin "BaseException.__getattribute__" == Value.builtin "object.__getattribute__") = false := by
    rw [other]
    rfl
  unfold getAttr? getAttrBy? getAttrBy
  refine wpAny_bind (wpAny_mkText (wpAny_bind (wpAny_attempt (wpAny_holding (wpAny_bind (own.at (wpAny_bind ((looks_findIn (M := model prog w) X C.hg).at ?_))))))))
  show wpAny _ _ (if (onTheHeap (Value.ref D) && Value.builtin "BaseException.__getattribute__" == Value.builtin "object.__getattribute__") = true then _ else _) _ _ _
  rw [off, if_neg Bool.false_ne_true]
  unfold getAttrByItsOwn hookBefore
  refine wpAny_bind ?_
  rw [if_pos (show onTheHeap (Value.ref D) = true from rfl)]
  refine (looks_findIn (M := model prog w) X C.hk).at (wpAny_bind (wpAny_attempt (wpAny_holding ?_)))
  unfold callGetattribute
  rw [if_neg (by decide)]
  unfold boundAndCalled
  rw [PySem.F.excAttr_ValueError.ga.bind (.ref x)]
  refine wpAny_bind (wpAny_pure ?_)
  show wpAny _ _ (call (.builtin "BaseException.__getattribute__") [.ref x, .str "__class__" t]) _ _ _
  refine wpAny_call (codeAny_call_builtin PySem.F.excAttr_ValueError.ga.plain PySem.F.entry_bexc_ga (@check_slot (model prog w) _ _ ⟨hp, g, d, t + 1, os⟩ "BaseException.__getattribute__" "BaseException" "__getattribute__" (.ref x) [.str "__class__" t] [] _ (by decide +kernel) (by decide +kernel) isE (PySem.F.args_bexc_ga (.ref x) (.str "__class__" t)) ?_))
  unfold Builtin.«object.__getattribute__»
  refine wpAny_bind (wpAny_of_eq (a := ((Value.ref x : Value), [Value.str "__class__" t])) (by first | rfl | (simp only [slotArgs]; rfl)) ?_)
  refine wpAny_bind (wpAny_pure (wpAny_bind (own.at (wpAny_bind (finds.at ?_)))))
  show wpAny _ _ (holding [Value.builtin "object.__class__"] (call (.builtin "getset_descriptor.__get__") [.builtin "object.__class__", .ref x, .ref D]) >>= ret) _ _ _
  refine wpAny_bind (wpAny_holding (wpAny_call (class_get (s := ⟨hp, g, d, t + 1, os⟩) (ox := ox) (od := some od) X I C.hm (wpAny_pure ?_))))
  show wpAny _ _ (handedOut (.ref D)) _ _ _
  rw [handedOut_of (v := .ref D) rfl]
  first
    | exact wpAny_pure (wpAny_pure h)
    | exact wpAny_pure h
    | exact wpAny_pure (wpAny_bind (wpAny_pure (wpAny_pure h)))
theorem kit_ex (C : L2.ExcC K D) : KitX K (.ref x) (.ref D) (fun h => InstAt h x ox D (some od)) := by
  have there : ∃ (c : Value) (d' : Option Addr) (cd' : ClassData) (sl : Array (Option Value)), K.lookup D = some ⟨c, d', .cls cd', sl⟩ := by
    obtain ⟨cd, e, _⟩ := any_some C.hd
    unfold clsIn at e
    split at e
    · exact ⟨_, _, _, _, by assumption⟩
    · cases e
  obtain ⟨c, d', cd', sl, ho⟩ := there
  refine ⟨fun _ _ _ I => I.type, fun _ _ X _ => ?_, fun h tp dd its n sl' X htp => ?_, fun X I k => classOfEx C X I k⟩
  · intro A' Q' E' s' k q
    unfold isType loadHead
    exact wpAny_bind (wpAny_loadPart (k _ _ (X _ _ ho)) (wpAny_pure q))
  · refine Bool.eq_false_iff.mpr fun q => ?_
    have e : D = tp := Value.ref.inj (beq_iff_eq.mp q)
    subst e
    have z := (X _ _ ho).symm.trans htp
    cases z
end
section
variable {X : Cx}
theorem ExAt.inst {pins : List (Addr × Obj)} {σ : L2.St} {H : Hp} {s : Shared} {a C : Addr} {fs : List (Str × V)} (I : Inv X pins σ H s) (h : ExAt H a C fs) :
    ∃ (oe od : Obj) (mA : Str → Option Value), PySem.W.InstAt s.heap a oe C (some od) ∧ (∀ f, RelO (fs.lookup f) (mA f)) ∧ ∀ f, PySem.W.lookIn f od = some (mA f) := by
  obtain ⟨d, h1, h2⟩ := h
  obtain ⟨t1, ho⟩ := exo_at I.hok h1
  obtain ⟨mA, hn, r⟩ := exd_at I.hok h2
  obtain ⟨od, hd, hl⟩ := lookIn_ns hn
  exact ⟨_, od, mA, ⟨ho, rfl, rfl, hd⟩, r, hl⟩
/-- isinstance(e, c), e an exception with its dict -/
def rIsX (K : PySem.W.Frag) : List V → Hp → VK → Prop := fun xs H Q => ∃ (a C : Addr) (fs : List (Str × V)) (c : V) (cv : Value) (b : Bool), xs = [.ref a, c] ∧ ExAt H a C fs ∧ ExcC K C ∧ (∀ u, RelV c u → u = cv) ∧ PySem.W.kitOne K (.ref C) cv = some b ∧ Q (.bl b) H
theorem call_isX : CallR X (.builtin "isinstance") (rIsX X.K) := by
  rintro pins s σ H xs us Q I r ⟨a, C, fs, c, cv, b, rfl, hx, T, hcv, e, q⟩
  obtain ⟨u, u', rfl, ru, rc⟩ := vals2 r
  cases ru
  cases hcv _ rc
  obtain ⟨oe, od, mA, J, _, _⟩ := hx.inst I
  exact PySem.W.kia_one (kit_ex T) I.kIn J e (fun z => nomatch z) fun tk => ⟨.bl b, H, I.kept (t' := tk) fun _ _ z => z, rfl, q⟩
/-- e.f, e an exception with its dict -/
def tXv (K : PySem.W.Frag) (f : Str) (te : TE) : TE := fun σ H Q => te σ H fun x H1 => ∃ (a C : Addr) (fs : List (Str × V)) (v : V), x = .ref a ∧ ExAt H1 a C fs ∧ XfC K C ∧ PySem.W.findIn K (.ref C) f = some none ∧ fs.lookup f = some v ∧ Q v H1
theorem pe_xv {e : Expr} {te : TE} {pos : Pos} {n : Str} (he : PE X e te) (hb : attributeBase e n X.env (eval e X.env) = eval e X.env := by rfl) : PE X (.Attribute e n pos) (tXv X.K n te) := by
  refine ⟨fun pins s σ H Q I h => attr_of hb (thn (he.run pins s σ H _ I h) fun u s1 ⟨x, H1, I1, rx, a, C, fs, v, ex, hx, T, hno, l, q⟩ => ?_)⟩
  subst ex
  cases rx
  obtain ⟨oe, od, mA, J, hr, hl⟩ := hx.inst I1
  obtain ⟨u, hu, ru⟩ := RelO.some_of (v := v) (o := mA n) (l ▸ hr n)
  exact HandSPX.exc_get I1.kIn J T.ga T.gg T.exC (PySem.W.findObj_own T.hdC hno rfl (by rw [hl, hu])) (handed_of ru) ⟨v, H1, I1.tok _, ru, q⟩
end
end Vb

set_option Elab.async false
set_option linter.all false
set_option maxRecDepth 100000
set_option autoImplicit false
set_option maxHeartbeats 1000000
/-! Defs that are called where no repr of a container is under way: the same promises, with that said of the place. -/
namespace Vb
open PySem L2 PySem.Spec PyProof.Rows
/-- a def keeps sp wherever no container is being shown -/
structure FnG (P : Program) (w : World) (K : PySem.W.Frag) (mg : Str → Option Value) (base : Heap) (CX : CXT) (k : Nat) (f : Addr) (fd : FuncData) (ps : List Str) (sp : Sp) : Prop where
  len : ∀ vs H Q E, sp vs H Q E → vs.length = ps.length
  run : ∀ (A : Around) (outer : List Env) (s : Shared) (H : Hp) (args : Args) (us : List Value) (vs : List V) (Q : VK) (E : XK), A.guards = some [] → Room k A → Env0 P w K mg base A outer s H → BindsTo s fd args (ps.zip us) → Vals vs us → sp vs H Q E →
    codeAny (model P w) A (.call (.ref f) args) (CR CX outer P w H s Q E) s
section
variable {P : Program} {w : World} {K : PySem.W.Frag} {mg : Str → Option Value} {base : Heap} {CX : CXT} {k : Nat} {f : Addr} {fd : FuncData} {ps : List Str} {sp : Sp}
theorem FnG.of (F : FnOk P w K mg base CX k f fd ps sp) : FnG P w K mg base CX k f fd ps sp := ⟨F.len, fun A outer s H args us vs Q E _ => F.run A outer s H args us vs Q E⟩
/-- what is asked of one place alone -/
def spAt (A0 : Around) (A : Around) (sp : Sp) : Sp := fun vs H Q E => A = A0 ∧ sp vs H Q E
/-- the rule for a def: its body, told where it runs -/
theorem okG {x qual : Str} {st : Stmt} {N : List Str} (F : Fun K x qual st f fd) (S : FnScope N ps (defScope st)) (len : ∀ vs H Q E, sp vs H Q E → vs.length = ps.length)
    (body : ∀ (cdv : Value) (A : Around) (outer : List Env) (s : Shared) (H : Hp) (vs : List V) (Q : VK) (E : XK), A.guards = some [] → Room k (A.deeper (envOfC qual (defScope st) s.heap.objs.size f cdv)) → sp vs H Q E →
      ∃ t, PSs (cxOf CX0 P w K mg base N qual (defScope st) f cdv A outer s H E).nox (defBody st) t ∧ t { nx := fun _ H' => Q .non H', rt := Q } (start N vs) H) : FnG P w K mg base CX0 (k + 1) f fd ps sp := by
  obtain ⟨oc, od, kV, doc, pm, an, cdv, ct, osl, rfl, lk, hcd⟩ := F.ex
  refine ⟨len, fun A outer s H args us vs Q E hg hr e0 hb r hsp => ?_⟩
  have KX : K.In s.heap := e0.mod.kin.keeps fun b o e => (e0.bs b o e).1
  have kinds : ∀ y ∈ ps.zip us, (defScope st).names.lookup y.1 = some .local ∨ ((defScope st).names.lookup y.1 = some .cell ∧ ((cellsFrom (s.heap.objs.size + 1) (defScope st).names []).lookup y.1).isSome = true) := by
    rintro ⟨n, v⟩ hy
    exact (S.par n (List.of_mem_zip hy).1).imp (fun q => q) fun q => ⟨q, PySem.W.cellsFrom_some _ _ _ (.inl q)⟩
  refine codeAny_call_function hr.depth (KX _ _ lk) rfl S.co S.gen rfl (PySem.W.codeRec_of KX hcd) (hb _ _ _ _ (wpAny_newFunctionEnv_cells S.kind kinds fun env he s1 x => ?_))
  subst he
  refine ⟨(e0.mod.nolimit.keeps fun b o e => (e0.bs b o e).1).keeps x.toInCall.keep, codeAny_func ?_⟩
  obtain ⟨t, ht, hq⟩ := body cdv A outer s H vs Q E hg (hr.deeper _) hsp
  refine wpAny_mono (ht.nox.run [] s1 (start N vs) H _ (inv_start S hr.hd e0 (len _ _ _ _ hsp) r x) hq) (fun fl s' hs => ?_) fun e s' hs => hs
  cases fl with
  | ret u => obtain ⟨v, σ', H', J, rv, q⟩ := hs; exact ⟨v, H', J.os, J.bare, J.base, J.hok, rv, q⟩
  | next => obtain ⟨σ', H', J, q⟩ := hs; exact ⟨.non, H', J.os, J.bare, J.base, J.hok, rfl, q⟩
  | brk => obtain ⟨_, _, _, q⟩ := hs; exact q.elim
  | cont => obtain ⟨_, _, _, q⟩ := hs; exact q.elim
end
/-- a def that may be called by its name where no container is being shown -/
structure CalG (P : Program) (w : World) (K : PySem.W.Frag) (mg : Str → Option Value) (base : Heap) (k : Nat) (x : Str) (sp : Sp) : Prop where
  ex : ∃ (f : Addr) (fd : FuncData) (ps : List Str), FnG P w K mg base CX0 k f fd ps sp ∧ mg x = some (.ref f) ∧ PySem.W.keepIn K (.ref f) = true ∧ Binds K fd ps []
section
variable {P : Program} {w : World} {K : PySem.W.Frag} {mg : Str → Option Value} {base : Heap} {k : Nat} {x : Str} {sp : Sp}
theorem Cal.g (c : Cal P w K mg base k x sp) : CalG P w K mg base k x sp := by
  obtain ⟨f, fd, ps, F, r⟩ := c.ex
  exact ⟨f, fd, ps, .of F, r⟩
theorem Df.calG {st : Stmt} (ps : List Str) (D : Df K mg x st) (ok : ∀ f fd, Fun K x x st f fd → FnG P w K mg base CX0 k f fd ps sp)
    (b : ∀ (kV doc pm : Value) (an : Option Addr) (cdv ct : Value) (us : List Value), us.length = ps.length → bindArgs (PySem.W.fnOf x x (defArgs st) (defBody st) (defScope st) .none kV doc pm an cdv ct) ⟨us, []⟩ = pure (ps.zip us)) : CalG P w K mg base k x sp := by
  obtain ⟨f, fd, F, m⟩ := D.ex
  exact ⟨f, fd, ps, ok f fd F, m, F.kp, F.binds b⟩
end
section
variable {X : Cx} {x : Str} {e : Expr} {es : List Expr} {p pos : Pos} {k j : Nat} {sp : Sp} {t : TA}
theorem pe_g (g : X.A.guards = some []) (c : CalG X.prog X.w X.K X.mg X.base k x sp) (hr : Room j X.A) (hk : k ≤ j) (hg : Gl X x) (ha : PA X (e :: es) t)
    (hdb : (x == ("__debug__" : Str)) = false := by decide) (he : starEach (e :: es) X.env = (false, eval e X.env) :: starEach es X.env := by rfl) (hpl : (backTo pos (starEach es X.env)).any (·.1) = false := by rfl) :
    PE X (.Call (.Name x p) (e :: es) [] pos) (tCal sp t) := by
  obtain ⟨f, fd, ps, F, hm, kp, b⟩ := c.ex
  refine ⟨fun pins s σ H Q I h => wpAny_Call_Name_kw (ld_glob I hg hm (PySem.W.callWith_K (h₀ := X.base) I.ok.mod.kin kp (thn (ha.run pos pins s σ H _ I h) fun us s1 ⟨vs, H1, I1, r, q⟩ => ⟨I1.kIn, ?_⟩) he hpl) hdb)⟩
  have hl : us.length = ps.length := r.length.symm.trans (F.len _ _ _ _ q)
  have hb := b s1 us I1.kIn (by simpa using hl)
  rw [List.append_nil] at hb
  refine wpAny_call (codeAny_mono (F.run X.A X.stack s1 H1 ⟨us, []⟩ us vs Q E0 g (hr.mono hk) I1.env0 hb r q) fun r s' hq => ?_)
  match r, hq with
  | .error e, hq => exact False.elim hq
  | .ok (.ret u), hq => exact I1.after hq
  | .ok .next, hq => exact False.elim hq
  | .ok .brk, hq => exact False.elim hq
  | .ok .cont, hq => exact False.elim hq
end
/-! ### the law's own call -/
section
variable {P : Program} {w : World} {K : PySem.W.Frag} {mg mb : Str → Option Value} {k : Nat} {fa a : Addr} {fd : FuncData} {x : Str} {sp : Sp} {s₁ : Shared} {vs : List Value} {ns : List Int}
/-- what is tracked when the law is called: the script, unless the written part has it -/
def scriptH (K : PySem.W.Frag) (a : Addr) (vs : List Value) (ns : List Int) : Hp := fun b => if b = a ∧ K.lookup a = Option.none then some (.frz { cls := .type "list", data := .seq vs.toArray } (.lst (ns.map V.int))) else Option.none
theorem scriptH_some {K : PySem.W.Frag} {a b : Addr} {vs : List Value} {ns : List Int} {u : HO} (h : scriptH K a vs ns b = some u) : b = a ∧ K.lookup a = Option.none ∧ u = .frz { cls := .type "list", data := .seq vs.toArray } (.lst (ns.map V.int)) := by
  unfold scriptH at h
  split at h
  · rename_i c
    exact ⟨c.1, c.2, (Option.some.inj h).symm⟩
  · cases h
theorem law_callG (KX : K.In s₁.heap) (hns : s₁.heap.Ns mainGlobals mg) (hb : s₁.heap.Ns builtinsNs mb) (hbb : ∀ x : Str, x ≠ "__name__" → mb x = bootBuiltins x) (hlim : s₁.heap.NoLimit) (hg : s₁.gens = #[])
    (ha : s₁.heap.get? a = some { cls := .type "list", data := .seq vs.toArray }) (hi : IntsAre vs ns) (hl : ns.length ≤ sizeLine) (hr : Room k callerA)
    (F : ∀ base : Heap, K.In base → base.Ns mainGlobals mg → FnG P w K mg base CX0 k fa fd [x] sp) (hbind : ∀ (s : Shared) (u : Value), BindsTo s fd ⟨[u], []⟩ [(x, u)])
    (hsp : ∀ H : Hp, SqL K H a (ns.map V.int) → sp [.ref a] H (fun v _ => v = .bl true) fun _ _ _ => False) :
    codeAny (model P w) callerA (.call (.ref fa) ⟨[.ref a], []⟩) (fun r s' => r = .ok (.ret (.bool true)) ∧ OldK s₁.heap s'.heap ∧ s'.os = s₁.os ∧ AllBare s'.gens) s₁ := by
  have rv := vals_ints hi
  have hlv : (ns.map V.int).length ≤ sizeLine := by rw [List.length_map]; exact hl
  generalize hH : scriptH K a vs ns = H
  have at_ : ∀ {b : Addr} {u : HO}, H b = some u → b = a ∧ K.lookup a = Option.none ∧ u = .frz { cls := .type "list", data := .seq vs.toArray } (.lst (ns.map V.int)) := fun h => scriptH_some (by rw [hH]; exact h)
  have hok : HOk P w H s₁.heap := fun b u e => by
    obtain ⟨rfl, _, rfl⟩ := at_ e
    exact ⟨ha, hlv, vs, _, rv, ha⟩
  have hS : SqL K H a (ns.map V.int) := by
    cases hk : K.lookup a with
    | none => exact .inl (.inr ⟨_, by rw [← hH]; exact if_pos ⟨rfl, hk⟩⟩)
    | some o =>
      have e := KX a o hk
      rw [ha] at e
      cases e
      exact .inr ⟨_, vs.toArray, _, hk, rfl, rfl, rfl, by rw [List.size_toArray, hi.length]; exact hl, by simpa using rv⟩
  -- an object that is not the script's is in the hidden heap, too
  have keeps : ∀ {b : Addr} {o : Obj}, s₁.heap.get? b = some o → (b = a → K.lookup a ≠ Option.none ∨ ∃ es ep, o.data = .dict es ep) → (hidT s₁.heap H).get? b = some o := fun {b o} e c => hidT_get e (by
    cases q : H b with
    | none => rfl
    | some u =>
      obtain ⟨rfl, hk, _⟩ := at_ q
      rcases c rfl with c | ⟨es, ep, c⟩
      · exact absurd hk c
      · rw [ha] at e
        cases e
        cases c)
  have nsK : ∀ {b : Addr} {m : Str → Option Value}, s₁.heap.Ns b m → (hidT s₁.heap H).Ns b m := by
    rintro b m ⟨o, es, ep, e, d, r⟩
    exact ⟨o, es, ep, keeps e fun _ => .inr ⟨es, ep, d⟩, d, r⟩
  have hKb : K.In (hidT s₁.heap H) := fun b o e => keeps (KX b o e) fun q => .inl (by rw [← q, e]; exact fun z => nomatch z)
  obtain ⟨mc, l1, l2⟩ := hlim
  have e0 : Env0 P w K mg (hidT s₁.heap H) callerA [] s₁ H := ⟨rfl, ⟨hKb, nsK hns, ⟨mb, nsK hb, hbb⟩, mc, nsK l1, l2⟩, fun b o e => of_hidT e, Nat.le_of_eq (hidT_size _ _), trivial, fun b hb => (nomatch hb), hok, .of_eq hg⟩
  refine codeAny_mono ((F _ hKb (nsK hns)).run callerA [] s₁ H ⟨[.ref a], []⟩ [.ref a] [.ref a] _ _ rfl hr e0 (hbind s₁ (.ref a)) (.cons rfl .nil) (hsp H hS)) fun r s' h => ?_
  match r, h with
  | .error e, h => exact False.elim h
  | .ok .next, h => exact False.elim h
  | .ok .brk, h => exact False.elim h
  | .ok .cont, h => exact False.elim h
  | .ok (.ret u), ⟨v, H', os, bare, un, hok', r', q⟩ =>
    cases (show v = .bl true from q)
    cases (show u = Value.bool true from r')
    refine ⟨rfl, OldK.of_keep fun b o e => ?_, os, bare⟩
    cases q : H b with
    | none => exact un.keep b o e q (fun z => nomatch z) (fun z => nomatch z)
    | some u =>
      obtain ⟨rfl, hk, rfl⟩ := at_ q
      rw [ha] at e
      cases e
      exact (hok' b _ (un.frzs b _ _ q)).1
end
theorem walkG {l : PySem.W.OpenLaw} {n k : Nat} {q : Program} {loose : List Str} {XP : (Str → Option Value) → Heap → Prop} {YP : World → Heap → Prop} {d : DefRec} {K : Params → PySem.W.Frag} {sp : World → Sp} {x : Str}
    (hn : l.most = some n) (hn2 : n ≤ sizeLine) (hdf : d.params.defaults = []) (hr : Room k callerA) (hY : ∀ (w : World) (h : Heap), YP w h → (K w.params).In h)
    (F : ∀ (w : World) (mg : Str → Option Value) (fa : Addr) (h : Heap), (K w.params).In h → h.Ns mainGlobals mg → mg d.name = some (.ref fa) →
      ∃ fd : FuncData, (∀ (s : Shared) (u : Value), BindsTo s fd ⟨[u], []⟩ [(x, u)]) ∧ ∀ base : Heap, (K w.params).In base → base.Ns mainGlobals mg → FnG l.prog w (K w.params) mg base CX0 k fa fd [x] (sp w))
    (hsp : ∀ (w : World) (H : Hp) (a : Addr) (ns : List Int), ns.length ≤ n → SqL (K w.params) H a (ns.map V.int) → sp w [.ref a] H (fun v _ => v = .bl true) fun _ _ _ => False) :
    PySem.W.WalkO q loose XP YP l.row.toRowW d [] (fun f vs => PySem.call f vs) := by
  refine Att.attach_call hn hdf fun w s₀ s₁ mg mb fa o pm cd doc a vs ns G Y ho hd hcd hmg hobj hints hlen hg => ?_
  obtain ⟨fd, hb, hF⟩ := F w mg fa _ (hY w _ Y) G.T.g hmg
  exact law_callG (hY w _ Y) G.T.g G.T.b G.T.builtins G.T.nolimit hg hobj hints (Nat.le_trans hlen hn2) hr hF hb fun H hS => hsp w H a ns hlen hS
end Vb

set_option Elab.async false
set_option linter.all false
set_option maxRecDepth 100000
set_option autoImplicit false
set_option maxHeartbeats 1000000
/-! repr of data. -/
namespace Vb
open PySem L2 PySem.Spec PyProof.Rows
/-- a key's datum; a scalar's -/
def kD : Key → PyData
  | .inl i => .int i
  | .inr x => .str x
def sD : V → Option PyData
  | .non => some .none
  | .bl b => some (.bool b)
  | .int i => some (.int i)
  | .str x => some (.str x)
  | _ => none
theorem sD_reads {v : V} {d : PyData} {u : Value} {h : Heap} (e : sD v = some d) (r : RelV v u) : Reads h u d [] := by
  cases v with
  | non => cases e; cases r; exact .none
  | bl b => cases e; cases r; exact .bool b
  | int i => cases e; obtain ⟨t, rfl⟩ := r; exact .int i t
  | str x => cases e; obtain ⟨t, rfl⟩ := r; exact .str x t
  | _ => cases e
theorem kD_reads {k : Key} {u : Value} {h : Heap} (r : keyIs k u = true) : Reads h u (kD k) [] := by
  rcases keyIs_shape r with ⟨i, t, rfl, rfl⟩ | ⟨x, t, rfl, rfl⟩
  · exact .int i t
  · exact .str x t
/-- what a value in the heap H is worth: data without dicts, or a dict of scalars -/
def Dd (K : PySem.W.Frag) (H : Hp) (v : V) (d : PyData) : Prop := (Dp K H v d ∧ d.hasDict = false) ∨
  ∃ (a : Addr) (kvs : List (Key × V)) (ds : List PyData), v = .ref a ∧ H a = some (.dK kvs) ∧ kvs.map (fun p => sD p.2) = ds.map some ∧ d = .dict ((kvs.map fun p => kD p.1).zip ds)
section
variable {P : Program} {w : World}
theorem dict_reads {h : Heap} : ∀ {kvs : List (Key × V)} {vs : List (Key × Value)} {es : List DictEntry} {ds : List PyData}, KV kvs vs → Pairs (mixKind P w) es vs → kvs.map (fun p => sD p.2) = ds.map some →
    ReadsAll h (es.map (·.key)) (kvs.map fun p => kD p.1) [] ∧ ReadsAll h (es.map (·.val)) ds [] ∧ kvs.length = ds.length
  | [], _, _, ds, .nil, pr, e => by
    cases pr
    cases ds with
    | nil => exact ⟨.nil, .nil, rfl⟩
    | cons _ _ => cases e
  | p :: kvs, q :: vs, _, ds, .cons r rs, pr, e => by
    cases pr with
    | cons hk hv ps =>
      cases ds with
      | nil => cases e
      | cons d ds =>
        rw [List.map_cons, List.map_cons] at e
        injection e with e1 e2
        obtain ⟨i1, i2, i3⟩ := dict_reads (h := h) rs ps e2
        rw [mixKind_is, ← r.1] at hk
        refine ⟨?_, ?_, by simp [i3]⟩
        · exact ReadsAll.cons (as := []) (bs := []) (kD_reads hk) i1
        · refine ReadsAll.cons (as := []) (bs := []) ?_ i2
          have t := sD_reads (h := h) e1 r.2
          rw [← hv] at t
          exact t
end
section
variable {X : Cx}
theorem Dd.reads {pins : List (Addr × Obj)} {σ : L2.St} {H : Hp} {s : Shared} {v : V} {d : PyData} {u : Value} (I : Inv X pins σ H s) (h : Dd X.K H v d) (r : RelV v u) :
    ∃ as, Reads s.heap u d as ∧ (d.hasDict = true → sysModules ∉ as) := by
  rcases h with ⟨h, n⟩ | ⟨a, kvs, ds, rfl, h, e, rfl⟩
  · obtain ⟨as, q⟩ := Dp.reads I d v u h r
    exact ⟨as, q, PyData.noDict_hsm n⟩
  · cases r
    obtain ⟨_, ns, vs, rv, o, es, ep, ho, hx, hd, _, pr, _⟩ := I.hok a _ h
    obtain ⟨i1, i2, i3⟩ := dict_reads (h := s.heap) rv pr e
    have z1 : (((kvs.map fun p => kD p.1).zip ds).map (·.1)) = kvs.map fun p => kD p.1 := List.map_fst_zip (by simp [i3])
    have z2 : (((kvs.map fun p => kD p.1).zip ds).map (·.2)) = ds := List.map_snd_zip (by simp [i3])
    refine ⟨_, Reads.dict (as := []) (bs := []) ho hx.1 hd ?_ ?_, fun _ hm => ?_⟩
    · rw [z1]; exact i1
    · rw [z2]; exact i2
    · have : sysModules = a := by simpa using hm
      rw [this] at ns
      simp at ns
/-- repr(x) -/
def rRepr (K : PySem.W.Frag) : List V → Hp → VK → Prop := fun xs H Q => ∃ (v : V) (d : PyData), xs = [v] ∧ Dd K H v d ∧ d.showable = true ∧ d.shown.length ≤ sizeLine ∧ d.depth ≤ 60 ∧ Q (.str d.shown) H
theorem call_repr (g : X.A.guards = some []) (hu : X.A.units + 64 < cLine) : CallR X (.builtin "repr") (rRepr X.K) := by
  rintro pins s σ H xs us Q I r ⟨v, d, rfl, hd, h1, h2, h3, q⟩
  obtain ⟨u, rfl, ru⟩ := vals1 r
  have fin : ∀ h' t tk, (∀ b o, s.heap.get? b = some o → h'.get? b = some o) → EP X pins σ Q (.str d.shown t) { s with heap := h', toks := tk } := fun h' t tk k => ⟨.str d.shown, H, I.kept (t' := tk) k, ⟨t, rfl⟩, q⟩
  cases v with
  | non =>
    cases ru
    rcases hd with ⟨hd, _⟩ | ⟨a, kvs, ds, e, _⟩
    · cases hd
      exact PySem.P.repr_of_none (fin _ _ _ fun _ _ z => z)
    · cases e
  | bl b =>
    cases ru
    rcases hd with ⟨hd, _⟩ | ⟨a, kvs, ds, e, _⟩
    · cases hd
      exact PySem.P.repr_of_bool (fin _ _ _ fun _ _ z => z)
    · cases e
  | int i =>
    obtain ⟨t, rfl⟩ := ru
    rcases hd with ⟨hd, _⟩ | ⟨a, kvs, ds, e, _⟩
    · cases hd
      exact PySem.P.repr_of_int (by simpa [PyData.showable] using h1) (fin _ _ _ fun _ _ z => z)
    · cases e
  | str x =>
    obtain ⟨t, rfl⟩ := ru
    rcases hd with ⟨hd, _⟩ | ⟨a, kvs, ds, e, _⟩
    · cases hd
      exact PySem.P.repr_of_str (fin _ _ _ fun _ _ z => z) h2
    · cases e
  | ref a =>
    obtain ⟨as, rd, hs⟩ := hd.reads I ru
    cases ru
    exact repr_of_reads' rd h1 hs g (by omega) (fun _ _ z => z) (fun h' t tk k => fin h' t tk k) h2
  | byt b =>
    rcases hd with ⟨hd, _⟩ | ⟨a, kvs, ds, e, _⟩
    · cases hd
    · cases e
  | flt b =>
    rcases hd with ⟨hd, _⟩ | ⟨a, kvs, ds, e, _⟩
    · cases hd
    · cases e
  | ty n =>
    rcases hd with ⟨hd, _⟩ | ⟨a, kvs, ds, e, _⟩
    · cases hd
    · cases e
end
end Vb

set_option Elab.async false
set_option linter.all false
set_option maxRecDepth 100000
set_option autoImplicit false
set_option maxHeartbeats 1000000
/-! The package's errors: their one __init__, made as values, told by isinstance. -/
namespace Vb
open PySem L2 PySem.Spec PyProof.Rows
/-- the only __init__: self.value = value -/
def spEInit (K : PySem.W.Frag) : Sp := fun vs H Q _ => ∃ (a C : Addr) (v : V), vs = [.ref a, v] ∧ OexC K C ∧ PySem.W.findIn K (.ref C) "value" = some none ∧ H a = some (exo a C none) ∧
  ∀ dx, H dx = none → dx ≠ a → Q .non (upd (upd H dx (exd dx [("value", v)])) a (exo a C (some dx)))
/-- what the written part says of an error's class -/
structure ErrC (K : PySem.W.Frag) (fI C : Addr) : Prop where
  ox : OexC K C
  init : PySem.W.findIn K (.ref C) "__init__" = some (some (.ref fI))
  xf : XfC K C
  ex : ExcC K C
  nv : PySem.W.findIn K (.ref C) "value" = some none
section
variable {P : Program} {w : World} {K : PySem.W.Frag} {mg : Str → Option Value} {base : Heap}
/-- what the written part says of the __init__ -/
structure InitE (P : Program) (w : World) (K : PySem.W.Frag) (mg : Str → Option Value) (base : Heap) (fI : Addr) : Prop where
  ex : ∃ fd : FuncData, FnOk P w K mg base CX0 1 fI fd ["self", "value"] (spEInit K) ∧ Binds K fd ["self", "value"] [] ∧ PySem.W.typeIn K (.ref fI) = some (.type "function")
end
section
variable {X : Cx} {x : Str} {e : Expr} {te : TE} {p pos : Pos} {C fI : Addr} {k : Nat}
/-- X(e): an error that keeps e's value -/
def tErr (C : Addr) (te : TE) : TE := fun σ H Q => te σ H fun v H1 => ∀ (a : Addr) (G : Hp), H1 a = none → Same H1 G → ExAt G a C [("value", v)] → Q (.ref a) G
/-- what is asked may be said more strongly -/
def tWk (te : TE) : TE := fun σ H Q => ∃ Q1 : VK, te σ H Q1 ∧ ∀ v H', Q1 v H' → Q v H'
theorem pe_wk (he : PE X e te) : PE X e (tWk te) := ⟨fun pins s σ H Q I ⟨Q1, h, f⟩ => wpAny_mono (he.run pins s σ H Q1 I h) (fun _ _ ⟨v, H', J, r, q⟩ => ⟨v, H', J, r, f v H' q⟩) fun _ _ y => y⟩
theorem pe_err (T : ErrC X.K fI C) (GI : InitE X.prog X.w X.K X.mg X.base fI) (hr : Room k X.A) (hk : 2 ≤ k) (hg : Gl X x) (hm : X.mg x = some (.ref C)) (he : PE X e te)
    (hdb : (x == ("__debug__" : Str)) = false := by decide) (hs : starEach [e] X.env = (false, eval e X.env) :: starEach [] X.env := by rfl) (hl : (backTo pos (starEach [] X.env)).any (·.1) = false := by rfl) : PE X (.Call (.Name x p) [e] [] pos) (tErr C te) := by
  obtain ⟨fd, F, b, tI⟩ := GI.ex
  have h := pe_oexV (p := p) (pos := pos) T.ox T.init tI F (hr.mono hk) b pass0 hg hm (pa_cons (pe_wk he) pa_nil hs) hdb hs hl
  refine ⟨fun pins s σ H Q I z => h.run pins s σ H Q I ⟨_, z, fun v H1 q => ⟨by show 1 ≤ 1000; decide, fun a n => ⟨a, C, v, rfl, T.ox, T.nv, upd_same, fun d m ne => ⟨rfl, ?_⟩⟩⟩⟩⟩
  have m0 : H1 d = none := by rwa [upd_ne ne] at m
  refine q a _ n (fun b o e => ?_) ⟨d, upd_same, by rw [upd_ne ne, upd_same]⟩
  rw [upd_ne (ne_of_none e n), upd_ne (ne_of_none e m0), upd_ne (ne_of_none e n)]
  exact e
/-- a row of them, all of the name in slot 0 -/
def tErrs (C : Nat → Addr) (off n : Nat) : TA := fun σ H Q => ∃ v : V, σ[0]? = some (some v) ∧ ∀ (es : List Addr) (G : Hp), es.length = n → Same H G → (∀ (i : Nat) (e : Addr), es[i]? = some e → ExAt G e (C (off + i)) [("value", v)]) → Q (es.map V.ref) G
theorem pa_imp {es : List Expr} {t t' : TA} (h : ∀ σ H Q, t' σ H Q → t σ H Q) (ha : PA X es t) : PA X es t' := ⟨fun pos pins s σ H Q I z => ha.run pos pins s σ H Q I (h _ _ _ z)⟩
theorem pa_errs0 {C : Nat → Addr} {off : Nat} : PA X [] (tErrs C off 0) := pa_imp (fun σ H Q ⟨v, _, q⟩ => q [] H rfl (.refl _) fun i e h => by simp at h) pa_nil
theorem pa_errs {C : Nat → Addr} {off n : Nat} {es : List Expr} (he : PE X e (tErr (C off) (tVar 0))) (ha : PA X es (tErrs C (off + 1) n)) (hs : starEach (e :: es) X.env = (false, eval e X.env) :: starEach es X.env := by rfl) : PA X (e :: es) (tErrs C off (n + 1)) := by
  refine pa_imp (fun σ H Q ⟨v, h0, q⟩ => ?_) (pa_cons he ha hs)
  refine ⟨v, h0, fun a G na s1 x1 => ⟨v, h0, fun es G2 hl s2 h2 => ?_⟩⟩
  refine q (a :: es) G2 (by simp [hl]) (s1.trans s2) fun i e hi => ?_
  cases i with
  | zero =>
    cases Option.some.inj (show some a = some e from hi)
    exact x1.same s2
  | succ i =>
    have := h2 i e hi
    rwa [show off + (i + 1) = off + 1 + i by omega]
/-- the answers: is D this class? -/
def fK (C : Nat → Addr) (D : Addr) (off n : Nat) : List V := (List.range n).map fun j => V.bl (decide (D = C (off + j)))
theorem fK_len {C : Nat → Addr} {D : Addr} {off n : Nat} : (fK C D off n).length = n := by
  unfold fK
  rw [List.length_map, List.length_range]
theorem fK_app {C : Nat → Addr} {D : Addr} {off a b : Nat} : fK C D off a ++ fK C D (off + a) b = fK C D off (a + b) := by
  unfold fK
  rw [List.range_add, List.map_append, List.map_map]
  refine congrArg (fun z => _ ++ z) (List.map_congr_left fun j _ => ?_)
  show V.bl (decide (D = C (off + a + j))) = V.bl (decide (D = C (off + (a + j))))
  rw [Nat.add_assoc]
/-- a row of questions: is the error in slot 0 of this class? -/
def tKinds (K : PySem.W.Frag) (C : Nat → Addr) (off n : Nat) : TA := fun σ H Q => ∃ (a D : Addr) (fs : List (Str × V)), σ[0]? = some (some (.ref a)) ∧ ExAt H a D fs ∧ ExcC K D ∧ (∀ j, j < n → PySem.W.kitOne K (.ref D) (.ref (C (off + j))) = some (decide (D = C (off + j)))) ∧
  Q (fK C D off n) H
theorem pa_kinds0 {C : Nat → Addr} {off : Nat} : PA X [] (tKinds X.K C off 0) := pa_imp (fun σ H Q ⟨a, D, fs, _, _, _, _, q⟩ => q) pa_nil
theorem pa_kinds {C : Nat → Addr} {off n : Nat} {es : List Expr} (he : PE X e (tCB (rIsX X.K) (tCons (tVar 0) (tCons (tC (.ref (C off))) tNil)))) (ha : PA X es (tKinds X.K C (off + 1) n))
    (hs : starEach (e :: es) X.env = (false, eval e X.env) :: starEach es X.env := by rfl) : PA X (e :: es) (tKinds X.K C off (n + 1)) := by
  refine pa_imp (fun σ H Q ⟨a, D, fs, h0, hx, hD, hk, q⟩ => ?_) (pa_cons he ha hs)
  refine ⟨_, h0, a, D, fs, _, _, _, rfl, hx, hD, (fun _ r => r), hk 0 (Nat.succ_pos _), a, D, fs, h0, hx, hD, fun j hj => ?_, ?_⟩
  · have := hk (j + 1) (by omega)
    rwa [show off + (j + 1) = off + 1 + j by omega] at this
  · unfold fK at q
    rw [List.range_succ_eq_map, List.map_cons, List.map_map] at q
    have e1 : ((fun j => V.bl (decide (D = C (off + j)))) ∘ Nat.succ) = fun j => V.bl (decide (D = C (off + 1 + j))) := funext fun j => by
      show V.bl (decide (D = C (off + (j + 1)))) = _
      rw [show off + (j + 1) = off + 1 + j by omega]
    rw [e1] at q
    exact q
end
end Vb

set_option Elab.async false
set_option linter.all false
set_option maxRecDepth 100000
set_option autoImplicit false
set_option maxHeartbeats 1000000
/-! More operators and methods. -/
namespace Vb
open PySem L2 PySem.Spec PyProof.Rows
section
variable {X : Cx}
theorem dp_bools {K : PySem.W.Frag} {H : Hp} : ∀ bs : List Bool, DpAll K H (bs.map V.bl) (bs.map PyData.bool)
  | [] => .nil
  | b :: bs => .cons (.bl b) (dp_bools bs)
theorem bools_has : ∀ bs : List Bool, (bs.map PyData.bool).all Shape.bool.has = true
  | [] => rfl
  | b :: bs => by
    rw [List.map_cons, List.all_cons, bools_has bs]
    rfl
theorem count_bools (k : Bool) : ∀ bs : List Bool, countIn (.bool k) (bs.map PyData.bool) = ((bs.count k : Nat) : Int)
  | [] => rfl
  | b :: bs => by
    rw [List.map_cons, countIn, count_bools k bs, List.count_cons]
    cases b <;> cases k <;> simp [PySem.Spec.same, same] <;> omega
/-- l.count(b), l a list of bools -/
def rCntB (K : PySem.W.Frag) : V → List V → Hp → VK → Prop := fun x xs H Q => ∃ (p : Addr) (bs : List Bool) (b : Bool), x = .ref p ∧ xs = [.bl b] ∧ SqL K H p (bs.map V.bl) ∧ Q (.int (bs.count b : Nat)) H
theorem mt_countB : MtR X "list.count" (rCntB X.K) := by
  rintro pins s σ H x xs v us Q I rx rxs ⟨p, bs, b, rfl, rfl, hs, q⟩
  cases rx
  obtain ⟨u, rfl, ru⟩ := rxs.one
  cases ru
  obtain ⟨its, rv, pl, _⟩ := I.list hs
  obtain ⟨as, rd⟩ := Dp.readsAll I _ _ its (dp_bools bs) rv
  refine count_list_bools pl.isList rd (bools_has bs) ?_
  rw [count_bools]
  exact ⟨.int (bs.count b : Nat), H, I.tok _, ⟨_, rfl⟩, q⟩
/-- x != y: scalars, data without dicts, two dicts of scalars that are alike -/
def rNeA (K : PySem.W.Frag) : R2 := fun x y H Q => rNe x y H Q ∨ rNeD K x y H Q ∨ rNeDA x y H Q
theorem op_neA (hu : X.A.units + 64 < cLine) : OpR X (compareOp .NotEq) (rNeA X.K) := by
  rintro pins s σ H x y v u Q I rx ry (h | h | h)
  · exact op_ne pins s σ H x y v u Q I rx ry h
  · exact op_neD hu pins s σ H x y v u Q I rx ry h
  · exact op_ne_dictA (by omega) pins s σ H x y v u Q I rx ry h
end
theorem same_seqT {K : PySem.W.Frag} {H H' : Hp} {a : Addr} {xs : List V} (e : Same H H') (h : SqT K H a xs) : SqT K H' a xs := by
  rcases h with (h | ⟨o, h⟩) | h
  · exact .inl (.inl (e _ _ h))
  · exact .inl (.inr ⟨o, e _ _ h⟩)
  · exact .inr h
mutual
theorem dp_same {K : PySem.W.Frag} {H H' : Hp} (e : Same H H') : ∀ {v : V} {d : PyData}, Dp K H v d → Dp K H' v d
  | _, _, .non => .non
  | _, _, .bl b => .bl b
  | _, _, .int i => .int i
  | _, _, .str x => .str x
  | _, _, .lst h a => .lst (e.seq h) (dps_same e a)
  | _, _, .tup h a => .tup (same_seqT e h) (dps_same e a)
theorem dps_same {K : PySem.W.Frag} {H H' : Hp} (e : Same H H') : ∀ {vs : List V} {ds : List PyData}, DpAll K H vs ds → DpAll K H' vs ds
  | _, _, .nil => .nil
  | _, _, .cons h a => .cons (dp_same e h) (dps_same e a)
end
theorem dd_same {K : PySem.W.Frag} {H H' : Hp} {v : V} {d : PyData} (e : Same H H') (h : Dd K H v d) : Dd K H' v d := by
  rcases h with ⟨h, n⟩ | ⟨a, kvs, ds, h1, h2, h3, h4⟩
  · exact .inl ⟨dp_same e h, n⟩
  · exact .inr ⟨a, kvs, ds, h1, e _ _ h2, h3, h4⟩
/-- a value of few signs: it can be shown, and is not unlike itself -/
structure Fine (K : PySem.W.Frag) (H : Hp) (v : V) : Prop where
  ex : ∃ d : PyData, Dd K H v d ∧ d.showable = true ∧ d.shown.length ≤ sizeLine ∧ d.depth ≤ 60
  ne : (scal v v = true) ∨ (∃ d, Dp K H v d ∧ SeqAt.shaped d = true) ∨ ∃ a ks, v = .ref a ∧ H a = some (.dK ks) ∧ ∀ p ∈ ks, valV ks p.1 = some p.2 ∧ flatB p.2 = true
theorem Fine.same {K : PySem.W.Frag} {H H' : Hp} {v : V} (f : Fine K H v) (e : Same H H') : Fine K H' v := by
  obtain ⟨⟨d, h1, h2⟩, n⟩ := f
  refine ⟨⟨d, dd_same e h1, h2⟩, ?_⟩
  rcases n with n | ⟨d, n, s⟩ | ⟨a, ks, n1, n2, n3⟩
  · exact .inl n
  · exact .inr (.inl ⟨d, dp_same e n, s⟩)
  · exact .inr (.inr ⟨a, ks, n1, e _ _ n2, n3⟩)
theorem Fine.neQ {K : PySem.W.Frag} {H : Hp} {v : V} (f : Fine K H v) {Q : VK} (q : Q (.bl false) H) : rNeA K v v H Q := by
  rcases f.ne with n | ⟨d, n, s⟩ | ⟨a, ks, rfl, n2, n3⟩
  · refine .inl ⟨n, ?_⟩
    rw [decide_eq_true rfl]
    exact q
  · refine .inr (.inl ⟨d, d, n, n, s, s, ?_⟩)
    rw [SeqAt.eqv_refl d (SeqAt.canLay_of_shaped s)]
    exact q
  · exact .inr (.inr ⟨a, a, ks, ks, rfl, rfl, n2, n2, rfl, n3, q⟩)
/-- data by its datum -/
theorem Fine.dp {K : PySem.W.Frag} {H : Hp} {v : V} {d : PyData} (h : Dp K H v d) (h1 : d.hasDict = false) (h2 : d.showable = true) (h3 : d.shown.length ≤ sizeLine) (h4 : d.depth ≤ 60) (h5 : SeqAt.shaped d = true) : Fine K H v :=
  ⟨⟨d, .inl ⟨h, h1⟩, h2, h3, h4⟩, .inr (.inl ⟨d, h, h5⟩)⟩
end Vb

set_option Elab.async false
set_option linter.all false
set_option maxRecDepth 100000
set_option autoImplicit false
set_option maxHeartbeats 1000000
/-! Written data: displays of constants. -/
namespace Vb
open PySem L2 PySem.Spec PyProof.Rows
section
variable {X : Cx} {e : Expr} {es : List Expr} {pos : Pos} {te : TE} {ta : TA}
theorem pe_imp {t t' : TE} (h : ∀ σ H Q, t' σ H Q → t σ H Q) (he : PE X e t) : PE X e t' := ⟨fun pins s σ H Q I z => he.run pins s σ H Q I (h _ _ _ z)⟩
def tWkA (ta : TA) : TA := fun σ H Q => ∃ Q1 : List V → Hp → Prop, ta σ H Q1 ∧ ∀ v H', Q1 v H' → Q v H'
theorem pa_wk (ha : PA X es ta) : PA X es (tWkA ta) := ⟨fun pos pins s σ H Q I ⟨Q1, h, f⟩ => wpAny_mono (ha.run pos pins s σ H Q1 I h) (fun us s' q => by
  obtain ⟨xs, H', J, r, q⟩ := q
  exact ⟨xs, H', J, r, f _ _ q⟩) fun _ _ y => y⟩
/-- the heap without what stands at p -/
def hide (p : Addr) (H : Hp) : Hp := fun b => if b = p then none else H b
theorem hide_ne {p b : Addr} {H : Hp} (h : b ≠ p) : hide p H b = H b := if_neg h
theorem hide_same {p : Addr} {H G : Hp} (s : Same H G) : Same (hide p H) (hide p G) := fun b o e => by
  by_cases h : b = p
  · rw [h] at e
    rw [show hide p H p = none from if_pos rfl] at e
    cases e
  · rw [hide_ne h] at e ⊢
    exact s _ _ e
theorem hide_but {p : Addr} {H G : Hp} (s : SameBut p H G) : Same (hide p H) G := fun b o e => by
  by_cases h : b = p
  · rw [h] at e
    rw [show hide p H p = none from if_pos rfl] at e
    cases e
  · rw [hide_ne h] at e
    exact s _ _ h e
/-- an expression of this datum, apart from p; all that was tracked stays -/
def tDat (K : PySem.W.Frag) (p : Addr) (d : PyData) : TE := fun σ H Q => (∃ o, H p = some o) ∧ ∀ (x : V) (G : Hp), Same H G → Dp K (hide p G) x d → Q x G
def tDats (K : PySem.W.Frag) (p : Addr) (ds : List PyData) : TA := fun σ H Q => (∃ o, H p = some o) ∧ ∀ (xs : List V) (G : Hp), Same H G → DpAll K (hide p G) xs ds → Q xs G
variable {q : Addr}
theorem dat_int {i : Int} {k : Nat} : PE X (.Constant (.int i) k pos) (tDat X.K q (.int i)) := pe_imp (fun σ H Q k => k.2 _ H (.refl _) (.int i)) pe_int
theorem dat_neg {i : Int} {k : Nat} {p : Pos} : PE X (.UnaryOp .USub (.Constant (.int i) k p) pos) (tDat X.K q (.int (-i))) := pe_imp (fun σ H Q k => ⟨i, rfl, k.2 _ H (.refl _) (.int (-i))⟩) (pe_un un_neg pe_int)
theorem dat_c {v : V} {d : PyData} (h : PE X e (tC v)) (hd : ∀ H, Dp X.K H v d) : PE X e (tDat X.K q d) := pe_imp (fun σ H Q k => k.2 _ H (.refl _) (hd _)) h
theorem dats_nil : PA X [] (tDats X.K q []) := pa_imp (fun σ H Q k => k.2 [] H (.refl _) .nil) pa_nil
theorem dats_cons {d : PyData} {ds : List PyData} (he : PE X e (tDat X.K q d)) (ha : PA X es (tDats X.K q ds)) (hs : starEach (e :: es) X.env = (false, eval e X.env) :: starEach es X.env := by rfl) : PA X (e :: es) (tDats X.K q (d :: ds)) :=
  pa_imp (fun σ H Q ⟨⟨o, ho⟩, k⟩ => ⟨⟨o, ho⟩, fun x G s1 hd => ⟨⟨o, s1 _ _ ho⟩, fun xs G2 s2 hds => k _ G2 (s1.trans s2) (.cons (dp_same (hide_same s2) hd) hds)⟩⟩) (pa_cons he ha hs)
theorem dps_len {K : PySem.W.Frag} {H : Hp} : ∀ {xs : List V} {ds : List PyData}, DpAll K H xs ds → xs.length = ds.length
  | _, _, .nil => rfl
  | _, _, .cons _ a => congrArg (· + 1) (dps_len a)
theorem dat_tup {x1} {ds : List PyData} (ha : PA X es (tDats X.K q ds)) (hz : ds.length ≤ 1000) : PE X (.Tuple es x1 pos) (tDat X.K q (.tuple ds)) :=
  pe_imp (fun σ H Q ⟨⟨o, ho⟩, k⟩ => ⟨⟨o, ho⟩, fun xs G s1 hds => ⟨Nat.le_trans (dps_len hds ▸ hz) (by decide), fun p n => k _ _ (s1.trans (Same.new n)) (.tup (SqT.of (by rw [hide_ne (ne_of_none (s1 _ _ ho) n).symm, upd_same])) (dps_same (hide_same (Same.new n)) hds))⟩⟩) (pe_tup ha)
theorem dat_lst {ds : List PyData} (ha : PA X es (tDats X.K q ds)) (hz : ds.length ≤ 1000) : PE X (.List es pos) (tDat X.K q (.list ds)) :=
  pe_imp (fun σ H Q ⟨⟨o, ho⟩, k⟩ => ⟨⟨o, ho⟩, fun xs G s1 hds => ⟨Nat.le_trans (dps_len hds ▸ hz) (by decide), fun p n => k _ _ (s1.trans (Same.new n)) (.lst (SqL.of (by rw [hide_ne (ne_of_none (s1 _ _ ho) n).symm, upd_same])) (dps_same (hide_same (Same.new n)) hds))⟩⟩) (pe_lst ha)
/-- an expression of a fine value, apart from p -/
def tFine (K : PySem.W.Frag) (p : Addr) : TE := fun σ H Q => (∃ o, H p = some o) ∧ ∀ (x : V) (G : Hp), Same H G → Fine K (hide p G) x → Q x G
def tFines (K : PySem.W.Frag) (p : Addr) (n : Nat) : TA := fun σ H Q => (∃ o, H p = some o) ∧ ∀ (xs : List V) (G : Hp), Same H G → xs.length = n → (∀ x ∈ xs, Fine K (hide p G) x) → Q xs G
theorem fine_d {d : PyData} (h : PE X e (tDat X.K q d)) (h1 : d.hasDict = false) (h2 : d.showable = true) (h3 : d.shown.length ≤ sizeLine) (h4 : d.depth ≤ 60) (h5 : SeqAt.shaped d = true) : PE X e (tFine X.K q) :=
  pe_imp (fun σ H Q k => ⟨k.1, fun x G s hd => k.2 x G s (.dp hd h1 h2 h3 h4 h5)⟩) h
theorem fines_nil : PA X [] (tFines X.K q 0) := pa_imp (fun σ H Q k => k.2 [] H (.refl _) rfl fun x h => absurd h (List.not_mem_nil)) pa_nil
theorem fines_cons {n : Nat} (he : PE X e (tFine X.K q)) (ha : PA X es (tFines X.K q n)) (hs : starEach (e :: es) X.env = (false, eval e X.env) :: starEach es X.env := by rfl) : PA X (e :: es) (tFines X.K q (n + 1)) :=
  pa_imp (fun σ H Q ⟨⟨o, ho⟩, k⟩ => ⟨⟨o, ho⟩, fun x G s1 hx => ⟨⟨o, s1 _ _ ho⟩, fun xs G2 s2 hl hxs => k _ G2 (s1.trans s2) (by simp [hl]) fun y hy => by
    rcases List.mem_cons.mp hy with rfl | hy
    · exact hx.same (hide_same s2)
    · exact hxs y hy⟩⟩) (pa_cons he ha hs)
/-- a dict of scalars under text keys is fine -/
theorem fine_dict {K : PySem.W.Frag} {H : Hp} {a : Addr} {kvs : List (Key × V)} (ds : List PyData) (h : H a = some (.dK kvs)) (e : kvs.map (fun p => sD p.2) = ds.map some) (h2 : (PyData.dict ((kvs.map fun p => kD p.1).zip ds)).showable = true)
    (h3 : (PyData.dict ((kvs.map fun p => kD p.1).zip ds)).shown.length ≤ sizeLine) (h4 : (PyData.dict ((kvs.map fun p => kD p.1).zip ds)).depth ≤ 60) (h5 : ∀ p ∈ kvs, valV kvs p.1 = some p.2 ∧ flatB p.2 = true) : Fine K H (.ref a) :=
  ⟨⟨_, .inr ⟨a, kvs, ds, rfl, h, e, rfl⟩, h2, h3, h4⟩, .inr (.inr ⟨a, kvs, rfl, h, h5⟩)⟩
theorem fine_d0 : PE X (.Dict [] [] pos) (tFine X.K q) := pe_imp (fun σ H Q ⟨⟨o, ho⟩, k⟩ p n => k _ _ (Same.new n) (fine_dict (kvs := []) [] (by rw [hide_ne (ne_of_none ho n).symm, upd_same]) rfl rfl (by decide +kernel) (by decide) fun p hp => absurd hp (List.not_mem_nil))) pe_dnewK
theorem fine_d1 {z : Str} {v : V} {d : PyData} {k v' : Expr} (hk : PE X k (tC (.str z))) (hv : PE X v' (tC v)) (hd : sD v = some d) (hf : flatB v = true) (h2 : (PyData.dict [(.str z, d)]).showable = true) (h3 : (PyData.dict [(.str z, d)]).shown.length ≤ sizeLine)
    (h4 : (PyData.dict [(.str z, d)]).depth ≤ 60) : PE X (.Dict [some k] [v'] pos) (tFine X.K q) :=
  pe_imp (fun σ H Q ⟨⟨o, ho⟩, k⟩ p n => ⟨upd_same, [(.inr z, v)], rfl, by show 1 ≤ 15; decide, by
    have em : mergeK [] [((Sum.inr z : Key), v)] = [((Sum.inr z : Key), v)] := rfl
    rw [upd_upd, em]
    exact k _ _ (Same.new n) (fine_dict (kvs := [((Sum.inr z : Key), v)]) [d] (by rw [hide_ne (ne_of_none ho n).symm, upd_same]) (by show [sD v] = [some d]; rw [hd]) h2 h3 h4 fun p hp => by
      obtain rfl : p = (Sum.inr z, v) := by simpa using hp
      refine ⟨?_, hf⟩
      show ([(Sum.inr z, v)].find? fun kv => decide (kv.1 = Sum.inr z)).map (·.2) = some v
      simp)⟩) (pe_disp (pps_cons hk hv pps_nil) rfl rfl (fun z => by cases z) (by show 1 ≤ 15; decide))
end
end Vb

set_option Elab.async false
set_option linter.all false
set_option maxRecDepth 100000
namespace Lw
open PySem L2 Vb
def topS (i : Nat) : Stmt := PySem.Challenge.pw_contraryrolls_k89_errors_keep_any_value.main.body.getD i (.Pass ⟨0, 0, 0, 0⟩)
abbrev sPot : Stmt := topS 35
abbrev sTake : Stmt := topS 36
abbrev sOf : Stmt := topS 37
abbrev sCells : Stmt := topS 38
section
variable {P : Program} {w : World} {K : PySem.W.Frag} {mg : Str → Option Value} {base : Heap}
structure Bi (mg : Str → Option Value) : Prop where
  int : mg "int" = none
  abs : mg "abs" = none
  len : mg "len" = none
  sum : mg "sum" = none
  list : mg "list" = none
  range : mg "range" = none
  max : mg "max" = none
  min : mg "min" = none
theorem scTake : FnScope ["pot", "upto", "digit", "prime", "blend"] ["pot", "upto"] (defScope sTake) := ⟨rfl, rfl, rfl, by decide +kernel, rfl, by decide +kernel, by decide +kernel⟩
theorem ok_take {f : Addr} {fd : FuncData} (F : Fun K "_law_take" "_law_take" sTake f fd) (T : Bi mg) : FnOk P w K mg base CX0 1 f fd ["pot", "upto"] spTake := by
  refine F.ok scTake (fun vs H Q E h => ?_) (fun cdv A outer s H vs Q E hr h => ?_)
  · obtain ⟨p, u, m, rfl, _⟩ := h
    rfl
  · obtain ⟨p, u, m, rfl, ⟨a, b, c, hp, a0, b0, b1, c0, c1⟩, u0, u1, k⟩ := h
    refine ⟨_, pss_cons (ps_if (pt_cmpR op_gt (pe_ix ix_list (pv 0) pe_int (fun _ _ => rfl)) pe_int (nomark _))
        (pss_cons (ps_set (i := 2) scTake.nd rfl (Or.inl rfl) (pe_op op_mod (pe_callTy call_int1 (by rfl) T.int (by decide +kernel) (pa_cons (pe_ix ix_list (pv 0) pe_int (fun _ _ => rfl)) pa_nil)) (pv 1)))
        (pss_cons (ps_asg (pe_op op_fdiv (pe_ix ix_list (pv 0) pe_int (fun _ _ => rfl)) (pv 1)) (pg_sub (pv 0) pe_int set_list))
        (pss_one (ps_ret (pv 2)))))
        pss_nil)
      (pss_cons (ps_asg (pe_op op_add (pe_ix ix_list (pv 0) pe_int (fun _ _ => rfl)) pe_int) (pg_sub (pv 0) pe_int set_list))
      (pss_cons (ps_set (i := 3) scTake.nd rfl (Or.inl rfl) (pe_ix ix_list (pe_lst (pa_cons pe_int (pa_cons pe_int (pa_cons pe_int (pa_cons pe_int (pa_cons pe_int pa_nil))))))
          (pe_op op_mod (pe_callTy call_int1 (by rfl) T.int (by decide +kernel) (pa_cons (pe_ix ix_list (pv 0) pe_int (fun _ _ => rfl)) pa_nil)) pe_int) (fun _ _ => rfl)))
      (pss_cons (ps_set (i := 4) scTake.nd rfl (Or.inl rfl) (pe_op op_mod (pe_callTy call_int1 (by rfl) T.int (by decide +kernel) (pa_cons
          (pe_op op_powW (pe_callTy call_int1 (by rfl) T.int (by decide +kernel) (pa_cons
            (pe_op op_add (pe_op op_add (pe_ix ix_list (pv 0) pe_int (fun _ _ => rfl)) (pe_op op_mul (pe_op op_mul pe_int (pe_ix ix_list (pv 0) pe_int (fun _ _ => rfl))) (pe_ix ix_list (pv 0) pe_int (fun _ _ => rfl)))) pe_int) pa_nil)) pe_int) pa_nil)) (pv 3)))
      (pss_cons (ps_set (i := 4) scTake.nd rfl (Or.inl rfl) (pe_op op_mod (pe_callTy call_int1 (by rfl) T.int (by decide +kernel) (pa_cons
          (pe_op op_mul (pv 4) (pe_op op_add (pe_op op_mod (pe_callTy call_int1 (by rfl) T.int (by decide +kernel) (pa_cons (pv 4) pa_nil)) pe_int) (pe_op op_mul pe_int (pe_ix ix_list (pv 0) pe_int (fun _ _ => rfl))))) pa_nil)) pe_int))
      (pss_one (ps_ret (pe_op op_mod (pe_callTy call_int1 (by rfl) T.int (by decide +kernel) (pa_cons (pe_op op_fdiv (pv 4) pe_int) pa_nil)) (pv 1)))))))), ?_⟩
    refine ⟨_, rfl, p, _, _, _, rfl, rfl, SqL.of hp, at0, _, _, rfl, rfl, _, rfl, ?_⟩
    refine ite2 (fun g => ?_) (fun g => ?_)
    · refine ⟨_, rfl, p, _, _, _, rfl, rfl, SqL.of hp, at0, .inl ⟨_, rfl, _, rfl, _, _, rfl, rfl, u0, ?_⟩⟩
      refine ⟨_, rfl, p, _, _, _, rfl, rfl, SqL.of hp, at0, _, rfl, _, _, rfl, rfl, ⟨u0, u1⟩, ?_⟩
      refine ⟨_, rfl, p, _, _, 0, rfl, rfl, hp, rfl, _, rfl, ?_⟩
      exact k _ _ (Int.emod_nonneg _ (by omega)) (Int.emod_lt_of_pos _ u0) (drew_of (SameBut.upd _ _ _) upd_same (Int.ediv_nonneg a0 (by omega)) b0 b1 c0 (by omega))
    · refine ⟨_, rfl, p, _, _, _, rfl, rfl, SqL.of hp, at2, _, _, rfl, rfl, _, rfl, p, _, _, 2, rfl, rfl, hp, rfl, ?_⟩
      refine ⟨by show 5 ≤ sizeLine; decide, fun l hl => ?_⟩
      have nl : p ≠ l := fun e => by
        subst e
        rw [upd_same] at hl
        cases hl
      have hl0 : H l = Option.none := by
        rw [upd_ne nl.symm] at hl
        exact hl
      have hp' : upd (upd H p (potL a b (c + 1))) l (.lst [.int 2147483647, .int 2147483629, .int 2147483587, .int 2147483579, .int 2147483563]) p = some (potL a b (c + 1)) := by
        rw [upd_ne nl, upd_same]
      obtain ⟨v, hv, v0, v1⟩ := prime_at (i := (c + 1) % 5) (Int.emod_nonneg _ (by decide)) (Int.emod_lt_of_pos _ (by decide))
      refine ⟨_, rfl, p, _, _, _, rfl, rfl, SqL.of hp', at2, .inl ⟨_, rfl, _, _, rfl, rfl, (by show (0 : Int) < 5; decide), l, _, _, _, rfl, rfl, SqL.of upd_same, hv, ?_⟩⟩
      -- blend = int(int(pot[1] + 98399 * pot[2] * pot[2] + 431) ** 3) % prime
      have cc : 0 ≤ (c + 1) * (c + 1) := Int.mul_nonneg (by omega) (by omega)
      have cd : (c + 1) * (c + 1) ≤ 10000000 * 10000000 := Int.mul_le_mul (by omega) (by omega) (by omega) (by decide)
      refine ⟨_, rfl, p, _, _, _, rfl, rfl, SqL.of hp', at1, _, rfl, p, _, _, _, rfl, rfl, SqL.of hp', at2, _, _, rfl, rfl, mulOk (by decide) (by decide), _, rfl, p, _, _, _, rfl, rfl, SqL.of hp', at2, _, _, rfl, rfl, mulOk (by omega) (by omega), _, _, rfl, rfl, _, _, rfl, rfl, .inl ⟨_, rfl, ?_⟩⟩
      have e1 : 98399 * (c + 1) * (c + 1) = 98399 * ((c + 1) * (c + 1)) := Int.mul_assoc _ _ _
      refine ⟨_, _, rfl, rfl, powOk (by omega) (by omega), .inl ⟨_, rfl, _, rfl, _, _, rfl, rfl, by omega, ?_⟩⟩
      generalize hx : (b + 98399 * (c + 1) * (c + 1) + 431) ^ (3 : Int).toNat % v = x
      have x0 : 0 ≤ x := by
        rw [← hx]
        exact Int.emod_nonneg _ (by omega)
      have x1 : x < 2147483648 := by
        have := Int.emod_lt_of_pos ((b + 98399 * (c + 1) * (c + 1) + 431) ^ (3 : Int).toNat) (show 0 < v by omega)
        omega
      refine ⟨_, rfl, _, rfl, .inl ⟨_, rfl, _, _, rfl, rfl, (by show (0 : Int) < 10009; decide), _, rfl, p, _, _, _, rfl, rfl, SqL.of hp', at2, _, _, rfl, rfl, mulOk (by decide) (by decide), _, _, rfl, rfl, _, _, rfl, rfl, mulOk (by omega) (by omega), .inl ⟨_, rfl, _, _, rfl, rfl, (by show (0 : Int) < 2305843009213693907; decide), ?_⟩⟩⟩
      generalize x * (x % 10009 + 89 * (c + 1)) % 2305843009213693907 = y
      refine ⟨_, rfl, _, _, rfl, rfl, ⟨by decide, by decide⟩, .inl ⟨_, rfl, _, rfl, _, _, rfl, rfl, u0, ?_⟩⟩
      refine k _ _ (Int.emod_nonneg _ (by omega)) (Int.emod_lt_of_pos _ u0) (drew_of (fun q o nq e => ?_) hp' a0 b0 b1 (by omega) (by omega))
      rw [upd_ne (ne_of_none e hl0), upd_ne nq]
      exact e
theorem cal_take (D : Df K mg "_law_take" sTake) (T : Bi mg) : Cal P w K mg base 1 "_law_take" spTake :=
  D.cal _ (fun _ _ F => ok_take F T) fun _ _ _ _ _ _ us hl => match us, hl with | [_, _], _ => rfl
theorem scOf : FnScope ["pot", "some"] ["pot", "some"] (defScope sOf) := ⟨rfl, rfl, rfl, by decide +kernel, rfl, by decide +kernel, by decide +kernel⟩
theorem ok_of {f : Addr} {fd : FuncData} (F : Fun K "_law_of" "_law_of" sOf f fd) (T : Bi mg) (cT : Cal P w K mg base 1 "_law_take" spTake) : FnOk P w K mg base CX0 2 f fd ["pot", "some"] (spOf K) := by
  refine F.ok scOf (fun vs H Q E h => ?_) (fun cdv A outer s H vs Q E hr h => ?_)
  · obtain ⟨p, l, xs, m, rfl, _⟩ := h
    rfl
  · obtain ⟨p, l, xs, m, rfl, hp, hl, ne, h0, h1, k⟩ := h
    refine ⟨_, pss_one (ps_ret (pe_ix ix_list (pv 1) (pe_c cT hr (by decide) rfl (pa_cons (pv 0) (pa_cons (pe_callB call_len_seq (by rfl) T.len PySem.boot_len (pa_cons (pv 1) pa_nil)) pa_nil))) (fun _ _ => rfl))), ?_⟩
    refine ⟨_, rfl, _, rfl, _, rfl, l, _, rfl, .inl hl, p, _, m, rfl, hp, by omega, by omega, fun d H' d0 d1 dr => ?_⟩
    have hd : d.toNat < xs.length := by omega
    have e : d = ((d.toNat : Nat) : Int) := by omega
    refine ⟨l, _, _, _, rfl, rfl, dr.1.seqL ne hl, at_of e (List.getElem?_eq_getElem hd), k d.toNat _ _ (List.getElem?_eq_getElem hd) dr⟩
theorem cal_of (D : Df K mg "_law_of" sOf) (T : Bi mg) (cT : Cal P w K mg base 1 "_law_take" spTake) : Cal P w K mg base 2 "_law_of" (spOf K) :=
  D.cal _ (fun _ _ F => ok_of F T cT) fun _ _ _ _ _ _ us hl => match us, hl with | [_, _], _ => rfl
theorem scPot : FnScope ["script", "place", "cell", "own", "small"] ["script", "place"] (defScope sPot) := ⟨rfl, rfl, rfl, by decide +kernel, rfl, by decide +kernel, by decide +kernel⟩
theorem ok_pot {f : Addr} {fd : FuncData} (F : Fun K "_law_pot" "_law_pot" sPot f fd) (T : Bi mg) : FnOk P w K mg base CX0 1 f fd ["script", "place"] (spPot K) := by
  refine F.ok scPot (fun vs H Q E h => ?_) (fun cdv A outer s H vs Q E hr h => ?_)
  · obtain ⟨a, ns, j, rfl, _⟩ := h
    rfl
  · obtain ⟨a, ns, j, rfl, hS, hlen, j0, j1, k⟩ := h
    refine ⟨_, C8.pss_cut (ps_set (i := 2) scPot.nd rfl (Or.inl rfl) (pe_ifExp (pt_cmpR op_lt (pv 1) (pe_callB call_len_seq (by rfl) T.len PySem.boot_len (pa_cons (pv 0) pa_nil)) (nomark _)) (pe_ix ix_list (pv 0) (pv 1) (fun _ _ => rfl))
        (pe_op op_add (pe_op op_add (pe_op op_mod (pe_callB (cr_sum rfl) (by rfl) T.sum (by decide +kernel) (pa_cons (pe_slice sl_list (pv 0) po_none (po_some pe_int)) pa_nil)) pe_int) (pe_op op_mul pe_int (pv 1))) pe_int)))
      (pss_cons (ps_set (i := 3) scPot.nd rfl (Or.inl rfl) (pe_op op_mul (pe_op op_mod (pe_callTy call_int1 (by rfl) T.int (by decide +kernel) (pa_cons (pe_callB call_abs (by rfl) T.abs (by decide +kernel) (pa_cons (pv 2) pa_nil)) pa_nil)) (pe_op op_powW (pe_op op_powW pe_int pe_int) pe_int))
        (pe_callTy call_int1 (by rfl) T.int (by decide +kernel) (pa_cons (pe_cmpR op_ge (pe_callB call_abs (by rfl) T.abs (by decide +kernel) (pa_cons (pv 2) pa_nil)) (pe_op op_powW pe_int pe_int) (nomark _)) pa_nil))))
      (pss_cons (ps_set (i := 4) scPot.nd rfl (Or.inl rfl) (pe_op op_mod (pe_callTy call_int1 (by rfl) T.int (by decide +kernel) (pa_cons (pv 2) pa_nil)) pe_int))
      (pss_one (ps_ret (pe_lst (pa_cons (pv 3) (pa_cons (pe_op op_mod (pe_callTy call_int1 (by rfl) T.int (by decide +kernel) (pa_cons
        (pe_op op_add (pe_op op_add (pe_op op_mul (pv 4) pe_int) (pe_op op_mul (pe_op op_mul pe_int (pv 1)) (pv 1))) pe_int) pa_nil)) pe_int) (pa_cons pe_int pa_nil)))))))), ?_⟩
    refine ⟨fun σ' H' => ∃ z : Int, σ' = [some (V.ref a), some (V.int j), some (V.int z), none, none] ∧ Same H H', ?_, ?_⟩
    · refine ⟨_, rfl, _, rfl, a, _, rfl, .inl hS, _, _, rfl, rfl, _, rfl, ?_⟩
      refine ite2 (fun g => ?_) (fun g => ?_)
      · have g' : j < (((ns.map V.int).length : Nat) : Int) := of_decide_eq_true g
        rw [List.length_map] at g'
        have hj : j.toNat < ns.length := by omega
        exact ⟨_, rfl, _, rfl, a, _, _, V.int ns[j.toNat], rfl, rfl, hS, at_of (j := j.toNat) (by omega) (by rw [List.getElem?_map, List.getElem?_eq_getElem hj]; rfl), _, rfl, .refl _⟩
      · refine ⟨_, rfl, _, rfl, a, _, rfl, hS, fun l hl => ?_⟩
        have e : cutV (ns.map V.int) Option.none (some 1) = (ns.take 1).map V.int := by
          rw [List.map_take]
          exact cut_to _ 1
        exact ⟨l, _, rfl, SqL.of (by rw [upd_same, e]), _, _, rfl, rfl, (by show (0 : Int) < 1000003; decide), _, rfl, _, _, rfl, rfl, mulOk (by decide) (by decide), _, _, rfl, rfl, _, _, rfl, rfl, _, rfl, Same.new hl⟩
    · rintro σ' H1 ⟨z, rfl, sm⟩
      refine ⟨_, rfl, _, rfl, .inl ⟨_, rfl, _, _, rfl, rfl, ⟨by decide, by decide⟩, _, _, rfl, rfl, ⟨by decide, by decide +kernel⟩, _, _, rfl, rfl, (by show (0 : Int) < (10 ^ (60 : Int).toNat) ^ (5 : Int).toNat; decide +kernel), ?_⟩⟩
      refine ⟨_, rfl, _, rfl, _, _, rfl, rfl, ⟨by decide, by decide⟩, _, _, rfl, rfl, .inr ⟨_, rfl, _, _, rfl, rfl, mulBit, ?_⟩⟩
      refine ⟨_, rfl, .inl ⟨_, rfl, _, _, rfl, rfl, (by show (0 : Int) < 2305843009213693951; decide), ?_⟩⟩
      have m0 := Int.emod_nonneg z (show (2305843009213693951 : Int) ≠ 0 by decide)
      have m1 := Int.emod_lt_of_pos z (show (0 : Int) < 2305843009213693951 by decide)
      have own0 := own_bound (x := if z < 0 then -z else z) (c := decide ((10 : Int) ^ (18 : Int).toNat ≤ (if z < 0 then -z else z))) (show (0 : Int) < (10 ^ (60 : Int).toNat) ^ (5 : Int).toNat by decide +kernel)
      refine ⟨_, rfl, _, rfl, _, _, rfl, rfl, mulOk (by omega) (by omega), _, rfl, _, _, rfl, rfl, mulOk (by decide) (by decide), _, rfl, _, _, rfl, rfl, .inr ⟨by omega, by omega⟩, _, _, rfl, rfl, _, _, rfl, rfl, .inl ⟨_, rfl, _, _, rfl, rfl, (by show (0 : Int) < 2305843009213693921; decide), ?_⟩⟩
      refine ⟨by show 3 ≤ sizeLine; decide, fun l hl => ?_⟩
      generalize z % 2305843009213693951 * 73239 + 8148 * j * j + 550 = y
      exact k l _ (sm.free hl) (Same.trans sm (Same.new hl)) ⟨_, y % 2305843009213693921, 0, upd_same, own0, Int.emod_nonneg _ (by decide), by
        have := Int.emod_lt_of_pos y (show (0 : Int) < 2305843009213693921 by decide)
        omega, by decide, by decide⟩
theorem cal_pot (D : Df K mg "_law_pot" sPot) (T : Bi mg) : Cal P w K mg base 1 "_law_pot" (spPot K) :=
  D.cal _ (fun _ _ F => ok_pot F T) fun _ _ _ _ _ _ us hl => match us, hl with | [_, _], _ => rfl
theorem scCells : FnScope ["script", "most"] ["script", "most"] (defScope sCells) := ⟨rfl, rfl, rfl, by decide +kernel, rfl, by decide +kernel, by decide +kernel⟩
theorem ok_cells {most : Int} (h1 : 1 ≤ most) (h2 : most ≤ 60) {f : Addr} {fd : FuncData} (F : Fun K "_law_cells" "_law_cells" sCells f fd) (T : Bi mg) : FnOk P w K mg base CX0 1 f fd ["script", "most"] (spCells K most) := by
  refine F.ok scCells (fun vs H Q E h => ?_) (fun cdv A outer s H vs Q E hr h => ?_)
  · obtain ⟨a, ns, rfl, _⟩ := h
    rfl
  · obtain ⟨a, ns, rfl, hS, hlen, k⟩ := h
    refine ⟨_, pss_one (ps_ret (pe_listRg rfl (by rfl) T.list (prg_1 (by rfl) T.range (pe_callB (call_max2 rfl) (by rfl) T.max (by decide +kernel) (pa_cons pe_int (pa_cons
      (pe_callB (call_min2 rfl) (by rfl) T.min (by decide +kernel) (pa_cons (pv 1) (pa_cons (pe_callB call_len_seq (by rfl) T.len PySem.boot_len (pa_cons (pv 0) pa_nil)) pa_nil))) pa_nil)))))), ?_⟩
    refine ⟨_, rfl, _, rfl, a, _, rfl, .inl hS, _, _, rfl, _, _, rfl, _, rfl, ?_⟩
    generalize hn : (if (if (((ns.map V.int).length : Nat) : Int) < most then (((ns.map V.int).length : Nat) : Int) else most) > 1 then (if (((ns.map V.int).length : Nat) : Int) < most then (((ns.map V.int).length : Nat) : Int) else most) else 1) = n
    have n0 : 1 ≤ n := by omega
    have n1 : n ≤ most := by omega
    refine ⟨.of_le (by decide) (by omega) (by decide) (by omega), fun l hl => ?_⟩
    have q := k n.toNat l (by omega) (by omega) hl
    have e : rgV 0 n = (List.range n.toNat).map fun k => V.int (k : Nat) := by
      unfold rgV
      rw [Int.sub_zero]
      refine congrArg (fun g => List.map g (List.range n.toNat)) (funext fun i => ?_)
      rw [Int.zero_add]
    rw [e]
    exact q
theorem cal_cells {most : Int} (h1 : 1 ≤ most) (h2 : most ≤ 60) (D : Df K mg "_law_cells" sCells) (T : Bi mg) : Cal P w K mg base 1 "_law_cells" (spCells K most) :=
  D.cal _ (fun _ _ F => ok_cells h1 h2 F T) fun _ _ _ _ _ _ us hl => match us, hl with | [_, _], _ => rfl
/-- the law over one pot -/
def spRight : Sp := fun vs H Q _ => ∃ p : Addr, vs = [.ref p] ∧ PotAt H p 9999999 ∧ ∀ H', SameBut p H H' → Q (.bl true) H'
abbrev sLaw : Stmt := topS 45
theorem scLaw : FnScope ["script", "place"] ["script"] (defScope sLaw) := ⟨rfl, rfl, rfl, by decide +kernel, rfl, by decide +kernel, by decide +kernel⟩
def spLaw (K : PySem.W.Frag) : Sp := fun vs H Q _ => ∃ (a : Addr) (ns : List Int), vs = [.ref a] ∧ SqL K H a (ns.map V.int) ∧ ns.length ≤ 63 ∧ ∀ H', Q (.bl true) H'
theorem ok_law {k : Nat} {f : Addr} {fd : FuncData} (hk : 1 ≤ k) (F : Fun K "law" "law" sLaw f fd) (all : mg "all" = none) (cP : Cal P w K mg base 1 "_law_pot" (spPot K)) (cC : Cal P w K mg base 1 "_law_cells" (spCells K 3)) (cR : Cal P w K mg base k "_law_right" spRight) : FnOk P w K mg base CX0 (k + 1) f fd ["script"] (spLaw K) := by
  refine F.ok scLaw (fun vs H Q E h => ?_) (fun cdv A outer s H vs Q E hr h => ?_)
  · obtain ⟨a, ns, rfl, _⟩ := h
    rfl
  · obtain ⟨a, ns, rfl, hS, hlen, q⟩ := h
    refine ⟨_, pss_one (ps_ret (pe_callB (cr_all rfl) (by rfl) all (by decide +kernel) (pa_cons
      (pe_lc (own := [("place", 1)]) (g := gName 1) (tt := tYes) rfl scLaw.nd (pi_list (pe_c cC hr hk rfl (pa_cons (pv 0) (pa_cons pe_int pa_nil)))) (blkOk_by (N := ["script", "place"]) (sc := defScope sLaw) (by decide +kernel))
        (fun _ _ _ _ _ => pg_name (i := 1) scLaw.nd rfl (Or.inl rfl)) (fun _ _ _ _ _ => pts_nil) (fun _ _ _ _ _ => pe_c cR hr (Nat.le_refl _) rfl (pa_cons (pe_c cP hr hk rfl (pa_cons (pv 0) (pa_cons (pv 1) pa_nil))) pa_nil))) pa_nil))), ?_⟩
    refine ⟨_, rfl, a, ns, rfl, hS, hlen, fun n l n0 n1 hl => ?_⟩
    refine ⟨_, rfl, ⟨_, SqL.of upd_same⟩, fun D hD => ?_⟩
    have nDl : D ≠ l := fun e => by
      rw [e, upd_same] at hD
      cases hD
    refine lc_list (K := K) (a := l) (xs := (List.range n).map fun k => V.int (k : Nat)) (fun i H' => Same H H' ∧ H' l = some (.lst ((List.range n).map fun k => V.int (k : Nat))) ∧ H' D = some (.lst ((List.replicate i true).map V.bl))) ?_ (fun i H' _ h => SqL.of h.2.1) ?_ ?_
    · exact ⟨Same.trans (Same.new hl) (Same.new hD), (by rw [upd_ne nDl.symm]; exact upd_same), upd_same⟩
    · rintro i x H' hx ⟨sm, hL, hA⟩
      have hi : i < n := by
        have := (List.getElem?_eq_some_iff.mp hx).1
        rwa [List.length_map, List.length_range] at this
      obtain rfl : x = V.int (i : Nat) := by
        rw [List.getElem?_map, List.getElem?_range hi] at hx
        exact (Option.some.inj hx).symm
      refine ⟨rfl, _, rfl, _, rfl, a, ns, _, rfl, sm.seq hS, hlen, by omega, by omega, fun p H1 hp s1 hP => ?_⟩
      have nDp : D ≠ p := ne_of_none hA hp
      refine ⟨p, rfl, hP, fun H2 s2 => ⟨_, s2 _ _ nDp (s1 _ _ hA), ?_, ?_, ?_, ?_⟩⟩
      · rw [List.length_map, List.length_replicate]
        exact Nat.lt_of_lt_of_le (show i < 1000 by omega) (by decide)
      · intro b o e
        have e' := sm b o e
        have nbD : b ≠ D := fun z => by
          rw [z, (Same.new hl).free hD] at e
          cases e
        rw [upd_ne nbD]
        exact s2 _ _ (ne_of_none e' hp) (s1 _ _ e')
      · rw [upd_ne nDl.symm]
        exact s2 _ _ (ne_of_none hL hp) (s1 _ _ hL)
      · rw [upd_same, List.replicate_succ', List.map_append]
        rfl
    · rintro H' ⟨sm, hL, hA⟩
      rw [List.length_map, List.length_range] at hA
      refine ⟨D, _, rfl, SqL.of hA, ?_⟩
      have e : (List.replicate n true).all id = true := by simp
      rw [e]
      exact q _
end
end Lw

set_option Elab.async false
set_option linter.all false
set_option maxRecDepth 100000
set_option autoImplicit false
set_option maxHeartbeats 2000000
namespace Lw
open PySem L2 Vb
abbrev sOdd : Stmt := topS 39
abbrev sMade : Stmt := topS 40
abbrev sMade2 : Stmt := topS 41
abbrev sKinds : Stmt := topS 42
abbrev sKinds2 : Stmt := topS 43
def eNames : List Str := ["BadWeb", "BadNumber", "BadMarks", "BadArrows", "BadNames", "BadOrder", "BadReader", "BadRoll", "TooMany", "BadPairs", "TooGreat", "Lets", "NoWay", "HasWay", "BadSaying", "NotClosed", "BadPlaces", "NotSo", "BadMaking", "NotLed", "BadName", "BadWord", "NotLone", "NoThing", "WrongKind", "Held", "BadDeed", "BadKind", "NothingToUndo", "NothingToRedo", "NoNote", "BadDesk"]
section
variable {P : Program} {w : World} {K : PySem.W.Frag} {mg : Str → Option Value} {base : Heap} {C : Nat → Addr} {R fI : Addr}
structure Er (K : PySem.W.Frag) (mg : Str → Option Value) (C : Nat → Addr) (R fI : Addr) : Prop where
  isi : mg "isinstance" = none
  err : ∀ i, i < 32 → ErrC K fI (C i)
  base : ErrC K fI R
  mgC : ∀ i, i < 32 → mg (eNames.getD i "") = some (.ref (C i))
  mgR : mg "RollError" = some (.ref R)
  inj : ∀ i j, i < 32 → j < 32 → C i = C j → i = j
  far : ∀ i, i < 32 → R ≠ C i
/-- a list grown by more errors -/
theorem grown {H G G1 : Hp} {l m : Addr} {es es1 : List Addr} {off n : Nat} {v : V} (S : Same H G) (L : G l = some (.lst (es.map V.ref))) (XX : ∀ (i : Nat) (e : Addr), es[i]? = some e → ExAt G e (C (off + i)) [("value", v)]) (FR : ∀ b, H b ≠ none → b ≠ l)
    (s1 : Same G G1) (hm : G1 m = none) (hn : es.length = n) (x1 : ∀ (i : Nat) (e : Addr), es1[i]? = some e → ExAt G1 e (C (off + n + i)) [("value", v)]) :
    Same H (upd (upd G1 m (.lst (es1.map V.ref))) l (.lst ((es ++ es1).map V.ref))) ∧ upd (upd G1 m (.lst (es1.map V.ref))) l (.lst ((es ++ es1).map V.ref)) l = some (.lst ((es ++ es1).map V.ref)) ∧
      ∀ (i : Nat) (e : Addr), (es ++ es1)[i]? = some e → ExAt (upd (upd G1 m (.lst (es1.map V.ref))) l (.lst ((es ++ es1).map V.ref))) e (C (off + i)) [("value", v)] := by
  have up : ∀ b o, b ≠ l → G1 b = some o → upd (upd G1 m (.lst (es1.map V.ref))) l (.lst ((es ++ es1).map V.ref)) b = some o := fun b o n q => by
    rw [upd_ne n, upd_ne (ne_of_none q hm)]
    exact q
  have ex : ∀ (e c : Addr) fs, ExAt G1 e c fs → ExAt (upd (upd G1 m (.lst (es1.map V.ref))) l (.lst ((es ++ es1).map V.ref))) e c fs := fun e c fs ⟨d, h1, h2⟩ =>
    ⟨d, up _ _ (fun q => by rw [q, s1 _ _ L] at h1; cases h1) h1, up _ _ (fun q => by rw [q, s1 _ _ L] at h2; cases h2) h2⟩
  refine ⟨fun b o q => up b o (FR b (by rw [q]; exact fun z => nomatch z)) (s1 _ _ (S _ _ q)), upd_same, fun i e hi => ex _ _ _ ?_⟩
  by_cases h : i < es.length
  · rw [List.getElem?_append_left h] at hi
    exact (XX i e hi).same s1
  · rw [List.getElem?_append_right (by omega)] at hi
    have := x1 _ e hi
    rwa [show off + n + (i - es.length) = off + i by omega] at this
def spMade (C : Nat → Addr) (off n : Nat) : Sp := fun vs H Q _ => ∃ v : V, vs = [v] ∧ ∀ (es : List Addr) (l : Addr) (G : Hp), es.length = n → Same H G → (∀ b, H b ≠ none → b ≠ l) → G l = some (.lst (es.map V.ref)) →
  (∀ (i : Nat) (e : Addr), es[i]? = some e → ExAt G e (C (off + i)) [("value", v)]) → Q (.ref l) G
theorem scMade2 : FnScope ["value", "found"] ["value"] (defScope sMade2) := ⟨rfl, rfl, rfl, by decide +kernel, rfl, by decide +kernel, by decide +kernel⟩
theorem ok_made2 {f : Addr} {fd : FuncData} (F : Fun K "_law_made_too" "_law_made_too" sMade2 f fd) (T : Er K mg C R fI) (GI : InitE P w K mg base fI) : FnOk P w K mg base CX0 3 f fd ["value"] (spMade C 16 16) := by
  refine F.ok scMade2 (fun vs H Q E h => ?_) (fun cdv A outer s H vs Q E hr h => ?_)
  · obtain ⟨v, rfl, _⟩ := h
    rfl
  · obtain ⟨v, rfl, k⟩ := h
    refine ⟨_, pss_cons (ps_set (i := 1) scMade2.nd rfl (Or.inl rfl) (pe_lst (pa_errs (pe_err (T.err 16 (by decide)) GI hr (by decide) (by rfl) (T.mgC 16 (by decide)) (pv 0)) (pa_errs (pe_err (T.err 17 (by decide)) GI hr (by decide) (by rfl) (T.mgC 17 (by decide)) (pv 0)) (pa_errs (pe_err (T.err 18 (by decide)) GI hr (by decide) (by rfl) (T.mgC 18 (by decide)) (pv 0)) (pa_errs (pe_err (T.err 19 (by decide)) GI hr (by decide) (by rfl) (T.mgC 19 (by decide)) (pv 0)) (pa_errs (pe_err (T.err 20 (by decide)) GI hr (by decide) (by rfl) (T.mgC 20 (by decide)) (pv 0)) (pa_errs (pe_err (T.err 21 (by decide)) GI hr (by decide) (by rfl) (T.mgC 21 (by decide)) (pv 0)) pa_errs0))))))))
      (pss_cons (ps_expr (pe_bm PySem.F.plainAttrs_list PySem.F.slot_list_extend PySem.F.type_list_extend mt_extend (pv 1) (pa_cons (pe_lst (pa_errs (pe_err (T.err 22 (by decide)) GI hr (by decide) (by rfl) (T.mgC 22 (by decide)) (pv 0)) (pa_errs (pe_err (T.err 23 (by decide)) GI hr (by decide) (by rfl) (T.mgC 23 (by decide)) (pv 0)) (pa_errs (pe_err (T.err 24 (by decide)) GI hr (by decide) (by rfl) (T.mgC 24 (by decide)) (pv 0)) (pa_errs (pe_err (T.err 25 (by decide)) GI hr (by decide) (by rfl) (T.mgC 25 (by decide)) (pv 0)) (pa_errs (pe_err (T.err 26 (by decide)) GI hr (by decide) (by rfl) (T.mgC 26 (by decide)) (pv 0)) (pa_errs (pe_err (T.err 27 (by decide)) GI hr (by decide) (by rfl) (T.mgC 27 (by decide)) (pv 0)) pa_errs0))))))) pa_nil)))
      (pss_cons (ps_expr (pe_bm PySem.F.plainAttrs_list PySem.F.slot_list_extend PySem.F.type_list_extend mt_extend (pv 1) (pa_cons (pe_lst (pa_errs (pe_err (T.err 28 (by decide)) GI hr (by decide) (by rfl) (T.mgC 28 (by decide)) (pv 0)) (pa_errs (pe_err (T.err 29 (by decide)) GI hr (by decide) (by rfl) (T.mgC 29 (by decide)) (pv 0)) (pa_errs (pe_err (T.err 30 (by decide)) GI hr (by decide) (by rfl) (T.mgC 30 (by decide)) (pv 0)) (pa_errs (pe_err (T.err 31 (by decide)) GI hr (by decide) (by rfl) (T.mgC 31 (by decide)) (pv 0)) pa_errs0))))) pa_nil)))
      (pss_one (ps_ret (pv 1))))), ?_⟩
    refine ⟨v, rfl, fun es0 G0 l0 s0 x0 => ⟨by rw [List.length_map, l0]; show 6 ≤ sizeLine; decide, fun l hl => ?_⟩⟩
    have S : Same H (upd G0 l (.lst (es0.map V.ref))) := s0.trans (Same.new hl)
    have L : upd G0 l (.lst (es0.map V.ref)) l = some (.lst (es0.map V.ref)) := upd_same
    have XX : ∀ (i : Nat) (e : Addr), es0[i]? = some e → ExAt (upd G0 l (.lst (es0.map V.ref))) e (C (16 + i)) [("value", v)] := fun i e h => (x0 i e h).same (Same.new hl)
    have FR : ∀ (b : Addr), H b ≠ none → b ≠ l := fun b hb q => hb (s0.free (q ▸ hl))
    generalize upd G0 l (.lst (es0.map V.ref)) = G at S L XX ⊢
    clear x0 s0
    refine ⟨_, rfl, .inl ⟨rfl, _, SqL.of L⟩, v, rfl, fun es1 G1 l1 s1 x1 => ⟨by rw [List.length_map, l1]; show 6 ≤ sizeLine; decide, fun m1 hm1 => ⟨l, m1, _, _, rfl, rfl, (by rw [upd_ne (ne_of_none (s1 _ _ L) hm1)]; exact s1 _ _ L), upd_same, ?_, ?_⟩⟩⟩
    · rw [List.length_map, List.length_map, l1]
      simp only [List.length_append, l0]
      show 6+6 ≤ sizeLine
      decide
    obtain ⟨S', L', X'⟩ := grown (C := C) (off := 16) (v := v) S L XX FR s1 hm1 (by simp [l0] <;> rfl) (show ∀ (i : Nat) (e : Addr), es1[i]? = some e → ExAt G1 e (C (16 + 6 + i)) [("value", v)] from x1)
    clear S L XX x1 s1
    rw [← List.map_append]
    generalize upd (upd G1 m1 (.lst (es1.map V.ref))) l _ = G at S' L' X' ⊢
    have S := S'; have L := L'; have XX := X'
    clear S' L' X' 
    refine ⟨_, rfl, .inl ⟨rfl, _, SqL.of L⟩, v, rfl, fun es2 G2 l2 s2 x2 => ⟨by rw [List.length_map, l2]; show 4 ≤ sizeLine; decide, fun m2 hm2 => ⟨l, m2, _, _, rfl, rfl, (by rw [upd_ne (ne_of_none (s2 _ _ L) hm2)]; exact s2 _ _ L), upd_same, ?_, ?_⟩⟩⟩
    · rw [List.length_map, List.length_map, l2]
      simp only [List.length_append, l0, l1]
      show 12+4 ≤ sizeLine
      decide
    obtain ⟨S', L', X'⟩ := grown (C := C) (off := 16) (v := v) S L XX FR s2 hm2 (by simp [l0, l1] <;> rfl) (show ∀ (i : Nat) (e : Addr), es2[i]? = some e → ExAt G2 e (C (16 + 12 + i)) [("value", v)] from x2)
    clear S L XX x2 s2
    rw [← List.map_append]
    generalize upd (upd G2 m2 (.lst (es2.map V.ref))) l _ = G at S' L' X' ⊢
    have S := S'; have L := L'; have XX := X'
    clear S' L' X' 
    exact ⟨_, rfl, k _ l G (by simp [l0, l1, l2]) S FR L XX⟩
theorem cal_made2 (D : Df K mg "_law_made_too" sMade2) (T : Er K mg C R fI) (GI : InitE P w K mg base fI) : Cal P w K mg base 3 "_law_made_too" (spMade C 16 16) :=
  D.cal _ (fun _ _ F => ok_made2 F T GI) fun _ _ _ _ _ _ us hl => match us, hl with | [_], _ => rfl
theorem scMade : FnScope ["value", "found"] ["value"] (defScope sMade) := ⟨rfl, rfl, rfl, by decide +kernel, rfl, by decide +kernel, by decide +kernel⟩
theorem ok_made {f : Addr} {fd : FuncData} (F : Fun K "_law_made" "_law_made" sMade f fd) (T : Er K mg C R fI) (GI : InitE P w K mg base fI) (cM : Cal P w K mg base 3 "_law_made_too" (spMade C 16 16)) : FnOk P w K mg base CX0 4 f fd ["value"] (spMade C 0 32) := by
  refine F.ok scMade (fun vs H Q E h => ?_) (fun cdv A outer s H vs Q E hr h => ?_)
  · obtain ⟨v, rfl, _⟩ := h
    rfl
  · obtain ⟨v, rfl, k⟩ := h
    refine ⟨_, pss_cons (ps_set (i := 1) scMade.nd rfl (Or.inl rfl) (pe_lst (pa_errs (pe_err (T.err 0 (by decide)) GI hr (by decide) (by rfl) (T.mgC 0 (by decide)) (pv 0)) (pa_errs (pe_err (T.err 1 (by decide)) GI hr (by decide) (by rfl) (T.mgC 1 (by decide)) (pv 0)) (pa_errs (pe_err (T.err 2 (by decide)) GI hr (by decide) (by rfl) (T.mgC 2 (by decide)) (pv 0)) (pa_errs (pe_err (T.err 3 (by decide)) GI hr (by decide) (by rfl) (T.mgC 3 (by decide)) (pv 0)) (pa_errs (pe_err (T.err 4 (by decide)) GI hr (by decide) (by rfl) (T.mgC 4 (by decide)) (pv 0)) pa_errs0)))))))
      (pss_cons (ps_expr (pe_bm PySem.F.plainAttrs_list PySem.F.slot_list_extend PySem.F.type_list_extend mt_extend (pv 1) (pa_cons (pe_lst (pa_errs (pe_err (T.err 5 (by decide)) GI hr (by decide) (by rfl) (T.mgC 5 (by decide)) (pv 0)) (pa_errs (pe_err (T.err 6 (by decide)) GI hr (by decide) (by rfl) (T.mgC 6 (by decide)) (pv 0)) (pa_errs (pe_err (T.err 7 (by decide)) GI hr (by decide) (by rfl) (T.mgC 7 (by decide)) (pv 0)) (pa_errs (pe_err (T.err 8 (by decide)) GI hr (by decide) (by rfl) (T.mgC 8 (by decide)) (pv 0)) (pa_errs (pe_err (T.err 9 (by decide)) GI hr (by decide) (by rfl) (T.mgC 9 (by decide)) (pv 0)) pa_errs0)))))) pa_nil)))
      (pss_cons (ps_expr (pe_bm PySem.F.plainAttrs_list PySem.F.slot_list_extend PySem.F.type_list_extend mt_extend (pv 1) (pa_cons (pe_lst (pa_errs (pe_err (T.err 10 (by decide)) GI hr (by decide) (by rfl) (T.mgC 10 (by decide)) (pv 0)) (pa_errs (pe_err (T.err 11 (by decide)) GI hr (by decide) (by rfl) (T.mgC 11 (by decide)) (pv 0)) (pa_errs (pe_err (T.err 12 (by decide)) GI hr (by decide) (by rfl) (T.mgC 12 (by decide)) (pv 0)) (pa_errs (pe_err (T.err 13 (by decide)) GI hr (by decide) (by rfl) (T.mgC 13 (by decide)) (pv 0)) (pa_errs (pe_err (T.err 14 (by decide)) GI hr (by decide) (by rfl) (T.mgC 14 (by decide)) (pv 0)) (pa_errs (pe_err (T.err 15 (by decide)) GI hr (by decide) (by rfl) (T.mgC 15 (by decide)) (pv 0)) pa_errs0))))))) pa_nil)))
      (pss_one (ps_ret (pe_op op_cat (pv 1) (pe_c cM hr (by decide) rfl (pa_cons (pv 0) pa_nil))))))), ?_⟩
    refine ⟨v, rfl, fun es0 G0 l0 s0 x0 => ⟨by rw [List.length_map, l0]; show 5 ≤ sizeLine; decide, fun l hl => ?_⟩⟩
    have S : Same H (upd G0 l (.lst (es0.map V.ref))) := s0.trans (Same.new hl)
    have L : upd G0 l (.lst (es0.map V.ref)) l = some (.lst (es0.map V.ref)) := upd_same
    have XX : ∀ (i : Nat) (e : Addr), es0[i]? = some e → ExAt (upd G0 l (.lst (es0.map V.ref))) e (C (0 + i)) [("value", v)] := fun i e h => (x0 i e h).same (Same.new hl)
    have FR : ∀ (b : Addr), H b ≠ none → b ≠ l := fun b hb q => hb (s0.free (q ▸ hl))
    generalize upd G0 l (.lst (es0.map V.ref)) = G at S L XX ⊢
    clear x0 s0
    refine ⟨_, rfl, .inl ⟨rfl, _, SqL.of L⟩, v, rfl, fun es1 G1 l1 s1 x1 => ⟨by rw [List.length_map, l1]; show 5 ≤ sizeLine; decide, fun m1 hm1 => ⟨l, m1, _, _, rfl, rfl, (by rw [upd_ne (ne_of_none (s1 _ _ L) hm1)]; exact s1 _ _ L), upd_same, ?_, ?_⟩⟩⟩
    · rw [List.length_map, List.length_map, l1]
      simp only [List.length_append, l0]
      show 5+5 ≤ sizeLine
      decide
    obtain ⟨S', L', X'⟩ := grown (C := C) (off := 0) (v := v) S L XX FR s1 hm1 (by simp [l0] <;> rfl) (show ∀ (i : Nat) (e : Addr), es1[i]? = some e → ExAt G1 e (C (0 + 5 + i)) [("value", v)] from x1)
    clear S L XX x1 s1
    rw [← List.map_append]
    generalize upd (upd G1 m1 (.lst (es1.map V.ref))) l _ = G at S' L' X' ⊢
    have S := S'; have L := L'; have XX := X'
    clear S' L' X' 
    refine ⟨_, rfl, .inl ⟨rfl, _, SqL.of L⟩, v, rfl, fun es2 G2 l2 s2 x2 => ⟨by rw [List.length_map, l2]; show 6 ≤ sizeLine; decide, fun m2 hm2 => ⟨l, m2, _, _, rfl, rfl, (by rw [upd_ne (ne_of_none (s2 _ _ L) hm2)]; exact s2 _ _ L), upd_same, ?_, ?_⟩⟩⟩
    · rw [List.length_map, List.length_map, l2]
      simp only [List.length_append, l0, l1]
      show 10+6 ≤ sizeLine
      decide
    obtain ⟨S', L', X'⟩ := grown (C := C) (off := 0) (v := v) S L XX FR s2 hm2 (by simp [l0, l1] <;> rfl) (show ∀ (i : Nat) (e : Addr), es2[i]? = some e → ExAt G2 e (C (0 + 10 + i)) [("value", v)] from x2)
    clear S L XX x2 s2
    rw [← List.map_append]
    generalize upd (upd G2 m2 (.lst (es2.map V.ref))) l _ = G at S' L' X' ⊢
    have S := S'; have L := L'; have XX := X'
    clear S' L' X' 
    refine ⟨_, rfl, _, rfl, v, rfl, fun es m G9 l9 s9 f9 L9 x9 => ⟨l, m, _, _, rfl, rfl, s9 _ _ L, L9, ?_, fun p hp => ?_⟩⟩
    · rw [List.length_map, List.length_map, l9]
      simp only [List.length_append, l0, l1, l2]
      show 16 + 16 ≤ sizeLine
      decide
    · rw [← List.map_append]
      refine k _ p _ (by simp [l0, l1, l2, l9]) ((S.trans s9).trans (Same.new hp)) (fun b hb q => hb ((S.trans s9).free (q ▸ hp))) upd_same fun i e hi => ExAt.same ?_ (Same.new hp)
      by_cases h : i < 16
      · rw [List.getElem?_append_left (by simp [l0, l1, l2]; omega)] at hi
        exact (XX i e hi).same s9
      · rw [List.getElem?_append_right (by simp [l0, l1, l2]; omega)] at hi
        have := x9 _ e hi
        have en : (es0 ++ es1 ++ es2).length = 16 := by simp [l0, l1, l2]
        rw [en] at this
        rwa [show 16 + (i - 16) = 0 + i by omega] at this
theorem cal_made (D : Df K mg "_law_made" sMade) (T : Er K mg C R fI) (GI : InitE P w K mg base fI) (cM : Cal P w K mg base 3 "_law_made_too" (spMade C 16 16)) : Cal P w K mg base 4 "_law_made" (spMade C 0 32) :=
  D.cal _ (fun _ _ F => ok_made F T GI cM) fun _ _ _ _ _ _ us hl => match us, hl with | [_], _ => rfl
def spKinds (K : PySem.W.Frag) (C : Nat → Addr) (off n : Nat) : Sp := fun vs H Q _ => ∃ (e D : Addr) (fs : List (Str × V)), vs = [.ref e] ∧ ExAt H e D fs ∧ ExcC K D ∧ (∀ j, j < 32 → PySem.W.kitOne K (.ref D) (.ref (C j)) = some (decide (D = C j))) ∧
  ∀ (l : Addr) (G : Hp), Same H G → (∀ b, H b ≠ none → b ≠ l) → G l = some (.lst (fK C D off n)) → Q (.ref l) G
theorem scKinds2 : FnScope ["error", "found"] ["error"] (defScope sKinds2) := ⟨rfl, rfl, rfl, by decide +kernel, rfl, by decide +kernel, by decide +kernel⟩
theorem ok_kinds2 {f : Addr} {fd : FuncData} (F : Fun K "_law_kinds_too" "_law_kinds_too" sKinds2 f fd) (T : Er K mg C R fI) : FnOk P w K mg base CX0 1 f fd ["error"] (spKinds K C 16 16) := by
  refine F.ok scKinds2 (fun vs H Q E h => ?_) (fun cdv A outer s H vs Q E hr h => ?_)
  · obtain ⟨e, D, fs, rfl, _⟩ := h
    rfl
  · obtain ⟨e, D, fs, rfl, hx, hD, hk, k⟩ := h
    refine ⟨_, pss_cons (ps_set (i := 1) scKinds2.nd rfl (Or.inl rfl) (pe_lst (pa_kinds (pe_callB call_isX (by rfl) T.isi (by decide +kernel) (pa_cons (pv 0) (pa_cons (pe_glob (by rfl) (T.mgC 16 (by decide)) rfl) pa_nil))) (pa_kinds (pe_callB call_isX (by rfl) T.isi (by decide +kernel) (pa_cons (pv 0) (pa_cons (pe_glob (by rfl) (T.mgC 17 (by decide)) rfl) pa_nil))) (pa_kinds (pe_callB call_isX (by rfl) T.isi (by decide +kernel) (pa_cons (pv 0) (pa_cons (pe_glob (by rfl) (T.mgC 18 (by decide)) rfl) pa_nil))) pa_kinds0)))))
      (pss_cons (ps_expr (pe_bm PySem.F.plainAttrs_list PySem.F.slot_list_extend PySem.F.type_list_extend mt_extend (pv 1) (pa_cons (pe_lst (pa_kinds (pe_callB call_isX (by rfl) T.isi (by decide +kernel) (pa_cons (pv 0) (pa_cons (pe_glob (by rfl) (T.mgC 19 (by decide)) rfl) pa_nil))) (pa_kinds (pe_callB call_isX (by rfl) T.isi (by decide +kernel) (pa_cons (pv 0) (pa_cons (pe_glob (by rfl) (T.mgC 20 (by decide)) rfl) pa_nil))) (pa_kinds (pe_callB call_isX (by rfl) T.isi (by decide +kernel) (pa_cons (pv 0) (pa_cons (pe_glob (by rfl) (T.mgC 21 (by decide)) rfl) pa_nil))) pa_kinds0)))) pa_nil)))
      (pss_cons (ps_expr (pe_bm PySem.F.plainAttrs_list PySem.F.slot_list_extend PySem.F.type_list_extend mt_extend (pv 1) (pa_cons (pe_lst (pa_kinds (pe_callB call_isX (by rfl) T.isi (by decide +kernel) (pa_cons (pv 0) (pa_cons (pe_glob (by rfl) (T.mgC 22 (by decide)) rfl) pa_nil))) (pa_kinds (pe_callB call_isX (by rfl) T.isi (by decide +kernel) (pa_cons (pv 0) (pa_cons (pe_glob (by rfl) (T.mgC 23 (by decide)) rfl) pa_nil))) (pa_kinds (pe_callB call_isX (by rfl) T.isi (by decide +kernel) (pa_cons (pv 0) (pa_cons (pe_glob (by rfl) (T.mgC 24 (by decide)) rfl) pa_nil))) pa_kinds0)))) pa_nil)))
      (pss_cons (ps_expr (pe_bm PySem.F.plainAttrs_list PySem.F.slot_list_extend PySem.F.type_list_extend mt_extend (pv 1) (pa_cons (pe_lst (pa_kinds (pe_callB call_isX (by rfl) T.isi (by decide +kernel) (pa_cons (pv 0) (pa_cons (pe_glob (by rfl) (T.mgC 25 (by decide)) rfl) pa_nil))) (pa_kinds (pe_callB call_isX (by rfl) T.isi (by decide +kernel) (pa_cons (pv 0) (pa_cons (pe_glob (by rfl) (T.mgC 26 (by decide)) rfl) pa_nil))) (pa_kinds (pe_callB call_isX (by rfl) T.isi (by decide +kernel) (pa_cons (pv 0) (pa_cons (pe_glob (by rfl) (T.mgC 27 (by decide)) rfl) pa_nil))) pa_kinds0)))) pa_nil)))
      (pss_cons (ps_expr (pe_bm PySem.F.plainAttrs_list PySem.F.slot_list_extend PySem.F.type_list_extend mt_extend (pv 1) (pa_cons (pe_lst (pa_kinds (pe_callB call_isX (by rfl) T.isi (by decide +kernel) (pa_cons (pv 0) (pa_cons (pe_glob (by rfl) (T.mgC 28 (by decide)) rfl) pa_nil))) (pa_kinds (pe_callB call_isX (by rfl) T.isi (by decide +kernel) (pa_cons (pv 0) (pa_cons (pe_glob (by rfl) (T.mgC 29 (by decide)) rfl) pa_nil))) (pa_kinds (pe_callB call_isX (by rfl) T.isi (by decide +kernel) (pa_cons (pv 0) (pa_cons (pe_glob (by rfl) (T.mgC 30 (by decide)) rfl) pa_nil))) pa_kinds0)))) pa_nil)))
      (pss_cons (ps_expr (pe_bm PySem.F.plainAttrs_list PySem.F.slot_list_extend PySem.F.type_list_extend mt_extend (pv 1) (pa_cons (pe_lst (pa_kinds (pe_callB call_isX (by rfl) T.isi (by decide +kernel) (pa_cons (pv 0) (pa_cons (pe_glob (by rfl) (T.mgC 31 (by decide)) rfl) pa_nil))) pa_kinds0)) pa_nil)))
      (pss_one (ps_ret (pv 1)))))))), ?_⟩
    refine ⟨e, D, fs, rfl, hx, hD, fun j hj => hk _ (by omega), ⟨by rw [fK_len]; show 3 ≤ sizeLine; decide, fun l hl => ?_⟩⟩
    have S : Same H (upd H l (.lst (fK C D 16 3))) := Same.new hl
    have L : upd H l (.lst (fK C D 16 3)) l = some (.lst (fK C D 16 3)) := upd_same
    have FR : ∀ (b : Addr), H b ≠ none → b ≠ l := fun b hb q => hb (q ▸ hl)
    generalize upd H l (.lst (fK C D 16 3)) = G at S L ⊢
    refine ⟨_, rfl, .inl ⟨rfl, _, SqL.of L⟩, e, D, fs, rfl, hx.same S, hD, fun j hj => hk _ (by omega), ⟨by rw [fK_len]; show 3 ≤ sizeLine; decide, fun m1 hm1 => ⟨l, m1, _, fK C D (16 + 3) 3, rfl, rfl, (by rw [upd_ne (ne_of_none L hm1)]; exact L), upd_same, ?_, ?_⟩⟩⟩
    · rw [fK_len, fK_len]
      show 3 + 3 ≤ sizeLine
      decide
    rw [fK_app]
    have S' : Same H (upd (upd G m1 (.lst (fK C D (16 + 3) 3))) l (.lst (fK C D 16 (3 + 3)))) := fun b o q => by
      rw [upd_ne (FR b (by rw [q]; exact fun z => nomatch z)), upd_ne (ne_of_none (S _ _ q) hm1)]
      exact S _ _ q
    have L' : (upd (upd G m1 (.lst (fK C D (16 + 3) 3))) l (.lst (fK C D 16 (3 + 3)))) l = some (.lst (fK C D 16 6)) := upd_same
    clear S L
    generalize upd (upd G m1 (.lst (fK C D (16 + 3) 3))) l (.lst (fK C D 16 (3 + 3))) = G at S' L' ⊢
    have S := S'; have L := L'
    clear S' L' 
    refine ⟨_, rfl, .inl ⟨rfl, _, SqL.of L⟩, e, D, fs, rfl, hx.same S, hD, fun j hj => hk _ (by omega), ⟨by rw [fK_len]; show 3 ≤ sizeLine; decide, fun m2 hm2 => ⟨l, m2, _, fK C D (16 + 6) 3, rfl, rfl, (by rw [upd_ne (ne_of_none L hm2)]; exact L), upd_same, ?_, ?_⟩⟩⟩
    · rw [fK_len, fK_len]
      show 6 + 3 ≤ sizeLine
      decide
    rw [fK_app]
    have S' : Same H (upd (upd G m2 (.lst (fK C D (16 + 6) 3))) l (.lst (fK C D 16 (6 + 3)))) := fun b o q => by
      rw [upd_ne (FR b (by rw [q]; exact fun z => nomatch z)), upd_ne (ne_of_none (S _ _ q) hm2)]
      exact S _ _ q
    have L' : (upd (upd G m2 (.lst (fK C D (16 + 6) 3))) l (.lst (fK C D 16 (6 + 3)))) l = some (.lst (fK C D 16 9)) := upd_same
    clear S L
    generalize upd (upd G m2 (.lst (fK C D (16 + 6) 3))) l (.lst (fK C D 16 (6 + 3))) = G at S' L' ⊢
    have S := S'; have L := L'
    clear S' L' 
    refine ⟨_, rfl, .inl ⟨rfl, _, SqL.of L⟩, e, D, fs, rfl, hx.same S, hD, fun j hj => hk _ (by omega), ⟨by rw [fK_len]; show 3 ≤ sizeLine; decide, fun m3 hm3 => ⟨l, m3, _, fK C D (16 + 9) 3, rfl, rfl, (by rw [upd_ne (ne_of_none L hm3)]; exact L), upd_same, ?_, ?_⟩⟩⟩
    · rw [fK_len, fK_len]
      show 9 + 3 ≤ sizeLine
      decide
    rw [fK_app]
    have S' : Same H (upd (upd G m3 (.lst (fK C D (16 + 9) 3))) l (.lst (fK C D 16 (9 + 3)))) := fun b o q => by
      rw [upd_ne (FR b (by rw [q]; exact fun z => nomatch z)), upd_ne (ne_of_none (S _ _ q) hm3)]
      exact S _ _ q
    have L' : (upd (upd G m3 (.lst (fK C D (16 + 9) 3))) l (.lst (fK C D 16 (9 + 3)))) l = some (.lst (fK C D 16 12)) := upd_same
    clear S L
    generalize upd (upd G m3 (.lst (fK C D (16 + 9) 3))) l (.lst (fK C D 16 (9 + 3))) = G at S' L' ⊢
    have S := S'; have L := L'
    clear S' L' 
    refine ⟨_, rfl, .inl ⟨rfl, _, SqL.of L⟩, e, D, fs, rfl, hx.same S, hD, fun j hj => hk _ (by omega), ⟨by rw [fK_len]; show 3 ≤ sizeLine; decide, fun m4 hm4 => ⟨l, m4, _, fK C D (16 + 12) 3, rfl, rfl, (by rw [upd_ne (ne_of_none L hm4)]; exact L), upd_same, ?_, ?_⟩⟩⟩
    · rw [fK_len, fK_len]
      show 12 + 3 ≤ sizeLine
      decide
    rw [fK_app]
    have S' : Same H (upd (upd G m4 (.lst (fK C D (16 + 12) 3))) l (.lst (fK C D 16 (12 + 3)))) := fun b o q => by
      rw [upd_ne (FR b (by rw [q]; exact fun z => nomatch z)), upd_ne (ne_of_none (S _ _ q) hm4)]
      exact S _ _ q
    have L' : (upd (upd G m4 (.lst (fK C D (16 + 12) 3))) l (.lst (fK C D 16 (12 + 3)))) l = some (.lst (fK C D 16 15)) := upd_same
    clear S L
    generalize upd (upd G m4 (.lst (fK C D (16 + 12) 3))) l (.lst (fK C D 16 (12 + 3))) = G at S' L' ⊢
    have S := S'; have L := L'
    clear S' L' 
    refine ⟨_, rfl, .inl ⟨rfl, _, SqL.of L⟩, e, D, fs, rfl, hx.same S, hD, fun j hj => hk _ (by omega), ⟨by rw [fK_len]; show 1 ≤ sizeLine; decide, fun m5 hm5 => ⟨l, m5, _, fK C D (16 + 15) 1, rfl, rfl, (by rw [upd_ne (ne_of_none L hm5)]; exact L), upd_same, ?_, ?_⟩⟩⟩
    · rw [fK_len, fK_len]
      show 15 + 1 ≤ sizeLine
      decide
    rw [fK_app]
    have S' : Same H (upd (upd G m5 (.lst (fK C D (16 + 15) 1))) l (.lst (fK C D 16 (15 + 1)))) := fun b o q => by
      rw [upd_ne (FR b (by rw [q]; exact fun z => nomatch z)), upd_ne (ne_of_none (S _ _ q) hm5)]
      exact S _ _ q
    have L' : (upd (upd G m5 (.lst (fK C D (16 + 15) 1))) l (.lst (fK C D 16 (15 + 1)))) l = some (.lst (fK C D 16 16)) := upd_same
    clear S L
    generalize upd (upd G m5 (.lst (fK C D (16 + 15) 1))) l (.lst (fK C D 16 (15 + 1))) = G at S' L' ⊢
    have S := S'; have L := L'
    clear S' L' 
    exact ⟨_, rfl, k l G S FR L⟩
theorem cal_kinds2 (D : Df K mg "_law_kinds_too" sKinds2) (T : Er K mg C R fI) : Cal P w K mg base 1 "_law_kinds_too" (spKinds K C 16 16) :=
  D.cal _ (fun _ _ F => ok_kinds2 F T) fun _ _ _ _ _ _ us hl => match us, hl with | [_], _ => rfl
theorem scKinds : FnScope ["error", "found"] ["error"] (defScope sKinds) := ⟨rfl, rfl, rfl, by decide +kernel, rfl, by decide +kernel, by decide +kernel⟩
theorem ok_kinds {f : Addr} {fd : FuncData} (F : Fun K "_law_kinds" "_law_kinds" sKinds f fd) (T : Er K mg C R fI) (cM : Cal P w K mg base 1 "_law_kinds_too" (spKinds K C 16 16)) : FnOk P w K mg base CX0 2 f fd ["error"] (spKinds K C 0 32) := by
  refine F.ok scKinds (fun vs H Q E h => ?_) (fun cdv A outer s H vs Q E hr h => ?_)
  · obtain ⟨e, D, fs, rfl, _⟩ := h
    rfl
  · obtain ⟨e, D, fs, rfl, hx, hD, hk, k⟩ := h
    refine ⟨_, pss_cons (ps_set (i := 1) scKinds.nd rfl (Or.inl rfl) (pe_lst (pa_kinds (pe_callB call_isX (by rfl) T.isi (by decide +kernel) (pa_cons (pv 0) (pa_cons (pe_glob (by rfl) (T.mgC 0 (by decide)) rfl) pa_nil))) (pa_kinds (pe_callB call_isX (by rfl) T.isi (by decide +kernel) (pa_cons (pv 0) (pa_cons (pe_glob (by rfl) (T.mgC 1 (by decide)) rfl) pa_nil))) (pa_kinds (pe_callB call_isX (by rfl) T.isi (by decide +kernel) (pa_cons (pv 0) (pa_cons (pe_glob (by rfl) (T.mgC 2 (by decide)) rfl) pa_nil))) pa_kinds0)))))
      (pss_cons (ps_expr (pe_bm PySem.F.plainAttrs_list PySem.F.slot_list_extend PySem.F.type_list_extend mt_extend (pv 1) (pa_cons (pe_lst (pa_kinds (pe_callB call_isX (by rfl) T.isi (by decide +kernel) (pa_cons (pv 0) (pa_cons (pe_glob (by rfl) (T.mgC 3 (by decide)) rfl) pa_nil))) (pa_kinds (pe_callB call_isX (by rfl) T.isi (by decide +kernel) (pa_cons (pv 0) (pa_cons (pe_glob (by rfl) (T.mgC 4 (by decide)) rfl) pa_nil))) (pa_kinds (pe_callB call_isX (by rfl) T.isi (by decide +kernel) (pa_cons (pv 0) (pa_cons (pe_glob (by rfl) (T.mgC 5 (by decide)) rfl) pa_nil))) pa_kinds0)))) pa_nil)))
      (pss_cons (ps_expr (pe_bm PySem.F.plainAttrs_list PySem.F.slot_list_extend PySem.F.type_list_extend mt_extend (pv 1) (pa_cons (pe_lst (pa_kinds (pe_callB call_isX (by rfl) T.isi (by decide +kernel) (pa_cons (pv 0) (pa_cons (pe_glob (by rfl) (T.mgC 6 (by decide)) rfl) pa_nil))) (pa_kinds (pe_callB call_isX (by rfl) T.isi (by decide +kernel) (pa_cons (pv 0) (pa_cons (pe_glob (by rfl) (T.mgC 7 (by decide)) rfl) pa_nil))) (pa_kinds (pe_callB call_isX (by rfl) T.isi (by decide +kernel) (pa_cons (pv 0) (pa_cons (pe_glob (by rfl) (T.mgC 8 (by decide)) rfl) pa_nil))) pa_kinds0)))) pa_nil)))
      (pss_cons (ps_expr (pe_bm PySem.F.plainAttrs_list PySem.F.slot_list_extend PySem.F.type_list_extend mt_extend (pv 1) (pa_cons (pe_lst (pa_kinds (pe_callB call_isX (by rfl) T.isi (by decide +kernel) (pa_cons (pv 0) (pa_cons (pe_glob (by rfl) (T.mgC 9 (by decide)) rfl) pa_nil))) (pa_kinds (pe_callB call_isX (by rfl) T.isi (by decide +kernel) (pa_cons (pv 0) (pa_cons (pe_glob (by rfl) (T.mgC 10 (by decide)) rfl) pa_nil))) (pa_kinds (pe_callB call_isX (by rfl) T.isi (by decide +kernel) (pa_cons (pv 0) (pa_cons (pe_glob (by rfl) (T.mgC 11 (by decide)) rfl) pa_nil))) pa_kinds0)))) pa_nil)))
      (pss_cons (ps_expr (pe_bm PySem.F.plainAttrs_list PySem.F.slot_list_extend PySem.F.type_list_extend mt_extend (pv 1) (pa_cons (pe_lst (pa_kinds (pe_callB call_isX (by rfl) T.isi (by decide +kernel) (pa_cons (pv 0) (pa_cons (pe_glob (by rfl) (T.mgC 12 (by decide)) rfl) pa_nil))) (pa_kinds (pe_callB call_isX (by rfl) T.isi (by decide +kernel) (pa_cons (pv 0) (pa_cons (pe_glob (by rfl) (T.mgC 13 (by decide)) rfl) pa_nil))) (pa_kinds (pe_callB call_isX (by rfl) T.isi (by decide +kernel) (pa_cons (pv 0) (pa_cons (pe_glob (by rfl) (T.mgC 14 (by decide)) rfl) pa_nil))) pa_kinds0)))) pa_nil)))
      (pss_cons (ps_expr (pe_bm PySem.F.plainAttrs_list PySem.F.slot_list_extend PySem.F.type_list_extend mt_extend (pv 1) (pa_cons (pe_lst (pa_kinds (pe_callB call_isX (by rfl) T.isi (by decide +kernel) (pa_cons (pv 0) (pa_cons (pe_glob (by rfl) (T.mgC 15 (by decide)) rfl) pa_nil))) pa_kinds0)) pa_nil)))
      (pss_one (ps_ret (pe_op op_cat (pv 1) (pe_c cM hr (by decide) rfl (pa_cons (pv 0) pa_nil)))))))))), ?_⟩
    refine ⟨e, D, fs, rfl, hx, hD, fun j hj => hk _ (by omega), ⟨by rw [fK_len]; show 3 ≤ sizeLine; decide, fun l hl => ?_⟩⟩
    have S : Same H (upd H l (.lst (fK C D 0 3))) := Same.new hl
    have L : upd H l (.lst (fK C D 0 3)) l = some (.lst (fK C D 0 3)) := upd_same
    have FR : ∀ (b : Addr), H b ≠ none → b ≠ l := fun b hb q => hb (q ▸ hl)
    generalize upd H l (.lst (fK C D 0 3)) = G at S L ⊢
    refine ⟨_, rfl, .inl ⟨rfl, _, SqL.of L⟩, e, D, fs, rfl, hx.same S, hD, fun j hj => hk _ (by omega), ⟨by rw [fK_len]; show 3 ≤ sizeLine; decide, fun m1 hm1 => ⟨l, m1, _, fK C D (0 + 3) 3, rfl, rfl, (by rw [upd_ne (ne_of_none L hm1)]; exact L), upd_same, ?_, ?_⟩⟩⟩
    · rw [fK_len, fK_len]
      show 3 + 3 ≤ sizeLine
      decide
    rw [fK_app]
    have S' : Same H (upd (upd G m1 (.lst (fK C D (0 + 3) 3))) l (.lst (fK C D 0 (3 + 3)))) := fun b o q => by
      rw [upd_ne (FR b (by rw [q]; exact fun z => nomatch z)), upd_ne (ne_of_none (S _ _ q) hm1)]
      exact S _ _ q
    have L' : (upd (upd G m1 (.lst (fK C D (0 + 3) 3))) l (.lst (fK C D 0 (3 + 3)))) l = some (.lst (fK C D 0 6)) := upd_same
    clear S L
    generalize upd (upd G m1 (.lst (fK C D (0 + 3) 3))) l (.lst (fK C D 0 (3 + 3))) = G at S' L' ⊢
    have S := S'; have L := L'
    clear S' L' 
    refine ⟨_, rfl, .inl ⟨rfl, _, SqL.of L⟩, e, D, fs, rfl, hx.same S, hD, fun j hj => hk _ (by omega), ⟨by rw [fK_len]; show 3 ≤ sizeLine; decide, fun m2 hm2 => ⟨l, m2, _, fK C D (0 + 6) 3, rfl, rfl, (by rw [upd_ne (ne_of_none L hm2)]; exact L), upd_same, ?_, ?_⟩⟩⟩
    · rw [fK_len, fK_len]
      show 6 + 3 ≤ sizeLine
      decide
    rw [fK_app]
    have S' : Same H (upd (upd G m2 (.lst (fK C D (0 + 6) 3))) l (.lst (fK C D 0 (6 + 3)))) := fun b o q => by
      rw [upd_ne (FR b (by rw [q]; exact fun z => nomatch z)), upd_ne (ne_of_none (S _ _ q) hm2)]
      exact S _ _ q
    have L' : (upd (upd G m2 (.lst (fK C D (0 + 6) 3))) l (.lst (fK C D 0 (6 + 3)))) l = some (.lst (fK C D 0 9)) := upd_same
    clear S L
    generalize upd (upd G m2 (.lst (fK C D (0 + 6) 3))) l (.lst (fK C D 0 (6 + 3))) = G at S' L' ⊢
    have S := S'; have L := L'
    clear S' L' 
    refine ⟨_, rfl, .inl ⟨rfl, _, SqL.of L⟩, e, D, fs, rfl, hx.same S, hD, fun j hj => hk _ (by omega), ⟨by rw [fK_len]; show 3 ≤ sizeLine; decide, fun m3 hm3 => ⟨l, m3, _, fK C D (0 + 9) 3, rfl, rfl, (by rw [upd_ne (ne_of_none L hm3)]; exact L), upd_same, ?_, ?_⟩⟩⟩
    · rw [fK_len, fK_len]
      show 9 + 3 ≤ sizeLine
      decide
    rw [fK_app]
    have S' : Same H (upd (upd G m3 (.lst (fK C D (0 + 9) 3))) l (.lst (fK C D 0 (9 + 3)))) := fun b o q => by
      rw [upd_ne (FR b (by rw [q]; exact fun z => nomatch z)), upd_ne (ne_of_none (S _ _ q) hm3)]
      exact S _ _ q
    have L' : (upd (upd G m3 (.lst (fK C D (0 + 9) 3))) l (.lst (fK C D 0 (9 + 3)))) l = some (.lst (fK C D 0 12)) := upd_same
    clear S L
    generalize upd (upd G m3 (.lst (fK C D (0 + 9) 3))) l (.lst (fK C D 0 (9 + 3))) = G at S' L' ⊢
    have S := S'; have L := L'
    clear S' L' 
    refine ⟨_, rfl, .inl ⟨rfl, _, SqL.of L⟩, e, D, fs, rfl, hx.same S, hD, fun j hj => hk _ (by omega), ⟨by rw [fK_len]; show 3 ≤ sizeLine; decide, fun m4 hm4 => ⟨l, m4, _, fK C D (0 + 12) 3, rfl, rfl, (by rw [upd_ne (ne_of_none L hm4)]; exact L), upd_same, ?_, ?_⟩⟩⟩
    · rw [fK_len, fK_len]
      show 12 + 3 ≤ sizeLine
      decide
    rw [fK_app]
    have S' : Same H (upd (upd G m4 (.lst (fK C D (0 + 12) 3))) l (.lst (fK C D 0 (12 + 3)))) := fun b o q => by
      rw [upd_ne (FR b (by rw [q]; exact fun z => nomatch z)), upd_ne (ne_of_none (S _ _ q) hm4)]
      exact S _ _ q
    have L' : (upd (upd G m4 (.lst (fK C D (0 + 12) 3))) l (.lst (fK C D 0 (12 + 3)))) l = some (.lst (fK C D 0 15)) := upd_same
    clear S L
    generalize upd (upd G m4 (.lst (fK C D (0 + 12) 3))) l (.lst (fK C D 0 (12 + 3))) = G at S' L' ⊢
    have S := S'; have L := L'
    clear S' L' 
    refine ⟨_, rfl, .inl ⟨rfl, _, SqL.of L⟩, e, D, fs, rfl, hx.same S, hD, fun j hj => hk _ (by omega), ⟨by rw [fK_len]; show 1 ≤ sizeLine; decide, fun m5 hm5 => ⟨l, m5, _, fK C D (0 + 15) 1, rfl, rfl, (by rw [upd_ne (ne_of_none L hm5)]; exact L), upd_same, ?_, ?_⟩⟩⟩
    · rw [fK_len, fK_len]
      show 15 + 1 ≤ sizeLine
      decide
    rw [fK_app]
    have S' : Same H (upd (upd G m5 (.lst (fK C D (0 + 15) 1))) l (.lst (fK C D 0 (15 + 1)))) := fun b o q => by
      rw [upd_ne (FR b (by rw [q]; exact fun z => nomatch z)), upd_ne (ne_of_none (S _ _ q) hm5)]
      exact S _ _ q
    have L' : (upd (upd G m5 (.lst (fK C D (0 + 15) 1))) l (.lst (fK C D 0 (15 + 1)))) l = some (.lst (fK C D 0 16)) := upd_same
    clear S L
    generalize upd (upd G m5 (.lst (fK C D (0 + 15) 1))) l (.lst (fK C D 0 (15 + 1))) = G at S' L' ⊢
    have S := S'; have L := L'
    clear S' L' 
    refine ⟨_, rfl, _, rfl, e, D, fs, rfl, hx.same S, hD, hk, fun m G9 s9 f9 L9 => ⟨l, m, _, _, rfl, rfl, s9 _ _ L, L9, ?_, fun p hp => ?_⟩⟩
    · rw [fK_len, fK_len]
      show 16 + 16 ≤ sizeLine
      decide
    · rw [show (16 : Nat) = 0 + 16 from rfl, fK_app]
      exact k p _ ((S.trans s9).trans (Same.new hp)) (fun b hb q => hb ((S.trans s9).free (q ▸ hp))) upd_same
theorem cal_kinds (D : Df K mg "_law_kinds" sKinds) (T : Er K mg C R fI) (cM : Cal P w K mg base 1 "_law_kinds_too" (spKinds K C 16 16)) : Cal P w K mg base 2 "_law_kinds" (spKinds K C 0 32) :=
  D.cal _ (fun _ _ F => ok_kinds F T cM) fun _ _ _ _ _ _ us hl => match us, hl with | [_], _ => rfl
/-! ### the values -/
def spOdd (K : PySem.W.Frag) : Sp := fun vs H Q _ => ∃ (p : Addr) (m : Nat), vs = [.ref p] ∧ PotAt H p (m + 1) ∧ ∀ (v : V) (G : Hp), Drew H G p m → Fine K G v → Q v G
theorem scOdd : FnScope ["pot", "some"] ["pot"] (defScope sOdd) := ⟨rfl, rfl, rfl, by decide +kernel, rfl, by decide +kernel, by decide +kernel⟩
section
variable {X : Cx} {q : Addr} {pos : Pos} {e : Expr} {es : List Expr}
theorem fi_non {k : Nat} : PE X (.Constant .none k pos) (tFine X.K q) := fine_d (d := .none) (dat_c pe_non fun _ => .non) rfl rfl (by decide +kernel) (by decide) rfl
theorem fi_bl {b : Bool} {k : Nat} : PE X (.Constant (.bool b) k pos) (tFine X.K q) := fine_d (d := .bool b) (dat_c pe_bl fun _ => .bl b) rfl rfl (by cases b <;> decide +kernel) (by cases b <;> decide) rfl
theorem da_str {z : Str} {k : Nat} : PE X (.Constant (.str z) k pos) (tDat X.K q (.str z)) := dat_c pe_str fun _ => .str z
theorem da_non {k : Nat} : PE X (.Constant .none k pos) (tDat X.K q .none) := dat_c pe_non fun _ => .non
theorem da_bl {b : Bool} {k : Nat} : PE X (.Constant (.bool b) k pos) (tDat X.K q (.bool b)) := dat_c pe_bl fun _ => .bl b
end
theorem ok_odd {f : Addr} {fd : FuncData} (F : Fun K "_law_odd" "_law_odd" sOdd f fd) (cO : Cal P w K mg base 2 "_law_of" (spOf K)) : FnOk P w K mg base CX0 3 f fd ["pot"] (spOdd K) := by
  refine F.ok scOdd (fun vs H Q E h => ?_) (fun cdv A outer s H vs Q E hr h => ?_)
  · obtain ⟨p, m, rfl, _⟩ := h
    rfl
  · obtain ⟨p, m, rfl, hp, k⟩ := h
    refine ⟨_, pss_cons (ps_set (i := 1) scOdd.nd rfl (Or.inl rfl) (pe_lst (fines_cons fi_non (fines_cons fi_bl (fines_cons fi_bl (fines_cons (fine_d (d := (.int 0)) dat_int (by decide +kernel) (by decide +kernel) (by decide +kernel) (by decide +kernel) (by decide +kernel)) (fines_cons (fine_d (d := (.int (-1))) dat_neg (by decide +kernel) (by decide +kernel) (by decide +kernel) (by decide +kernel) (by decide +kernel)) (fines_cons (fine_d (d := (.str "")) da_str (by decide +kernel) (by decide +kernel) (by decide +kernel) (by decide +kernel) (by decide +kernel)) (fines_cons (fine_d (d := (.str "A")) da_str (by decide +kernel) (by decide +kernel) (by decide +kernel) (by decide +kernel) (by decide +kernel)) (fines_cons (fine_d (d := (.str "a b")) da_str (by decide +kernel) (by decide +kernel) (by decide +kernel) (by decide +kernel) (by decide +kernel)) (fines_cons (fine_d (d := (.tuple [])) (dat_tup dats_nil (by decide)) (by decide +kernel) (by decide +kernel) (by decide +kernel) (by decide +kernel) (by decide +kernel)) (fines_cons (fine_d (d := (.list [])) (dat_lst dats_nil (by decide)) (by decide +kernel) (by decide +kernel) (by decide +kernel) (by decide +kernel) (by decide +kernel)) (fines_cons fine_d0 (fines_cons (fine_d (d := (.tuple [(.tuple [])])) (dat_tup (dats_cons (dat_tup dats_nil (by decide)) dats_nil) (by decide)) (by decide +kernel) (by decide +kernel) (by decide +kernel) (by decide +kernel) (by decide +kernel)) (fines_cons (fine_d (d := (.tuple [.none])) (dat_tup (dats_cons da_non dats_nil) (by decide)) (by decide +kernel) (by decide +kernel) (by decide +kernel) (by decide +kernel) (by decide +kernel)) (fines_cons (fine_d (d := (.list [(.int 0)])) (dat_lst (dats_cons dat_int dats_nil) (by decide)) (by decide +kernel) (by decide +kernel) (by decide +kernel) (by decide +kernel) (by decide +kernel)) (fines_cons (fine_d (d := (.tuple [(.int 0)])) (dat_tup (dats_cons dat_int dats_nil) (by decide)) (by decide +kernel) (by decide +kernel) (by decide +kernel) (by decide +kernel) (by decide +kernel)) (fines_cons (fine_d (d := (.tuple [(.str "a")])) (dat_tup (dats_cons da_str dats_nil) (by decide)) (by decide +kernel) (by decide +kernel) (by decide +kernel) (by decide +kernel) (by decide +kernel)) (fines_cons (fine_d (d := (.list [(.str "a")])) (dat_lst (dats_cons da_str dats_nil) (by decide)) (by decide +kernel) (by decide +kernel) (by decide +kernel) (by decide +kernel) (by decide +kernel)) (fines_cons (fine_d (d := (.tuple [(.tuple [(.int 0), (.int 1)])])) (dat_tup (dats_cons (dat_tup (dats_cons dat_int (dats_cons dat_int dats_nil)) (by decide)) dats_nil) (by decide)) (by decide +kernel) (by decide +kernel) (by decide +kernel) (by decide +kernel) (by decide +kernel)) (fines_nil (q := p))))))))))))))))))))))
      (pss_one (ps_ret (pe_c cO hr (by decide) rfl (pa_cons (pv 0) (pa_cons (pe_op op_cat (pv 1) (pe_lst (fines_cons (fine_d (d := (.tuple [(.bool true)])) (dat_tup (dats_cons da_bl dats_nil) (by decide)) (by decide +kernel) (by decide +kernel) (by decide +kernel) (by decide +kernel) (by decide +kernel)) (fines_cons (fine_d1 (z := "a") (v := .int 1) (d := .int 1) pe_str pe_int rfl rfl (by decide +kernel) (by decide +kernel) (by decide +kernel)) (fines_cons (fine_d (d := (.str "abcdefghi")) da_str (by decide +kernel) (by decide +kernel) (by decide +kernel) (by decide +kernel) (by decide +kernel)) (fines_cons (fine_d (d := (.str "a1")) da_str (by decide +kernel) (by decide +kernel) (by decide +kernel) (by decide +kernel) (by decide +kernel)) (fines_cons (fine_d (d := (.tuple [(.str "")])) (dat_tup (dats_cons da_str dats_nil) (by decide)) (by decide +kernel) (by decide +kernel) (by decide +kernel) (by decide +kernel) (by decide +kernel)) (fines_nil (q := p))))))))) pa_nil))))), ?_⟩
    obtain ⟨a0, b0, c0, hp0, hb0⟩ := id hp
    refine ⟨⟨_, hp0⟩, fun xs1 G1 s1 l1 f1 => ⟨by rw [l1]; decide, fun l hl => ?_⟩⟩
    have hp1 := s1 _ _ hp0
    have nlp : l ≠ p := (ne_of_none hp1 hl).symm
    have hp2 : upd G1 l (.lst xs1) p = some (potL a0 b0 c0) := by rw [upd_ne nlp.symm]; exact hp1
    refine ⟨_, rfl, _, rfl, ⟨_, hp2⟩, fun xs2 G2 s2 l2 f2 => ⟨by rw [l2]; decide, fun m' hm' => ?_⟩⟩
    have hp3 := s2 _ _ hp2
    have hl3 := s2 _ _ (upd_same (H := G1) (a := l) (o := .lst xs1))
    refine ⟨l, m', _, _, rfl, rfl, by rw [upd_ne (ne_of_none hl3 hm')]; exact hl3, upd_same, by rw [l1, l2]; decide, fun t ht => ?_⟩
    have S : Same G2 (upd (upd G2 m' (.lst xs2)) t (.lst (xs1 ++ xs2))) := (Same.new hm').trans (Same.new ht)
    have S1 : Same G1 (upd (upd G2 m' (.lst xs2)) t (.lst (xs1 ++ xs2))) := ((Same.new hl).trans s2).trans S
    have ntp : t ≠ p := fun z => by
      have y := (Same.new hm').free ht
      rw [z, hp3] at y
      cases y
    refine ⟨p, t, xs1 ++ xs2, m, rfl, hp.same ((s1.trans S1)), SqL.of upd_same, ntp, by rw [List.length_append, l1, l2]; decide, by rw [List.length_append, l1, l2]; decide, fun i v G hi dr => ?_⟩
    refine k v G ⟨(Same.but (s1.trans S1)).trans dr.1, dr.2⟩ ?_
    have hv : v ∈ xs1 ++ xs2 := List.mem_of_getElem? hi
    rcases List.mem_append.mp hv with hv | hv
    · exact (f1 v hv).same ((hide_same S1).trans (hide_but dr.1))
    · exact (f2 v hv).same ((hide_same S).trans (hide_but dr.1))
theorem cal_odd (D : Df K mg "_law_odd" sOdd) (cO : Cal P w K mg base 2 "_law_of" (spOf K)) : Cal P w K mg base 3 "_law_odd" (spOdd K) :=
  D.cal _ (fun _ _ F => ok_odd F cO) fun _ _ _ _ _ _ us hl => match us, hl with | [_], _ => rfl
end
end Lw

set_option Elab.async false
set_option linter.all false
set_option maxRecDepth 100000
set_option autoImplicit false
set_option maxHeartbeats 2000000
namespace Lw
open PySem L2 Vb
abbrev sRight : Stmt := topS 44
section
variable {P : Program} {w : World} {K : PySem.W.Frag} {mg : Str → Option Value} {base : Heap} {C : Nat → Addr} {R fI : Addr}
structure Kit (K : PySem.W.Frag) (C : Nat → Addr) (R : Addr) : Prop where
  cc : ∀ i j, i < 32 → j < 32 → PySem.W.kitOne K (.ref (C i)) (.ref (C j)) = some (decide (C i = C j))
  rc : ∀ j, j < 32 → PySem.W.kitOne K (.ref R) (.ref (C j)) = some (decide (R = C j))
  cr : ∀ i, i < 32 → PySem.W.kitOne K (.ref (C i)) (.ref R) = some true
  cv : ∀ i, i < 32 → PySem.W.kitOne K (.ref (C i)) (.type "ValueError") = some true
  rv : PySem.W.kitOne K (.ref R) (.type "ValueError") = some true
structure Bi2 (mg : Str → Option Value) : Prop extends Bi mg where
  isinstance : mg "isinstance" = none
  repr : mg "repr" = none
  enumerate : mg "enumerate" = none
  ve : mg "ValueError" = none
theorem fK_at {D : Addr} {i : Nat} (hi : i < 32) : (fK C D 0 32)[i]? = some (V.bl (decide (D = C i))) := by
  unfold fK
  rw [List.getElem?_map, List.getElem?_range hi]
  simp
theorem fK_flat {D : Addr} {off n : Nat} : (fK C D off n).all flatV = true := by
  unfold fK
  rw [List.all_map]
  exact List.all_eq_true.mpr fun _ _ => rfl
theorem fK_bools {D : Addr} {off n : Nat} : fK C D off n = ((List.range n).map fun j => decide (D = C (off + j))).map V.bl := by
  unfold fK
  rw [List.map_map]
  rfl
theorem count_one (inj : ∀ i j, i < 32 → j < 32 → C i = C j → i = j) {i : Nat} (hi : i < 32) : (((List.range 32).map fun j => decide (C i = C (0 + j))).count true) = 1 := by
  have e : ((List.range 32).map fun j => decide (C i = C (0 + j))) = (List.range 32).map fun j => decide (i = j) := List.map_congr_left fun j hj => by
    rw [Nat.zero_add]
    have := List.mem_range.mp hj
    by_cases h : i = j
    · subst h
      simp
    · rw [decide_eq_false h, decide_eq_false fun z => h (inj _ _ hi this z)]
  rw [e]
  revert i
  intro i hi _
  have all : ∀ k : Fin 32, (((List.range 32).map fun j => decide (k.val = j)).count true) = 1 := by decide +kernel
  exact all ⟨i, hi⟩
theorem in_none (far : ∀ i, i < 32 → R ≠ C i) : inV (V.bl true) (fK C R 0 32) = false := by
  unfold inV fK
  rw [List.any_map]
  refine List.any_eq_false.mpr fun j hj => ?_
  have := far j (List.mem_range.mp hj)
  show ¬ eqV (V.bl (decide (R = C (0 + j)))) (V.bl true) = true
  rw [Nat.zero_add, decide_eq_false this]
  decide
theorem scRight : FnScope ["pot", "lap", "value", "errors", "base", "at", "error"] ["pot"] (defScope sRight) := ⟨rfl, rfl, rfl, by decide +kernel, rfl, by decide +kernel, by decide +kernel⟩
theorem ok_right {f : Addr} {fd : FuncData} (F : Fun K "_law_right" "_law_right" sRight f fd) (B : Bi2 mg) (T : Er K mg C R fI) (KT : Kit K C R) (GI : InitE P w K mg base fI) (cO : Cal P w K mg base 3 "_law_odd" (spOdd K)) (cM : Cal P w K mg base 4 "_law_made" (spMade C 0 32))
    (cK : Cal P w K mg base 2 "_law_kinds" (spKinds K C 0 32)) : FnG P w K mg base CX0 5 f fd ["pot"] spRight := by
  refine okG F scRight (fun vs H Q E h => ?_) (fun cdv A outer s H vs Q E hg hr h => ?_)
  · obtain ⟨p, rfl, _⟩ := h
    rfl
  · obtain ⟨p, rfl, hp, k⟩ := h
    refine ⟨_, (pss_cons (ps_for PassesOwn.never rfl (pi_range1 (by rfl) B.range (pa_cons pe_int pa_nil)) (pg_name (i := 1) scRight.nd rfl (Or.inl rfl))
(pss_cons (ps_set (i := 2) scRight.nd rfl (Or.inl rfl) (pe_c cO hr (by decide) rfl (pa_cons (pv 0) pa_nil)))
(pss_cons (ps_par (i := 3) (j := 4) (by rfl) scRight.nd rfl rfl (by decide) rfl rfl (pa_cons (pe_c cM hr (by decide) rfl (pa_cons (pv 2) pa_nil)) (pa_cons (pe_err T.base GI hr (by decide) (by rfl) T.mgR (pv 2)) pa_nil)) (by rfl))
(pss_cons (ps_for PassesOwn.never rfl (pi_enum (by rfl) B.enumerate (pa_cons (pv 3) pa_nil)) (pg_tup rfl (pgs_cons (pg_name (i := 5) scRight.nd rfl (Or.inl rfl)) (pgs_cons (pg_name (i := 6) scRight.nd rfl (Or.inl rfl)) pgs_nil)))
(pss_cons (ps_if (PW.pt (pw_or (pt_cmpR (op_neA hr.units) (pe_xv (pv 6)) (pv 2) (nomark _)) (pw_or (pt_cmpR op_ne (pe_callB (call_repr hg hr.units) (by rfl) B.repr (by decide +kernel) (pa_cons (pe_xv (pv 6)) pa_nil)) (pe_callB (call_repr hg hr.units) (by rfl) B.repr (by decide +kernel) (pa_cons (pv 2) pa_nil)) (nomark _)) (pw_or1 (pt_cmpR op_ne (pe_bm PySem.F.plainAttrs_list PySem.F.slot_list_index PySem.F.type_list_index mt_index (pe_c cK hr (by decide) rfl (pa_cons (pv 6) pa_nil)) (pa_cons pe_bl pa_nil)) (pv 5) (nomark _))))))
(pss_one (ps_ret pe_bl))
pss_nil)
(pss_cons (ps_if (PW.pt (pw_or (pt_cmpR op_ne (pe_bm PySem.F.plainAttrs_list PySem.F.slot_list_count PySem.F.type_list_count mt_countB (pe_c cK hr (by decide) rfl (pa_cons (pv 6) pa_nil)) (pa_cons pe_bl pa_nil)) pe_int (nomark _)) (pw_or1 (pt_not (pt_val (pe_callB call_isX (by rfl) B.isinstance (by decide +kernel) (pa_cons (pv 6) (pa_cons (pe_glob (v := .ref R) (by rfl) T.mgR rfl) pa_nil))))))))
(pss_one (ps_ret pe_bl))
pss_nil)
(pss_one (ps_if (pt_not (pt_val (pe_callB call_isX (by rfl) B.isinstance (by decide +kernel) (pa_cons (pv 6) (pa_cons (pe_bltn (v := .ty "ValueError") (by rfl) B.ve (by decide +kernel) rfl) pa_nil)))))
(pss_one (ps_ret pe_bl))
pss_nil)))))
(pss_one (ps_if (PW.pt (pw_or (pt_cmpR op_ne (pe_callB (call_repr hg hr.units) (by rfl) B.repr (by decide +kernel) (pa_cons (pe_xv (pv 4)) pa_nil)) (pe_callB (call_repr hg hr.units) (by rfl) B.repr (by decide +kernel) (pa_cons (pv 2) pa_nil)) (nomark _)) (pw_or (pt_cmpR op_in_seq pe_bl (pe_c cK hr (by decide) rfl (pa_cons (pv 4) pa_nil)) (by rfl)) (pw_or1 (pt_not (pt_val (pe_callB call_isX (by rfl) B.isinstance (by decide +kernel) (pa_cons (pv 4) (pa_cons (pe_bltn (v := .ty "ValueError") (by rfl) B.ve (by decide +kernel) rfl) pa_nil)))))))))
(pss_one (ps_ret pe_bl))
pss_nil))))))
(pss_one (ps_ret pe_bl))), ?_⟩
    refine ⟨3, rfl, by decide, by decide, for_range (lo := 0) (n := 3) (fun i σ G => ∃ (x1 x2 x3 x4 x5 x6 : Option V), σ = [some (.ref p), x1, x2, x3, x4, x5, x6] ∧ SameBut p H G ∧ PotAt G p (10 - i)) ⟨none, none, none, none, none, none, rfl, .refl _ _, hp.le (by omega)⟩ ?_ ?_⟩
    · rintro lap σ G hlap ⟨x1, x2, x3, x4, x5, x6, rfl, sb, hpG⟩
      refine ⟨_, rfl, p, 9 - lap, rfl, (by rwa [show 9 - lap + 1 = 10 - lap by omega]), fun v G1 dr hf => ?_⟩
      refine ⟨_, rfl, v, rfl, fun es l G2 hes s2 _ hl x2' => ?_⟩
      refine ⟨_, rfl, fun b G3 nb s3 xb => ⟨_, _, rfl, ?_⟩⟩
      have hf3 : Fine K G3 v := (hf.same s2).same s3
      have hl3 := s3 _ _ hl
      obtain ⟨d, hd, d1, d2, d3⟩ := hf3.ex
      refine ⟨_, rfl, l, _, rfl, SqL.of hl3, for_it (walk_enum (K := K) (a := l) (xs := es.map V.ref)) (fun i σ G' => ∃ (y5 y6 : Option V), σ = [some (.ref p), some (.int (0 + (lap : Nat))), some v, some (.ref l), some (.ref b), y5, y6] ∧ Same G3 G') ⟨x5, x6, rfl, .refl _⟩ (fun i σ G' _ ⟨_, _, _, sm⟩ => SqL.of (sm _ _ hl3)) ?_ ?_⟩
      · rintro i x σ G4 G5 hi ⟨y5, y6, rfl, sm⟩ ⟨T', a1, a2, rfl, hT, rfl, ha1, ha2⟩
        cases Option.some.inj ha1
        rw [List.length_map, hes] at hi
        have hie : i < es.length := by omega
        have ha2 : (es.map V.ref)[i]? = some a2 := ha2
        rw [List.getElem?_map, List.getElem?_eq_getElem hie] at ha2
        cases Option.some.inj ha2
        have S5 : Same G3 (upd G4 T' (.tup [.int (i : Nat), .ref es[i]])) := sm.trans (Same.new hT)
        refine ⟨T', _, rfl, SqT.of upd_same, rfl, _, _, rfl, _, _, rfl, rfl, ?_⟩
        generalize upd G4 T' (.tup [.int (i : Nat), .ref es[i]]) = G5 at S5 ⊢
        have hE : ExAt G5 es[i] (C i) [("value", v)] := by
          have := x2' i es[i] (List.getElem?_eq_getElem hie)
          rw [Nat.zero_add] at this
          exact (this.same s3).same S5
        have hf5 := hf3.same S5
        have hd5 := dd_same S5 hd
        have EC := T.err i hi
        -- error.value != value
        refine ⟨_, rfl, es[i], C i, _, v, rfl, hE, EC.xf, EC.nv, rfl, _, rfl, hf5.neQ ⟨false, rfl, iteF ?_⟩⟩
        -- repr(error.value) != repr(value)
        refine ⟨_, rfl, es[i], C i, _, v, rfl, hE, EC.xf, EC.nv, rfl, v, d, rfl, hd5, d1, d2, d3, _, rfl, v, d, rfl, hd5, d1, d2, d3, rfl, _, rfl, iteNS rfl ?_⟩
        -- _law_kinds(error).index(True) != at
        refine ⟨_, rfl, es[i], C i, _, rfl, hE, EC.ex, fun j hj => KT.cc i j hi hj, fun m G6 s6 _ h6 => ⟨.inl ⟨rfl, _, SqL.of h6⟩, m, _, _, i, _, rfl, rfl, SqL.of h6, rfl, fK_flat, fK_at hi, ?_, ?_, _, rfl, rfl, _, rfl, iteNS rfl ?_⟩⟩
        · rw [decide_eq_true rfl]
          rfl
        · intro j z hj hz
          rw [fK_at (by omega)] at hz
          cases Option.some.inj hz
          rw [decide_eq_false fun q => absurd (T.inj i j hi (by omega) q) (by omega)]
          rfl
        have S6 := S5.trans s6
        -- _law_kinds(error).count(True) != 1 or not isinstance(error, RollError)
        refine ⟨_, rfl, es[i], C i, _, rfl, hE.same s6, EC.ex, fun j hj => KT.cc i j hi hj, fun m7 G7 s7 _ h7 => ⟨.inl ⟨rfl, _, SqL.of h7⟩, m7, _, _, rfl, rfl, SqL.of (by rw [h7, fK_bools]), ?_⟩⟩
        rw [count_one T.inj hi]
        refine ⟨rfl, _, rfl, iteNS rfl ?_⟩
        have hE7 := (hE.same s6).same s7
        refine ⟨_, rfl, es[i], C i, _, _, _, _, rfl, hE7, EC.ex, (fun _ r => r), KT.cr i hi, true, rfl, iteF ?_⟩
        refine ⟨_, rfl, es[i], C i, _, _, _, _, rfl, hE7, EC.ex, (fun _ r => r), KT.cv i hi, true, rfl, iteF ?_⟩
        exact ⟨_, _, rfl, S6.trans s7⟩
      · rintro σ G4 ⟨y5, y6, rfl, sm⟩
        have hb := xb.same sm
        have hd4 := dd_same sm hd
        refine ⟨_, rfl, b, R, _, v, rfl, hb, T.base.xf, T.base.nv, rfl, v, d, rfl, hd4, d1, d2, d3, _, rfl, v, d, rfl, hd4, d1, d2, d3, rfl, _, rfl, iteNS rfl ?_⟩
        refine ⟨_, rfl, b, R, _, rfl, hb, T.base.ex, fun j hj => KT.rc j hj, fun m G6 s6 _ h6 => ⟨m, _, rfl, .inl (SqL.of h6), rfl, fK_flat, ?_⟩⟩
        rw [in_none T.far]
        refine ⟨_, rfl, iteF ?_⟩
        refine ⟨_, rfl, b, R, _, _, _, _, rfl, hb.same s6, T.base.ex, (fun _ r => r), KT.rv, true, rfl, iteF ?_⟩
        refine ⟨_, _, _, _, _, _, rfl, ?_, ?_⟩
        · exact (sb.trans dr.1).trans (Same.but (((s2.trans s3).trans sm).trans s6))
        · exact (((dr.2.same s2).same s3).same sm).same s6 |>.le (by omega)
    · rintro σ G ⟨x1, x2, x3, x4, x5, x6, rfl, sb, hpG⟩
      exact k _ sb
theorem cal_right (D : Df K mg "_law_right" sRight) (B : Bi2 mg) (T : Er K mg C R fI) (KT : Kit K C R) (GI : InitE P w K mg base fI) (cO : Cal P w K mg base 3 "_law_odd" (spOdd K)) (cM : Cal P w K mg base 4 "_law_made" (spMade C 0 32))
    (cK : Cal P w K mg base 2 "_law_kinds" (spKinds K C 0 32)) : CalG P w K mg base 5 "_law_right" spRight :=
  D.calG _ (fun _ _ F => ok_right F B T KT GI cO cM cK) fun _ _ _ _ _ _ us hl => match us, hl with | [_], _ => rfl
end
end Lw

set_option Elab.async false
set_option linter.all false
set_option maxRecDepth 100000
set_option autoImplicit false
set_option maxHeartbeats 2000000
namespace Lw
open PySem L2 Vb
abbrev sInit : Stmt := inClass (topS 1) 0
section
variable {P : Program} {w : World} {K : PySem.W.Frag} {mg : Str → Option Value} {base : Heap} {C : Nat → Addr} {R fI : Addr}
theorem scInit : FnScope ["self", "value"] ["self", "value"] (defScope sInit) := ⟨rfl, rfl, rfl, by decide +kernel, rfl, by decide +kernel, by decide +kernel⟩
theorem ok_init {fd : FuncData} (F : Fun K "__init__" "RollError.__init__" sInit fI fd) : FnOk P w K mg base CX0 1 fI fd ["self", "value"] (spEInit K) := by
  refine F.ok scInit (fun vs H Q E h => ?_) (fun cdv A outer s H vs Q E hr h => ?_)
  · obtain ⟨a, C, v, rfl, _⟩ := h
    rfl
  · obtain ⟨a, C, v, rfl, ox, nv, ha, k⟩ := h
    exact ⟨_, pss_one (ps_ost (pv 0) (pv 1)), _, rfl, _, rfl, a, C, rfl, ox, nv, .inl ⟨ha, fun dx n ne => k dx n ne⟩⟩
theorem ok_lawG {k : Nat} {f : Addr} {fd : FuncData} (hk : 1 ≤ k) (F : Fun K "law" "law" sLaw f fd) (all : mg "all" = none) (cP : Cal P w K mg base 1 "_law_pot" (spPot K)) (cC : Cal P w K mg base 1 "_law_cells" (spCells K 3)) (cR : CalG P w K mg base k "_law_right" spRight) : FnG P w K mg base CX0 (k + 1) f fd ["script"] (spLaw K) := by
  refine okG F scLaw (fun vs H Q E h => ?_) (fun cdv A outer s H vs Q E hg hr h => ?_)
  · obtain ⟨a, ns, rfl, _⟩ := h
    rfl
  · obtain ⟨a, ns, rfl, hS, hlen, q⟩ := h
    refine ⟨_, pss_one (ps_ret (pe_callB (cr_all rfl) (by rfl) all (by decide +kernel) (pa_cons
      (pe_lc (own := [("place", 1)]) (g := gName 1) (tt := tYes) rfl scLaw.nd (pi_list (pe_c cC hr hk rfl (pa_cons (pv 0) (pa_cons pe_int pa_nil)))) (blkOk_by (N := ["script", "place"]) (sc := defScope sLaw) (by decide +kernel))
        (fun _ _ _ _ _ => pg_name (i := 1) scLaw.nd rfl (Or.inl rfl)) (fun _ _ _ _ _ => pts_nil) (fun _ _ _ _ _ => pe_g hg cR hr (Nat.le_refl _) rfl (pa_cons (pe_c cP hr hk rfl (pa_cons (pv 0) (pa_cons (pv 1) pa_nil))) pa_nil))) pa_nil))), ?_⟩
    refine ⟨_, rfl, a, ns, rfl, hS, hlen, fun n l n0 n1 hl => ?_⟩
    refine ⟨_, rfl, ⟨_, SqL.of upd_same⟩, fun D hD => ?_⟩
    have nDl : D ≠ l := fun e => by
      rw [e, upd_same] at hD
      cases hD
    refine lc_list (K := K) (a := l) (xs := (List.range n).map fun k => V.int (k : Nat)) (fun i H' => Same H H' ∧ H' l = some (.lst ((List.range n).map fun k => V.int (k : Nat))) ∧ H' D = some (.lst ((List.replicate i true).map V.bl))) ?_ (fun i H' _ h => SqL.of h.2.1) ?_ ?_
    · exact ⟨Same.trans (Same.new hl) (Same.new hD), (by rw [upd_ne nDl.symm]; exact upd_same), upd_same⟩
    · rintro i x H' hx ⟨sm, hL, hA⟩
      have hi : i < n := by
        have := (List.getElem?_eq_some_iff.mp hx).1
        rwa [List.length_map, List.length_range] at this
      obtain rfl : x = V.int (i : Nat) := by
        rw [List.getElem?_map, List.getElem?_range hi] at hx
        exact (Option.some.inj hx).symm
      refine ⟨rfl, _, rfl, _, rfl, a, ns, _, rfl, sm.seq hS, hlen, by omega, by omega, fun p H1 hp s1 hP => ?_⟩
      have nDp : D ≠ p := ne_of_none hA hp
      refine ⟨p, rfl, hP, fun H2 s2 => ⟨_, s2 _ _ nDp (s1 _ _ hA), ?_, ?_, ?_, ?_⟩⟩
      · rw [List.length_map, List.length_replicate]
        exact Nat.lt_of_lt_of_le (show i < 1000 by omega) (by decide)
      · intro b o e
        have e' := sm b o e
        have nbD : b ≠ D := fun z => by
          rw [z, (Same.new hl).free hD] at e
          cases e
        rw [upd_ne nbD]
        exact s2 _ _ (ne_of_none e' hp) (s1 _ _ e')
      · rw [upd_ne nDl.symm]
        exact s2 _ _ (ne_of_none hL hp) (s1 _ _ hL)
      · rw [upd_same, List.replicate_succ', List.map_append]
        rfl
    · rintro H' ⟨sm, hL, hA⟩
      rw [List.length_map, List.length_range] at hA
      refine ⟨D, _, rfl, SqL.of hA, ?_⟩
      have e : (List.replicate n true).all id = true := by simp
      rw [e]
      exact q _
end

/-- how an error's class stands: its own bases, its type -/
structure Shaped (K : PySem.W.Frag) (R C : Addr) : Prop where
  lk : ∃ nm q N bs sn sub ab col dd k0 k1 k2 k3 k5, K.lookup C = some (excClassObj nm q C N bs [.ref R, .type "ValueError", .type "Exception", .type "BaseException", .type "object"] true sn sub ab col dd k0 k1 k2 k3 k5 "ValueError.__new__")
  ty : PySem.W.typeIn K (.ref C) = some (.type "type")
theorem cls_of {K : PySem.W.Frag} {C N : Addr} {nm q : Str} {bs bm sub : List Value} {sn : List Str} {ab : Bool} {col : Option Bool} {dd : Option Addr} {k0 k1 k2 k3 k5 : Option Value} {b : Bool} {nid : String} (h : K.lookup C = some (excClassObj nm q C N bs bm b sn sub ab col dd k0 k1 k2 k3 k5 nid)) :
    PySem.W.clsIn K C = some { name := nm, bases := bs, mro := .ref C :: bm, ns := N, qualname := q, hasDict := b, slotNames := sn, subclasses := sub, abstract := ab, collection := col, hasDel := false } := by
  unfold PySem.W.clsIn
  rw [h]
theorem kit_ref {K : PySem.W.Frag} {D C N : Addr} {nm q : Str} {bs bm sub : List Value} {sn : List Str} {ab : Bool} {col : Option Bool} {dd : Option Addr} {k0 k1 k2 k3 k5 : Option Value} {b : Bool} {nid : String} {r : Bool} (h : K.lookup D = some (excClassObj nm q D N bs bm b sn sub ab col dd k0 k1 k2 k3 k5 nid))
    (hc : (PySem.W.clsIn K C).isSome = true) (ht : PySem.W.typeIn K (.ref C) = some (.type "type")) (hr : ((.ref D : Value) :: bm).contains (.ref C) = r) : PySem.W.kitOne K (.ref D) (.ref C) = some r := by
  have hs : PySem.W.subIn K (.ref D) (.ref C) = some r := by
    show PySem.W.mroIn K D (.ref C) = some r
    unfold PySem.W.mroIn
    rw [cls_of h, Option.bind_some]
    show (if ((.ref D : Value) :: bm).isEmpty then _ else _) = _
    rw [if_neg (by exact Bool.false_ne_true), hr]
  unfold PySem.W.kitOne
  by_cases e : ((.ref D : Value) == .ref C) = true
  · rw [if_pos e]
    have : r = true := by
      rw [← hr, List.contains_cons, Bool.or_eq_true]
      exact .inl (by have := beq_iff_eq.mp e; rw [this]; exact beq_self_eq_true _)
    rw [this]
  · rw [if_neg e]
    show (if ((PySem.W.clsIn K C).isSome && PySem.W.typeIn K (.ref C) == some (.type "type")) = true then PySem.W.subIn K (.ref D) (.ref C) else none) = _
    rw [if_pos (by rw [hc, ht]; exact beq_self_eq_true _), hs]
theorem kit_ty {K : PySem.W.Frag} {D N : Addr} {nm q : Str} {bs bm sub : List Value} {sn : List Str} {ab : Bool} {col : Option Bool} {dd : Option Addr} {k0 k1 k2 k3 k5 : Option Value} {b : Bool} {nid : String} (h : K.lookup D = some (excClassObj nm q D N bs bm b sn sub ab col dd k0 k1 k2 k3 k5 nid))
    (hr : bm.contains (.type "ValueError") = true) : PySem.W.kitOne K (.ref D) (.type "ValueError") = some true := by
  unfold PySem.W.kitOne
  rw [if_neg (show ¬ ((Value.ref D : Value) == .type "ValueError") = true from fun z => by have y := beq_iff_eq.mp z; cases y)]
  show (if PySem.W.kitMeta "ValueError" = true then PySem.W.subIn K (.ref D) (.type "ValueError") else none) = _
  rw [if_pos (by decide +kernel)]
  show PySem.W.mroIn K D (.type "ValueError") = _
  unfold PySem.W.mroIn
  rw [cls_of h, Option.bind_some]
  show (if ((.ref D : Value) :: bm).isEmpty then _ else _) = _
  rw [if_neg (by exact Bool.false_ne_true), List.contains_cons, hr, Bool.or_true]
theorem ref_beq {a b : Addr} : ((Value.ref a : Value) == Value.ref b) = decide (a = b) := by
  by_cases h : a = b
  · subst h
    simp
  · rw [decide_eq_false h]
    exact beq_eq_false_iff_ne.mpr fun z => h (Value.ref.inj z)
theorem kit_mk {K : PySem.W.Frag} {C : Nat → Addr} {R : Addr} (sh : ∀ i, i < 32 → Shaped K R (C i))
    (hR : ∃ nm q N bs sn sub ab col dd k0 k1 k2 k3 k5, K.lookup R = some (excClassObj nm q R N bs [.type "ValueError", .type "Exception", .type "BaseException", .type "object"] true sn sub ab col dd k0 k1 k2 k3 k5 "ValueError.__new__"))
    (tR : PySem.W.typeIn K (.ref R) = some (.type "type")) (far : ∀ i, i < 32 → R ≠ C i) : Kit K C R := by
  obtain ⟨_, _, _, _, _, _, _, _, _, _, _, _, _, _, lR⟩ := hR
  have some_ : ∀ i, i < 32 → (PySem.W.clsIn K (C i)).isSome = true := fun i hi => by
    obtain ⟨_, _, _, _, _, _, _, _, _, _, _, _, _, _, l⟩ := (sh i hi).lk
    rw [cls_of l]
    rfl
  refine ⟨fun i j hi hj => ?_, fun j hj => ?_, fun i hi => ?_, fun i hi => ?_, kit_ty lR (by decide +kernel)⟩
  · obtain ⟨_, _, _, _, _, _, _, _, _, _, _, _, _, _, l⟩ := (sh i hi).lk
    refine kit_ref l (some_ j hj) (sh j hj).ty ?_
    have h1 : ((Value.ref (C j) : Value) == .ref R) = false := beq_eq_false_iff_ne.mpr fun z => far j hj (Value.ref.inj z).symm
    rw [List.contains_cons, ref_beq, List.contains_cons, h1, Bool.false_or]
    have h2 : ([.type "ValueError", .type "Exception", .type "BaseException", .type "object"] : List Value).contains (.ref (C j)) = false := by rfl
    rw [h2, Bool.or_false]
    exact decide_eq_decide.mpr eq_comm
  · refine kit_ref lR (some_ j hj) (sh j hj).ty ?_
    have h2 : ([.type "ValueError", .type "Exception", .type "BaseException", .type "object"] : List Value).contains (.ref (C j)) = false := by rfl
    rw [List.contains_cons, ref_beq, h2, Bool.or_false]
    exact decide_eq_decide.mpr eq_comm
  · obtain ⟨_, _, _, _, _, _, _, _, _, _, _, _, _, _, l⟩ := (sh i hi).lk
    refine kit_ref l (by rw [cls_of lR]; rfl) tR ?_
    rw [List.contains_cons, List.contains_cons, beq_self_eq_true, Bool.true_or, Bool.or_true]
  · obtain ⟨_, _, _, _, _, _, _, _, _, _, _, _, _, _, l⟩ := (sh i hi).lk
    exact kit_ty l (by rfl)
theorem errC_mk {K : PySem.W.Frag} {C N fI : Addr} {nm q : Str} {bs bm sub : List Value} {sn : List Str} {ab : Bool} {col : Option Bool} {dd : Option Addr} {k0 k1 k2 k3 k5 : Option Value} (h : K.lookup C = some (excClassObj nm q C N bs bm true sn sub ab col dd k0 k1 k2 k3 k5 "ValueError.__new__"))
    (sa : PySem.W.findIn K (.ref C) "__setattr__" = some (some (.builtin "object.__setattr__"))) (ga : PySem.W.findIn K (.ref C) "__getattribute__" = some (some (.builtin "BaseException.__getattribute__"))) (gg : PySem.W.findIn K (.ref C) "__getattr__" = some none)
    (ini : PySem.W.findIn K (.ref C) "__init__" = some (some (.ref fI))) (nv : PySem.W.findIn K (.ref C) "value" = some none) (kC : PySem.W.keepIn K (.ref C) = true) (eC : PySem.W.subIn K (.ref C) (.type "BaseException") = some true) (tC : PySem.W.typeIn K (.ref C) = some (.type "type"))
    (dC : PySem.W.hasDictIn K C = true) (cC : PySem.W.findIn K (.ref C) "__class__" = some (some (.builtin "object.__class__"))) (oC : PySem.W.mroIn K C (.type "object") = some true) (sp : PySem.W.specialIn K (.builtin "object.__class__") "__get__" = some (some (.builtin "getset_descriptor.__get__"))) (tk : PySem.W.takesIn K (.builtin "object.__class__") = some true)
    (hb : PySem.HandSPX.refsVE bm = true) : ErrC K fI C :=
  { ox := ⟨⟨_, _, _, _, _, _, _, _, _, _, _, _, _, _, _, h, hb⟩, sa, eC, tC, kC⟩, init := ini, xf := ⟨ga, gg, eC, dC⟩, ex := ⟨ga, gg, eC, dC, cC, sp, tk, oC⟩, nv := nv }
theorem all_mk {l : PySem.W.OpenLaw} {w : World} {K : PySem.W.Frag} {h : Heap} {mg : Str → Option Value} {fa : Addr} (X : K.In h) (G : h.Ns mainGlobals mg) (hfa : mg "law" = some (.ref fa))
    {CR NCR : Addr} {nmCR qCR : Str} {bsCR subCR : List Value} {snCR : List Str} {abCR : Bool} {colCR : Option Bool} {ddCR : Option Addr} {m0CR m1CR m2CR m3CR m5CR : Option Value}
    {C0 NC0 : Addr} {nmC0 qC0 : Str} {bsC0 subC0 : List Value} {snC0 : List Str} {abC0 : Bool} {colC0 : Option Bool} {ddC0 : Option Addr} {m0C0 m1C0 m2C0 m3C0 m5C0 : Option Value}
    {C1 NC1 : Addr} {nmC1 qC1 : Str} {bsC1 subC1 : List Value} {snC1 : List Str} {abC1 : Bool} {colC1 : Option Bool} {ddC1 : Option Addr} {m0C1 m1C1 m2C1 m3C1 m5C1 : Option Value}
    {C2 NC2 : Addr} {nmC2 qC2 : Str} {bsC2 subC2 : List Value} {snC2 : List Str} {abC2 : Bool} {colC2 : Option Bool} {ddC2 : Option Addr} {m0C2 m1C2 m2C2 m3C2 m5C2 : Option Value}
    {C3 NC3 : Addr} {nmC3 qC3 : Str} {bsC3 subC3 : List Value} {snC3 : List Str} {abC3 : Bool} {colC3 : Option Bool} {ddC3 : Option Addr} {m0C3 m1C3 m2C3 m3C3 m5C3 : Option Value}
    {C4 NC4 : Addr} {nmC4 qC4 : Str} {bsC4 subC4 : List Value} {snC4 : List Str} {abC4 : Bool} {colC4 : Option Bool} {ddC4 : Option Addr} {m0C4 m1C4 m2C4 m3C4 m5C4 : Option Value}
    {C5 NC5 : Addr} {nmC5 qC5 : Str} {bsC5 subC5 : List Value} {snC5 : List Str} {abC5 : Bool} {colC5 : Option Bool} {ddC5 : Option Addr} {m0C5 m1C5 m2C5 m3C5 m5C5 : Option Value}
    {C6 NC6 : Addr} {nmC6 qC6 : Str} {bsC6 subC6 : List Value} {snC6 : List Str} {abC6 : Bool} {colC6 : Option Bool} {ddC6 : Option Addr} {m0C6 m1C6 m2C6 m3C6 m5C6 : Option Value}
    {C7 NC7 : Addr} {nmC7 qC7 : Str} {bsC7 subC7 : List Value} {snC7 : List Str} {abC7 : Bool} {colC7 : Option Bool} {ddC7 : Option Addr} {m0C7 m1C7 m2C7 m3C7 m5C7 : Option Value}
    {C8 NC8 : Addr} {nmC8 qC8 : Str} {bsC8 subC8 : List Value} {snC8 : List Str} {abC8 : Bool} {colC8 : Option Bool} {ddC8 : Option Addr} {m0C8 m1C8 m2C8 m3C8 m5C8 : Option Value}
    {C9 NC9 : Addr} {nmC9 qC9 : Str} {bsC9 subC9 : List Value} {snC9 : List Str} {abC9 : Bool} {colC9 : Option Bool} {ddC9 : Option Addr} {m0C9 m1C9 m2C9 m3C9 m5C9 : Option Value}
    {C10 NC10 : Addr} {nmC10 qC10 : Str} {bsC10 subC10 : List Value} {snC10 : List Str} {abC10 : Bool} {colC10 : Option Bool} {ddC10 : Option Addr} {m0C10 m1C10 m2C10 m3C10 m5C10 : Option Value}
    {C11 NC11 : Addr} {nmC11 qC11 : Str} {bsC11 subC11 : List Value} {snC11 : List Str} {abC11 : Bool} {colC11 : Option Bool} {ddC11 : Option Addr} {m0C11 m1C11 m2C11 m3C11 m5C11 : Option Value}
    {C12 NC12 : Addr} {nmC12 qC12 : Str} {bsC12 subC12 : List Value} {snC12 : List Str} {abC12 : Bool} {colC12 : Option Bool} {ddC12 : Option Addr} {m0C12 m1C12 m2C12 m3C12 m5C12 : Option Value}
    {C13 NC13 : Addr} {nmC13 qC13 : Str} {bsC13 subC13 : List Value} {snC13 : List Str} {abC13 : Bool} {colC13 : Option Bool} {ddC13 : Option Addr} {m0C13 m1C13 m2C13 m3C13 m5C13 : Option Value}
    {C14 NC14 : Addr} {nmC14 qC14 : Str} {bsC14 subC14 : List Value} {snC14 : List Str} {abC14 : Bool} {colC14 : Option Bool} {ddC14 : Option Addr} {m0C14 m1C14 m2C14 m3C14 m5C14 : Option Value}
    {C15 NC15 : Addr} {nmC15 qC15 : Str} {bsC15 subC15 : List Value} {snC15 : List Str} {abC15 : Bool} {colC15 : Option Bool} {ddC15 : Option Addr} {m0C15 m1C15 m2C15 m3C15 m5C15 : Option Value}
    {C16 NC16 : Addr} {nmC16 qC16 : Str} {bsC16 subC16 : List Value} {snC16 : List Str} {abC16 : Bool} {colC16 : Option Bool} {ddC16 : Option Addr} {m0C16 m1C16 m2C16 m3C16 m5C16 : Option Value}
    {C17 NC17 : Addr} {nmC17 qC17 : Str} {bsC17 subC17 : List Value} {snC17 : List Str} {abC17 : Bool} {colC17 : Option Bool} {ddC17 : Option Addr} {m0C17 m1C17 m2C17 m3C17 m5C17 : Option Value}
    {C18 NC18 : Addr} {nmC18 qC18 : Str} {bsC18 subC18 : List Value} {snC18 : List Str} {abC18 : Bool} {colC18 : Option Bool} {ddC18 : Option Addr} {m0C18 m1C18 m2C18 m3C18 m5C18 : Option Value}
    {C19 NC19 : Addr} {nmC19 qC19 : Str} {bsC19 subC19 : List Value} {snC19 : List Str} {abC19 : Bool} {colC19 : Option Bool} {ddC19 : Option Addr} {m0C19 m1C19 m2C19 m3C19 m5C19 : Option Value}
    {C20 NC20 : Addr} {nmC20 qC20 : Str} {bsC20 subC20 : List Value} {snC20 : List Str} {abC20 : Bool} {colC20 : Option Bool} {ddC20 : Option Addr} {m0C20 m1C20 m2C20 m3C20 m5C20 : Option Value}
    {C21 NC21 : Addr} {nmC21 qC21 : Str} {bsC21 subC21 : List Value} {snC21 : List Str} {abC21 : Bool} {colC21 : Option Bool} {ddC21 : Option Addr} {m0C21 m1C21 m2C21 m3C21 m5C21 : Option Value}
    {C22 NC22 : Addr} {nmC22 qC22 : Str} {bsC22 subC22 : List Value} {snC22 : List Str} {abC22 : Bool} {colC22 : Option Bool} {ddC22 : Option Addr} {m0C22 m1C22 m2C22 m3C22 m5C22 : Option Value}
    {C23 NC23 : Addr} {nmC23 qC23 : Str} {bsC23 subC23 : List Value} {snC23 : List Str} {abC23 : Bool} {colC23 : Option Bool} {ddC23 : Option Addr} {m0C23 m1C23 m2C23 m3C23 m5C23 : Option Value}
    {C24 NC24 : Addr} {nmC24 qC24 : Str} {bsC24 subC24 : List Value} {snC24 : List Str} {abC24 : Bool} {colC24 : Option Bool} {ddC24 : Option Addr} {m0C24 m1C24 m2C24 m3C24 m5C24 : Option Value}
    {C25 NC25 : Addr} {nmC25 qC25 : Str} {bsC25 subC25 : List Value} {snC25 : List Str} {abC25 : Bool} {colC25 : Option Bool} {ddC25 : Option Addr} {m0C25 m1C25 m2C25 m3C25 m5C25 : Option Value}
    {C26 NC26 : Addr} {nmC26 qC26 : Str} {bsC26 subC26 : List Value} {snC26 : List Str} {abC26 : Bool} {colC26 : Option Bool} {ddC26 : Option Addr} {m0C26 m1C26 m2C26 m3C26 m5C26 : Option Value}
    {C27 NC27 : Addr} {nmC27 qC27 : Str} {bsC27 subC27 : List Value} {snC27 : List Str} {abC27 : Bool} {colC27 : Option Bool} {ddC27 : Option Addr} {m0C27 m1C27 m2C27 m3C27 m5C27 : Option Value}
    {C28 NC28 : Addr} {nmC28 qC28 : Str} {bsC28 subC28 : List Value} {snC28 : List Str} {abC28 : Bool} {colC28 : Option Bool} {ddC28 : Option Addr} {m0C28 m1C28 m2C28 m3C28 m5C28 : Option Value}
    {C29 NC29 : Addr} {nmC29 qC29 : Str} {bsC29 subC29 : List Value} {snC29 : List Str} {abC29 : Bool} {colC29 : Option Bool} {ddC29 : Option Addr} {m0C29 m1C29 m2C29 m3C29 m5C29 : Option Value}
    {C30 NC30 : Addr} {nmC30 qC30 : Str} {bsC30 subC30 : List Value} {snC30 : List Str} {abC30 : Bool} {colC30 : Option Bool} {ddC30 : Option Addr} {m0C30 m1C30 m2C30 m3C30 m5C30 : Option Value}
    {C31 NC31 : Addr} {nmC31 qC31 : Str} {bsC31 subC31 : List Value} {snC31 : List Str} {abC31 : Bool} {colC31 : Option Bool} {ddC31 : Option Addr} {m0C31 m1C31 m2C31 m3C31 m5C31 : Option Value}
    {fI : Addr} {odI anI : Option Addr} {slI : Array (Option Value)} {ocI kVI dcI pmI cdI ctI : Value}
    {f0 : Addr} {od0 an0 : Option Addr} {sl0 : Array (Option Value)} {oc0 kV0 dc0 pm0 cd0 ct0 : Value}
    {f1 : Addr} {od1 an1 : Option Addr} {sl1 : Array (Option Value)} {oc1 kV1 dc1 pm1 cd1 ct1 : Value}
    {f2 : Addr} {od2 an2 : Option Addr} {sl2 : Array (Option Value)} {oc2 kV2 dc2 pm2 cd2 ct2 : Value}
    {f3 : Addr} {od3 an3 : Option Addr} {sl3 : Array (Option Value)} {oc3 kV3 dc3 pm3 cd3 ct3 : Value}
    {f4 : Addr} {od4 an4 : Option Addr} {sl4 : Array (Option Value)} {oc4 kV4 dc4 pm4 cd4 ct4 : Value}
    {f5 : Addr} {od5 an5 : Option Addr} {sl5 : Array (Option Value)} {oc5 kV5 dc5 pm5 cd5 ct5 : Value}
    {f6 : Addr} {od6 an6 : Option Addr} {sl6 : Array (Option Value)} {oc6 kV6 dc6 pm6 cd6 ct6 : Value}
    {f7 : Addr} {od7 an7 : Option Addr} {sl7 : Array (Option Value)} {oc7 kV7 dc7 pm7 cd7 ct7 : Value}
    {f8 : Addr} {od8 an8 : Option Addr} {sl8 : Array (Option Value)} {oc8 kV8 dc8 pm8 cd8 ct8 : Value}
    {f9 : Addr} {od9 an9 : Option Addr} {sl9 : Array (Option Value)} {oc9 kV9 dc9 pm9 cd9 ct9 : Value}
    {f10 : Addr} {od10 an10 : Option Addr} {sl10 : Array (Option Value)} {oc10 kV10 dc10 pm10 cd10 ct10 : Value}
    (aCR : PySem.W.nsIn K mainGlobals "RollError" = some (some (.ref CR)))
    (xCR : K.lookup CR = some (excClassObj nmCR qCR CR NCR bsCR [.type "ValueError", .type "Exception", .type "BaseException", .type "object"] true snCR subCR abCR colCR ddCR m0CR m1CR m2CR m3CR m5CR "ValueError.__new__"))
    (sCR : PySem.W.findIn K (.ref CR) "__setattr__" = some (some (.builtin "object.__setattr__")))
    (gCR : PySem.W.findIn K (.ref CR) "__getattribute__" = some (some (.builtin "BaseException.__getattribute__")))
    (hCR : PySem.W.findIn K (.ref CR) "__getattr__" = some none)
    (iCR : PySem.W.findIn K (.ref CR) "__init__" = some (some (.ref fI)))
    (vCR : PySem.W.findIn K (.ref CR) "value" = some none)
    (kCR : PySem.W.keepIn K (.ref CR) = true)
    (eCR : PySem.W.subIn K (.ref CR) (.type "BaseException") = some true)
    (tCR : PySem.W.typeIn K (.ref CR) = some (.type "type"))
    (dCR : PySem.W.hasDictIn K CR = true)
    (cCR : PySem.W.findIn K (.ref CR) "__class__" = some (some (.builtin "object.__class__")))
    (oCR : PySem.W.mroIn K CR (.type "object") = some true)
    (aC0 : PySem.W.nsIn K mainGlobals "BadWeb" = some (some (.ref C0)))
    (xC0 : K.lookup C0 = some (excClassObj nmC0 qC0 C0 NC0 bsC0 [.ref CR, .type "ValueError", .type "Exception", .type "BaseException", .type "object"] true snC0 subC0 abC0 colC0 ddC0 m0C0 m1C0 m2C0 m3C0 m5C0 "ValueError.__new__"))
    (sC0 : PySem.W.findIn K (.ref C0) "__setattr__" = some (some (.builtin "object.__setattr__")))
    (gC0 : PySem.W.findIn K (.ref C0) "__getattribute__" = some (some (.builtin "BaseException.__getattribute__")))
    (hC0 : PySem.W.findIn K (.ref C0) "__getattr__" = some none)
    (iC0 : PySem.W.findIn K (.ref C0) "__init__" = some (some (.ref fI)))
    (vC0 : PySem.W.findIn K (.ref C0) "value" = some none)
    (kC0 : PySem.W.keepIn K (.ref C0) = true)
    (eC0 : PySem.W.subIn K (.ref C0) (.type "BaseException") = some true)
    (tC0 : PySem.W.typeIn K (.ref C0) = some (.type "type"))
    (dC0 : PySem.W.hasDictIn K C0 = true)
    (cC0 : PySem.W.findIn K (.ref C0) "__class__" = some (some (.builtin "object.__class__")))
    (oC0 : PySem.W.mroIn K C0 (.type "object") = some true)
    (aC1 : PySem.W.nsIn K mainGlobals "BadNumber" = some (some (.ref C1)))
    (xC1 : K.lookup C1 = some (excClassObj nmC1 qC1 C1 NC1 bsC1 [.ref CR, .type "ValueError", .type "Exception", .type "BaseException", .type "object"] true snC1 subC1 abC1 colC1 ddC1 m0C1 m1C1 m2C1 m3C1 m5C1 "ValueError.__new__"))
    (sC1 : PySem.W.findIn K (.ref C1) "__setattr__" = some (some (.builtin "object.__setattr__")))
    (gC1 : PySem.W.findIn K (.ref C1) "__getattribute__" = some (some (.builtin "BaseException.__getattribute__")))
    (hC1 : PySem.W.findIn K (.ref C1) "__getattr__" = some none)
    (iC1 : PySem.W.findIn K (.ref C1) "__init__" = some (some (.ref fI)))
    (vC1 : PySem.W.findIn K (.ref C1) "value" = some none)
    (kC1 : PySem.W.keepIn K (.ref C1) = true)
    (eC1 : PySem.W.subIn K (.ref C1) (.type "BaseException") = some true)
    (tC1 : PySem.W.typeIn K (.ref C1) = some (.type "type"))
    (dC1 : PySem.W.hasDictIn K C1 = true)
    (cC1 : PySem.W.findIn K (.ref C1) "__class__" = some (some (.builtin "object.__class__")))
    (oC1 : PySem.W.mroIn K C1 (.type "object") = some true)
    (aC2 : PySem.W.nsIn K mainGlobals "BadMarks" = some (some (.ref C2)))
    (xC2 : K.lookup C2 = some (excClassObj nmC2 qC2 C2 NC2 bsC2 [.ref CR, .type "ValueError", .type "Exception", .type "BaseException", .type "object"] true snC2 subC2 abC2 colC2 ddC2 m0C2 m1C2 m2C2 m3C2 m5C2 "ValueError.__new__"))
    (sC2 : PySem.W.findIn K (.ref C2) "__setattr__" = some (some (.builtin "object.__setattr__")))
    (gC2 : PySem.W.findIn K (.ref C2) "__getattribute__" = some (some (.builtin "BaseException.__getattribute__")))
    (hC2 : PySem.W.findIn K (.ref C2) "__getattr__" = some none)
    (iC2 : PySem.W.findIn K (.ref C2) "__init__" = some (some (.ref fI)))
    (vC2 : PySem.W.findIn K (.ref C2) "value" = some none)
    (kC2 : PySem.W.keepIn K (.ref C2) = true)
    (eC2 : PySem.W.subIn K (.ref C2) (.type "BaseException") = some true)
    (tC2 : PySem.W.typeIn K (.ref C2) = some (.type "type"))
    (dC2 : PySem.W.hasDictIn K C2 = true)
    (cC2 : PySem.W.findIn K (.ref C2) "__class__" = some (some (.builtin "object.__class__")))
    (oC2 : PySem.W.mroIn K C2 (.type "object") = some true)
    (aC3 : PySem.W.nsIn K mainGlobals "BadArrows" = some (some (.ref C3)))
    (xC3 : K.lookup C3 = some (excClassObj nmC3 qC3 C3 NC3 bsC3 [.ref CR, .type "ValueError", .type "Exception", .type "BaseException", .type "object"] true snC3 subC3 abC3 colC3 ddC3 m0C3 m1C3 m2C3 m3C3 m5C3 "ValueError.__new__"))
    (sC3 : PySem.W.findIn K (.ref C3) "__setattr__" = some (some (.builtin "object.__setattr__")))
    (gC3 : PySem.W.findIn K (.ref C3) "__getattribute__" = some (some (.builtin "BaseException.__getattribute__")))
    (hC3 : PySem.W.findIn K (.ref C3) "__getattr__" = some none)
    (iC3 : PySem.W.findIn K (.ref C3) "__init__" = some (some (.ref fI)))
    (vC3 : PySem.W.findIn K (.ref C3) "value" = some none)
    (kC3 : PySem.W.keepIn K (.ref C3) = true)
    (eC3 : PySem.W.subIn K (.ref C3) (.type "BaseException") = some true)
    (tC3 : PySem.W.typeIn K (.ref C3) = some (.type "type"))
    (dC3 : PySem.W.hasDictIn K C3 = true)
    (cC3 : PySem.W.findIn K (.ref C3) "__class__" = some (some (.builtin "object.__class__")))
    (oC3 : PySem.W.mroIn K C3 (.type "object") = some true)
    (aC4 : PySem.W.nsIn K mainGlobals "BadNames" = some (some (.ref C4)))
    (xC4 : K.lookup C4 = some (excClassObj nmC4 qC4 C4 NC4 bsC4 [.ref CR, .type "ValueError", .type "Exception", .type "BaseException", .type "object"] true snC4 subC4 abC4 colC4 ddC4 m0C4 m1C4 m2C4 m3C4 m5C4 "ValueError.__new__"))
    (sC4 : PySem.W.findIn K (.ref C4) "__setattr__" = some (some (.builtin "object.__setattr__")))
    (gC4 : PySem.W.findIn K (.ref C4) "__getattribute__" = some (some (.builtin "BaseException.__getattribute__")))
    (hC4 : PySem.W.findIn K (.ref C4) "__getattr__" = some none)
    (iC4 : PySem.W.findIn K (.ref C4) "__init__" = some (some (.ref fI)))
    (vC4 : PySem.W.findIn K (.ref C4) "value" = some none)
    (kC4 : PySem.W.keepIn K (.ref C4) = true)
    (eC4 : PySem.W.subIn K (.ref C4) (.type "BaseException") = some true)
    (tC4 : PySem.W.typeIn K (.ref C4) = some (.type "type"))
    (dC4 : PySem.W.hasDictIn K C4 = true)
    (cC4 : PySem.W.findIn K (.ref C4) "__class__" = some (some (.builtin "object.__class__")))
    (oC4 : PySem.W.mroIn K C4 (.type "object") = some true)
    (aC5 : PySem.W.nsIn K mainGlobals "BadOrder" = some (some (.ref C5)))
    (xC5 : K.lookup C5 = some (excClassObj nmC5 qC5 C5 NC5 bsC5 [.ref CR, .type "ValueError", .type "Exception", .type "BaseException", .type "object"] true snC5 subC5 abC5 colC5 ddC5 m0C5 m1C5 m2C5 m3C5 m5C5 "ValueError.__new__"))
    (sC5 : PySem.W.findIn K (.ref C5) "__setattr__" = some (some (.builtin "object.__setattr__")))
    (gC5 : PySem.W.findIn K (.ref C5) "__getattribute__" = some (some (.builtin "BaseException.__getattribute__")))
    (hC5 : PySem.W.findIn K (.ref C5) "__getattr__" = some none)
    (iC5 : PySem.W.findIn K (.ref C5) "__init__" = some (some (.ref fI)))
    (vC5 : PySem.W.findIn K (.ref C5) "value" = some none)
    (kC5 : PySem.W.keepIn K (.ref C5) = true)
    (eC5 : PySem.W.subIn K (.ref C5) (.type "BaseException") = some true)
    (tC5 : PySem.W.typeIn K (.ref C5) = some (.type "type"))
    (dC5 : PySem.W.hasDictIn K C5 = true)
    (cC5 : PySem.W.findIn K (.ref C5) "__class__" = some (some (.builtin "object.__class__")))
    (oC5 : PySem.W.mroIn K C5 (.type "object") = some true)
    (aC6 : PySem.W.nsIn K mainGlobals "BadReader" = some (some (.ref C6)))
    (xC6 : K.lookup C6 = some (excClassObj nmC6 qC6 C6 NC6 bsC6 [.ref CR, .type "ValueError", .type "Exception", .type "BaseException", .type "object"] true snC6 subC6 abC6 colC6 ddC6 m0C6 m1C6 m2C6 m3C6 m5C6 "ValueError.__new__"))
    (sC6 : PySem.W.findIn K (.ref C6) "__setattr__" = some (some (.builtin "object.__setattr__")))
    (gC6 : PySem.W.findIn K (.ref C6) "__getattribute__" = some (some (.builtin "BaseException.__getattribute__")))
    (hC6 : PySem.W.findIn K (.ref C6) "__getattr__" = some none)
    (iC6 : PySem.W.findIn K (.ref C6) "__init__" = some (some (.ref fI)))
    (vC6 : PySem.W.findIn K (.ref C6) "value" = some none)
    (kC6 : PySem.W.keepIn K (.ref C6) = true)
    (eC6 : PySem.W.subIn K (.ref C6) (.type "BaseException") = some true)
    (tC6 : PySem.W.typeIn K (.ref C6) = some (.type "type"))
    (dC6 : PySem.W.hasDictIn K C6 = true)
    (cC6 : PySem.W.findIn K (.ref C6) "__class__" = some (some (.builtin "object.__class__")))
    (oC6 : PySem.W.mroIn K C6 (.type "object") = some true)
    (aC7 : PySem.W.nsIn K mainGlobals "BadRoll" = some (some (.ref C7)))
    (xC7 : K.lookup C7 = some (excClassObj nmC7 qC7 C7 NC7 bsC7 [.ref CR, .type "ValueError", .type "Exception", .type "BaseException", .type "object"] true snC7 subC7 abC7 colC7 ddC7 m0C7 m1C7 m2C7 m3C7 m5C7 "ValueError.__new__"))
    (sC7 : PySem.W.findIn K (.ref C7) "__setattr__" = some (some (.builtin "object.__setattr__")))
    (gC7 : PySem.W.findIn K (.ref C7) "__getattribute__" = some (some (.builtin "BaseException.__getattribute__")))
    (hC7 : PySem.W.findIn K (.ref C7) "__getattr__" = some none)
    (iC7 : PySem.W.findIn K (.ref C7) "__init__" = some (some (.ref fI)))
    (vC7 : PySem.W.findIn K (.ref C7) "value" = some none)
    (kC7 : PySem.W.keepIn K (.ref C7) = true)
    (eC7 : PySem.W.subIn K (.ref C7) (.type "BaseException") = some true)
    (tC7 : PySem.W.typeIn K (.ref C7) = some (.type "type"))
    (dC7 : PySem.W.hasDictIn K C7 = true)
    (cC7 : PySem.W.findIn K (.ref C7) "__class__" = some (some (.builtin "object.__class__")))
    (oC7 : PySem.W.mroIn K C7 (.type "object") = some true)
    (aC8 : PySem.W.nsIn K mainGlobals "TooMany" = some (some (.ref C8)))
    (xC8 : K.lookup C8 = some (excClassObj nmC8 qC8 C8 NC8 bsC8 [.ref CR, .type "ValueError", .type "Exception", .type "BaseException", .type "object"] true snC8 subC8 abC8 colC8 ddC8 m0C8 m1C8 m2C8 m3C8 m5C8 "ValueError.__new__"))
    (sC8 : PySem.W.findIn K (.ref C8) "__setattr__" = some (some (.builtin "object.__setattr__")))
    (gC8 : PySem.W.findIn K (.ref C8) "__getattribute__" = some (some (.builtin "BaseException.__getattribute__")))
    (hC8 : PySem.W.findIn K (.ref C8) "__getattr__" = some none)
    (iC8 : PySem.W.findIn K (.ref C8) "__init__" = some (some (.ref fI)))
    (vC8 : PySem.W.findIn K (.ref C8) "value" = some none)
    (kC8 : PySem.W.keepIn K (.ref C8) = true)
    (eC8 : PySem.W.subIn K (.ref C8) (.type "BaseException") = some true)
    (tC8 : PySem.W.typeIn K (.ref C8) = some (.type "type"))
    (dC8 : PySem.W.hasDictIn K C8 = true)
    (cC8 : PySem.W.findIn K (.ref C8) "__class__" = some (some (.builtin "object.__class__")))
    (oC8 : PySem.W.mroIn K C8 (.type "object") = some true)
    (aC9 : PySem.W.nsIn K mainGlobals "BadPairs" = some (some (.ref C9)))
    (xC9 : K.lookup C9 = some (excClassObj nmC9 qC9 C9 NC9 bsC9 [.ref CR, .type "ValueError", .type "Exception", .type "BaseException", .type "object"] true snC9 subC9 abC9 colC9 ddC9 m0C9 m1C9 m2C9 m3C9 m5C9 "ValueError.__new__"))
    (sC9 : PySem.W.findIn K (.ref C9) "__setattr__" = some (some (.builtin "object.__setattr__")))
    (gC9 : PySem.W.findIn K (.ref C9) "__getattribute__" = some (some (.builtin "BaseException.__getattribute__")))
    (hC9 : PySem.W.findIn K (.ref C9) "__getattr__" = some none)
    (iC9 : PySem.W.findIn K (.ref C9) "__init__" = some (some (.ref fI)))
    (vC9 : PySem.W.findIn K (.ref C9) "value" = some none)
    (kC9 : PySem.W.keepIn K (.ref C9) = true)
    (eC9 : PySem.W.subIn K (.ref C9) (.type "BaseException") = some true)
    (tC9 : PySem.W.typeIn K (.ref C9) = some (.type "type"))
    (dC9 : PySem.W.hasDictIn K C9 = true)
    (cC9 : PySem.W.findIn K (.ref C9) "__class__" = some (some (.builtin "object.__class__")))
    (oC9 : PySem.W.mroIn K C9 (.type "object") = some true)
    (aC10 : PySem.W.nsIn K mainGlobals "TooGreat" = some (some (.ref C10)))
    (xC10 : K.lookup C10 = some (excClassObj nmC10 qC10 C10 NC10 bsC10 [.ref CR, .type "ValueError", .type "Exception", .type "BaseException", .type "object"] true snC10 subC10 abC10 colC10 ddC10 m0C10 m1C10 m2C10 m3C10 m5C10 "ValueError.__new__"))
    (sC10 : PySem.W.findIn K (.ref C10) "__setattr__" = some (some (.builtin "object.__setattr__")))
    (gC10 : PySem.W.findIn K (.ref C10) "__getattribute__" = some (some (.builtin "BaseException.__getattribute__")))
    (hC10 : PySem.W.findIn K (.ref C10) "__getattr__" = some none)
    (iC10 : PySem.W.findIn K (.ref C10) "__init__" = some (some (.ref fI)))
    (vC10 : PySem.W.findIn K (.ref C10) "value" = some none)
    (kC10 : PySem.W.keepIn K (.ref C10) = true)
    (eC10 : PySem.W.subIn K (.ref C10) (.type "BaseException") = some true)
    (tC10 : PySem.W.typeIn K (.ref C10) = some (.type "type"))
    (dC10 : PySem.W.hasDictIn K C10 = true)
    (cC10 : PySem.W.findIn K (.ref C10) "__class__" = some (some (.builtin "object.__class__")))
    (oC10 : PySem.W.mroIn K C10 (.type "object") = some true)
    (aC11 : PySem.W.nsIn K mainGlobals "Lets" = some (some (.ref C11)))
    (xC11 : K.lookup C11 = some (excClassObj nmC11 qC11 C11 NC11 bsC11 [.ref CR, .type "ValueError", .type "Exception", .type "BaseException", .type "object"] true snC11 subC11 abC11 colC11 ddC11 m0C11 m1C11 m2C11 m3C11 m5C11 "ValueError.__new__"))
    (sC11 : PySem.W.findIn K (.ref C11) "__setattr__" = some (some (.builtin "object.__setattr__")))
    (gC11 : PySem.W.findIn K (.ref C11) "__getattribute__" = some (some (.builtin "BaseException.__getattribute__")))
    (hC11 : PySem.W.findIn K (.ref C11) "__getattr__" = some none)
    (iC11 : PySem.W.findIn K (.ref C11) "__init__" = some (some (.ref fI)))
    (vC11 : PySem.W.findIn K (.ref C11) "value" = some none)
    (kC11 : PySem.W.keepIn K (.ref C11) = true)
    (eC11 : PySem.W.subIn K (.ref C11) (.type "BaseException") = some true)
    (tC11 : PySem.W.typeIn K (.ref C11) = some (.type "type"))
    (dC11 : PySem.W.hasDictIn K C11 = true)
    (cC11 : PySem.W.findIn K (.ref C11) "__class__" = some (some (.builtin "object.__class__")))
    (oC11 : PySem.W.mroIn K C11 (.type "object") = some true)
    (aC12 : PySem.W.nsIn K mainGlobals "NoWay" = some (some (.ref C12)))
    (xC12 : K.lookup C12 = some (excClassObj nmC12 qC12 C12 NC12 bsC12 [.ref CR, .type "ValueError", .type "Exception", .type "BaseException", .type "object"] true snC12 subC12 abC12 colC12 ddC12 m0C12 m1C12 m2C12 m3C12 m5C12 "ValueError.__new__"))
    (sC12 : PySem.W.findIn K (.ref C12) "__setattr__" = some (some (.builtin "object.__setattr__")))
    (gC12 : PySem.W.findIn K (.ref C12) "__getattribute__" = some (some (.builtin "BaseException.__getattribute__")))
    (hC12 : PySem.W.findIn K (.ref C12) "__getattr__" = some none)
    (iC12 : PySem.W.findIn K (.ref C12) "__init__" = some (some (.ref fI)))
    (vC12 : PySem.W.findIn K (.ref C12) "value" = some none)
    (kC12 : PySem.W.keepIn K (.ref C12) = true)
    (eC12 : PySem.W.subIn K (.ref C12) (.type "BaseException") = some true)
    (tC12 : PySem.W.typeIn K (.ref C12) = some (.type "type"))
    (dC12 : PySem.W.hasDictIn K C12 = true)
    (cC12 : PySem.W.findIn K (.ref C12) "__class__" = some (some (.builtin "object.__class__")))
    (oC12 : PySem.W.mroIn K C12 (.type "object") = some true)
    (aC13 : PySem.W.nsIn K mainGlobals "HasWay" = some (some (.ref C13)))
    (xC13 : K.lookup C13 = some (excClassObj nmC13 qC13 C13 NC13 bsC13 [.ref CR, .type "ValueError", .type "Exception", .type "BaseException", .type "object"] true snC13 subC13 abC13 colC13 ddC13 m0C13 m1C13 m2C13 m3C13 m5C13 "ValueError.__new__"))
    (sC13 : PySem.W.findIn K (.ref C13) "__setattr__" = some (some (.builtin "object.__setattr__")))
    (gC13 : PySem.W.findIn K (.ref C13) "__getattribute__" = some (some (.builtin "BaseException.__getattribute__")))
    (hC13 : PySem.W.findIn K (.ref C13) "__getattr__" = some none)
    (iC13 : PySem.W.findIn K (.ref C13) "__init__" = some (some (.ref fI)))
    (vC13 : PySem.W.findIn K (.ref C13) "value" = some none)
    (kC13 : PySem.W.keepIn K (.ref C13) = true)
    (eC13 : PySem.W.subIn K (.ref C13) (.type "BaseException") = some true)
    (tC13 : PySem.W.typeIn K (.ref C13) = some (.type "type"))
    (dC13 : PySem.W.hasDictIn K C13 = true)
    (cC13 : PySem.W.findIn K (.ref C13) "__class__" = some (some (.builtin "object.__class__")))
    (oC13 : PySem.W.mroIn K C13 (.type "object") = some true)
    (aC14 : PySem.W.nsIn K mainGlobals "BadSaying" = some (some (.ref C14)))
    (xC14 : K.lookup C14 = some (excClassObj nmC14 qC14 C14 NC14 bsC14 [.ref CR, .type "ValueError", .type "Exception", .type "BaseException", .type "object"] true snC14 subC14 abC14 colC14 ddC14 m0C14 m1C14 m2C14 m3C14 m5C14 "ValueError.__new__"))
    (sC14 : PySem.W.findIn K (.ref C14) "__setattr__" = some (some (.builtin "object.__setattr__")))
    (gC14 : PySem.W.findIn K (.ref C14) "__getattribute__" = some (some (.builtin "BaseException.__getattribute__")))
    (hC14 : PySem.W.findIn K (.ref C14) "__getattr__" = some none)
    (iC14 : PySem.W.findIn K (.ref C14) "__init__" = some (some (.ref fI)))
    (vC14 : PySem.W.findIn K (.ref C14) "value" = some none)
    (kC14 : PySem.W.keepIn K (.ref C14) = true)
    (eC14 : PySem.W.subIn K (.ref C14) (.type "BaseException") = some true)
    (tC14 : PySem.W.typeIn K (.ref C14) = some (.type "type"))
    (dC14 : PySem.W.hasDictIn K C14 = true)
    (cC14 : PySem.W.findIn K (.ref C14) "__class__" = some (some (.builtin "object.__class__")))
    (oC14 : PySem.W.mroIn K C14 (.type "object") = some true)
    (aC15 : PySem.W.nsIn K mainGlobals "NotClosed" = some (some (.ref C15)))
    (xC15 : K.lookup C15 = some (excClassObj nmC15 qC15 C15 NC15 bsC15 [.ref CR, .type "ValueError", .type "Exception", .type "BaseException", .type "object"] true snC15 subC15 abC15 colC15 ddC15 m0C15 m1C15 m2C15 m3C15 m5C15 "ValueError.__new__"))
    (sC15 : PySem.W.findIn K (.ref C15) "__setattr__" = some (some (.builtin "object.__setattr__")))
    (gC15 : PySem.W.findIn K (.ref C15) "__getattribute__" = some (some (.builtin "BaseException.__getattribute__")))
    (hC15 : PySem.W.findIn K (.ref C15) "__getattr__" = some none)
    (iC15 : PySem.W.findIn K (.ref C15) "__init__" = some (some (.ref fI)))
    (vC15 : PySem.W.findIn K (.ref C15) "value" = some none)
    (kC15 : PySem.W.keepIn K (.ref C15) = true)
    (eC15 : PySem.W.subIn K (.ref C15) (.type "BaseException") = some true)
    (tC15 : PySem.W.typeIn K (.ref C15) = some (.type "type"))
    (dC15 : PySem.W.hasDictIn K C15 = true)
    (cC15 : PySem.W.findIn K (.ref C15) "__class__" = some (some (.builtin "object.__class__")))
    (oC15 : PySem.W.mroIn K C15 (.type "object") = some true)
    (aC16 : PySem.W.nsIn K mainGlobals "BadPlaces" = some (some (.ref C16)))
    (xC16 : K.lookup C16 = some (excClassObj nmC16 qC16 C16 NC16 bsC16 [.ref CR, .type "ValueError", .type "Exception", .type "BaseException", .type "object"] true snC16 subC16 abC16 colC16 ddC16 m0C16 m1C16 m2C16 m3C16 m5C16 "ValueError.__new__"))
    (sC16 : PySem.W.findIn K (.ref C16) "__setattr__" = some (some (.builtin "object.__setattr__")))
    (gC16 : PySem.W.findIn K (.ref C16) "__getattribute__" = some (some (.builtin "BaseException.__getattribute__")))
    (hC16 : PySem.W.findIn K (.ref C16) "__getattr__" = some none)
    (iC16 : PySem.W.findIn K (.ref C16) "__init__" = some (some (.ref fI)))
    (vC16 : PySem.W.findIn K (.ref C16) "value" = some none)
    (kC16 : PySem.W.keepIn K (.ref C16) = true)
    (eC16 : PySem.W.subIn K (.ref C16) (.type "BaseException") = some true)
    (tC16 : PySem.W.typeIn K (.ref C16) = some (.type "type"))
    (dC16 : PySem.W.hasDictIn K C16 = true)
    (cC16 : PySem.W.findIn K (.ref C16) "__class__" = some (some (.builtin "object.__class__")))
    (oC16 : PySem.W.mroIn K C16 (.type "object") = some true)
    (aC17 : PySem.W.nsIn K mainGlobals "NotSo" = some (some (.ref C17)))
    (xC17 : K.lookup C17 = some (excClassObj nmC17 qC17 C17 NC17 bsC17 [.ref CR, .type "ValueError", .type "Exception", .type "BaseException", .type "object"] true snC17 subC17 abC17 colC17 ddC17 m0C17 m1C17 m2C17 m3C17 m5C17 "ValueError.__new__"))
    (sC17 : PySem.W.findIn K (.ref C17) "__setattr__" = some (some (.builtin "object.__setattr__")))
    (gC17 : PySem.W.findIn K (.ref C17) "__getattribute__" = some (some (.builtin "BaseException.__getattribute__")))
    (hC17 : PySem.W.findIn K (.ref C17) "__getattr__" = some none)
    (iC17 : PySem.W.findIn K (.ref C17) "__init__" = some (some (.ref fI)))
    (vC17 : PySem.W.findIn K (.ref C17) "value" = some none)
    (kC17 : PySem.W.keepIn K (.ref C17) = true)
    (eC17 : PySem.W.subIn K (.ref C17) (.type "BaseException") = some true)
    (tC17 : PySem.W.typeIn K (.ref C17) = some (.type "type"))
    (dC17 : PySem.W.hasDictIn K C17 = true)
    (cC17 : PySem.W.findIn K (.ref C17) "__class__" = some (some (.builtin "object.__class__")))
    (oC17 : PySem.W.mroIn K C17 (.type "object") = some true)
    (aC18 : PySem.W.nsIn K mainGlobals "BadMaking" = some (some (.ref C18)))
    (xC18 : K.lookup C18 = some (excClassObj nmC18 qC18 C18 NC18 bsC18 [.ref CR, .type "ValueError", .type "Exception", .type "BaseException", .type "object"] true snC18 subC18 abC18 colC18 ddC18 m0C18 m1C18 m2C18 m3C18 m5C18 "ValueError.__new__"))
    (sC18 : PySem.W.findIn K (.ref C18) "__setattr__" = some (some (.builtin "object.__setattr__")))
    (gC18 : PySem.W.findIn K (.ref C18) "__getattribute__" = some (some (.builtin "BaseException.__getattribute__")))
    (hC18 : PySem.W.findIn K (.ref C18) "__getattr__" = some none)
    (iC18 : PySem.W.findIn K (.ref C18) "__init__" = some (some (.ref fI)))
    (vC18 : PySem.W.findIn K (.ref C18) "value" = some none)
    (kC18 : PySem.W.keepIn K (.ref C18) = true)
    (eC18 : PySem.W.subIn K (.ref C18) (.type "BaseException") = some true)
    (tC18 : PySem.W.typeIn K (.ref C18) = some (.type "type"))
    (dC18 : PySem.W.hasDictIn K C18 = true)
    (cC18 : PySem.W.findIn K (.ref C18) "__class__" = some (some (.builtin "object.__class__")))
    (oC18 : PySem.W.mroIn K C18 (.type "object") = some true)
    (aC19 : PySem.W.nsIn K mainGlobals "NotLed" = some (some (.ref C19)))
    (xC19 : K.lookup C19 = some (excClassObj nmC19 qC19 C19 NC19 bsC19 [.ref CR, .type "ValueError", .type "Exception", .type "BaseException", .type "object"] true snC19 subC19 abC19 colC19 ddC19 m0C19 m1C19 m2C19 m3C19 m5C19 "ValueError.__new__"))
    (sC19 : PySem.W.findIn K (.ref C19) "__setattr__" = some (some (.builtin "object.__setattr__")))
    (gC19 : PySem.W.findIn K (.ref C19) "__getattribute__" = some (some (.builtin "BaseException.__getattribute__")))
    (hC19 : PySem.W.findIn K (.ref C19) "__getattr__" = some none)
    (iC19 : PySem.W.findIn K (.ref C19) "__init__" = some (some (.ref fI)))
    (vC19 : PySem.W.findIn K (.ref C19) "value" = some none)
    (kC19 : PySem.W.keepIn K (.ref C19) = true)
    (eC19 : PySem.W.subIn K (.ref C19) (.type "BaseException") = some true)
    (tC19 : PySem.W.typeIn K (.ref C19) = some (.type "type"))
    (dC19 : PySem.W.hasDictIn K C19 = true)
    (cC19 : PySem.W.findIn K (.ref C19) "__class__" = some (some (.builtin "object.__class__")))
    (oC19 : PySem.W.mroIn K C19 (.type "object") = some true)
    (aC20 : PySem.W.nsIn K mainGlobals "BadName" = some (some (.ref C20)))
    (xC20 : K.lookup C20 = some (excClassObj nmC20 qC20 C20 NC20 bsC20 [.ref CR, .type "ValueError", .type "Exception", .type "BaseException", .type "object"] true snC20 subC20 abC20 colC20 ddC20 m0C20 m1C20 m2C20 m3C20 m5C20 "ValueError.__new__"))
    (sC20 : PySem.W.findIn K (.ref C20) "__setattr__" = some (some (.builtin "object.__setattr__")))
    (gC20 : PySem.W.findIn K (.ref C20) "__getattribute__" = some (some (.builtin "BaseException.__getattribute__")))
    (hC20 : PySem.W.findIn K (.ref C20) "__getattr__" = some none)
    (iC20 : PySem.W.findIn K (.ref C20) "__init__" = some (some (.ref fI)))
    (vC20 : PySem.W.findIn K (.ref C20) "value" = some none)
    (kC20 : PySem.W.keepIn K (.ref C20) = true)
    (eC20 : PySem.W.subIn K (.ref C20) (.type "BaseException") = some true)
    (tC20 : PySem.W.typeIn K (.ref C20) = some (.type "type"))
    (dC20 : PySem.W.hasDictIn K C20 = true)
    (cC20 : PySem.W.findIn K (.ref C20) "__class__" = some (some (.builtin "object.__class__")))
    (oC20 : PySem.W.mroIn K C20 (.type "object") = some true)
    (aC21 : PySem.W.nsIn K mainGlobals "BadWord" = some (some (.ref C21)))
    (xC21 : K.lookup C21 = some (excClassObj nmC21 qC21 C21 NC21 bsC21 [.ref CR, .type "ValueError", .type "Exception", .type "BaseException", .type "object"] true snC21 subC21 abC21 colC21 ddC21 m0C21 m1C21 m2C21 m3C21 m5C21 "ValueError.__new__"))
    (sC21 : PySem.W.findIn K (.ref C21) "__setattr__" = some (some (.builtin "object.__setattr__")))
    (gC21 : PySem.W.findIn K (.ref C21) "__getattribute__" = some (some (.builtin "BaseException.__getattribute__")))
    (hC21 : PySem.W.findIn K (.ref C21) "__getattr__" = some none)
    (iC21 : PySem.W.findIn K (.ref C21) "__init__" = some (some (.ref fI)))
    (vC21 : PySem.W.findIn K (.ref C21) "value" = some none)
    (kC21 : PySem.W.keepIn K (.ref C21) = true)
    (eC21 : PySem.W.subIn K (.ref C21) (.type "BaseException") = some true)
    (tC21 : PySem.W.typeIn K (.ref C21) = some (.type "type"))
    (dC21 : PySem.W.hasDictIn K C21 = true)
    (cC21 : PySem.W.findIn K (.ref C21) "__class__" = some (some (.builtin "object.__class__")))
    (oC21 : PySem.W.mroIn K C21 (.type "object") = some true)
    (aC22 : PySem.W.nsIn K mainGlobals "NotLone" = some (some (.ref C22)))
    (xC22 : K.lookup C22 = some (excClassObj nmC22 qC22 C22 NC22 bsC22 [.ref CR, .type "ValueError", .type "Exception", .type "BaseException", .type "object"] true snC22 subC22 abC22 colC22 ddC22 m0C22 m1C22 m2C22 m3C22 m5C22 "ValueError.__new__"))
    (sC22 : PySem.W.findIn K (.ref C22) "__setattr__" = some (some (.builtin "object.__setattr__")))
    (gC22 : PySem.W.findIn K (.ref C22) "__getattribute__" = some (some (.builtin "BaseException.__getattribute__")))
    (hC22 : PySem.W.findIn K (.ref C22) "__getattr__" = some none)
    (iC22 : PySem.W.findIn K (.ref C22) "__init__" = some (some (.ref fI)))
    (vC22 : PySem.W.findIn K (.ref C22) "value" = some none)
    (kC22 : PySem.W.keepIn K (.ref C22) = true)
    (eC22 : PySem.W.subIn K (.ref C22) (.type "BaseException") = some true)
    (tC22 : PySem.W.typeIn K (.ref C22) = some (.type "type"))
    (dC22 : PySem.W.hasDictIn K C22 = true)
    (cC22 : PySem.W.findIn K (.ref C22) "__class__" = some (some (.builtin "object.__class__")))
    (oC22 : PySem.W.mroIn K C22 (.type "object") = some true)
    (aC23 : PySem.W.nsIn K mainGlobals "NoThing" = some (some (.ref C23)))
    (xC23 : K.lookup C23 = some (excClassObj nmC23 qC23 C23 NC23 bsC23 [.ref CR, .type "ValueError", .type "Exception", .type "BaseException", .type "object"] true snC23 subC23 abC23 colC23 ddC23 m0C23 m1C23 m2C23 m3C23 m5C23 "ValueError.__new__"))
    (sC23 : PySem.W.findIn K (.ref C23) "__setattr__" = some (some (.builtin "object.__setattr__")))
    (gC23 : PySem.W.findIn K (.ref C23) "__getattribute__" = some (some (.builtin "BaseException.__getattribute__")))
    (hC23 : PySem.W.findIn K (.ref C23) "__getattr__" = some none)
    (iC23 : PySem.W.findIn K (.ref C23) "__init__" = some (some (.ref fI)))
    (vC23 : PySem.W.findIn K (.ref C23) "value" = some none)
    (kC23 : PySem.W.keepIn K (.ref C23) = true)
    (eC23 : PySem.W.subIn K (.ref C23) (.type "BaseException") = some true)
    (tC23 : PySem.W.typeIn K (.ref C23) = some (.type "type"))
    (dC23 : PySem.W.hasDictIn K C23 = true)
    (cC23 : PySem.W.findIn K (.ref C23) "__class__" = some (some (.builtin "object.__class__")))
    (oC23 : PySem.W.mroIn K C23 (.type "object") = some true)
    (aC24 : PySem.W.nsIn K mainGlobals "WrongKind" = some (some (.ref C24)))
    (xC24 : K.lookup C24 = some (excClassObj nmC24 qC24 C24 NC24 bsC24 [.ref CR, .type "ValueError", .type "Exception", .type "BaseException", .type "object"] true snC24 subC24 abC24 colC24 ddC24 m0C24 m1C24 m2C24 m3C24 m5C24 "ValueError.__new__"))
    (sC24 : PySem.W.findIn K (.ref C24) "__setattr__" = some (some (.builtin "object.__setattr__")))
    (gC24 : PySem.W.findIn K (.ref C24) "__getattribute__" = some (some (.builtin "BaseException.__getattribute__")))
    (hC24 : PySem.W.findIn K (.ref C24) "__getattr__" = some none)
    (iC24 : PySem.W.findIn K (.ref C24) "__init__" = some (some (.ref fI)))
    (vC24 : PySem.W.findIn K (.ref C24) "value" = some none)
    (kC24 : PySem.W.keepIn K (.ref C24) = true)
    (eC24 : PySem.W.subIn K (.ref C24) (.type "BaseException") = some true)
    (tC24 : PySem.W.typeIn K (.ref C24) = some (.type "type"))
    (dC24 : PySem.W.hasDictIn K C24 = true)
    (cC24 : PySem.W.findIn K (.ref C24) "__class__" = some (some (.builtin "object.__class__")))
    (oC24 : PySem.W.mroIn K C24 (.type "object") = some true)
    (aC25 : PySem.W.nsIn K mainGlobals "Held" = some (some (.ref C25)))
    (xC25 : K.lookup C25 = some (excClassObj nmC25 qC25 C25 NC25 bsC25 [.ref CR, .type "ValueError", .type "Exception", .type "BaseException", .type "object"] true snC25 subC25 abC25 colC25 ddC25 m0C25 m1C25 m2C25 m3C25 m5C25 "ValueError.__new__"))
    (sC25 : PySem.W.findIn K (.ref C25) "__setattr__" = some (some (.builtin "object.__setattr__")))
    (gC25 : PySem.W.findIn K (.ref C25) "__getattribute__" = some (some (.builtin "BaseException.__getattribute__")))
    (hC25 : PySem.W.findIn K (.ref C25) "__getattr__" = some none)
    (iC25 : PySem.W.findIn K (.ref C25) "__init__" = some (some (.ref fI)))
    (vC25 : PySem.W.findIn K (.ref C25) "value" = some none)
    (kC25 : PySem.W.keepIn K (.ref C25) = true)
    (eC25 : PySem.W.subIn K (.ref C25) (.type "BaseException") = some true)
    (tC25 : PySem.W.typeIn K (.ref C25) = some (.type "type"))
    (dC25 : PySem.W.hasDictIn K C25 = true)
    (cC25 : PySem.W.findIn K (.ref C25) "__class__" = some (some (.builtin "object.__class__")))
    (oC25 : PySem.W.mroIn K C25 (.type "object") = some true)
    (aC26 : PySem.W.nsIn K mainGlobals "BadDeed" = some (some (.ref C26)))
    (xC26 : K.lookup C26 = some (excClassObj nmC26 qC26 C26 NC26 bsC26 [.ref CR, .type "ValueError", .type "Exception", .type "BaseException", .type "object"] true snC26 subC26 abC26 colC26 ddC26 m0C26 m1C26 m2C26 m3C26 m5C26 "ValueError.__new__"))
    (sC26 : PySem.W.findIn K (.ref C26) "__setattr__" = some (some (.builtin "object.__setattr__")))
    (gC26 : PySem.W.findIn K (.ref C26) "__getattribute__" = some (some (.builtin "BaseException.__getattribute__")))
    (hC26 : PySem.W.findIn K (.ref C26) "__getattr__" = some none)
    (iC26 : PySem.W.findIn K (.ref C26) "__init__" = some (some (.ref fI)))
    (vC26 : PySem.W.findIn K (.ref C26) "value" = some none)
    (kC26 : PySem.W.keepIn K (.ref C26) = true)
    (eC26 : PySem.W.subIn K (.ref C26) (.type "BaseException") = some true)
    (tC26 : PySem.W.typeIn K (.ref C26) = some (.type "type"))
    (dC26 : PySem.W.hasDictIn K C26 = true)
    (cC26 : PySem.W.findIn K (.ref C26) "__class__" = some (some (.builtin "object.__class__")))
    (oC26 : PySem.W.mroIn K C26 (.type "object") = some true)
    (aC27 : PySem.W.nsIn K mainGlobals "BadKind" = some (some (.ref C27)))
    (xC27 : K.lookup C27 = some (excClassObj nmC27 qC27 C27 NC27 bsC27 [.ref CR, .type "ValueError", .type "Exception", .type "BaseException", .type "object"] true snC27 subC27 abC27 colC27 ddC27 m0C27 m1C27 m2C27 m3C27 m5C27 "ValueError.__new__"))
    (sC27 : PySem.W.findIn K (.ref C27) "__setattr__" = some (some (.builtin "object.__setattr__")))
    (gC27 : PySem.W.findIn K (.ref C27) "__getattribute__" = some (some (.builtin "BaseException.__getattribute__")))
    (hC27 : PySem.W.findIn K (.ref C27) "__getattr__" = some none)
    (iC27 : PySem.W.findIn K (.ref C27) "__init__" = some (some (.ref fI)))
    (vC27 : PySem.W.findIn K (.ref C27) "value" = some none)
    (kC27 : PySem.W.keepIn K (.ref C27) = true)
    (eC27 : PySem.W.subIn K (.ref C27) (.type "BaseException") = some true)
    (tC27 : PySem.W.typeIn K (.ref C27) = some (.type "type"))
    (dC27 : PySem.W.hasDictIn K C27 = true)
    (cC27 : PySem.W.findIn K (.ref C27) "__class__" = some (some (.builtin "object.__class__")))
    (oC27 : PySem.W.mroIn K C27 (.type "object") = some true)
    (aC28 : PySem.W.nsIn K mainGlobals "NothingToUndo" = some (some (.ref C28)))
    (xC28 : K.lookup C28 = some (excClassObj nmC28 qC28 C28 NC28 bsC28 [.ref CR, .type "ValueError", .type "Exception", .type "BaseException", .type "object"] true snC28 subC28 abC28 colC28 ddC28 m0C28 m1C28 m2C28 m3C28 m5C28 "ValueError.__new__"))
    (sC28 : PySem.W.findIn K (.ref C28) "__setattr__" = some (some (.builtin "object.__setattr__")))
    (gC28 : PySem.W.findIn K (.ref C28) "__getattribute__" = some (some (.builtin "BaseException.__getattribute__")))
    (hC28 : PySem.W.findIn K (.ref C28) "__getattr__" = some none)
    (iC28 : PySem.W.findIn K (.ref C28) "__init__" = some (some (.ref fI)))
    (vC28 : PySem.W.findIn K (.ref C28) "value" = some none)
    (kC28 : PySem.W.keepIn K (.ref C28) = true)
    (eC28 : PySem.W.subIn K (.ref C28) (.type "BaseException") = some true)
    (tC28 : PySem.W.typeIn K (.ref C28) = some (.type "type"))
    (dC28 : PySem.W.hasDictIn K C28 = true)
    (cC28 : PySem.W.findIn K (.ref C28) "__class__" = some (some (.builtin "object.__class__")))
    (oC28 : PySem.W.mroIn K C28 (.type "object") = some true)
    (aC29 : PySem.W.nsIn K mainGlobals "NothingToRedo" = some (some (.ref C29)))
    (xC29 : K.lookup C29 = some (excClassObj nmC29 qC29 C29 NC29 bsC29 [.ref CR, .type "ValueError", .type "Exception", .type "BaseException", .type "object"] true snC29 subC29 abC29 colC29 ddC29 m0C29 m1C29 m2C29 m3C29 m5C29 "ValueError.__new__"))
    (sC29 : PySem.W.findIn K (.ref C29) "__setattr__" = some (some (.builtin "object.__setattr__")))
    (gC29 : PySem.W.findIn K (.ref C29) "__getattribute__" = some (some (.builtin "BaseException.__getattribute__")))
    (hC29 : PySem.W.findIn K (.ref C29) "__getattr__" = some none)
    (iC29 : PySem.W.findIn K (.ref C29) "__init__" = some (some (.ref fI)))
    (vC29 : PySem.W.findIn K (.ref C29) "value" = some none)
    (kC29 : PySem.W.keepIn K (.ref C29) = true)
    (eC29 : PySem.W.subIn K (.ref C29) (.type "BaseException") = some true)
    (tC29 : PySem.W.typeIn K (.ref C29) = some (.type "type"))
    (dC29 : PySem.W.hasDictIn K C29 = true)
    (cC29 : PySem.W.findIn K (.ref C29) "__class__" = some (some (.builtin "object.__class__")))
    (oC29 : PySem.W.mroIn K C29 (.type "object") = some true)
    (aC30 : PySem.W.nsIn K mainGlobals "NoNote" = some (some (.ref C30)))
    (xC30 : K.lookup C30 = some (excClassObj nmC30 qC30 C30 NC30 bsC30 [.ref CR, .type "ValueError", .type "Exception", .type "BaseException", .type "object"] true snC30 subC30 abC30 colC30 ddC30 m0C30 m1C30 m2C30 m3C30 m5C30 "ValueError.__new__"))
    (sC30 : PySem.W.findIn K (.ref C30) "__setattr__" = some (some (.builtin "object.__setattr__")))
    (gC30 : PySem.W.findIn K (.ref C30) "__getattribute__" = some (some (.builtin "BaseException.__getattribute__")))
    (hC30 : PySem.W.findIn K (.ref C30) "__getattr__" = some none)
    (iC30 : PySem.W.findIn K (.ref C30) "__init__" = some (some (.ref fI)))
    (vC30 : PySem.W.findIn K (.ref C30) "value" = some none)
    (kC30 : PySem.W.keepIn K (.ref C30) = true)
    (eC30 : PySem.W.subIn K (.ref C30) (.type "BaseException") = some true)
    (tC30 : PySem.W.typeIn K (.ref C30) = some (.type "type"))
    (dC30 : PySem.W.hasDictIn K C30 = true)
    (cC30 : PySem.W.findIn K (.ref C30) "__class__" = some (some (.builtin "object.__class__")))
    (oC30 : PySem.W.mroIn K C30 (.type "object") = some true)
    (aC31 : PySem.W.nsIn K mainGlobals "BadDesk" = some (some (.ref C31)))
    (xC31 : K.lookup C31 = some (excClassObj nmC31 qC31 C31 NC31 bsC31 [.ref CR, .type "ValueError", .type "Exception", .type "BaseException", .type "object"] true snC31 subC31 abC31 colC31 ddC31 m0C31 m1C31 m2C31 m3C31 m5C31 "ValueError.__new__"))
    (sC31 : PySem.W.findIn K (.ref C31) "__setattr__" = some (some (.builtin "object.__setattr__")))
    (gC31 : PySem.W.findIn K (.ref C31) "__getattribute__" = some (some (.builtin "BaseException.__getattribute__")))
    (hC31 : PySem.W.findIn K (.ref C31) "__getattr__" = some none)
    (iC31 : PySem.W.findIn K (.ref C31) "__init__" = some (some (.ref fI)))
    (vC31 : PySem.W.findIn K (.ref C31) "value" = some none)
    (kC31 : PySem.W.keepIn K (.ref C31) = true)
    (eC31 : PySem.W.subIn K (.ref C31) (.type "BaseException") = some true)
    (tC31 : PySem.W.typeIn K (.ref C31) = some (.type "type"))
    (dC31 : PySem.W.hasDictIn K C31 = true)
    (cC31 : PySem.W.findIn K (.ref C31) "__class__" = some (some (.builtin "object.__class__")))
    (oC31 : PySem.W.mroIn K C31 (.type "object") = some true)
    (lI : K.lookup fI = some ⟨ocI, odI, .func (PySem.W.fnOf "__init__" "RollError.__init__" (defArgs sInit) (defBody sInit) (defScope sInit) .none kVI dcI pmI anI cdI ctI), slI⟩)
    (cI : PySem.W.codeIn K cdI "RollError.__init__" = true)
    (kI : PySem.W.keepIn K (.ref fI) = true)
    (tI : PySem.W.typeIn K (.ref fI) = some (.type "function"))
    (spc : PySem.W.specialIn K (.builtin "object.__class__") "__get__" = some (some (.builtin "getset_descriptor.__get__")))
    (tks : PySem.W.takesIn K (.builtin "object.__class__") = some true)
    (fa0 : PySem.W.nsIn K mainGlobals "_law_pot" = some (some (.ref f0)))
    (fl0 : K.lookup f0 = some ⟨oc0, od0, .func (PySem.W.fnOf "_law_pot" "_law_pot" (defArgs sPot) (defBody sPot) (defScope sPot) .none kV0 dc0 pm0 an0 cd0 ct0), sl0⟩)
    (fc0 : PySem.W.codeIn K cd0 "_law_pot" = true)
    (fk0 : PySem.W.keepIn K (.ref f0) = true)
    (fa1 : PySem.W.nsIn K mainGlobals "_law_take" = some (some (.ref f1)))
    (fl1 : K.lookup f1 = some ⟨oc1, od1, .func (PySem.W.fnOf "_law_take" "_law_take" (defArgs sTake) (defBody sTake) (defScope sTake) .none kV1 dc1 pm1 an1 cd1 ct1), sl1⟩)
    (fc1 : PySem.W.codeIn K cd1 "_law_take" = true)
    (fk1 : PySem.W.keepIn K (.ref f1) = true)
    (fa2 : PySem.W.nsIn K mainGlobals "_law_of" = some (some (.ref f2)))
    (fl2 : K.lookup f2 = some ⟨oc2, od2, .func (PySem.W.fnOf "_law_of" "_law_of" (defArgs sOf) (defBody sOf) (defScope sOf) .none kV2 dc2 pm2 an2 cd2 ct2), sl2⟩)
    (fc2 : PySem.W.codeIn K cd2 "_law_of" = true)
    (fk2 : PySem.W.keepIn K (.ref f2) = true)
    (fa3 : PySem.W.nsIn K mainGlobals "_law_cells" = some (some (.ref f3)))
    (fl3 : K.lookup f3 = some ⟨oc3, od3, .func (PySem.W.fnOf "_law_cells" "_law_cells" (defArgs sCells) (defBody sCells) (defScope sCells) .none kV3 dc3 pm3 an3 cd3 ct3), sl3⟩)
    (fc3 : PySem.W.codeIn K cd3 "_law_cells" = true)
    (fk3 : PySem.W.keepIn K (.ref f3) = true)
    (fa4 : PySem.W.nsIn K mainGlobals "_law_odd" = some (some (.ref f4)))
    (fl4 : K.lookup f4 = some ⟨oc4, od4, .func (PySem.W.fnOf "_law_odd" "_law_odd" (defArgs sOdd) (defBody sOdd) (defScope sOdd) .none kV4 dc4 pm4 an4 cd4 ct4), sl4⟩)
    (fc4 : PySem.W.codeIn K cd4 "_law_odd" = true)
    (fk4 : PySem.W.keepIn K (.ref f4) = true)
    (fa5 : PySem.W.nsIn K mainGlobals "_law_made" = some (some (.ref f5)))
    (fl5 : K.lookup f5 = some ⟨oc5, od5, .func (PySem.W.fnOf "_law_made" "_law_made" (defArgs sMade) (defBody sMade) (defScope sMade) .none kV5 dc5 pm5 an5 cd5 ct5), sl5⟩)
    (fc5 : PySem.W.codeIn K cd5 "_law_made" = true)
    (fk5 : PySem.W.keepIn K (.ref f5) = true)
    (fa6 : PySem.W.nsIn K mainGlobals "_law_made_too" = some (some (.ref f6)))
    (fl6 : K.lookup f6 = some ⟨oc6, od6, .func (PySem.W.fnOf "_law_made_too" "_law_made_too" (defArgs sMade2) (defBody sMade2) (defScope sMade2) .none kV6 dc6 pm6 an6 cd6 ct6), sl6⟩)
    (fc6 : PySem.W.codeIn K cd6 "_law_made_too" = true)
    (fk6 : PySem.W.keepIn K (.ref f6) = true)
    (fa7 : PySem.W.nsIn K mainGlobals "_law_kinds" = some (some (.ref f7)))
    (fl7 : K.lookup f7 = some ⟨oc7, od7, .func (PySem.W.fnOf "_law_kinds" "_law_kinds" (defArgs sKinds) (defBody sKinds) (defScope sKinds) .none kV7 dc7 pm7 an7 cd7 ct7), sl7⟩)
    (fc7 : PySem.W.codeIn K cd7 "_law_kinds" = true)
    (fk7 : PySem.W.keepIn K (.ref f7) = true)
    (fa8 : PySem.W.nsIn K mainGlobals "_law_kinds_too" = some (some (.ref f8)))
    (fl8 : K.lookup f8 = some ⟨oc8, od8, .func (PySem.W.fnOf "_law_kinds_too" "_law_kinds_too" (defArgs sKinds2) (defBody sKinds2) (defScope sKinds2) .none kV8 dc8 pm8 an8 cd8 ct8), sl8⟩)
    (fc8 : PySem.W.codeIn K cd8 "_law_kinds_too" = true)
    (fk8 : PySem.W.keepIn K (.ref f8) = true)
    (fa9 : PySem.W.nsIn K mainGlobals "_law_right" = some (some (.ref f9)))
    (fl9 : K.lookup f9 = some ⟨oc9, od9, .func (PySem.W.fnOf "_law_right" "_law_right" (defArgs sRight) (defBody sRight) (defScope sRight) .none kV9 dc9 pm9 an9 cd9 ct9), sl9⟩)
    (fc9 : PySem.W.codeIn K cd9 "_law_right" = true)
    (fk9 : PySem.W.keepIn K (.ref f9) = true)
    (fa10 : PySem.W.nsIn K mainGlobals "law" = some (some (.ref f10)))
    (fl10 : K.lookup f10 = some ⟨oc10, od10, .func (PySem.W.fnOf "law" "law" (defArgs sLaw) (defBody sLaw) (defScope sLaw) .none kV10 dc10 pm10 an10 cd10 ct10), sl10⟩)
    (fc10 : PySem.W.codeIn K cd10 "law" = true)
    (fk10 : PySem.W.keepIn K (.ref f10) = true)
    (zint : PySem.W.nsIn K mainGlobals "int" = some none)
    (zabs : PySem.W.nsIn K mainGlobals "abs" = some none)
    (zlen : PySem.W.nsIn K mainGlobals "len" = some none)
    (zsum : PySem.W.nsIn K mainGlobals "sum" = some none)
    (zlist : PySem.W.nsIn K mainGlobals "list" = some none)
    (zrange : PySem.W.nsIn K mainGlobals "range" = some none)
    (zmax : PySem.W.nsIn K mainGlobals "max" = some none)
    (zmin : PySem.W.nsIn K mainGlobals "min" = some none)
    (zrepr : PySem.W.nsIn K mainGlobals "repr" = some none)
    (zenumerate : PySem.W.nsIn K mainGlobals "enumerate" = some none)
    (zisinstance : PySem.W.nsIn K mainGlobals "isinstance" = some none)
    (zall : PySem.W.nsIn K mainGlobals "all" = some none)
    (zve : PySem.W.nsIn K mainGlobals "ValueError" = some none)
    (nd : ([C0, C1, C2, C3, C4, C5, C6, C7, C8, C9, C10, C11, C12, C13, C14, C15, C16, C17, C18, C19, C20, C21, C22, C23, C24, C25, C26, C27, C28, C29, C30, C31] : List Addr).Nodup)
    (far : CR ∉ ([C0, C1, C2, C3, C4, C5, C6, C7, C8, C9, C10, C11, C12, C13, C14, C15, C16, C17, C18, C19, C20, C21, C22, C23, C24, C25, C26, C27, C28, C29, C30, C31] : List Addr)) :
    ∃ fd : FuncData, (∀ (s : Shared) (v : Value), BindsTo s fd ⟨[v], []⟩ [("script", v)]) ∧ ∀ base : Heap, K.In base → base.Ns mainGlobals mg → FnG l.prog w K mg base CX0 6 fa fd ["script"] (spLaw K) := by
  have e := hfa.symm.trans (PySem.W.mg_of X G fa10)
  cases e
  have far' : ∀ i, i < 32 → CR ≠ (fun i => ([C0, C1, C2, C3, C4, C5, C6, C7, C8, C9, C10, C11, C12, C13, C14, C15, C16, C17, C18, C19, C20, C21, C22, C23, C24, C25, C26, C27, C28, C29, C30, C31] : List Addr).getD i 0) i := fun i hi z => far (by
    rw [z]
    show ([C0, C1, C2, C3, C4, C5, C6, C7, C8, C9, C10, C11, C12, C13, C14, C15, C16, C17, C18, C19, C20, C21, C22, C23, C24, C25, C26, C27, C28, C29, C30, C31] : List Addr).getD i 0 ∈ _
    rw [List.getD_eq_getElem?_getD, List.getElem?_eq_getElem (show i < ([C0, C1, C2, C3, C4, C5, C6, C7, C8, C9, C10, C11, C12, C13, C14, C15, C16, C17, C18, C19, C20, C21, C22, C23, C24, C25, C26, C27, C28, C29, C30, C31] : List Addr).length from hi)]
    exact List.getElem_mem _)
  have inj : ∀ i j, i < 32 → j < 32 → (fun i => ([C0, C1, C2, C3, C4, C5, C6, C7, C8, C9, C10, C11, C12, C13, C14, C15, C16, C17, C18, C19, C20, C21, C22, C23, C24, C25, C26, C27, C28, C29, C30, C31] : List Addr).getD i 0) i = (fun i => ([C0, C1, C2, C3, C4, C5, C6, C7, C8, C9, C10, C11, C12, C13, C14, C15, C16, C17, C18, C19, C20, C21, C22, C23, C24, C25, C26, C27, C28, C29, C30, C31] : List Addr).getD i 0) j → i = j := fun i j hi hj z => by
    have z : ([C0, C1, C2, C3, C4, C5, C6, C7, C8, C9, C10, C11, C12, C13, C14, C15, C16, C17, C18, C19, C20, C21, C22, C23, C24, C25, C26, C27, C28, C29, C30, C31] : List Addr).getD i 0 = ([C0, C1, C2, C3, C4, C5, C6, C7, C8, C9, C10, C11, C12, C13, C14, C15, C16, C17, C18, C19, C20, C21, C22, C23, C24, C25, C26, C27, C28, C29, C30, C31] : List Addr).getD j 0 := z
    rw [List.getD_eq_getElem?_getD, List.getD_eq_getElem?_getD, List.getElem?_eq_getElem (show i < ([C0, C1, C2, C3, C4, C5, C6, C7, C8, C9, C10, C11, C12, C13, C14, C15, C16, C17, C18, C19, C20, C21, C22, C23, C24, C25, C26, C27, C28, C29, C30, C31] : List Addr).length from hi), List.getElem?_eq_getElem (show j < ([C0, C1, C2, C3, C4, C5, C6, C7, C8, C9, C10, C11, C12, C13, C14, C15, C16, C17, C18, C19, C20, C21, C22, C23, C24, C25, C26, C27, C28, C29, C30, C31] : List Addr).length from hj)] at z
    exact (List.getElem_inj nd).mp z
  have err : ∀ i, i < 32 → ErrC K fI ((fun i => ([C0, C1, C2, C3, C4, C5, C6, C7, C8, C9, C10, C11, C12, C13, C14, C15, C16, C17, C18, C19, C20, C21, C22, C23, C24, C25, C26, C27, C28, C29, C30, C31] : List Addr).getD i 0) i) := fun i hi => match i, hi with
    | 0, _ => errC_mk xC0 sC0 gC0 hC0 iC0 vC0 kC0 eC0 tC0 dC0 cC0 oC0 spc tks rfl
    | 1, _ => errC_mk xC1 sC1 gC1 hC1 iC1 vC1 kC1 eC1 tC1 dC1 cC1 oC1 spc tks rfl
    | 2, _ => errC_mk xC2 sC2 gC2 hC2 iC2 vC2 kC2 eC2 tC2 dC2 cC2 oC2 spc tks rfl
    | 3, _ => errC_mk xC3 sC3 gC3 hC3 iC3 vC3 kC3 eC3 tC3 dC3 cC3 oC3 spc tks rfl
    | 4, _ => errC_mk xC4 sC4 gC4 hC4 iC4 vC4 kC4 eC4 tC4 dC4 cC4 oC4 spc tks rfl
    | 5, _ => errC_mk xC5 sC5 gC5 hC5 iC5 vC5 kC5 eC5 tC5 dC5 cC5 oC5 spc tks rfl
    | 6, _ => errC_mk xC6 sC6 gC6 hC6 iC6 vC6 kC6 eC6 tC6 dC6 cC6 oC6 spc tks rfl
    | 7, _ => errC_mk xC7 sC7 gC7 hC7 iC7 vC7 kC7 eC7 tC7 dC7 cC7 oC7 spc tks rfl
    | 8, _ => errC_mk xC8 sC8 gC8 hC8 iC8 vC8 kC8 eC8 tC8 dC8 cC8 oC8 spc tks rfl
    | 9, _ => errC_mk xC9 sC9 gC9 hC9 iC9 vC9 kC9 eC9 tC9 dC9 cC9 oC9 spc tks rfl
    | 10, _ => errC_mk xC10 sC10 gC10 hC10 iC10 vC10 kC10 eC10 tC10 dC10 cC10 oC10 spc tks rfl
    | 11, _ => errC_mk xC11 sC11 gC11 hC11 iC11 vC11 kC11 eC11 tC11 dC11 cC11 oC11 spc tks rfl
    | 12, _ => errC_mk xC12 sC12 gC12 hC12 iC12 vC12 kC12 eC12 tC12 dC12 cC12 oC12 spc tks rfl
    | 13, _ => errC_mk xC13 sC13 gC13 hC13 iC13 vC13 kC13 eC13 tC13 dC13 cC13 oC13 spc tks rfl
    | 14, _ => errC_mk xC14 sC14 gC14 hC14 iC14 vC14 kC14 eC14 tC14 dC14 cC14 oC14 spc tks rfl
    | 15, _ => errC_mk xC15 sC15 gC15 hC15 iC15 vC15 kC15 eC15 tC15 dC15 cC15 oC15 spc tks rfl
    | 16, _ => errC_mk xC16 sC16 gC16 hC16 iC16 vC16 kC16 eC16 tC16 dC16 cC16 oC16 spc tks rfl
    | 17, _ => errC_mk xC17 sC17 gC17 hC17 iC17 vC17 kC17 eC17 tC17 dC17 cC17 oC17 spc tks rfl
    | 18, _ => errC_mk xC18 sC18 gC18 hC18 iC18 vC18 kC18 eC18 tC18 dC18 cC18 oC18 spc tks rfl
    | 19, _ => errC_mk xC19 sC19 gC19 hC19 iC19 vC19 kC19 eC19 tC19 dC19 cC19 oC19 spc tks rfl
    | 20, _ => errC_mk xC20 sC20 gC20 hC20 iC20 vC20 kC20 eC20 tC20 dC20 cC20 oC20 spc tks rfl
    | 21, _ => errC_mk xC21 sC21 gC21 hC21 iC21 vC21 kC21 eC21 tC21 dC21 cC21 oC21 spc tks rfl
    | 22, _ => errC_mk xC22 sC22 gC22 hC22 iC22 vC22 kC22 eC22 tC22 dC22 cC22 oC22 spc tks rfl
    | 23, _ => errC_mk xC23 sC23 gC23 hC23 iC23 vC23 kC23 eC23 tC23 dC23 cC23 oC23 spc tks rfl
    | 24, _ => errC_mk xC24 sC24 gC24 hC24 iC24 vC24 kC24 eC24 tC24 dC24 cC24 oC24 spc tks rfl
    | 25, _ => errC_mk xC25 sC25 gC25 hC25 iC25 vC25 kC25 eC25 tC25 dC25 cC25 oC25 spc tks rfl
    | 26, _ => errC_mk xC26 sC26 gC26 hC26 iC26 vC26 kC26 eC26 tC26 dC26 cC26 oC26 spc tks rfl
    | 27, _ => errC_mk xC27 sC27 gC27 hC27 iC27 vC27 kC27 eC27 tC27 dC27 cC27 oC27 spc tks rfl
    | 28, _ => errC_mk xC28 sC28 gC28 hC28 iC28 vC28 kC28 eC28 tC28 dC28 cC28 oC28 spc tks rfl
    | 29, _ => errC_mk xC29 sC29 gC29 hC29 iC29 vC29 kC29 eC29 tC29 dC29 cC29 oC29 spc tks rfl
    | 30, _ => errC_mk xC30 sC30 gC30 hC30 iC30 vC30 kC30 eC30 tC30 dC30 cC30 oC30 spc tks rfl
    | 31, _ => errC_mk xC31 sC31 gC31 hC31 iC31 vC31 kC31 eC31 tC31 dC31 cC31 oC31 spc tks rfl
    | n + 32, h => absurd h (by omega)
  have mC : ∀ i, i < 32 → mg (eNames.getD i "") = some (.ref ((fun i => ([C0, C1, C2, C3, C4, C5, C6, C7, C8, C9, C10, C11, C12, C13, C14, C15, C16, C17, C18, C19, C20, C21, C22, C23, C24, C25, C26, C27, C28, C29, C30, C31] : List Addr).getD i 0) i)) := fun i hi => match i, hi with
    | 0, _ => PySem.W.mg_of X G aC0
    | 1, _ => PySem.W.mg_of X G aC1
    | 2, _ => PySem.W.mg_of X G aC2
    | 3, _ => PySem.W.mg_of X G aC3
    | 4, _ => PySem.W.mg_of X G aC4
    | 5, _ => PySem.W.mg_of X G aC5
    | 6, _ => PySem.W.mg_of X G aC6
    | 7, _ => PySem.W.mg_of X G aC7
    | 8, _ => PySem.W.mg_of X G aC8
    | 9, _ => PySem.W.mg_of X G aC9
    | 10, _ => PySem.W.mg_of X G aC10
    | 11, _ => PySem.W.mg_of X G aC11
    | 12, _ => PySem.W.mg_of X G aC12
    | 13, _ => PySem.W.mg_of X G aC13
    | 14, _ => PySem.W.mg_of X G aC14
    | 15, _ => PySem.W.mg_of X G aC15
    | 16, _ => PySem.W.mg_of X G aC16
    | 17, _ => PySem.W.mg_of X G aC17
    | 18, _ => PySem.W.mg_of X G aC18
    | 19, _ => PySem.W.mg_of X G aC19
    | 20, _ => PySem.W.mg_of X G aC20
    | 21, _ => PySem.W.mg_of X G aC21
    | 22, _ => PySem.W.mg_of X G aC22
    | 23, _ => PySem.W.mg_of X G aC23
    | 24, _ => PySem.W.mg_of X G aC24
    | 25, _ => PySem.W.mg_of X G aC25
    | 26, _ => PySem.W.mg_of X G aC26
    | 27, _ => PySem.W.mg_of X G aC27
    | 28, _ => PySem.W.mg_of X G aC28
    | 29, _ => PySem.W.mg_of X G aC29
    | 30, _ => PySem.W.mg_of X G aC30
    | 31, _ => PySem.W.mg_of X G aC31
    | n + 32, h => absurd h (by omega)
  have sh : ∀ i, i < 32 → Shaped K CR ((fun i => ([C0, C1, C2, C3, C4, C5, C6, C7, C8, C9, C10, C11, C12, C13, C14, C15, C16, C17, C18, C19, C20, C21, C22, C23, C24, C25, C26, C27, C28, C29, C30, C31] : List Addr).getD i 0) i) := fun i hi => match i, hi with
    | 0, _ => ⟨⟨_, _, _, _, _, _, _, _, _, _, _, _, _, _, xC0⟩, tC0⟩
    | 1, _ => ⟨⟨_, _, _, _, _, _, _, _, _, _, _, _, _, _, xC1⟩, tC1⟩
    | 2, _ => ⟨⟨_, _, _, _, _, _, _, _, _, _, _, _, _, _, xC2⟩, tC2⟩
    | 3, _ => ⟨⟨_, _, _, _, _, _, _, _, _, _, _, _, _, _, xC3⟩, tC3⟩
    | 4, _ => ⟨⟨_, _, _, _, _, _, _, _, _, _, _, _, _, _, xC4⟩, tC4⟩
    | 5, _ => ⟨⟨_, _, _, _, _, _, _, _, _, _, _, _, _, _, xC5⟩, tC5⟩
    | 6, _ => ⟨⟨_, _, _, _, _, _, _, _, _, _, _, _, _, _, xC6⟩, tC6⟩
    | 7, _ => ⟨⟨_, _, _, _, _, _, _, _, _, _, _, _, _, _, xC7⟩, tC7⟩
    | 8, _ => ⟨⟨_, _, _, _, _, _, _, _, _, _, _, _, _, _, xC8⟩, tC8⟩
    | 9, _ => ⟨⟨_, _, _, _, _, _, _, _, _, _, _, _, _, _, xC9⟩, tC9⟩
    | 10, _ => ⟨⟨_, _, _, _, _, _, _, _, _, _, _, _, _, _, xC10⟩, tC10⟩
    | 11, _ => ⟨⟨_, _, _, _, _, _, _, _, _, _, _, _, _, _, xC11⟩, tC11⟩
    | 12, _ => ⟨⟨_, _, _, _, _, _, _, _, _, _, _, _, _, _, xC12⟩, tC12⟩
    | 13, _ => ⟨⟨_, _, _, _, _, _, _, _, _, _, _, _, _, _, xC13⟩, tC13⟩
    | 14, _ => ⟨⟨_, _, _, _, _, _, _, _, _, _, _, _, _, _, xC14⟩, tC14⟩
    | 15, _ => ⟨⟨_, _, _, _, _, _, _, _, _, _, _, _, _, _, xC15⟩, tC15⟩
    | 16, _ => ⟨⟨_, _, _, _, _, _, _, _, _, _, _, _, _, _, xC16⟩, tC16⟩
    | 17, _ => ⟨⟨_, _, _, _, _, _, _, _, _, _, _, _, _, _, xC17⟩, tC17⟩
    | 18, _ => ⟨⟨_, _, _, _, _, _, _, _, _, _, _, _, _, _, xC18⟩, tC18⟩
    | 19, _ => ⟨⟨_, _, _, _, _, _, _, _, _, _, _, _, _, _, xC19⟩, tC19⟩
    | 20, _ => ⟨⟨_, _, _, _, _, _, _, _, _, _, _, _, _, _, xC20⟩, tC20⟩
    | 21, _ => ⟨⟨_, _, _, _, _, _, _, _, _, _, _, _, _, _, xC21⟩, tC21⟩
    | 22, _ => ⟨⟨_, _, _, _, _, _, _, _, _, _, _, _, _, _, xC22⟩, tC22⟩
    | 23, _ => ⟨⟨_, _, _, _, _, _, _, _, _, _, _, _, _, _, xC23⟩, tC23⟩
    | 24, _ => ⟨⟨_, _, _, _, _, _, _, _, _, _, _, _, _, _, xC24⟩, tC24⟩
    | 25, _ => ⟨⟨_, _, _, _, _, _, _, _, _, _, _, _, _, _, xC25⟩, tC25⟩
    | 26, _ => ⟨⟨_, _, _, _, _, _, _, _, _, _, _, _, _, _, xC26⟩, tC26⟩
    | 27, _ => ⟨⟨_, _, _, _, _, _, _, _, _, _, _, _, _, _, xC27⟩, tC27⟩
    | 28, _ => ⟨⟨_, _, _, _, _, _, _, _, _, _, _, _, _, _, xC28⟩, tC28⟩
    | 29, _ => ⟨⟨_, _, _, _, _, _, _, _, _, _, _, _, _, _, xC29⟩, tC29⟩
    | 30, _ => ⟨⟨_, _, _, _, _, _, _, _, _, _, _, _, _, _, xC30⟩, tC30⟩
    | 31, _ => ⟨⟨_, _, _, _, _, _, _, _, _, _, _, _, _, _, xC31⟩, tC31⟩
    | n + 32, h => absurd h (by omega)
  have T : Er K mg (fun i => ([C0, C1, C2, C3, C4, C5, C6, C7, C8, C9, C10, C11, C12, C13, C14, C15, C16, C17, C18, C19, C20, C21, C22, C23, C24, C25, C26, C27, C28, C29, C30, C31] : List Addr).getD i 0) CR fI := ⟨PySem.W.mg_none_of X G zisinstance, err, errC_mk xCR sCR gCR hCR iCR vCR kCR eCR tCR dCR cCR oCR spc tks (by decide +kernel), mC, PySem.W.mg_of X G aCR, inj, far'⟩
  have KT : Kit K (fun i => ([C0, C1, C2, C3, C4, C5, C6, C7, C8, C9, C10, C11, C12, C13, C14, C15, C16, C17, C18, C19, C20, C21, C22, C23, C24, C25, C26, C27, C28, C29, C30, C31] : List Addr).getD i 0) CR := kit_mk sh ⟨_, _, _, _, _, _, _, _, _, _, _, _, _, _, xCR⟩ tCR far'
  have B : Bi2 mg := { int := PySem.W.mg_none_of X G zint, abs := PySem.W.mg_none_of X G zabs, len := PySem.W.mg_none_of X G zlen, sum := PySem.W.mg_none_of X G zsum, list := PySem.W.mg_none_of X G zlist, range := PySem.W.mg_none_of X G zrange, max := PySem.W.mg_none_of X G zmax, min := PySem.W.mg_none_of X G zmin, repr := PySem.W.mg_none_of X G zrepr, enumerate := PySem.W.mg_none_of X G zenumerate, isinstance := PySem.W.mg_none_of X G zisinstance, ve := PySem.W.mg_none_of X G zve }
  have FI := fun_mk (st := sInit) lI cI kI
  have GI : ∀ base : Heap, InitE l.prog w K mg base fI := fun base => ⟨_, ok_init FI, FI.binds (ps := ["self", "value"]) fun _ _ _ _ _ _ us hl => (match us, hl with | [_, _], _ => rfl), tI⟩
  have D0 : Df K mg "_law_pot" sPot := ⟨f0, _, fun_mk fl0 fc0 fk0, PySem.W.mg_of X G fa0⟩
  have D1 : Df K mg "_law_take" sTake := ⟨f1, _, fun_mk fl1 fc1 fk1, PySem.W.mg_of X G fa1⟩
  have D2 : Df K mg "_law_of" sOf := ⟨f2, _, fun_mk fl2 fc2 fk2, PySem.W.mg_of X G fa2⟩
  have D3 : Df K mg "_law_cells" sCells := ⟨f3, _, fun_mk fl3 fc3 fk3, PySem.W.mg_of X G fa3⟩
  have D4 : Df K mg "_law_odd" sOdd := ⟨f4, _, fun_mk fl4 fc4 fk4, PySem.W.mg_of X G fa4⟩
  have D5 : Df K mg "_law_made" sMade := ⟨f5, _, fun_mk fl5 fc5 fk5, PySem.W.mg_of X G fa5⟩
  have D6 : Df K mg "_law_made_too" sMade2 := ⟨f6, _, fun_mk fl6 fc6 fk6, PySem.W.mg_of X G fa6⟩
  have D7 : Df K mg "_law_kinds" sKinds := ⟨f7, _, fun_mk fl7 fc7 fk7, PySem.W.mg_of X G fa7⟩
  have D8 : Df K mg "_law_kinds_too" sKinds2 := ⟨f8, _, fun_mk fl8 fc8 fk8, PySem.W.mg_of X G fa8⟩
  have D9 : Df K mg "_law_right" sRight := ⟨f9, _, fun_mk fl9 fc9 fk9, PySem.W.mg_of X G fa9⟩
  refine ⟨PySem.W.fnOf "law" "law" (defArgs sLaw) (defBody sLaw) (defScope sLaw) .none kV10 dc10 pm10 an10 cd10 ct10, fun s v => .of_eq rfl, fun base _ _ => ?_⟩
  have cT : Cal l.prog w K mg base 1 "_law_take" spTake := cal_take D1 B.toBi
  have cO : Cal l.prog w K mg base 2 "_law_of" (spOf K) := cal_of D2 B.toBi cT
  have cP : Cal l.prog w K mg base 1 "_law_pot" (spPot K) := cal_pot D0 B.toBi
  have cC : Cal l.prog w K mg base 1 "_law_cells" (spCells K 3) := cal_cells (by decide) (by decide) D3 B.toBi
  have cD : Cal l.prog w K mg base 3 "_law_odd" (spOdd K) := cal_odd D4 cO
  have cM := cal_made D5 T (GI base) (cal_made2 D6 T (GI base))
  have cK := cal_kinds (P := l.prog) (w := w) (base := base) D7 T (cal_kinds2 D8 T)
  exact ok_lawG (by decide) (fun_mk (st := sLaw) fl10 fc10 fk10) (PySem.W.mg_none_of X G zall) cP cC (cal_right D9 B T KT (GI base) cD cM cK)
theorem walk {l : PySem.W.OpenLaw} {q : Program} {loose : List Str} {XP : (Str → Option Value) → Heap → Prop} {YP : World → Heap → Prop} {d : DefRec} {K : Params → PySem.W.Frag} (hn : l.most = some 63) (hdf : d.params.defaults = [])
    (hY : ∀ (w : World) (h : Heap), YP w h → (K w.params).In h)
    (F : ∀ (w : World) (mg : Str → Option Value) (fa : Addr) (h : Heap), (K w.params).In h → h.Ns mainGlobals mg → mg d.name = some (.ref fa) →
      ∃ fd : FuncData, (∀ (s : Shared) (u : Value), BindsTo s fd ⟨[u], []⟩ [("script", u)]) ∧ ∀ base : Heap, (K w.params).In base → base.Ns mainGlobals mg → FnG l.prog w (K w.params) mg base CX0 6 fa fd ["script"] (spLaw (K w.params))) :
    PySem.W.WalkO q loose XP YP l.row.toRowW d [] (fun f vs => PySem.call f vs) :=
  walkG (n := 63) (k := 6) (x := "script") (sp := fun w => spLaw (K w.params)) hn (by decide) hdf ⟨rfl, by decide, by decide⟩ hY F fun _ _ a ns hl hS => ⟨a, ns, rfl, hS, hl, fun _ => rfl⟩
end Lw


set_option Elab.async false
open PySem PySem.W PyProof.Rows in
set_option maxRecDepth 100000 in
set_option maxHeartbeats 0 in
theorem PySem.Challenge.cw_contraryrolls_k89_errors_keep_any_value_holds : PySem.Challenge.rw_contraryrolls_k89_errors_keep_any_value.Holds := by
  w_on; o_law; k_head; (case hw => w_witness2)
  k_fill
  refine Lw.walk (l := PySem.Challenge.rw_contraryrolls_k89_errors_keep_any_value) rfl rfl (fun w h Y => PySem.W.kIn_of Y) ?F
  case F =>
    intro w mg fa h KX G hmg
    refine' Lw.all_mk KX G hmg ?aCR ?xCR ?sCR ?gCR ?hCR ?iCR ?vCR ?kCR ?eCR ?tCR ?dCR ?cCR ?oCR ?aC0 ?xC0 ?sC0 ?gC0 ?hC0 ?iC0 ?vC0 ?kC0 ?eC0 ?tC0 ?dC0 ?cC0 ?oC0 ?aC1 ?xC1 ?sC1 ?gC1 ?hC1 ?iC1 ?vC1 ?kC1 ?eC1 ?tC1 ?dC1 ?cC1 ?oC1 ?aC2 ?xC2 ?sC2 ?gC2 ?hC2 ?iC2 ?vC2 ?kC2 ?eC2 ?tC2 ?dC2 ?cC2 ?oC2 ?aC3 ?xC3 ?sC3 ?gC3 ?hC3 ?iC3 ?vC3 ?kC3 ?eC3 ?tC3 ?dC3 ?cC3 ?oC3 ?aC4 ?xC4 ?sC4 ?gC4 ?hC4 ?iC4 ?vC4 ?kC4 ?eC4 ?tC4 ?dC4 ?cC4 ?oC4 ?aC5 ?xC5 ?sC5 ?gC5 ?hC5 ?iC5 ?vC5 ?kC5 ?eC5 ?tC5 ?dC5 ?cC5 ?oC5 ?aC6 ?xC6 ?sC6 ?gC6 ?hC6 ?iC6 ?vC6 ?kC6 ?eC6 ?tC6 ?dC6 ?cC6 ?oC6 ?aC7 ?xC7 ?sC7 ?gC7 ?hC7 ?iC7 ?vC7 ?kC7 ?eC7 ?tC7 ?dC7 ?cC7 ?oC7 ?aC8 ?xC8 ?sC8 ?gC8 ?hC8 ?iC8 ?vC8 ?kC8 ?eC8 ?tC8 ?dC8 ?cC8 ?oC8 ?aC9 ?xC9 ?sC9 ?gC9 ?hC9 ?iC9 ?vC9 ?kC9 ?eC9 ?tC9 ?dC9 ?cC9 ?oC9 ?aC10 ?xC10 ?sC10 ?gC10 ?hC10 ?iC10 ?vC10 ?kC10 ?eC10 ?tC10 ?dC10 ?cC10 ?oC10 ?aC11 ?xC11 ?sC11 ?gC11 ?hC11 ?iC11 ?vC11 ?kC11 ?eC11 ?tC11 ?dC11 ?cC11 ?oC11 ?aC12 ?xC12 ?sC12 ?gC12 ?hC12 ?iC12 ?vC12 ?kC12 ?eC12 ?tC12 ?dC12 ?cC12 ?oC12 ?aC13 ?xC13 ?sC13 ?gC13 ?hC13 ?iC13 ?vC13 ?kC13 ?eC13 ?tC13 ?dC13 ?cC13 ?oC13 ?aC14 ?xC14 ?sC14 ?gC14 ?hC14 ?iC14 ?vC14 ?kC14 ?eC14 ?tC14 ?dC14 ?cC14 ?oC14 ?aC15 ?xC15 ?sC15 ?gC15 ?hC15 ?iC15 ?vC15 ?kC15 ?eC15 ?tC15 ?dC15 ?cC15 ?oC15 ?aC16 ?xC16 ?sC16 ?gC16 ?hC16 ?iC16 ?vC16 ?kC16 ?eC16 ?tC16 ?dC16 ?cC16 ?oC16 ?aC17 ?xC17 ?sC17 ?gC17 ?hC17 ?iC17 ?vC17 ?kC17 ?eC17 ?tC17 ?dC17 ?cC17 ?oC17 ?aC18 ?xC18 ?sC18 ?gC18 ?hC18 ?iC18 ?vC18 ?kC18 ?eC18 ?tC18 ?dC18 ?cC18 ?oC18 ?aC19 ?xC19 ?sC19 ?gC19 ?hC19 ?iC19 ?vC19 ?kC19 ?eC19 ?tC19 ?dC19 ?cC19 ?oC19 ?aC20 ?xC20 ?sC20 ?gC20 ?hC20 ?iC20 ?vC20 ?kC20 ?eC20 ?tC20 ?dC20 ?cC20 ?oC20 ?aC21 ?xC21 ?sC21 ?gC21 ?hC21 ?iC21 ?vC21 ?kC21 ?eC21 ?tC21 ?dC21 ?cC21 ?oC21 ?aC22 ?xC22 ?sC22 ?gC22 ?hC22 ?iC22 ?vC22 ?kC22 ?eC22 ?tC22 ?dC22 ?cC22 ?oC22 ?aC23 ?xC23 ?sC23 ?gC23 ?hC23 ?iC23 ?vC23 ?kC23 ?eC23 ?tC23 ?dC23 ?cC23 ?oC23 ?aC24 ?xC24 ?sC24 ?gC24 ?hC24 ?iC24 ?vC24 ?kC24 ?eC24 ?tC24 ?dC24 ?cC24 ?oC24 ?aC25 ?xC25 ?sC25 ?gC25 ?hC25 ?iC25 ?vC25 ?kC25 ?eC25 ?tC25 ?dC25 ?cC25 ?oC25 ?aC26 ?xC26 ?sC26 ?gC26 ?hC26 ?iC26 ?vC26 ?kC26 ?eC26 ?tC26 ?dC26 ?cC26 ?oC26 ?aC27 ?xC27 ?sC27 ?gC27 ?hC27 ?iC27 ?vC27 ?kC27 ?eC27 ?tC27 ?dC27 ?cC27 ?oC27 ?aC28 ?xC28 ?sC28 ?gC28 ?hC28 ?iC28 ?vC28 ?kC28 ?eC28 ?tC28 ?dC28 ?cC28 ?oC28 ?aC29 ?xC29 ?sC29 ?gC29 ?hC29 ?iC29 ?vC29 ?kC29 ?eC29 ?tC29 ?dC29 ?cC29 ?oC29 ?aC30 ?xC30 ?sC30 ?gC30 ?hC30 ?iC30 ?vC30 ?kC30 ?eC30 ?tC30 ?dC30 ?cC30 ?oC30 ?aC31 ?xC31 ?sC31 ?gC31 ?hC31 ?iC31 ?vC31 ?kC31 ?eC31 ?tC31 ?dC31 ?cC31 ?oC31 ?lI ?cI ?kI ?tI ?spc ?tks ?fa0 ?fl0 ?fc0 ?fk0 ?fa1 ?fl1 ?fc1 ?fk1 ?fa2 ?fl2 ?fc2 ?fk2 ?fa3 ?fl3 ?fc3 ?fk3 ?fa4 ?fl4 ?fc4 ?fk4 ?fa5 ?fl5 ?fc5 ?fk5 ?fa6 ?fl6 ?fc6 ?fk6 ?fa7 ?fl7 ?fc7 ?fk7 ?fa8 ?fl8 ?fc8 ?fk8 ?fa9 ?fl9 ?fc9 ?fk9 ?fa10 ?fl10 ?fc10 ?fk10 ?zint ?zabs ?zlen ?zsum ?zlist ?zrange ?zmax ?zmin ?zrepr ?zenumerate ?zisinstance ?zall ?zve ?nd ?far
    (case aCR => k_is)
    (case xCR => k_is)
    (case sCR => k_is)
    (case gCR => k_is)
    (case hCR => k_is)
    (case iCR => k_is)
    (case vCR => k_is)
    (case kCR => k_is)
    (case eCR => k_is)
    (case tCR => k_is)
    (case dCR => k_is)
    (case cCR => k_is)
    (case oCR => k_is)
    (case aC0 => k_is)
    (case xC0 => k_is)
    (case sC0 => k_is)
    (case gC0 => k_is)
    (case hC0 => k_is)
    (case iC0 => k_is)
    (case vC0 => k_is)
    (case kC0 => k_is)
    (case eC0 => k_is)
    (case tC0 => k_is)
    (case dC0 => k_is)
    (case cC0 => k_is)
    (case oC0 => k_is)
    (case aC1 => k_is)
    (case xC1 => k_is)
    (case sC1 => k_is)
    (case gC1 => k_is)
    (case hC1 => k_is)
    (case iC1 => k_is)
    (case vC1 => k_is)
    (case kC1 => k_is)
    (case eC1 => k_is)
    (case tC1 => k_is)
    (case dC1 => k_is)
    (case cC1 => k_is)
    (case oC1 => k_is)
    (case aC2 => k_is)
    (case xC2 => k_is)
    (case sC2 => k_is)
    (case gC2 => k_is)
    (case hC2 => k_is)
    (case iC2 => k_is)
    (case vC2 => k_is)
    (case kC2 => k_is)
    (case eC2 => k_is)
    (case tC2 => k_is)
    (case dC2 => k_is)
    (case cC2 => k_is)
    (case oC2 => k_is)
    (case aC3 => k_is)
    (case xC3 => k_is)
    (case sC3 => k_is)
    (case gC3 => k_is)
    (case hC3 => k_is)
    (case iC3 => k_is)
    (case vC3 => k_is)
    (case kC3 => k_is)
    (case eC3 => k_is)
    (case tC3 => k_is)
    (case dC3 => k_is)
    (case cC3 => k_is)
    (case oC3 => k_is)
    (case aC4 => k_is)
    (case xC4 => k_is)
    (case sC4 => k_is)
    (case gC4 => k_is)
    (case hC4 => k_is)
    (case iC4 => k_is)
    (case vC4 => k_is)
    (case kC4 => k_is)
    (case eC4 => k_is)
    (case tC4 => k_is)
    (case dC4 => k_is)
    (case cC4 => k_is)
    (case oC4 => k_is)
    (case aC5 => k_is)
    (case xC5 => k_is)
    (case sC5 => k_is)
    (case gC5 => k_is)
    (case hC5 => k_is)
    (case iC5 => k_is)
    (case vC5 => k_is)
    (case kC5 => k_is)
    (case eC5 => k_is)
    (case tC5 => k_is)
    (case dC5 => k_is)
    (case cC5 => k_is)
    (case oC5 => k_is)
    (case aC6 => k_is)
    (case xC6 => k_is)
    (case sC6 => k_is)
    (case gC6 => k_is)
    (case hC6 => k_is)
    (case iC6 => k_is)
    (case vC6 => k_is)
    (case kC6 => k_is)
    (case eC6 => k_is)
    (case tC6 => k_is)
    (case dC6 => k_is)
    (case cC6 => k_is)
    (case oC6 => k_is)
    (case aC7 => k_is)
    (case xC7 => k_is)
    (case sC7 => k_is)
    (case gC7 => k_is)
    (case hC7 => k_is)
    (case iC7 => k_is)
    (case vC7 => k_is)
    (case kC7 => k_is)
    (case eC7 => k_is)
    (case tC7 => k_is)
    (case dC7 => k_is)
    (case cC7 => k_is)
    (case oC7 => k_is)
    (case aC8 => k_is)
    (case xC8 => k_is)
    (case sC8 => k_is)
    (case gC8 => k_is)
    (case hC8 => k_is)
    (case iC8 => k_is)
    (case vC8 => k_is)
    (case kC8 => k_is)
    (case eC8 => k_is)
    (case tC8 => k_is)
    (case dC8 => k_is)
    (case cC8 => k_is)
    (case oC8 => k_is)
    (case aC9 => k_is)
    (case xC9 => k_is)
    (case sC9 => k_is)
    (case gC9 => k_is)
    (case hC9 => k_is)
    (case iC9 => k_is)
    (case vC9 => k_is)
    (case kC9 => k_is)
    (case eC9 => k_is)
    (case tC9 => k_is)
    (case dC9 => k_is)
    (case cC9 => k_is)
    (case oC9 => k_is)
    (case aC10 => k_is)
    (case xC10 => k_is)
    (case sC10 => k_is)
    (case gC10 => k_is)
    (case hC10 => k_is)
    (case iC10 => k_is)
    (case vC10 => k_is)
    (case kC10 => k_is)
    (case eC10 => k_is)
    (case tC10 => k_is)
    (case dC10 => k_is)
    (case cC10 => k_is)
    (case oC10 => k_is)
    (case aC11 => k_is)
    (case xC11 => k_is)
    (case sC11 => k_is)
    (case gC11 => k_is)
    (case hC11 => k_is)
    (case iC11 => k_is)
    (case vC11 => k_is)
    (case kC11 => k_is)
    (case eC11 => k_is)
    (case tC11 => k_is)
    (case dC11 => k_is)
    (case cC11 => k_is)
    (case oC11 => k_is)
    (case aC12 => k_is)
    (case xC12 => k_is)
    (case sC12 => k_is)
    (case gC12 => k_is)
    (case hC12 => k_is)
    (case iC12 => k_is)
    (case vC12 => k_is)
    (case kC12 => k_is)
    (case eC12 => k_is)
    (case tC12 => k_is)
    (case dC12 => k_is)
    (case cC12 => k_is)
    (case oC12 => k_is)
    (case aC13 => k_is)
    (case xC13 => k_is)
    (case sC13 => k_is)
    (case gC13 => k_is)
    (case hC13 => k_is)
    (case iC13 => k_is)
    (case vC13 => k_is)
    (case kC13 => k_is)
    (case eC13 => k_is)
    (case tC13 => k_is)
    (case dC13 => k_is)
    (case cC13 => k_is)
    (case oC13 => k_is)
    (case aC14 => k_is)
    (case xC14 => k_is)
    (case sC14 => k_is)
    (case gC14 => k_is)
    (case hC14 => k_is)
    (case iC14 => k_is)
    (case vC14 => k_is)
    (case kC14 => k_is)
    (case eC14 => k_is)
    (case tC14 => k_is)
    (case dC14 => k_is)
    (case cC14 => k_is)
    (case oC14 => k_is)
    (case aC15 => k_is)
    (case xC15 => k_is)
    (case sC15 => k_is)
    (case gC15 => k_is)
    (case hC15 => k_is)
    (case iC15 => k_is)
    (case vC15 => k_is)
    (case kC15 => k_is)
    (case eC15 => k_is)
    (case tC15 => k_is)
    (case dC15 => k_is)
    (case cC15 => k_is)
    (case oC15 => k_is)
    (case aC16 => k_is)
    (case xC16 => k_is)
    (case sC16 => k_is)
    (case gC16 => k_is)
    (case hC16 => k_is)
    (case iC16 => k_is)
    (case vC16 => k_is)
    (case kC16 => k_is)
    (case eC16 => k_is)
    (case tC16 => k_is)
    (case dC16 => k_is)
    (case cC16 => k_is)
    (case oC16 => k_is)
    (case aC17 => k_is)
    (case xC17 => k_is)
    (case sC17 => k_is)
    (case gC17 => k_is)
    (case hC17 => k_is)
    (case iC17 => k_is)
    (case vC17 => k_is)
    (case kC17 => k_is)
    (case eC17 => k_is)
    (case tC17 => k_is)
    (case dC17 => k_is)
    (case cC17 => k_is)
    (case oC17 => k_is)
    (case aC18 => k_is)
    (case xC18 => k_is)
    (case sC18 => k_is)
    (case gC18 => k_is)
    (case hC18 => k_is)
    (case iC18 => k_is)
    (case vC18 => k_is)
    (case kC18 => k_is)
    (case eC18 => k_is)
    (case tC18 => k_is)
    (case dC18 => k_is)
    (case cC18 => k_is)
    (case oC18 => k_is)
    (case aC19 => k_is)
    (case xC19 => k_is)
    (case sC19 => k_is)
    (case gC19 => k_is)
    (case hC19 => k_is)
    (case iC19 => k_is)
    (case vC19 => k_is)
    (case kC19 => k_is)
    (case eC19 => k_is)
    (case tC19 => k_is)
    (case dC19 => k_is)
    (case cC19 => k_is)
    (case oC19 => k_is)
    (case aC20 => k_is)
    (case xC20 => k_is)
    (case sC20 => k_is)
    (case gC20 => k_is)
    (case hC20 => k_is)
    (case iC20 => k_is)
    (case vC20 => k_is)
    (case kC20 => k_is)
    (case eC20 => k_is)
    (case tC20 => k_is)
    (case dC20 => k_is)
    (case cC20 => k_is)
    (case oC20 => k_is)
    (case aC21 => k_is)
    (case xC21 => k_is)
    (case sC21 => k_is)
    (case gC21 => k_is)
    (case hC21 => k_is)
    (case iC21 => k_is)
    (case vC21 => k_is)
    (case kC21 => k_is)
    (case eC21 => k_is)
    (case tC21 => k_is)
    (case dC21 => k_is)
    (case cC21 => k_is)
    (case oC21 => k_is)
    (case aC22 => k_is)
    (case xC22 => k_is)
    (case sC22 => k_is)
    (case gC22 => k_is)
    (case hC22 => k_is)
    (case iC22 => k_is)
    (case vC22 => k_is)
    (case kC22 => k_is)
    (case eC22 => k_is)
    (case tC22 => k_is)
    (case dC22 => k_is)
    (case cC22 => k_is)
    (case oC22 => k_is)
    (case aC23 => k_is)
    (case xC23 => k_is)
    (case sC23 => k_is)
    (case gC23 => k_is)
    (case hC23 => k_is)
    (case iC23 => k_is)
    (case vC23 => k_is)
    (case kC23 => k_is)
    (case eC23 => k_is)
    (case tC23 => k_is)
    (case dC23 => k_is)
    (case cC23 => k_is)
    (case oC23 => k_is)
    (case aC24 => k_is)
    (case xC24 => k_is)
    (case sC24 => k_is)
    (case gC24 => k_is)
    (case hC24 => k_is)
    (case iC24 => k_is)
    (case vC24 => k_is)
    (case kC24 => k_is)
    (case eC24 => k_is)
    (case tC24 => k_is)
    (case dC24 => k_is)
    (case cC24 => k_is)
    (case oC24 => k_is)
    (case aC25 => k_is)
    (case xC25 => k_is)
    (case sC25 => k_is)
    (case gC25 => k_is)
    (case hC25 => k_is)
    (case iC25 => k_is)
    (case vC25 => k_is)
    (case kC25 => k_is)
    (case eC25 => k_is)
    (case tC25 => k_is)
    (case dC25 => k_is)
    (case cC25 => k_is)
    (case oC25 => k_is)
    (case aC26 => k_is)
    (case xC26 => k_is)
    (case sC26 => k_is)
    (case gC26 => k_is)
    (case hC26 => k_is)
    (case iC26 => k_is)
    (case vC26 => k_is)
    (case kC26 => k_is)
    (case eC26 => k_is)
    (case tC26 => k_is)
    (case dC26 => k_is)
    (case cC26 => k_is)
    (case oC26 => k_is)
    (case aC27 => k_is)
    (case xC27 => k_is)
    (case sC27 => k_is)
    (case gC27 => k_is)
    (case hC27 => k_is)
    (case iC27 => k_is)
    (case vC27 => k_is)
    (case kC27 => k_is)
    (case eC27 => k_is)
    (case tC27 => k_is)
    (case dC27 => k_is)
    (case cC27 => k_is)
    (case oC27 => k_is)
    (case aC28 => k_is)
    (case xC28 => k_is)
    (case sC28 => k_is)
    (case gC28 => k_is)
    (case hC28 => k_is)
    (case iC28 => k_is)
    (case vC28 => k_is)
    (case kC28 => k_is)
    (case eC28 => k_is)
    (case tC28 => k_is)
    (case dC28 => k_is)
    (case cC28 => k_is)
    (case oC28 => k_is)
    (case aC29 => k_is)
    (case xC29 => k_is)
    (case sC29 => k_is)
    (case gC29 => k_is)
    (case hC29 => k_is)
    (case iC29 => k_is)
    (case vC29 => k_is)
    (case kC29 => k_is)
    (case eC29 => k_is)
    (case tC29 => k_is)
    (case dC29 => k_is)
    (case cC29 => k_is)
    (case oC29 => k_is)
    (case aC30 => k_is)
    (case xC30 => k_is)
    (case sC30 => k_is)
    (case gC30 => k_is)
    (case hC30 => k_is)
    (case iC30 => k_is)
    (case vC30 => k_is)
    (case kC30 => k_is)
    (case eC30 => k_is)
    (case tC30 => k_is)
    (case dC30 => k_is)
    (case cC30 => k_is)
    (case oC30 => k_is)
    (case aC31 => k_is)
    (case xC31 => k_is)
    (case sC31 => k_is)
    (case gC31 => k_is)
    (case hC31 => k_is)
    (case iC31 => k_is)
    (case vC31 => k_is)
    (case kC31 => k_is)
    (case eC31 => k_is)
    (case tC31 => k_is)
    (case dC31 => k_is)
    (case cC31 => k_is)
    (case oC31 => k_is)
    (case lI => k_is)
    (case cI => k_is)
    (case kI => k_is)
    (case tI => k_is)
    (case spc => k_is)
    (case tks => k_is)
    (case fa0 => k_is)
    (case fl0 => k_is)
    (case fc0 => k_is)
    (case fk0 => k_is)
    (case fa1 => k_is)
    (case fl1 => k_is)
    (case fc1 => k_is)
    (case fk1 => k_is)
    (case fa2 => k_is)
    (case fl2 => k_is)
    (case fc2 => k_is)
    (case fk2 => k_is)
    (case fa3 => k_is)
    (case fl3 => k_is)
    (case fc3 => k_is)
    (case fk3 => k_is)
    (case fa4 => k_is)
    (case fl4 => k_is)
    (case fc4 => k_is)
    (case fk4 => k_is)
    (case fa5 => k_is)
    (case fl5 => k_is)
    (case fc5 => k_is)
    (case fk5 => k_is)
    (case fa6 => k_is)
    (case fl6 => k_is)
    (case fc6 => k_is)
    (case fk6 => k_is)
    (case fa7 => k_is)
    (case fl7 => k_is)
    (case fc7 => k_is)
    (case fk7 => k_is)
    (case fa8 => k_is)
    (case fl8 => k_is)
    (case fc8 => k_is)
    (case fk8 => k_is)
    (case fa9 => k_is)
    (case fl9 => k_is)
    (case fc9 => k_is)
    (case fk9 => k_is)
    (case fa10 => k_is)
    (case fl10 => k_is)
    (case fc10 => k_is)
    (case fk10 => k_is)
    (case zint => k_is)
    (case zabs => k_is)
    (case zlen => k_is)
    (case zsum => k_is)
    (case zlist => k_is)
    (case zrange => k_is)
    (case zmax => k_is)
    (case zmin => k_is)
    (case zrepr => k_is)
    (case zenumerate => k_is)
    (case zisinstance => k_is)
    (case zall => k_is)
    (case zve => k_is)
    (case nd => decide +kernel)
    (case far => decide +kernel)
#print axioms PySem.Challenge.cw_contraryrolls_k89_errors_keep_any_value_holds

