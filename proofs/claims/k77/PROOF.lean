import PyProof.Rows.All
import Wide.All
import OpenK.AllK
import Wide.FinOn
import HandS.ForMost
import HandS.Wide
import HandS.Sort
import HandS.Codes
import HandS.Conv
import HandS.ExcInit
import HandS.ExcIs
import HandS.ExcField
import HandS.ExcValue
import HandS.IsInst
import HandS.DictComp
import PyProof.Rows.CountFlat
import HandS.Zip
import HandS.TupAny
import HandS.StrMore
import HandS.Star
import HandS.SortInts
import HandS.More
import KE.IntTextLaws
import KE.KDictOf
import HandS.SlotsOwn
import KE.GoesMore
import HandS.MakeKwOnly
import KE.KIntText
import HandS.NamedTupGet
import HandS.Iter
import HandS.Style
import HandS.Small
import HandS.Strs
import PyProof.ReprLen
import HandS.WordsExc
import HandS.TryMany
import PySem.Challenge.RW_contraryrolls_k77_pile_readers_and_lines
section
set_option Elab.async false
set_option linter.all false
set_option maxRecDepth 100000
set_option autoImplicit false
/-! What all laws of this set share: the draws. -/
namespace Vb
open PySem L2 PySem.Spec PyProof.Rows

/-! ### heaps: all that was tracked is as it was, but at p -/
def SameBut (p : Addr) (H H' : Hp) : Prop := ∀ b o, b ≠ p → H b = some o → H' b = some o
theorem SameBut.refl (p : Addr) (H : Hp) : SameBut p H H := fun _ _ _ h => h
theorem SameBut.trans {p : Addr} {H H1 H2 : Hp} (a : SameBut p H H1) (b : SameBut p H1 H2) : SameBut p H H2 := fun c o n h => b c o n (a c o n h)
theorem Same.but {p : Addr} {H H' : Hp} (e : Same H H') : SameBut p H H' := fun b o _ h => e b o h
theorem SameBut.upd (p : Addr) (H : Hp) (o : HO) : SameBut p H (upd H p o) := fun b u n h => by rw [upd_ne n]; exact h
theorem Same.new {H : Hp} {p : Addr} {o : HO} (h : H p = none) : Same H (upd H p o) := fun b u e => by rw [upd_ne (ne_of_none e h)]; exact e
theorem SameBut.new {q : Addr} {H : Hp} {p : Addr} {o : HO} (h : H p = none) : SameBut q H (L2.upd H p o) := Same.but (Same.new h)
theorem SameBut.seqL {K : PySem.W.Frag} {p a : Addr} {H H' : Hp} {xs : List V} (e : SameBut p H H') (n : a ≠ p) (h : SqL K H a xs) : SqL K H' a xs := by
  rcases h with (h | ⟨o, h⟩) | h
  · exact .inl (.inl (e _ _ n h))
  · exact .inl (.inr ⟨o, e _ _ n h⟩)
  · exact .inr h
/-- two addresses hold unlike things -/
theorem ne_at {H : Hp} {a b : Addr} {o u : HO} (h : H a = some o) (h' : H b = some u) (d : o ≠ u) : a ≠ b := ne_of h h' d

/-! ### powers of great numbers -/
def CPowW (i j : Int) : Prop := 0 ≤ j ∧ (Builtin.Int.intBits i : Int) * j ≤ 2 ^ 27
theorem op_powW {X : Cx} : OpR X (binaryOp .Pow) (rI CPowW fun i j => .int (i ^ j.toNat)) := opI fun _ _ _ _ _ _ _ hc q => pow_int hc.1 hc.2 q

/-! ### the pot: three ints -/
def potL (a b c : Int) : HO := .lst [.int a, .int b, .int c]
/-- at p stands a pot that can still be asked m times -/
def PotAt (H : Hp) (p : Addr) (m : Nat) : Prop := ∃ a b c : Int, H p = some (potL a b c) ∧ 0 ≤ a ∧ 0 ≤ b ∧ b < 2305843009213693952 ∧ 0 ≤ c ∧ c + (m : Int) ≤ 10000000
theorem PotAt.le {H : Hp} {p : Addr} {m n : Nat} (h : PotAt H p m) (l : n ≤ m) : PotAt H p n := by
  obtain ⟨a, b, c, e, h1, h2, h3, h4, h5⟩ := h
  exact ⟨a, b, c, e, h1, h2, h3, h4, by omega⟩
theorem PotAt.same {H H' : Hp} {p : Addr} {m : Nat} (h : PotAt H p m) (e : Same H H') : PotAt H' p m := by
  obtain ⟨a, b, c, q, r⟩ := h
  exact ⟨a, b, c, e _ _ q, r⟩
/-- an upto drawn: d below it, the pot a draw poorer -/
def Drew (H H' : Hp) (p : Addr) (m : Nat) : Prop := SameBut p H H' ∧ PotAt H' p m
theorem PotAt.drew {H : Hp} {p : Addr} {m : Nat} (h : PotAt H p m) : Drew H H p m := ⟨.refl _ _, h⟩
theorem Drew.trans {H H1 H2 : Hp} {p : Addr} {m n : Nat} (a : Drew H H1 p m) (b : Drew H1 H2 p n) : Drew H H2 p n := ⟨a.1.trans b.1, b.2⟩
theorem Drew.same {H H1 H2 : Hp} {p : Addr} {m : Nat} (a : Drew H H1 p m) (b : Same H1 H2) : Drew H H2 p m := ⟨a.1.trans (Same.but b), a.2.same b⟩
theorem Drew.le {H H1 : Hp} {p : Addr} {m n : Nat} (a : Drew H H1 p m) (l : n ≤ m) : Drew H H1 p n := ⟨a.1, a.2.le l⟩

/-! ### promises -/
def spTake : Sp := fun vs H Q _ => ∃ (p : Addr) (u : Int) (m : Nat), vs = [.ref p, .int u] ∧ PotAt H p (m + 1) ∧ 0 < u ∧ u < 1073741824 ∧
  ∀ (d : Int) (H' : Hp), 0 ≤ d → d < u → Drew H H' p m → Q (.int d) H'
def spPot (K : PySem.W.Frag) : Sp := fun vs H Q _ => ∃ (a : Addr) (ns : List Int) (j : Int), vs = [.ref a, .int j] ∧ SqL K H a (ns.map V.int) ∧ ns.length ≤ 63 ∧ 0 ≤ j ∧ j < 60 ∧
  ∀ (p : Addr) (H' : Hp), H p = none → Same H H' → PotAt H' p 9999999 → Q (.ref p) H'
def spOf (K : PySem.W.Frag) : Sp := fun vs H Q _ => ∃ (p l : Addr) (xs : List V) (m : Nat), vs = [.ref p, .ref l] ∧ PotAt H p (m + 1) ∧ SqL K H l xs ∧ l ≠ p ∧ 0 < xs.length ∧ xs.length < 1073741824 ∧
  ∀ (i : Nat) (v : V) (H' : Hp), xs[i]? = some v → Drew H H' p m → Q v H'
def spCells (K : PySem.W.Frag) (most : Int) : Sp := fun vs H Q _ => ∃ (a : Addr) (ns : List Int), vs = [.ref a, .int most] ∧ SqL K H a (ns.map V.int) ∧ ns.length ≤ 63 ∧
  ∀ (n : Nat) (l : Addr), 0 < n → (n : Int) ≤ most → H l = none → Q (.ref l) (upd H l (.lst ((List.range n).map fun k => V.int (k : Nat))))
theorem prime_at {i : Int} (h0 : 0 ≤ i) (h1 : i < 5) : ∃ v : Int, atI ([.int 2147483647, .int 2147483629, .int 2147483587, .int 2147483579, .int 2147483563] : List V) i = some (.int v) ∧ 2147483500 < v ∧ v < 2147483648 := by
  have e : i = ((i.toNat : Nat) : Int) := by omega
  rcases (show i.toNat = 0 ∨ i.toNat = 1 ∨ i.toNat = 2 ∨ i.toNat = 3 ∨ i.toNat = 4 by omega) with h | h | h | h | h <;> rw [h] at e <;> subst e
  · exact ⟨_, atI_nat rfl, by decide, by decide⟩
  · exact ⟨_, atI_nat rfl, by decide, by decide⟩
  · exact ⟨_, atI_nat rfl, by decide, by decide⟩
  · exact ⟨_, atI_nat rfl, by decide, by decide⟩
  · exact ⟨_, atI_nat rfl, by decide, by decide⟩
end Vb
namespace Vb
open PySem L2 PySem.Spec PyProof.Rows
theorem at0 {a : V} {r : List V} : atI (a :: r) 0 = some a := atI_nat (j := 0) rfl
theorem at1 {a b : V} {r : List V} : atI (a :: b :: r) 1 = some b := atI_nat (j := 1) rfl
theorem at2 {a b c : V} {r : List V} : atI (a :: b :: c :: r) 2 = some c := atI_nat (j := 2) rfl
theorem mulOk {i j : Int} (h1 : -(2 ^ 64) < i) (h2 : i < 2 ^ 64) : CMul i j := .inl ⟨h1, h2⟩
/-- the pot behind a draw -/
theorem drew_of {H H' : Hp} {p : Addr} {m : Nat} {a b c : Int} (s : SameBut p H H') (e : H' p = some (potL a b c)) (h1 : 0 ≤ a) (h2 : 0 ≤ b) (h3 : b < 2305843009213693952) (h4 : 0 ≤ c) (h5 : c + (m : Int) ≤ 10000000) : Drew H H' p m := ⟨s, a, b, c, e, h1, h2, h3, h4, h5⟩
theorem powOk {i : Int} (h0 : 0 ≤ i) (h : i < 2 ^ 64) : CPowW i 3 := ⟨by decide, by
  have := intBits_le_64 (k := i) (by omega) h
  have e : (2 : Int) ^ 27 = 134217728 := by decide
  rw [e]
  omega⟩
end Vb
namespace Vb
open PySem L2 PySem.Spec PyProof.Rows
section
variable {P : Program} {w : World} {K : PySem.W.Frag} {mg : Str → Option Value} {base : Heap}
/-- a def that may be called by its name, all its parameters given by position -/
structure Cal (P : Program) (w : World) (K : PySem.W.Frag) (mg : Str → Option Value) (base : Heap) (k : Nat) (x : Str) (sp : Sp) : Prop where
  ex : ∃ (f : Addr) (fd : FuncData) (ps : List Str), FnOk P w K mg base CX0 k f fd ps sp ∧ mg x = some (.ref f) ∧ PySem.W.keepIn K (.ref f) = true ∧ Binds K fd ps []
/-- the def st stands under the name x -/
structure Df (K : PySem.W.Frag) (mg : Str → Option Value) (x : Str) (st : Stmt) : Prop where
  ex : ∃ (f : Addr) (fd : FuncData), Fun K x x st f fd ∧ mg x = some (.ref f)
theorem Df.cal {x : Str} {st : Stmt} {k : Nat} {sp : Sp} (ps : List Str) (D : Df K mg x st) (ok : ∀ f fd, Fun K x x st f fd → FnOk P w K mg base CX0 k f fd ps sp)
    (b : ∀ (kV doc pm : Value) (an : Option Addr) (cdv ct : Value) (us : List Value), us.length = ps.length → bindArgs (PySem.W.fnOf x x (defArgs st) (defBody st) (defScope st) .none kV doc pm an cdv ct) ⟨us, []⟩ = pure (ps.zip us)) : Cal P w K mg base k x sp := by
  obtain ⟨f, fd, F, m⟩ := D.ex
  exact ⟨f, fd, ps, ok f fd F, m, F.kp, F.binds b⟩
theorem own_bound {x M : Int} {c : Bool} (hM : 0 < M) : 0 ≤ x % M * (if c = true then 1 else 0) := by
  have h := Int.emod_nonneg x (show M ≠ 0 by omega)
  cases c
  · simp
  · simpa using h
end
section
variable {X : Cx} {x : Str} {e : Expr} {es : List Expr} {p pos : Pos} {k j : Nat} {sp : Sp} {t : TA}
def tCal (sp : Sp) (t : TA) : TE := fun σ H Q => t σ H fun vs H1 => sp vs H1 Q E0
theorem pe_c (c : Cal X.prog X.w X.K X.mg X.base k x sp) (hr : Room j X.A) (hk : k ≤ j) (hg : Gl X x) (ha : PA X (e :: es) t)
    (hdb : (x == ("__debug__" : Str)) = false := by decide) (he : starEach (e :: es) X.env = (false, eval e X.env) :: starEach es X.env := by rfl) (hpl : (backTo pos (starEach es X.env)).any (·.1) = false := by rfl) :
    PE X (.Call (.Name x p) (e :: es) [] pos) (tCal sp t) := by
  obtain ⟨f, fd, ps, F, hm, kp, b⟩ := c.ex
  have h := pe_call (p := p) (dvs := []) F (hr.mono hk) hg hm kp b .nil pass0 ha hdb he hpl
  refine ⟨fun pins s σ H Q I z => h.run pins s σ H Q I ?_⟩
  unfold tCal at z
  show t σ H fun vs H1 => sp (vs ++ []) H1 Q E0
  simpa only [List.append_nil] using z
end
end Vb
namespace Vb
open PySem L2 PySem.Spec PyProof.Rows
theorem mulBit {x : Int} {c : Bool} : CMul x (if c = true then 1 else 0) := .inr (by cases c <;> decide)
theorem cut_to (xs : List V) (n : Nat) : cutV xs Option.none (some (n : Int)) = xs.take n := by
  unfold cutV
  rw [HT.sIx_none, HT.sIx_nat, List.drop_zero, Nat.sub_zero, List.take_eq_take_iff]
  omega
theorem cut_from (xs : List V) (n : Nat) : cutV xs (some (n : Int)) Option.none = xs.drop n := by
  unfold cutV
  rw [HT.sIx_none, HT.sIx_nat]
  by_cases h : n ≤ xs.length
  · rw [Nat.min_eq_left h]
    exact List.take_of_length_le (by rw [List.length_drop]; omega)
  · rw [Nat.min_eq_right (by omega), Nat.sub_self, List.take_zero, List.drop_eq_nil_of_le (by omega)]
end Vb
end
section
set_option Elab.async false
set_option linter.all false
set_option maxRecDepth 100000
set_option autoImplicit false
set_option maxHeartbeats 1000000
/-! Exceptions of own classes as values: made, asked for a field, asked by isinstance. -/
namespace Vb
open PySem L2 PySem.Spec PyProof.Rows
section
variable {X : Cx} {e : Expr} {es : List Expr} {ta : TA} {p pos : Pos}
/-- C(e, ..) as a value, C's __init__ keeping sp -/
def tOexV (C : Addr) (sp : Sp) (ta : TA) : TE := fun σ H Q => ta σ H fun vs H1 => vs.length ≤ 1000 ∧ ∀ a, H1 a = none → sp (.ref a :: vs) (upd H1 a (exo a C none)) (fun v H2 => v = .non ∧ Q (.ref a) H2) (fun _ _ _ => False)
theorem pe_oexV {CX : CXT} {x : Str} {C fI : Addr} {k : Nat} {fd : FuncData} {ps : List Str} {sp : Sp} (T : OexC X.K C) (iC : PySem.W.findIn X.K (.ref C) "__init__" = some (some (.ref fI))) (tI : PySem.W.typeIn X.K (.ref fI) = some (.type "function"))
    (F1 : FnOk X.prog X.w X.K X.mg X.base CX k fI fd ps sp) (hr : Room (k + 1) X.A) (hb : Binds X.K fd ps []) (hx : Passes CX X (fun _ _ _ => False)) (hg : Gl X x) (hm : X.mg x = some (.ref C)) (ha : PA X (e :: es) ta)
    (hdb : (x == ("__debug__" : Str)) = false := by decide) (he : starEach (e :: es) X.env = (false, eval e X.env) :: starEach es X.env := by rfl) (hpl : (backTo pos (starEach es X.env)).any (·.1) = false := by rfl) :
    PE X (.Call (.Name x p) (e :: es) [] pos) (tOexV C sp ta) := by
  refine ⟨fun pins s σ H Q I h => ?_⟩
  obtain ⟨nm, q, N, bs, bm, sn, sub, ab, col, dd, k0, k1, k2, k3, k5, hC, hbm⟩ := T.cls
  refine wpAny_Call_Name_kw (ld_glob I hg hm ?_ hdb)
  refine PySem.W.callWith_K (h₀ := X.base) I.ok.mod.kin T.kC (thn (ha.run pos pins s σ H _ I h) fun us s1 ⟨vs, H1, I1, r1, hz, q1⟩ => ⟨I1.kIn, ?_⟩) he hpl
  show wpAny _ _ (call (.ref C) us) _ _ _
  obtain ⟨hp, g, dr, tk, os⟩ := s1
  have hsz : hp.objs.size ≤ hp.objs.size + 1 := Nat.le_succ _
  have hn : H1 (hp.objs.size + 1) = none := I1.hok.fresh hsz
  have hq := q1 (hp.objs.size + 1) hn
  have kk : ∀ b o, hp.get? b = some o → ((hp.push (PySem.W.kdv_tup us)).push (PySem.HandSPX.excO C hp.objs.size)).get? b = some o := fun b o e => Heap.get?_push_of_some _ (Heap.get?_push_of_some _ e)
  have hget : ((hp.push (PySem.W.kdv_tup us)).push (PySem.HandSPX.excO C hp.objs.size)).get? (hp.objs.size + 1) = some (PySem.HandSPX.excO C hp.objs.size) := by heap_get
  have I2 : Inv X pins σ (upd H1 (hp.objs.size + 1) (exo (hp.objs.size + 1) C none)) ⟨(hp.push (PySem.W.kdv_tup us)).push (PySem.HandSPX.excO C hp.objs.size), g, dr, tk, os⟩ :=
    I1.laid (t' := tk) (a := hp.objs.size + 1) (o := exo (hp.objs.size + 1) C none) (h' := (hp.push (PySem.W.kdv_tup us)).push (PySem.HandSPX.excO C hp.objs.size)) kk hsz (exo_ok hget)
  have r2 : Vals (V.ref (hp.objs.size + 1) :: vs) (Value.ref (hp.objs.size + 1) :: us) := .cons rfl r1
  have hl : (Value.ref (hp.objs.size + 1) :: us).length = ps.length := by
    have e := r2.length
    rw [F1.len _ _ _ _ hq] at e
    exact e.symm
  have hus : us.length ≤ sizeLine := by
    rw [← Paired.length r1, sizeLine_eq]
    omega
  have hb' := hb _ (Value.ref (hp.objs.size + 1) :: us) I2.kIn (by simpa using hl)
  rw [List.append_nil] at hb'
  refine wpAny_call (PySem.HandSPX.call_own F.excBase_ValueError (fun Y => PySem.HandSPX.refsVE_contains Y bm hbm) (I1.kIn _ _ hC) (PySem.W.looks_findIn I1.kIn iC) (fun self => PySem.W.bind_fn I1.kIn self tI) hus
    (codeAny_mono (F1.run _ X.stack _ _ ⟨Value.ref (hp.objs.size + 1) :: us, []⟩ (Value.ref (hp.objs.size + 1) :: us) _ _ (fun _ _ _ => False) (hr.make C us []) (I2.env0.make C us []) hb' r2 hq) fun r s' hq' => ?_))
  cases r with
  | error er => exact hx pins σ _ _ er s' I2 hq'
  | ok fl =>
    cases fl with
    | ret u =>
      obtain ⟨v, H2, os2, bare2, un2, hok2, rv, ev, q2⟩ := hq'
      subst ev
      obtain ⟨h2, g2, d2, t2, os'⟩ := s'
      have U : Un (frs X.stack) [] H1 H2 hp h2 := (Un.laid kk hsz hn).trans un2
      exact ⟨rv, .ref (hp.objs.size + 1), H2, I1.call' (ch := []) os2 U hok2 bare2 (fun b z => absurd z (by simp)), rfl, q2⟩
    | next => exact False.elim hq'
    | brk => exact False.elim hq'
    | cont => exact False.elim hq'
/-- the exception at a, made of the class at C: its dict holds these -/
def ExAt (H : Hp) (a C : Addr) (fs : List (Str × V)) : Prop := ∃ d, H a = some (exo a C (some d)) ∧ H d = some (exd d fs)
theorem ExAt.same {H H' : Hp} {a C : Addr} {fs : List (Str × V)} (h : ExAt H a C fs) (s : Same H H') : ExAt H' a C fs := by
  obtain ⟨d, h1, h2⟩ := h
  exact ⟨d, s _ _ h1, s _ _ h2⟩
end
/-! ### what an exception with its dict is asked -/
section
open PySem.W PySem.Calls
variable {prog : Program} {w : World} {A : Around} {E : Value → Shared → Prop} {s : Shared} {K : Frag} {x D : Addr} {ox od : Obj}
/-- a data descriptor of the class goes ahead of whatever the instance's dict holds -/
theorem findObj_dat {C : Addr} {name : Str} {a g : Value} {od : Option Obj} (hc : (clsIn K C).isSome = true) (ha : findIn K (.ref C) name = some (some a)) (hg : specialIn K a "__get__" = some (some g)) (ht : takesIn K a = some true) : findObj K C od name = some (.bind g a) := by
  cases e : clsIn K C with
  | none => rw [e] at hc; cases hc
  | some cd =>
    unfold findObj
    simp only [e, ha, hg, ht, Option.bind_some]
/-- x.__class__ of an exception that has a dict -/
theorem classOfEx (C : L2.ExcC K D) {Q : Option Value → Shared → Prop} (X : K.In s.heap) (I : InstAt s.heap x ox D (some od)) (h : Q (some (.ref D)) { s with toks := s.toks + 1 }) : wpAny (model prog w) A (getAttr? (.ref x) "__class__") Q E s := by
  have there : (clsIn K D).isSome = true := by
    obtain ⟨cd, e, _⟩ := any_some C.hd
    rw [e]
    rfl
  have found := findObj_dat (od := some od) there C.ha C.hn C.ht
  obtain ⟨hp, g, d, t, os⟩ := s
  have own := I.type (M := model prog w)
  have finds := looks_find (M := model prog w) X I found
  have isE : Looks (model prog w) hp (isInstance (.ref x) (.type "BaseException")) true := own.andThen (looks_subIn X C.hs)
  have other : (Value.builtin "BaseException.__getattribute__" == Value.builtin "object.__getattribute__") = false := by decide +kernel
  have off : (onTheHeap (Value.ref D) && Value.builtin "BaseException.__getattribute__" == Value.builtin "object.__getattribute__") = false := by
    rw [other]
    rfl
  unfold getAttr? getAttrBy? getAttrBy
  refine wpAny_bind (wpAny_mkText (wpAny_bind (wpAny_attempt (wpAny_holding (wpAny_bind (own.at (wpAny_bind ((looks_findIn (M := model prog w) X C.hg).at ?_))))))))
  show wpAny _ _ (if (onTheHeap (Value.ref D) && Value.builtin "BaseException.__getattribute__" == Value.builtin "object.__getattribute__") = true then _ else _) _ _ _
  rw [off, if_neg Bool.false_ne_true]
  unfold getAttrByItsOwn hookBefore
  refine wpAny_bind ?_
  rw [if_pos (show onTheHeap (Value.ref D) = true from rfl)]
  refine (looks_findIn (M := model prog w) X C.hk).at (wpAny_bind (wpAny_attempt (wpAny_holding ?_)))
  unfold callGetattribute
  rw [if_neg (by decide)]
  unfold boundAndCalled
  rw [PySem.F.excAttr_ValueError.ga.bind (.ref x)]
  refine wpAny_bind (wpAny_pure ?_)
  show wpAny _ _ (call (.builtin "BaseException.__getattribute__") [.ref x, .str "__class__" t]) _ _ _
  refine wpAny_call (codeAny_call_builtin PySem.F.excAttr_ValueError.ga.plain PySem.F.entry_bexc_ga (@check_slot (model prog w) _ _ ⟨hp, g, d, t + 1, os⟩ "BaseException.__getattribute__" "BaseException" "__getattribute__" (.ref x) [.str "__class__" t] [] _ (by decide +kernel) (by decide +kernel) isE (PySem.F.args_bexc_ga (.ref x) (.str "__class__" t)) ?_))
  unfold Builtin.«object.__getattribute__»
  refine wpAny_bind (wpAny_of_eq (a := ((Value.ref x : Value), [Value.str "__class__" t])) (by first | rfl | (simp only [slotArgs]; rfl)) ?_)
  refine wpAny_bind (wpAny_pure (wpAny_bind (own.at (wpAny_bind (finds.at ?_)))))
  show wpAny _ _ (holding [Value.builtin "object.__class__"] (call (.builtin "getset_descriptor.__get__") [.builtin "object.__class__", .ref x, .ref D]) >>= ret) _ _ _
  refine wpAny_bind (wpAny_holding (wpAny_call (class_get (s := ⟨hp, g, d, t + 1, os⟩) (ox := ox) (od := some od) X I C.hm (wpAny_pure ?_))))
  show wpAny _ _ (handedOut (.ref D)) _ _ _
  rw [handedOut_of (v := .ref D) rfl]
  first
    | exact wpAny_pure (wpAny_pure h)
    | exact wpAny_pure h
    | exact wpAny_pure (wpAny_bind (wpAny_pure (wpAny_pure h)))
theorem kit_ex (C : L2.ExcC K D) : KitX K (.ref x) (.ref D) (fun h => InstAt h x ox D (some od)) := by
  have there : ∃ (c : Value) (d' : Option Addr) (cd' : ClassData) (sl : Array (Option Value)), K.lookup D = some ⟨c, d', .cls cd', sl⟩ := by
    obtain ⟨cd, e, _⟩ := any_some C.hd
    unfold clsIn at e
    split at e
    · exact ⟨_, _, _, _, by assumption⟩
    · cases e
  obtain ⟨c, d', cd', sl, ho⟩ := there
  refine ⟨fun _ _ _ I => I.type, fun _ _ X _ => ?_, fun h tp dd its n sl' X htp => ?_, fun X I k => classOfEx C X I k⟩
  · intro A' Q' E' s' k q
    unfold isType loadHead
    exact wpAny_bind (wpAny_loadPart (k _ _ (X _ _ ho)) (wpAny_pure q))
  · refine Bool.eq_false_iff.mpr fun q => ?_
    have e : D = tp := Value.ref.inj (beq_iff_eq.mp q)
    subst e
    have z := (X _ _ ho).symm.trans htp
    cases z
end
section
variable {X : Cx}
theorem ExAt.inst {pins : List (Addr × Obj)} {σ : L2.St} {H : Hp} {s : Shared} {a C : Addr} {fs : List (Str × V)} (I : Inv X pins σ H s) (h : ExAt H a C fs) :
    ∃ (oe od : Obj) (mA : Str → Option Value), PySem.W.InstAt s.heap a oe C (some od) ∧ (∀ f, RelO (fs.lookup f) (mA f)) ∧ ∀ f, PySem.W.lookIn f od = some (mA f) := by
  obtain ⟨d, h1, h2⟩ := h
  obtain ⟨t1, ho⟩ := exo_at I.hok h1
  obtain ⟨mA, hn, r⟩ := exd_at I.hok h2
  obtain ⟨od, hd, hl⟩ := lookIn_ns hn
  exact ⟨_, od, mA, ⟨ho, rfl, rfl, hd⟩, r, hl⟩
/-- isinstance(e, c), e an exception with its dict -/
def rIsX (K : PySem.W.Frag) : List V → Hp → VK → Prop := fun xs H Q => ∃ (a C : Addr) (fs : List (Str × V)) (c : V) (cv : Value) (b : Bool), xs = [.ref a, c] ∧ ExAt H a C fs ∧ ExcC K C ∧ (∀ u, RelV c u → u = cv) ∧ PySem.W.kitOne K (.ref C) cv = some b ∧ Q (.bl b) H
theorem call_isX : CallR X (.builtin "isinstance") (rIsX X.K) := by
  rintro pins s σ H xs us Q I r ⟨a, C, fs, c, cv, b, rfl, hx, T, hcv, e, q⟩
  obtain ⟨u, u', rfl, ru, rc⟩ := vals2 r
  cases ru
  cases hcv _ rc
  obtain ⟨oe, od, mA, J, _, _⟩ := hx.inst I
  exact PySem.W.kia_one (kit_ex T) I.kIn J e (fun z => nomatch z) fun tk => ⟨.bl b, H, I.kept (t' := tk) fun _ _ z => z, rfl, q⟩
/-- e.f, e an exception with its dict -/
def tXv (K : PySem.W.Frag) (f : Str) (te : TE) : TE := fun σ H Q => te σ H fun x H1 => ∃ (a C : Addr) (fs : List (Str × V)) (v : V), x = .ref a ∧ ExAt H1 a C fs ∧ XfC K C ∧ PySem.W.findIn K (.ref C) f = some none ∧ fs.lookup f = some v ∧ Q v H1
theorem pe_xv {e : Expr} {te : TE} {pos : Pos} {n : Str} (he : PE X e te) (hb : attributeBase e n X.env (eval e X.env) = eval e X.env := by rfl) : PE X (.Attribute e n pos) (tXv X.K n te) := by
  refine ⟨fun pins s σ H Q I h => attr_of hb (thn (he.run pins s σ H _ I h) fun u s1 ⟨x, H1, I1, rx, a, C, fs, v, ex, hx, T, hno, l, q⟩ => ?_)⟩
  subst ex
  cases rx
  obtain ⟨oe, od, mA, J, hr, hl⟩ := hx.inst I1
  obtain ⟨u, hu, ru⟩ := RelO.some_of (v := v) (o := mA n) (l ▸ hr n)
  exact HandSPX.exc_get I1.kIn J T.ga T.gg T.exC (PySem.W.findObj_own T.hdC hno rfl (by rw [hl, hu])) (handed_of ru) ⟨v, H1, I1.tok _, ru, q⟩
end
end Vb
end
section
set_option Elab.async false
set_option linter.all false
set_option maxRecDepth 100000
set_option autoImplicit false
set_option maxHeartbeats 1000000
/-! Defs that are called where no repr of a container is under way: the same promises, with that said of the place. -/
namespace Vb
open PySem L2 PySem.Spec PyProof.Rows
/-- a def keeps sp wherever no container is being shown -/
structure FnG (P : Program) (w : World) (K : PySem.W.Frag) (mg : Str → Option Value) (base : Heap) (CX : CXT) (k : Nat) (f : Addr) (fd : FuncData) (ps : List Str) (sp : Sp) : Prop where
  len : ∀ vs H Q E, sp vs H Q E → vs.length = ps.length
  run : ∀ (A : Around) (outer : List Env) (s : Shared) (H : Hp) (args : Args) (us : List Value) (vs : List V) (Q : VK) (E : XK), A.guards = some [] → Room k A → Env0 P w K mg base A outer s H → BindsTo s fd args (ps.zip us) → Vals vs us → sp vs H Q E →
    codeAny (model P w) A (.call (.ref f) args) (CR CX outer P w H s Q E) s
section
variable {P : Program} {w : World} {K : PySem.W.Frag} {mg : Str → Option Value} {base : Heap} {CX : CXT} {k : Nat} {f : Addr} {fd : FuncData} {ps : List Str} {sp : Sp}
theorem FnG.of (F : FnOk P w K mg base CX k f fd ps sp) : FnG P w K mg base CX k f fd ps sp := ⟨F.len, fun A outer s H args us vs Q E _ => F.run A outer s H args us vs Q E⟩
/-- what is asked of one place alone -/
def spAt (A0 : Around) (A : Around) (sp : Sp) : Sp := fun vs H Q E => A = A0 ∧ sp vs H Q E
/-- the rule for a def: its body, told where it runs -/
theorem okG {x qual : Str} {st : Stmt} {N : List Str} (F : Fun K x qual st f fd) (S : FnScope N ps (defScope st)) (len : ∀ vs H Q E, sp vs H Q E → vs.length = ps.length)
    (body : ∀ (cdv : Value) (A : Around) (outer : List Env) (s : Shared) (H : Hp) (vs : List V) (Q : VK) (E : XK), A.guards = some [] → Room k (A.deeper (envOfC qual (defScope st) s.heap.objs.size f cdv)) → sp vs H Q E →
      ∃ t, PSs (cxOf CX0 P w K mg base N qual (defScope st) f cdv A outer s H E).nox (defBody st) t ∧ t { nx := fun _ H' => Q .non H', rt := Q } (start N vs) H) : FnG P w K mg base CX0 (k + 1) f fd ps sp := by
  obtain ⟨oc, od, kV, doc, pm, an, cdv, ct, osl, rfl, lk, hcd⟩ := F.ex
  refine ⟨len, fun A outer s H args us vs Q E hg hr e0 hb r hsp => ?_⟩
  have KX : K.In s.heap := e0.mod.kin.keeps fun b o e => (e0.bs b o e).1
  have kinds : ∀ y ∈ ps.zip us, (defScope st).names.lookup y.1 = some .local ∨ ((defScope st).names.lookup y.1 = some .cell ∧ ((cellsFrom (s.heap.objs.size + 1) (defScope st).names []).lookup y.1).isSome = true) := by
    rintro ⟨n, v⟩ hy
    exact (S.par n (List.of_mem_zip hy).1).imp (fun q => q) fun q => ⟨q, PySem.W.cellsFrom_some _ _ _ (.inl q)⟩
  refine codeAny_call_function hr.depth (KX _ _ lk) rfl S.co S.gen rfl (PySem.W.codeRec_of KX hcd) (hb _ _ _ _ (wpAny_newFunctionEnv_cells S.kind kinds fun env he s1 x => ?_))
  subst he
  refine ⟨(e0.mod.nolimit.keeps fun b o e => (e0.bs b o e).1).keeps x.toInCall.keep, codeAny_func ?_⟩
  obtain ⟨t, ht, hq⟩ := body cdv A outer s H vs Q E hg (hr.deeper _) hsp
  refine wpAny_mono (ht.nox.run [] s1 (start N vs) H _ (inv_start S hr.hd e0 (len _ _ _ _ hsp) r x) hq) (fun fl s' hs => ?_) fun e s' hs => hs
  cases fl with
  | ret u => obtain ⟨v, σ', H', J, rv, q⟩ := hs; exact ⟨v, H', J.os, J.bare, J.base, J.hok, rv, q⟩
  | next => obtain ⟨σ', H', J, q⟩ := hs; exact ⟨.non, H', J.os, J.bare, J.base, J.hok, rfl, q⟩
  | brk => obtain ⟨_, _, _, q⟩ := hs; exact q.elim
  | cont => obtain ⟨_, _, _, q⟩ := hs; exact q.elim
end
/-- a def that may be called by its name where no container is being shown -/
structure CalG (P : Program) (w : World) (K : PySem.W.Frag) (mg : Str → Option Value) (base : Heap) (k : Nat) (x : Str) (sp : Sp) : Prop where
  ex : ∃ (f : Addr) (fd : FuncData) (ps : List Str), FnG P w K mg base CX0 k f fd ps sp ∧ mg x = some (.ref f) ∧ PySem.W.keepIn K (.ref f) = true ∧ Binds K fd ps []
section
variable {P : Program} {w : World} {K : PySem.W.Frag} {mg : Str → Option Value} {base : Heap} {k : Nat} {x : Str} {sp : Sp}
theorem Cal.g (c : Cal P w K mg base k x sp) : CalG P w K mg base k x sp := by
  obtain ⟨f, fd, ps, F, r⟩ := c.ex
  exact ⟨f, fd, ps, .of F, r⟩
theorem Df.calG {st : Stmt} (ps : List Str) (D : Df K mg x st) (ok : ∀ f fd, Fun K x x st f fd → FnG P w K mg base CX0 k f fd ps sp)
    (b : ∀ (kV doc pm : Value) (an : Option Addr) (cdv ct : Value) (us : List Value), us.length = ps.length → bindArgs (PySem.W.fnOf x x (defArgs st) (defBody st) (defScope st) .none kV doc pm an cdv ct) ⟨us, []⟩ = pure (ps.zip us)) : CalG P w K mg base k x sp := by
  obtain ⟨f, fd, F, m⟩ := D.ex
  exact ⟨f, fd, ps, ok f fd F, m, F.kp, F.binds b⟩
end
section
variable {X : Cx} {x : Str} {e : Expr} {es : List Expr} {p pos : Pos} {k j : Nat} {sp : Sp} {t : TA}
theorem pe_g (g : X.A.guards = some []) (c : CalG X.prog X.w X.K X.mg X.base k x sp) (hr : Room j X.A) (hk : k ≤ j) (hg : Gl X x) (ha : PA X (e :: es) t)
    (hdb : (x == ("__debug__" : Str)) = false := by decide) (he : starEach (e :: es) X.env = (false, eval e X.env) :: starEach es X.env := by rfl) (hpl : (backTo pos (starEach es X.env)).any (·.1) = false := by rfl) :
    PE X (.Call (.Name x p) (e :: es) [] pos) (tCal sp t) := by
  obtain ⟨f, fd, ps, F, hm, kp, b⟩ := c.ex
  refine ⟨fun pins s σ H Q I h => wpAny_Call_Name_kw (ld_glob I hg hm (PySem.W.callWith_K (h₀ := X.base) I.ok.mod.kin kp (thn (ha.run pos pins s σ H _ I h) fun us s1 ⟨vs, H1, I1, r, q⟩ => ⟨I1.kIn, ?_⟩) he hpl) hdb)⟩
  have hl : us.length = ps.length := r.length.symm.trans (F.len _ _ _ _ q)
  have hb := b s1 us I1.kIn (by simpa using hl)
  rw [List.append_nil] at hb
  refine wpAny_call (codeAny_mono (F.run X.A X.stack s1 H1 ⟨us, []⟩ us vs Q E0 g (hr.mono hk) I1.env0 hb r q) fun r s' hq => ?_)
  match r, hq with
  | .error e, hq => exact False.elim hq
  | .ok (.ret u), hq => exact I1.after hq
  | .ok .next, hq => exact False.elim hq
  | .ok .brk, hq => exact False.elim hq
  | .ok .cont, hq => exact False.elim hq
end
/-! ### the law's own call -/
section
variable {P : Program} {w : World} {K : PySem.W.Frag} {mg mb : Str → Option Value} {k : Nat} {fa a : Addr} {fd : FuncData} {x : Str} {sp : Sp} {s₁ : Shared} {vs : List Value} {ns : List Int}
/-- what is tracked when the law is called: the script, unless the written part has it -/
def scriptH (K : PySem.W.Frag) (a : Addr) (vs : List Value) (ns : List Int) : Hp := fun b => if b = a ∧ K.lookup a = Option.none then some (.frz { cls := .type "list", data := .seq vs.toArray } (.lst (ns.map V.int))) else Option.none
theorem scriptH_some {K : PySem.W.Frag} {a b : Addr} {vs : List Value} {ns : List Int} {u : HO} (h : scriptH K a vs ns b = some u) : b = a ∧ K.lookup a = Option.none ∧ u = .frz { cls := .type "list", data := .seq vs.toArray } (.lst (ns.map V.int)) := by
  unfold scriptH at h
  split at h
  · rename_i c
    exact ⟨c.1, c.2, (Option.some.inj h).symm⟩
  · cases h
theorem law_callG (KX : K.In s₁.heap) (hns : s₁.heap.Ns mainGlobals mg) (hb : s₁.heap.Ns builtinsNs mb) (hbb : ∀ x : Str, x ≠ "__name__" → mb x = bootBuiltins x) (hlim : s₁.heap.NoLimit) (hg : s₁.gens = #[])
    (ha : s₁.heap.get? a = some { cls := .type "list", data := .seq vs.toArray }) (hi : IntsAre vs ns) (hl : ns.length ≤ sizeLine) (hr : Room k callerA)
    (F : ∀ base : Heap, K.In base → base.Ns mainGlobals mg → FnG P w K mg base CX0 k fa fd [x] sp) (hbind : ∀ (s : Shared) (u : Value), BindsTo s fd ⟨[u], []⟩ [(x, u)])
    (hsp : ∀ H : Hp, SqL K H a (ns.map V.int) → sp [.ref a] H (fun v _ => v = .bl true) fun _ _ _ => False) :
    codeAny (model P w) callerA (.call (.ref fa) ⟨[.ref a], []⟩) (fun r s' => r = .ok (.ret (.bool true)) ∧ OldK s₁.heap s'.heap ∧ s'.os = s₁.os ∧ AllBare s'.gens) s₁ := by
  have rv := vals_ints hi
  have hlv : (ns.map V.int).length ≤ sizeLine := by rw [List.length_map]; exact hl
  generalize hH : scriptH K a vs ns = H
  have at_ : ∀ {b : Addr} {u : HO}, H b = some u → b = a ∧ K.lookup a = Option.none ∧ u = .frz { cls := .type "list", data := .seq vs.toArray } (.lst (ns.map V.int)) := fun h => scriptH_some (by rw [hH]; exact h)
  have hok : HOk P w H s₁.heap := fun b u e => by
    obtain ⟨rfl, _, rfl⟩ := at_ e
    exact ⟨ha, hlv, vs, _, rv, ha⟩
  have hS : SqL K H a (ns.map V.int) := by
    cases hk : K.lookup a with
    | none => exact .inl (.inr ⟨_, by rw [← hH]; exact if_pos ⟨rfl, hk⟩⟩)
    | some o =>
      have e := KX a o hk
      rw [ha] at e
      cases e
      exact .inr ⟨_, vs.toArray, _, hk, rfl, rfl, rfl, by rw [List.size_toArray, hi.length]; exact hl, by simpa using rv⟩
  -- an object that is not the script's is in the hidden heap, too
  have keeps : ∀ {b : Addr} {o : Obj}, s₁.heap.get? b = some o → (b = a → K.lookup a ≠ Option.none ∨ ∃ es ep, o.data = .dict es ep) → (hidT s₁.heap H).get? b = some o := fun {b o} e c => hidT_get e (by
    cases q : H b with
    | none => rfl
    | some u =>
      obtain ⟨rfl, hk, _⟩ := at_ q
      rcases c rfl with c | ⟨es, ep, c⟩
      · exact absurd hk c
      · rw [ha] at e
        cases e
        cases c)
  have nsK : ∀ {b : Addr} {m : Str → Option Value}, s₁.heap.Ns b m → (hidT s₁.heap H).Ns b m := by
    rintro b m ⟨o, es, ep, e, d, r⟩
    exact ⟨o, es, ep, keeps e fun _ => .inr ⟨es, ep, d⟩, d, r⟩
  have hKb : K.In (hidT s₁.heap H) := fun b o e => keeps (KX b o e) fun q => .inl (by rw [← q, e]; exact fun z => nomatch z)
  obtain ⟨mc, l1, l2⟩ := hlim
  have e0 : Env0 P w K mg (hidT s₁.heap H) callerA [] s₁ H := ⟨rfl, ⟨hKb, nsK hns, ⟨mb, nsK hb, hbb⟩, mc, nsK l1, l2⟩, fun b o e => of_hidT e, Nat.le_of_eq (hidT_size _ _), trivial, fun b hb => (nomatch hb), hok, .of_eq hg⟩
  refine codeAny_mono ((F _ hKb (nsK hns)).run callerA [] s₁ H ⟨[.ref a], []⟩ [.ref a] [.ref a] _ _ rfl hr e0 (hbind s₁ (.ref a)) (.cons rfl .nil) (hsp H hS)) fun r s' h => ?_
  match r, h with
  | .error e, h => exact False.elim h
  | .ok .next, h => exact False.elim h
  | .ok .brk, h => exact False.elim h
  | .ok .cont, h => exact False.elim h
  | .ok (.ret u), ⟨v, H', os, bare, un, hok', r', q⟩ =>
    cases (show v = .bl true from q)
    cases (show u = Value.bool true from r')
    refine ⟨rfl, OldK.of_keep fun b o e => ?_, os, bare⟩
    cases q : H b with
    | none => exact un.keep b o e q (fun z => nomatch z) (fun z => nomatch z)
    | some u =>
      obtain ⟨rfl, hk, rfl⟩ := at_ q
      rw [ha] at e
      cases e
      exact (hok' b _ (un.frzs b _ _ q)).1
end
theorem walkG {l : PySem.W.OpenLaw} {n k : Nat} {q : Program} {loose : List Str} {XP : (Str → Option Value) → Heap → Prop} {YP : World → Heap → Prop} {d : DefRec} {K : Params → PySem.W.Frag} {sp : World → Sp} {x : Str}
    (hn : l.most = some n) (hn2 : n ≤ sizeLine) (hdf : d.params.defaults = []) (hr : Room k callerA) (hY : ∀ (w : World) (h : Heap), YP w h → (K w.params).In h)
    (F : ∀ (w : World) (mg : Str → Option Value) (fa : Addr) (h : Heap), (K w.params).In h → h.Ns mainGlobals mg → mg d.name = some (.ref fa) →
      ∃ fd : FuncData, (∀ (s : Shared) (u : Value), BindsTo s fd ⟨[u], []⟩ [(x, u)]) ∧ ∀ base : Heap, (K w.params).In base → base.Ns mainGlobals mg → FnG l.prog w (K w.params) mg base CX0 k fa fd [x] (sp w))
    (hsp : ∀ (w : World) (H : Hp) (a : Addr) (ns : List Int), ns.length ≤ n → SqL (K w.params) H a (ns.map V.int) → sp w [.ref a] H (fun v _ => v = .bl true) fun _ _ _ => False) :
    PySem.W.WalkO q loose XP YP l.row.toRowW d [] (fun f vs => PySem.call f vs) := by
  refine Att.attach_call hn hdf fun w s₀ s₁ mg mb fa o pm cd doc a vs ns G Y ho hd hcd hmg hobj hints hlen hg => ?_
  obtain ⟨fd, hb, hF⟩ := F w mg fa _ (hY w _ Y) G.T.g hmg
  exact law_callG (hY w _ Y) G.T.g G.T.b G.T.builtins G.T.nolimit hg hobj hints (Nat.le_trans hlen hn2) hr hF hb fun H hS => hsp w H a ns hlen hS
end Vb
end
section
set_option Elab.async false
set_option linter.all false
set_option maxRecDepth 100000
set_option autoImplicit false
set_option maxHeartbeats 1000000
/-! repr of data. -/
namespace Vb
open PySem L2 PySem.Spec PyProof.Rows
/-- a key's datum; a scalar's -/
def kD : Key → PyData
  | .inl i => .int i
  | .inr x => .str x
def sD : V → Option PyData
  | .non => some .none
  | .bl b => some (.bool b)
  | .int i => some (.int i)
  | .str x => some (.str x)
  | _ => none
theorem sD_reads {v : V} {d : PyData} {u : Value} {h : Heap} (e : sD v = some d) (r : RelV v u) : Reads h u d [] := by
  cases v with
  | non => cases e; cases r; exact .none
  | bl b => cases e; cases r; exact .bool b
  | int i => cases e; obtain ⟨t, rfl⟩ := r; exact .int i t
  | str x => cases e; obtain ⟨t, rfl⟩ := r; exact .str x t
  | _ => cases e
theorem kD_reads {k : Key} {u : Value} {h : Heap} (r : keyIs k u = true) : Reads h u (kD k) [] := by
  rcases keyIs_shape r with ⟨i, t, rfl, rfl⟩ | ⟨x, t, rfl, rfl⟩
  · exact .int i t
  · exact .str x t
/-- what a value in the heap H is worth: data without dicts, or a dict of scalars -/
def Dd (K : PySem.W.Frag) (H : Hp) (v : V) (d : PyData) : Prop := (Dp K H v d ∧ d.hasDict = false) ∨
  ∃ (a : Addr) (kvs : List (Key × V)) (ds : List PyData), v = .ref a ∧ H a = some (.dK kvs) ∧ kvs.map (fun p => sD p.2) = ds.map some ∧ d = .dict ((kvs.map fun p => kD p.1).zip ds)
section
variable {P : Program} {w : World}
theorem dict_reads {h : Heap} : ∀ {kvs : List (Key × V)} {vs : List (Key × Value)} {es : List DictEntry} {ds : List PyData}, KV kvs vs → Pairs (mixKind P w) es vs → kvs.map (fun p => sD p.2) = ds.map some →
    ReadsAll h (es.map (·.key)) (kvs.map fun p => kD p.1) [] ∧ ReadsAll h (es.map (·.val)) ds [] ∧ kvs.length = ds.length
  | [], _, _, ds, .nil, pr, e => by
    cases pr
    cases ds with
    | nil => exact ⟨.nil, .nil, rfl⟩
    | cons _ _ => cases e
  | p :: kvs, q :: vs, _, ds, .cons r rs, pr, e => by
    cases pr with
    | cons hk hv ps =>
      cases ds with
      | nil => cases e
      | cons d ds =>
        rw [List.map_cons, List.map_cons] at e
        injection e with e1 e2
        obtain ⟨i1, i2, i3⟩ := dict_reads (h := h) rs ps e2
        rw [mixKind_is, ← r.1] at hk
        refine ⟨?_, ?_, by simp [i3]⟩
        · exact ReadsAll.cons (as := []) (bs := []) (kD_reads hk) i1
        · refine ReadsAll.cons (as := []) (bs := []) ?_ i2
          have t := sD_reads (h := h) e1 r.2
          rw [← hv] at t
          exact t
end
section
variable {X : Cx}
theorem Dd.reads {pins : List (Addr × Obj)} {σ : L2.St} {H : Hp} {s : Shared} {v : V} {d : PyData} {u : Value} (I : Inv X pins σ H s) (h : Dd X.K H v d) (r : RelV v u) :
    ∃ as, Reads s.heap u d as ∧ (d.hasDict = true → sysModules ∉ as) := by
  rcases h with ⟨h, n⟩ | ⟨a, kvs, ds, rfl, h, e, rfl⟩
  · obtain ⟨as, q⟩ := Dp.reads I d v u h r
    exact ⟨as, q, PyData.noDict_hsm n⟩
  · cases r
    obtain ⟨_, ns, vs, rv, o, es, ep, ho, hx, hd, _, pr, _⟩ := I.hok a _ h
    obtain ⟨i1, i2, i3⟩ := dict_reads (h := s.heap) rv pr e
    have z1 : (((kvs.map fun p => kD p.1).zip ds).map (·.1)) = kvs.map fun p => kD p.1 := List.map_fst_zip (by simp [i3])
    have z2 : (((kvs.map fun p => kD p.1).zip ds).map (·.2)) = ds := List.map_snd_zip (by simp [i3])
    refine ⟨_, Reads.dict (as := []) (bs := []) ho hx.1 hd ?_ ?_, fun _ hm => ?_⟩
    · rw [z1]; exact i1
    · rw [z2]; exact i2
    · have : sysModules = a := by simpa using hm
      rw [this] at ns
      simp at ns
/-- repr(x) -/
def rRepr (K : PySem.W.Frag) : List V → Hp → VK → Prop := fun xs H Q => ∃ (v : V) (d : PyData), xs = [v] ∧ Dd K H v d ∧ d.showable = true ∧ d.shown.length ≤ sizeLine ∧ d.depth ≤ 60 ∧ Q (.str d.shown) H
theorem call_repr (g : X.A.guards = some []) (hu : X.A.units + 64 < cLine) : CallR X (.builtin "repr") (rRepr X.K) := by
  rintro pins s σ H xs us Q I r ⟨v, d, rfl, hd, h1, h2, h3, q⟩
  obtain ⟨u, rfl, ru⟩ := vals1 r
  have fin : ∀ h' t tk, (∀ b o, s.heap.get? b = some o → h'.get? b = some o) → EP X pins σ Q (.str d.shown t) { s with heap := h', toks := tk } := fun h' t tk k => ⟨.str d.shown, H, I.kept (t' := tk) k, ⟨t, rfl⟩, q⟩
  cases v with
  | non =>
    cases ru
    rcases hd with ⟨hd, _⟩ | ⟨a, kvs, ds, e, _⟩
    · cases hd
      exact PySem.P.repr_of_none (fin _ _ _ fun _ _ z => z)
    · cases e
  | bl b =>
    cases ru
    rcases hd with ⟨hd, _⟩ | ⟨a, kvs, ds, e, _⟩
    · cases hd
      exact PySem.P.repr_of_bool (fin _ _ _ fun _ _ z => z)
    · cases e
  | int i =>
    obtain ⟨t, rfl⟩ := ru
    rcases hd with ⟨hd, _⟩ | ⟨a, kvs, ds, e, _⟩
    · cases hd
      exact PySem.P.repr_of_int (by simpa [PyData.showable] using h1) (fin _ _ _ fun _ _ z => z)
    · cases e
  | str x =>
    obtain ⟨t, rfl⟩ := ru
    rcases hd with ⟨hd, _⟩ | ⟨a, kvs, ds, e, _⟩
    · cases hd
      exact PySem.P.repr_of_str (fin _ _ _ fun _ _ z => z) h2
    · cases e
  | ref a =>
    obtain ⟨as, rd, hs⟩ := hd.reads I ru
    cases ru
    exact repr_of_reads' rd h1 hs g (by omega) (fun _ _ z => z) (fun h' t tk k => fin h' t tk k) h2
  | byt b =>
    rcases hd with ⟨hd, _⟩ | ⟨a, kvs, ds, e, _⟩
    · cases hd
    · cases e
  | flt b =>
    rcases hd with ⟨hd, _⟩ | ⟨a, kvs, ds, e, _⟩
    · cases hd
    · cases e
  | ty n =>
    rcases hd with ⟨hd, _⟩ | ⟨a, kvs, ds, e, _⟩
    · cases hd
    · cases e
end
end Vb
end
section
set_option Elab.async false
set_option linter.all false
set_option maxRecDepth 100000
set_option autoImplicit false
set_option maxHeartbeats 1000000
/-! The package's errors: their one __init__, made as values, told by isinstance. -/
namespace Vb
open PySem L2 PySem.Spec PyProof.Rows
/-- the only __init__: self.value = value -/
def spEInit (K : PySem.W.Frag) : Sp := fun vs H Q _ => ∃ (a C : Addr) (v : V), vs = [.ref a, v] ∧ OexC K C ∧ PySem.W.findIn K (.ref C) "value" = some none ∧ H a = some (exo a C none) ∧
  ∀ dx, H dx = none → dx ≠ a → Q .non (upd (upd H dx (exd dx [("value", v)])) a (exo a C (some dx)))
/-- what the written part says of an error's class -/
structure ErrC (K : PySem.W.Frag) (fI C : Addr) : Prop where
  ox : OexC K C
  init : PySem.W.findIn K (.ref C) "__init__" = some (some (.ref fI))
  xf : XfC K C
  ex : ExcC K C
  nv : PySem.W.findIn K (.ref C) "value" = some none
section
variable {P : Program} {w : World} {K : PySem.W.Frag} {mg : Str → Option Value} {base : Heap}
/-- what the written part says of the __init__ -/
structure InitE (P : Program) (w : World) (K : PySem.W.Frag) (mg : Str → Option Value) (base : Heap) (fI : Addr) : Prop where
  ex : ∃ fd : FuncData, FnOk P w K mg base CX0 1 fI fd ["self", "value"] (spEInit K) ∧ Binds K fd ["self", "value"] [] ∧ PySem.W.typeIn K (.ref fI) = some (.type "function")
end
section
variable {X : Cx} {x : Str} {e : Expr} {te : TE} {p pos : Pos} {C fI : Addr} {k : Nat}
/-- X(e): an error that keeps e's value -/
def tErr (C : Addr) (te : TE) : TE := fun σ H Q => te σ H fun v H1 => ∀ (a : Addr) (G : Hp), H1 a = none → Same H1 G → ExAt G a C [("value", v)] → Q (.ref a) G
/-- what is asked may be said more strongly -/
def tWk (te : TE) : TE := fun σ H Q => ∃ Q1 : VK, te σ H Q1 ∧ ∀ v H', Q1 v H' → Q v H'
theorem pe_wk (he : PE X e te) : PE X e (tWk te) := ⟨fun pins s σ H Q I ⟨Q1, h, f⟩ => wpAny_mono (he.run pins s σ H Q1 I h) (fun _ _ ⟨v, H', J, r, q⟩ => ⟨v, H', J, r, f v H' q⟩) fun _ _ y => y⟩
theorem pe_err (T : ErrC X.K fI C) (GI : InitE X.prog X.w X.K X.mg X.base fI) (hr : Room k X.A) (hk : 2 ≤ k) (hg : Gl X x) (hm : X.mg x = some (.ref C)) (he : PE X e te)
    (hdb : (x == ("__debug__" : Str)) = false := by decide) (hs : starEach [e] X.env = (false, eval e X.env) :: starEach [] X.env := by rfl) (hl : (backTo pos (starEach [] X.env)).any (·.1) = false := by rfl) : PE X (.Call (.Name x p) [e] [] pos) (tErr C te) := by
  obtain ⟨fd, F, b, tI⟩ := GI.ex
  have h := pe_oexV (p := p) (pos := pos) T.ox T.init tI F (hr.mono hk) b pass0 hg hm (pa_cons (pe_wk he) pa_nil hs) hdb hs hl
  refine ⟨fun pins s σ H Q I z => h.run pins s σ H Q I ⟨_, z, fun v H1 q => ⟨by show 1 ≤ 1000; decide, fun a n => ⟨a, C, v, rfl, T.ox, T.nv, upd_same, fun d m ne => ⟨rfl, ?_⟩⟩⟩⟩⟩
  have m0 : H1 d = none := by rwa [upd_ne ne] at m
  refine q a _ n (fun b o e => ?_) ⟨d, upd_same, by rw [upd_ne ne, upd_same]⟩
  rw [upd_ne (ne_of_none e n), upd_ne (ne_of_none e m0), upd_ne (ne_of_none e n)]
  exact e
/-- a row of them, all of the name in slot 0 -/
def tErrs (C : Nat → Addr) (off n : Nat) : TA := fun σ H Q => ∃ v : V, σ[0]? = some (some v) ∧ ∀ (es : List Addr) (G : Hp), es.length = n → Same H G → (∀ (i : Nat) (e : Addr), es[i]? = some e → ExAt G e (C (off + i)) [("value", v)]) → Q (es.map V.ref) G
theorem pa_imp {es : List Expr} {t t' : TA} (h : ∀ σ H Q, t' σ H Q → t σ H Q) (ha : PA X es t) : PA X es t' := ⟨fun pos pins s σ H Q I z => ha.run pos pins s σ H Q I (h _ _ _ z)⟩
theorem pa_errs0 {C : Nat → Addr} {off : Nat} : PA X [] (tErrs C off 0) := pa_imp (fun σ H Q ⟨v, _, q⟩ => q [] H rfl (.refl _) fun i e h => by simp at h) pa_nil
theorem pa_errs {C : Nat → Addr} {off n : Nat} {es : List Expr} (he : PE X e (tErr (C off) (tVar 0))) (ha : PA X es (tErrs C (off + 1) n)) (hs : starEach (e :: es) X.env = (false, eval e X.env) :: starEach es X.env := by rfl) : PA X (e :: es) (tErrs C off (n + 1)) := by
  refine pa_imp (fun σ H Q ⟨v, h0, q⟩ => ?_) (pa_cons he ha hs)
  refine ⟨v, h0, fun a G na s1 x1 => ⟨v, h0, fun es G2 hl s2 h2 => ?_⟩⟩
  refine q (a :: es) G2 (by simp [hl]) (s1.trans s2) fun i e hi => ?_
  cases i with
  | zero =>
    cases Option.some.inj (show some a = some e from hi)
    exact x1.same s2
  | succ i =>
    have := h2 i e hi
    rwa [show off + (i + 1) = off + 1 + i by omega]
/-- the answers: is D this class? -/
def fK (C : Nat → Addr) (D : Addr) (off n : Nat) : List V := (List.range n).map fun j => V.bl (decide (D = C (off + j)))
theorem fK_len {C : Nat → Addr} {D : Addr} {off n : Nat} : (fK C D off n).length = n := by
  unfold fK
  rw [List.length_map, List.length_range]
theorem fK_app {C : Nat → Addr} {D : Addr} {off a b : Nat} : fK C D off a ++ fK C D (off + a) b = fK C D off (a + b) := by
  unfold fK
  rw [List.range_add, List.map_append, List.map_map]
  refine congrArg (fun z => _ ++ z) (List.map_congr_left fun j _ => ?_)
  show V.bl (decide (D = C (off + a + j))) = V.bl (decide (D = C (off + (a + j))))
  rw [Nat.add_assoc]
/-- a row of questions: is the error in slot 0 of this class? -/
def tKinds (K : PySem.W.Frag) (C : Nat → Addr) (off n : Nat) : TA := fun σ H Q => ∃ (a D : Addr) (fs : List (Str × V)), σ[0]? = some (some (.ref a)) ∧ ExAt H a D fs ∧ ExcC K D ∧ (∀ j, j < n → PySem.W.kitOne K (.ref D) (.ref (C (off + j))) = some (decide (D = C (off + j)))) ∧
  Q (fK C D off n) H
theorem pa_kinds0 {C : Nat → Addr} {off : Nat} : PA X [] (tKinds X.K C off 0) := pa_imp (fun σ H Q ⟨a, D, fs, _, _, _, _, q⟩ => q) pa_nil
theorem pa_kinds {C : Nat → Addr} {off n : Nat} {es : List Expr} (he : PE X e (tCB (rIsX X.K) (tCons (tVar 0) (tCons (tC (.ref (C off))) tNil)))) (ha : PA X es (tKinds X.K C (off + 1) n))
    (hs : starEach (e :: es) X.env = (false, eval e X.env) :: starEach es X.env := by rfl) : PA X (e :: es) (tKinds X.K C off (n + 1)) := by
  refine pa_imp (fun σ H Q ⟨a, D, fs, h0, hx, hD, hk, q⟩ => ?_) (pa_cons he ha hs)
  refine ⟨_, h0, a, D, fs, _, _, _, rfl, hx, hD, (fun _ r => r), hk 0 (Nat.succ_pos _), a, D, fs, h0, hx, hD, fun j hj => ?_, ?_⟩
  · have := hk (j + 1) (by omega)
    rwa [show off + (j + 1) = off + 1 + j by omega] at this
  · unfold fK at q
    rw [List.range_succ_eq_map, List.map_cons, List.map_map] at q
    have e1 : ((fun j => V.bl (decide (D = C (off + j)))) ∘ Nat.succ) = fun j => V.bl (decide (D = C (off + 1 + j))) := funext fun j => by
      show V.bl (decide (D = C (off + (j + 1)))) = _
      rw [show off + (j + 1) = off + 1 + j by omega]
    rw [e1] at q
    exact q
end
end Vb
end
section
set_option Elab.async false
set_option linter.all false
set_option maxRecDepth 100000
set_option autoImplicit false
set_option maxHeartbeats 1000000
/-! More operators and methods. -/
namespace Vb
open PySem L2 PySem.Spec PyProof.Rows
section
variable {X : Cx}
theorem dp_bools {K : PySem.W.Frag} {H : Hp} : ∀ bs : List Bool, DpAll K H (bs.map V.bl) (bs.map PyData.bool)
  | [] => .nil
  | b :: bs => .cons (.bl b) (dp_bools bs)
theorem bools_has : ∀ bs : List Bool, (bs.map PyData.bool).all Shape.bool.has = true
  | [] => rfl
  | b :: bs => by
    rw [List.map_cons, List.all_cons, bools_has bs]
    rfl
theorem count_bools (k : Bool) : ∀ bs : List Bool, countIn (.bool k) (bs.map PyData.bool) = ((bs.count k : Nat) : Int)
  | [] => rfl
  | b :: bs => by
    rw [List.map_cons, countIn, count_bools k bs, List.count_cons]
    cases b <;> cases k <;> simp [PySem.Spec.same, same] <;> omega
/-- l.count(b), l a list of bools -/
def rCntB (K : PySem.W.Frag) : V → List V → Hp → VK → Prop := fun x xs H Q => ∃ (p : Addr) (bs : List Bool) (b : Bool), x = .ref p ∧ xs = [.bl b] ∧ SqL K H p (bs.map V.bl) ∧ Q (.int (bs.count b : Nat)) H
theorem mt_countB : MtR X "list.count" (rCntB X.K) := by
  rintro pins s σ H x xs v us Q I rx rxs ⟨p, bs, b, rfl, rfl, hs, q⟩
  cases rx
  obtain ⟨u, rfl, ru⟩ := rxs.one
  cases ru
  obtain ⟨its, rv, pl, _⟩ := I.list hs
  obtain ⟨as, rd⟩ := Dp.readsAll I _ _ its (dp_bools bs) rv
  refine count_list_bools pl.isList rd (bools_has bs) ?_
  rw [count_bools]
  exact ⟨.int (bs.count b : Nat), H, I.tok _, ⟨_, rfl⟩, q⟩
/-- x != y: scalars, data without dicts, two dicts of scalars that are alike -/
def rNeA (K : PySem.W.Frag) : R2 := fun x y H Q => rNe x y H Q ∨ rNeD K x y H Q ∨ rNeDA x y H Q
theorem op_neA (hu : X.A.units + 64 < cLine) : OpR X (compareOp .NotEq) (rNeA X.K) := by
  rintro pins s σ H x y v u Q I rx ry (h | h | h)
  · exact op_ne pins s σ H x y v u Q I rx ry h
  · exact op_neD hu pins s σ H x y v u Q I rx ry h
  · exact op_ne_dictA (by omega) pins s σ H x y v u Q I rx ry h
end
theorem same_seqT {K : PySem.W.Frag} {H H' : Hp} {a : Addr} {xs : List V} (e : Same H H') (h : SqT K H a xs) : SqT K H' a xs := by
  rcases h with (h | ⟨o, h⟩) | h
  · exact .inl (.inl (e _ _ h))
  · exact .inl (.inr ⟨o, e _ _ h⟩)
  · exact .inr h
mutual
theorem dp_same {K : PySem.W.Frag} {H H' : Hp} (e : Same H H') : ∀ {v : V} {d : PyData}, Dp K H v d → Dp K H' v d
  | _, _, .non => .non
  | _, _, .bl b => .bl b
  | _, _, .int i => .int i
  | _, _, .str x => .str x
  | _, _, .lst h a => .lst (e.seq h) (dps_same e a)
  | _, _, .tup h a => .tup (same_seqT e h) (dps_same e a)
theorem dps_same {K : PySem.W.Frag} {H H' : Hp} (e : Same H H') : ∀ {vs : List V} {ds : List PyData}, DpAll K H vs ds → DpAll K H' vs ds
  | _, _, .nil => .nil
  | _, _, .cons h a => .cons (dp_same e h) (dps_same e a)
end
theorem dd_same {K : PySem.W.Frag} {H H' : Hp} {v : V} {d : PyData} (e : Same H H') (h : Dd K H v d) : Dd K H' v d := by
  rcases h with ⟨h, n⟩ | ⟨a, kvs, ds, h1, h2, h3, h4⟩
  · exact .inl ⟨dp_same e h, n⟩
  · exact .inr ⟨a, kvs, ds, h1, e _ _ h2, h3, h4⟩
/-- a value of few signs: it can be shown, and is not unlike itself -/
structure Fine (K : PySem.W.Frag) (H : Hp) (v : V) : Prop where
  ex : ∃ d : PyData, Dd K H v d ∧ d.showable = true ∧ d.shown.length ≤ sizeLine ∧ d.depth ≤ 60
  ne : (scal v v = true) ∨ (∃ d, Dp K H v d ∧ SeqAt.shaped d = true) ∨ ∃ a ks, v = .ref a ∧ H a = some (.dK ks) ∧ ∀ p ∈ ks, valV ks p.1 = some p.2 ∧ flatB p.2 = true
theorem Fine.same {K : PySem.W.Frag} {H H' : Hp} {v : V} (f : Fine K H v) (e : Same H H') : Fine K H' v := by
  obtain ⟨⟨d, h1, h2⟩, n⟩ := f
  refine ⟨⟨d, dd_same e h1, h2⟩, ?_⟩
  rcases n with n | ⟨d, n, s⟩ | ⟨a, ks, n1, n2, n3⟩
  · exact .inl n
  · exact .inr (.inl ⟨d, dp_same e n, s⟩)
  · exact .inr (.inr ⟨a, ks, n1, e _ _ n2, n3⟩)
theorem Fine.neQ {K : PySem.W.Frag} {H : Hp} {v : V} (f : Fine K H v) {Q : VK} (q : Q (.bl false) H) : rNeA K v v H Q := by
  rcases f.ne with n | ⟨d, n, s⟩ | ⟨a, ks, rfl, n2, n3⟩
  · refine .inl ⟨n, ?_⟩
    rw [decide_eq_true rfl]
    exact q
  · refine .inr (.inl ⟨d, d, n, n, s, s, ?_⟩)
    rw [SeqAt.eqv_refl d (SeqAt.canLay_of_shaped s)]
    exact q
  · exact .inr (.inr ⟨a, a, ks, ks, rfl, rfl, n2, n2, rfl, n3, q⟩)
/-- data by its datum -/
theorem Fine.dp {K : PySem.W.Frag} {H : Hp} {v : V} {d : PyData} (h : Dp K H v d) (h1 : d.hasDict = false) (h2 : d.showable = true) (h3 : d.shown.length ≤ sizeLine) (h4 : d.depth ≤ 60) (h5 : SeqAt.shaped d = true) : Fine K H v :=
  ⟨⟨d, .inl ⟨h, h1⟩, h2, h3, h4⟩, .inr (.inl ⟨d, h, h5⟩)⟩
end Vb
end
section
set_option Elab.async false
set_option linter.all false
set_option maxRecDepth 100000
set_option autoImplicit false
set_option maxHeartbeats 1000000
/-! Written data: displays of constants. -/
namespace Vb
open PySem L2 PySem.Spec PyProof.Rows
section
variable {X : Cx} {e : Expr} {es : List Expr} {pos : Pos} {te : TE} {ta : TA}
theorem pe_imp {t t' : TE} (h : ∀ σ H Q, t' σ H Q → t σ H Q) (he : PE X e t) : PE X e t' := ⟨fun pins s σ H Q I z => he.run pins s σ H Q I (h _ _ _ z)⟩
def tWkA (ta : TA) : TA := fun σ H Q => ∃ Q1 : List V → Hp → Prop, ta σ H Q1 ∧ ∀ v H', Q1 v H' → Q v H'
theorem pa_wk (ha : PA X es ta) : PA X es (tWkA ta) := ⟨fun pos pins s σ H Q I ⟨Q1, h, f⟩ => wpAny_mono (ha.run pos pins s σ H Q1 I h) (fun us s' q => by
  obtain ⟨xs, H', J, r, q⟩ := q
  exact ⟨xs, H', J, r, f _ _ q⟩) fun _ _ y => y⟩
/-- the heap without what stands at p -/
def hide (p : Addr) (H : Hp) : Hp := fun b => if b = p then none else H b
theorem hide_ne {p b : Addr} {H : Hp} (h : b ≠ p) : hide p H b = H b := if_neg h
theorem hide_same {p : Addr} {H G : Hp} (s : Same H G) : Same (hide p H) (hide p G) := fun b o e => by
  by_cases h : b = p
  · rw [h] at e
    rw [show hide p H p = none from if_pos rfl] at e
    cases e
  · rw [hide_ne h] at e ⊢
    exact s _ _ e
theorem hide_but {p : Addr} {H G : Hp} (s : SameBut p H G) : Same (hide p H) G := fun b o e => by
  by_cases h : b = p
  · rw [h] at e
    rw [show hide p H p = none from if_pos rfl] at e
    cases e
  · rw [hide_ne h] at e
    exact s _ _ h e
/-- an expression of this datum, apart from p; all that was tracked stays -/
def tDat (K : PySem.W.Frag) (p : Addr) (d : PyData) : TE := fun σ H Q => (∃ o, H p = some o) ∧ ∀ (x : V) (G : Hp), Same H G → Dp K (hide p G) x d → Q x G
def tDats (K : PySem.W.Frag) (p : Addr) (ds : List PyData) : TA := fun σ H Q => (∃ o, H p = some o) ∧ ∀ (xs : List V) (G : Hp), Same H G → DpAll K (hide p G) xs ds → Q xs G
variable {q : Addr}
theorem dat_int {i : Int} {k : Nat} : PE X (.Constant (.int i) k pos) (tDat X.K q (.int i)) := pe_imp (fun σ H Q k => k.2 _ H (.refl _) (.int i)) pe_int
theorem dat_neg {i : Int} {k : Nat} {p : Pos} : PE X (.UnaryOp .USub (.Constant (.int i) k p) pos) (tDat X.K q (.int (-i))) := pe_imp (fun σ H Q k => ⟨i, rfl, k.2 _ H (.refl _) (.int (-i))⟩) (pe_un un_neg pe_int)
theorem dat_c {v : V} {d : PyData} (h : PE X e (tC v)) (hd : ∀ H, Dp X.K H v d) : PE X e (tDat X.K q d) := pe_imp (fun σ H Q k => k.2 _ H (.refl _) (hd _)) h
theorem dats_nil : PA X [] (tDats X.K q []) := pa_imp (fun σ H Q k => k.2 [] H (.refl _) .nil) pa_nil
theorem dats_cons {d : PyData} {ds : List PyData} (he : PE X e (tDat X.K q d)) (ha : PA X es (tDats X.K q ds)) (hs : starEach (e :: es) X.env = (false, eval e X.env) :: starEach es X.env := by rfl) : PA X (e :: es) (tDats X.K q (d :: ds)) :=
  pa_imp (fun σ H Q ⟨⟨o, ho⟩, k⟩ => ⟨⟨o, ho⟩, fun x G s1 hd => ⟨⟨o, s1 _ _ ho⟩, fun xs G2 s2 hds => k _ G2 (s1.trans s2) (.cons (dp_same (hide_same s2) hd) hds)⟩⟩) (pa_cons he ha hs)
theorem dps_len {K : PySem.W.Frag} {H : Hp} : ∀ {xs : List V} {ds : List PyData}, DpAll K H xs ds → xs.length = ds.length
  | _, _, .nil => rfl
  | _, _, .cons _ a => congrArg (· + 1) (dps_len a)
theorem dat_tup {x1} {ds : List PyData} (ha : PA X es (tDats X.K q ds)) (hz : ds.length ≤ 1000) : PE X (.Tuple es x1 pos) (tDat X.K q (.tuple ds)) :=
  pe_imp (fun σ H Q ⟨⟨o, ho⟩, k⟩ => ⟨⟨o, ho⟩, fun xs G s1 hds => ⟨Nat.le_trans (dps_len hds ▸ hz) (by decide), fun p n => k _ _ (s1.trans (Same.new n)) (.tup (SqT.of (by rw [hide_ne (ne_of_none (s1 _ _ ho) n).symm, upd_same])) (dps_same (hide_same (Same.new n)) hds))⟩⟩) (pe_tup ha)
theorem dat_lst {ds : List PyData} (ha : PA X es (tDats X.K q ds)) (hz : ds.length ≤ 1000) : PE X (.List es pos) (tDat X.K q (.list ds)) :=
  pe_imp (fun σ H Q ⟨⟨o, ho⟩, k⟩ => ⟨⟨o, ho⟩, fun xs G s1 hds => ⟨Nat.le_trans (dps_len hds ▸ hz) (by decide), fun p n => k _ _ (s1.trans (Same.new n)) (.lst (SqL.of (by rw [hide_ne (ne_of_none (s1 _ _ ho) n).symm, upd_same])) (dps_same (hide_same (Same.new n)) hds))⟩⟩) (pe_lst ha)
/-- an expression of a fine value, apart from p -/
def tFine (K : PySem.W.Frag) (p : Addr) : TE := fun σ H Q => (∃ o, H p = some o) ∧ ∀ (x : V) (G : Hp), Same H G → Fine K (hide p G) x → Q x G
def tFines (K : PySem.W.Frag) (p : Addr) (n : Nat) : TA := fun σ H Q => (∃ o, H p = some o) ∧ ∀ (xs : List V) (G : Hp), Same H G → xs.length = n → (∀ x ∈ xs, Fine K (hide p G) x) → Q xs G
theorem fine_d {d : PyData} (h : PE X e (tDat X.K q d)) (h1 : d.hasDict = false) (h2 : d.showable = true) (h3 : d.shown.length ≤ sizeLine) (h4 : d.depth ≤ 60) (h5 : SeqAt.shaped d = true) : PE X e (tFine X.K q) :=
  pe_imp (fun σ H Q k => ⟨k.1, fun x G s hd => k.2 x G s (.dp hd h1 h2 h3 h4 h5)⟩) h
theorem fines_nil : PA X [] (tFines X.K q 0) := pa_imp (fun σ H Q k => k.2 [] H (.refl _) rfl fun x h => absurd h (List.not_mem_nil)) pa_nil
theorem fines_cons {n : Nat} (he : PE X e (tFine X.K q)) (ha : PA X es (tFines X.K q n)) (hs : starEach (e :: es) X.env = (false, eval e X.env) :: starEach es X.env := by rfl) : PA X (e :: es) (tFines X.K q (n + 1)) :=
  pa_imp (fun σ H Q ⟨⟨o, ho⟩, k⟩ => ⟨⟨o, ho⟩, fun x G s1 hx => ⟨⟨o, s1 _ _ ho⟩, fun xs G2 s2 hl hxs => k _ G2 (s1.trans s2) (by simp [hl]) fun y hy => by
    rcases List.mem_cons.mp hy with rfl | hy
    · exact hx.same (hide_same s2)
    · exact hxs y hy⟩⟩) (pa_cons he ha hs)
/-- a dict of scalars under text keys is fine -/
theorem fine_dict {K : PySem.W.Frag} {H : Hp} {a : Addr} {kvs : List (Key × V)} (ds : List PyData) (h : H a = some (.dK kvs)) (e : kvs.map (fun p => sD p.2) = ds.map some) (h2 : (PyData.dict ((kvs.map fun p => kD p.1).zip ds)).showable = true)
    (h3 : (PyData.dict ((kvs.map fun p => kD p.1).zip ds)).shown.length ≤ sizeLine) (h4 : (PyData.dict ((kvs.map fun p => kD p.1).zip ds)).depth ≤ 60) (h5 : ∀ p ∈ kvs, valV kvs p.1 = some p.2 ∧ flatB p.2 = true) : Fine K H (.ref a) :=
  ⟨⟨_, .inr ⟨a, kvs, ds, rfl, h, e, rfl⟩, h2, h3, h4⟩, .inr (.inr ⟨a, kvs, rfl, h, h5⟩)⟩
theorem fine_d0 : PE X (.Dict [] [] pos) (tFine X.K q) := pe_imp (fun σ H Q ⟨⟨o, ho⟩, k⟩ p n => k _ _ (Same.new n) (fine_dict (kvs := []) [] (by rw [hide_ne (ne_of_none ho n).symm, upd_same]) rfl rfl (by decide +kernel) (by decide) fun p hp => absurd hp (List.not_mem_nil))) pe_dnewK
theorem fine_d1 {z : Str} {v : V} {d : PyData} {k v' : Expr} (hk : PE X k (tC (.str z))) (hv : PE X v' (tC v)) (hd : sD v = some d) (hf : flatB v = true) (h2 : (PyData.dict [(.str z, d)]).showable = true) (h3 : (PyData.dict [(.str z, d)]).shown.length ≤ sizeLine)
    (h4 : (PyData.dict [(.str z, d)]).depth ≤ 60) : PE X (.Dict [some k] [v'] pos) (tFine X.K q) :=
  pe_imp (fun σ H Q ⟨⟨o, ho⟩, k⟩ p n => ⟨upd_same, [(.inr z, v)], rfl, by show 1 ≤ 15; decide, by
    have em : mergeK [] [((Sum.inr z : Key), v)] = [((Sum.inr z : Key), v)] := rfl
    rw [upd_upd, em]
    exact k _ _ (Same.new n) (fine_dict (kvs := [((Sum.inr z : Key), v)]) [d] (by rw [hide_ne (ne_of_none ho n).symm, upd_same]) (by show [sD v] = [some d]; rw [hd]) h2 h3 h4 fun p hp => by
      obtain rfl : p = (Sum.inr z, v) := by simpa using hp
      refine ⟨?_, hf⟩
      show ([(Sum.inr z, v)].find? fun kv => decide (kv.1 = Sum.inr z)).map (·.2) = some v
      simp)⟩) (pe_disp (pps_cons hk hv pps_nil) rfl rfl (fun z => by cases z) (by show 1 ≤ 15; decide))
end
end Vb
end
section
set_option Elab.async false
set_option linter.all false
set_option maxRecDepth 100000
set_option autoImplicit false
set_option maxHeartbeats 1000000
/-! Readings without a heap: expressions over data. -/
namespace Vd
open PySem L2 PySem.Spec Vb
open PyProof.Rows hiding St

/-- data; pot: the pot of draws; op: a value of any other kind -/
inductive D where
  | non | bl (b : Bool) | int (i : Int) | str (z : Str)
  | lst (xs : List D) | tup (xs : List D)
  | dk (kvs : List (Key × D)) | ins (C : Addr) (fs : List (Str × D))
  | pot | op (v : V)

mutual
inductive Dn (K : PySem.W.Frag) (pt : Option Addr) (B : Hp) : V → D → Prop
  | non : Dn K pt B .non .non
  | bl (b : Bool) : Dn K pt B (.bl b) (.bl b)
  | int (i : Int) : Dn K pt B (.int i) (.int i)
  | str (z : Str) : Dn K pt B (.str z) (.str z)
  | lst {a : Addr} {xs : List V} {ds : List D} : B a = some (.lst xs) → DnAll K pt B xs ds → Dn K pt B (.ref a) (.lst ds)
  | tup {a : Addr} {xs : List V} {ds : List D} : SqT K B a xs → DnAll K pt B xs ds → Dn K pt B (.ref a) (.tup ds)
  | dk {a : Addr} {hs : List (Key × V)} {kvs : List (Key × D)} : B a = some (.dK hs) → hs.map (·.1) = kvs.map (·.1) → DnAll K pt B (hs.map (·.2)) (kvs.map (·.2)) → Dn K pt B (.ref a) (.dk kvs)
  | ins {a C dx : Addr} {hs : List (Str × V)} {fs : List (Str × D)} : B a = some (.ins C dx hs) → hs.map (·.1) = fs.map (·.1) → DnAll K pt B (hs.map (·.2)) (fs.map (·.2)) → Dn K pt B (.ref a) (.ins C fs)
  | pot {p : Addr} : pt = some p → Dn K pt B (.ref p) .pot
  | op (v : V) : Dn K pt B v (.op v)
inductive DnAll (K : PySem.W.Frag) (pt : Option Addr) (B : Hp) : List V → List D → Prop
  | nil : DnAll K pt B [] []
  | cons {v : V} {vs : List V} {d : D} {ds : List D} : Dn K pt B v d → DnAll K pt B vs ds → DnAll K pt B (v :: vs) (d :: ds)
end
section
variable {K : PySem.W.Frag} {pt : Option Addr} {B B' : Hp}
theorem sqL_same {a : Addr} {xs : List V} (e : Same B B') (h : SqL K B a xs) : SqL K B' a xs := e.seq h
theorem sqT_same {a : Addr} {xs : List V} (e : Same B B') (h : SqT K B a xs) : SqT K B' a xs := by
  rcases h with (h | ⟨o, h⟩) | h
  · exact .inl (.inl (e _ _ h))
  · exact .inl (.inr ⟨o, e _ _ h⟩)
  · exact .inr h
mutual
theorem Dn.mono (e : Same B B') : ∀ {v : V} {d : D}, Dn K pt B v d → Dn K pt B' v d
  | _, _, .non => .non
  | _, _, .bl b => .bl b
  | _, _, .int i => .int i
  | _, _, .str z => .str z
  | _, _, .lst h r => .lst (e _ _ h) (DnAll.mono e r)
  | _, _, .tup h r => .tup (sqT_same e h) (DnAll.mono e r)
  | _, _, .dk h k r => .dk (e _ _ h) k (DnAll.mono e r)
  | _, _, .ins h k r => .ins (e _ _ h) k (DnAll.mono e r)
  | _, _, .pot h => .pot h
  | _, _, .op v => .op v
theorem DnAll.mono (e : Same B B') : ∀ {vs : List V} {ds : List D}, DnAll K pt B vs ds → DnAll K pt B' vs ds
  | _, _, .nil => .nil
  | _, _, .cons h r => .cons (Dn.mono e h) (DnAll.mono e r)
end
theorem DnAll.length : ∀ {vs : List V} {ds : List D}, DnAll K pt B vs ds → vs.length = ds.length
  | _, _, .nil => rfl
  | _, _, .cons _ r => by rw [List.length_cons, List.length_cons, DnAll.length r]
theorem DnAll.get : ∀ {vs : List V} {ds : List D} {i : Nat} {d : D}, DnAll K pt B vs ds → ds[i]? = some d → ∃ v, vs[i]? = some v ∧ Dn K pt B v d
  | _, _, _, _, .nil, e => by simp at e
  | _, _, 0, _, .cons h _, e => by
    simp at e
    subst e
    exact ⟨_, rfl, h⟩
  | _, _, i + 1, _, .cons _ r, e => by
    obtain ⟨v, h1, h2⟩ := DnAll.get (i := i) r (by simpa using e)
    exact ⟨v, by simpa using h1, h2⟩
theorem DnAll.getv : ∀ {vs : List V} {ds : List D} {i : Nat} {v : V}, DnAll K pt B vs ds → vs[i]? = some v → ∃ d, ds[i]? = some d ∧ Dn K pt B v d
  | _, _, _, _, .nil, e => by simp at e
  | _, _, 0, _, .cons h _, e => by
    simp at e
    subst e
    exact ⟨_, rfl, h⟩
  | _, _, i + 1, _, .cons _ r, e => by
    obtain ⟨v, h1, h2⟩ := DnAll.getv (i := i) r (by simpa using e)
    exact ⟨v, by simpa using h1, h2⟩
theorem DnAll.append : ∀ {vs ws : List V} {ds es : List D}, DnAll K pt B vs ds → DnAll K pt B ws es → DnAll K pt B (vs ++ ws) (ds ++ es)
  | _, _, _, _, .nil, s => s
  | _, _, _, _, .cons h r, s => .cons h (DnAll.append r s)
theorem DnAll.take : ∀ {vs : List V} {ds : List D} (n : Nat), DnAll K pt B vs ds → DnAll K pt B (vs.take n) (ds.take n)
  | _, _, 0, _ => .nil
  | _, _, _ + 1, .nil => .nil
  | _, _, n + 1, .cons h r => .cons h (DnAll.take n r)
theorem DnAll.drop : ∀ {vs : List V} {ds : List D} (n : Nat), DnAll K pt B vs ds → DnAll K pt B (vs.drop n) (ds.drop n)
  | _, _, 0, r => r
  | _, _, _ + 1, .nil => .nil
  | _, _, n + 1, .cons _ r => DnAll.drop n r
theorem DnAll.reverse : ∀ {vs : List V} {ds : List D}, DnAll K pt B vs ds → DnAll K pt B vs.reverse ds.reverse
  | _, _, .nil => .nil
  | _, _, .cons h r => by
    rw [List.reverse_cons, List.reverse_cons]
    exact DnAll.append (DnAll.reverse r) (.cons h .nil)
theorem DnAll.one {vs : List V} {d : D} (h : DnAll K pt B vs [d]) : ∃ v, vs = [v] ∧ Dn K pt B v d := by
  cases h with
  | cons h r => cases r; exact ⟨_, rfl, h⟩
theorem DnAll.two {vs : List V} {d e : D} (h : DnAll K pt B vs [d, e]) : ∃ v u, vs = [v, u] ∧ Dn K pt B v d ∧ Dn K pt B u e := by
  cases h with
  | cons h r =>
    obtain ⟨u, rfl, q⟩ := r.one
    exact ⟨_, _, rfl, h, q⟩
theorem DnAll.ints : ∀ {vs : List V} {ns : List Int}, DnAll K pt B vs (ns.map D.int) → vs = ns.map V.int
  | _, [], h => by cases h; rfl
  | _, n :: ns, h => by
    cases h with
    | cons h r => cases h; rw [DnAll.ints r]; rfl
theorem DnAll.of_ints : ∀ (ns : List Int), DnAll K pt B (ns.map V.int) (ns.map D.int)
  | [] => .nil
  | _ :: ns => .cons (.int _) (DnAll.of_ints ns)
theorem DnAll.strs : ∀ {vs : List V} {ns : List Str}, DnAll K pt B vs (ns.map D.str) → vs = ns.map V.str
  | _, [], h => by cases h; rfl
  | _, n :: ns, h => by
    cases h with
    | cons h r => cases h; rw [DnAll.strs r]; rfl
theorem DnAll.of_strs : ∀ (ns : List Str), DnAll K pt B (ns.map V.str) (ns.map D.str)
  | [] => .nil
  | _ :: ns => .cons (.str _) (DnAll.of_strs ns)
theorem DnAll.bls : ∀ {vs : List V} {ns : List Bool}, DnAll K pt B vs (ns.map D.bl) → vs = ns.map V.bl
  | _, [], h => by cases h; rfl
  | _, n :: ns, h => by
    cases h with
    | cons h r => cases h; rw [DnAll.bls r]; rfl
end

/-- a heap without the things at S -/
def Wo (S : List Addr) (H : Hp) : Hp := fun b => if b ∈ S then none else H b
/-- all is as it was, but the pot -/
def SameX (pt : Option Addr) (H H' : Hp) : Prop := ∀ b o, pt ≠ some b → H b = some o → H' b = some o
theorem SameX.refl (pt : Option Addr) (H : Hp) : SameX pt H H := fun _ _ _ h => h
theorem SameX.trans {pt : Option Addr} {H H1 H2 : Hp} (a : SameX pt H H1) (b : SameX pt H1 H2) : SameX pt H H2 := fun c o n h => b c o n (a c o n h)
theorem SameX.of {pt : Option Addr} {H H' : Hp} (e : Same H H') : SameX pt H H' := fun b o _ h => e b o h
theorem Wo.none {S : List Addr} {H : Hp} {b : Addr} (h : b ∈ S) : Wo S H b = none := if_pos h
theorem Wo.out {S : List Addr} {H : Hp} {b : Addr} (h : b ∉ S) : Wo S H b = H b := if_neg h
theorem Wo.some {S : List Addr} {H : Hp} {b : Addr} {o : HO} (h : Wo S H b = some o) : b ∉ S ∧ H b = some o := by
  unfold Wo at h
  split at h
  · cases h
  · exact ⟨by assumption, h⟩
theorem Wo.sub (S : List Addr) (H : Hp) : Same (Wo S H) H := fun b o h => (Wo.some h).2
theorem Wo.mono {pt : Option Addr} {S : List Addr} {H H' : Hp} (hp : ∀ p, pt = Option.some p → p ∈ S) (e : SameX pt H H') : Same (Wo S H) (Wo S H') := fun b o h => by
  obtain ⟨n, q⟩ := Wo.some h
  rw [Wo.out n]
  exact e b o (fun z => n (hp b z)) q
theorem Wo.same {S : List Addr} {H H' : Hp} (e : Same H H') : Same (Wo S H) (Wo S H') := fun b o h => by
  obtain ⟨n, q⟩ := Wo.some h
  rw [Wo.out n]
  exact e b o q
theorem Wo.less {S S' : List Addr} {H : Hp} (h : ∀ b ∈ S, b ∈ S') : Same (Wo S' H) (Wo S H) := fun b o q => by
  obtain ⟨n, q⟩ := Wo.some q
  rw [Wo.out fun z => n (h b z)]
  exact q

/-- what a name stands for: a datum, or a list of its own that may still grow -/
inductive C where
  | d (x : D) | own (a : Addr) (ds : List D)
abbrev Rho := List (Option C)
def CellOk (K : PySem.W.Frag) (pt : Option Addr) (H0 : Hp) (S : List Addr) (H : Hp) (v : V) : C → Prop
  | .d x => Dn K pt (Wo S H) v x
  | .own a ds => v = .ref a ∧ a ∈ S ∧ H0 a = none ∧ pt ≠ some a ∧ ∃ vs, H a = some (.lst vs) ∧ DnAll K pt (Wo S H) vs ds
def PotX (pt : Option Addr) (H : Hp) (m : Nat) : Prop := ∀ p, pt = some p → PotAt H p m
theorem PotX.same {pt : Option Addr} {H H' : Hp} {m : Nat} (h : PotX pt H m) (e : Same H H') : PotX pt H' m := fun p q => (h p q).same e
/-- where one stands: H0, S0 as they were at the def's begin -/
structure Ev (K : PySem.W.Frag) (pt : Option Addr) (S0 : List Addr) (H0 : Hp) (S : List Addr) (σ : St) (H : Hp) (ρ : Rho) (m : Nat) : Prop where
  dom0 : ∀ b ∈ S0, H0 b ≠ none
  dom : ∀ b ∈ S, H b ≠ none
  sub : ∀ b ∈ S, b ∈ S0 ∨ H0 b = none
  inc : ∀ b ∈ S0, b ∈ S
  frm : SameX pt H0 H
  ptS : ∀ p, pt = some p → p ∈ S0
  pot : PotX pt H m
  len : σ.length = ρ.length
  var : ∀ (i : Nat) (c : C), ρ[i]? = some (some c) → ∃ v, σ[i]? = some (some v) ∧ CellOk K pt H0 S H v c
  dis : ∀ (i j : Nat) (a : Addr) (ds es : List D), i ≠ j → ρ[i]? = some (some (.own a ds)) → ρ[j]? ≠ some (some (.own a es))
section
variable {K : PySem.W.Frag} {pt : Option Addr} {S0 S : List Addr} {H0 H H' : Hp} {σ : St} {ρ : Rho} {m m' : Nat}
theorem Ev.pS (E : Ev K pt S0 H0 S σ H ρ m) : ∀ p, pt = some p → p ∈ S := fun p e => E.inc p (E.ptS p e)
theorem Ev.wo (E : Ev K pt S0 H0 S σ H ρ m) (e : SameX pt H H') : Same (Wo S H) (Wo S H') := Wo.mono E.pS e
theorem PotX.dom (h : PotX pt H m) {p : Addr} (e : pt = some p) : H p ≠ none := by
  obtain ⟨a, b, c, q, _⟩ := h p e
  rw [q]
  exact fun z => nomatch z
/-- something was reckoned -/
theorem Ev.step (E : Ev K pt S0 H0 S σ H ρ m) (e : SameX pt H H') (hp : PotX pt H' m') : Ev K pt S0 H0 S σ H' ρ m' where
  dom0 := E.dom0
  dom := fun b hb => by
    by_cases q : pt = some b
    · exact hp.dom q
    · cases h : H b with
      | none => exact absurd h (E.dom b hb)
      | some o => rw [e b o q h]; exact fun z => nomatch z
  sub := E.sub
  inc := E.inc
  frm := E.frm.trans e
  ptS := E.ptS
  pot := hp
  len := E.len
  var := fun i c h => by
    obtain ⟨v, q, r⟩ := E.var i c h
    refine ⟨v, q, ?_⟩
    cases c with
    | d x => exact Dn.mono (E.wo e) r
    | own a ds =>
      obtain ⟨r1, r2, r3, r4, vs, r5, r6⟩ := r
      exact ⟨r1, r2, r3, r4, vs, e _ _ r4 r5, DnAll.mono (E.wo e) r6⟩
  dis := E.dis
theorem Ev.same (E : Ev K pt S0 H0 S σ H ρ m) (e : Same H H') : Ev K pt S0 H0 S σ H' ρ m := E.step (.of e) (E.pot.same e)
end

abbrev TD := Rho → Nat → (D → Nat → Prop) → Prop
abbrev TDA := Rho → Nat → (List D → Nat → Prop) → Prop
abbrev TDT := Rho → Nat → (Bool → Nat → Prop) → Prop
def MnE (t : TD) : Prop := ∀ ρ m (Q Q' : D → Nat → Prop), (∀ d n, Q d n → Q' d n) → t ρ m Q → t ρ m Q'
def MnA (t : TDA) : Prop := ∀ ρ m (Q Q' : List D → Nat → Prop), (∀ d n, Q d n → Q' d n) → t ρ m Q → t ρ m Q'
def MnT (t : TDT) : Prop := ∀ ρ m (Q Q' : Bool → Nat → Prop), (∀ d n, Q d n → Q' d n) → t ρ m Q → t ρ m Q'
def lfE (K : PySem.W.Frag) (t : TD) : TE := fun σ H Q => ∃ pt S0 H0 S ρ m, Ev K pt S0 H0 S σ H ρ m ∧ t ρ m fun d m' => ∀ v H', SameX pt H H' → Ev K pt S0 H0 S σ H' ρ m' → Dn K pt (Wo S H') v d → Q v H'
def lfA (K : PySem.W.Frag) (t : TDA) : TA := fun σ H Q => ∃ pt S0 H0 S ρ m, Ev K pt S0 H0 S σ H ρ m ∧ t ρ m fun ds m' => ∀ vs H', SameX pt H H' → Ev K pt S0 H0 S σ H' ρ m' → DnAll K pt (Wo S H') vs ds → Q vs H'
def lfT (K : PySem.W.Frag) (t : TDT) : TT := fun σ H Q => ∃ pt S0 H0 S ρ m, Ev K pt S0 H0 S σ H ρ m ∧ t ρ m fun b m' => ∀ H', SameX pt H H' → Ev K pt S0 H0 S σ H' ρ m' → Q b H'
structure DE (X : Cx) (e : Expr) (t : TD) : Prop where
  pe : PE X e (lfE X.K t)
  mn : MnE t
structure DA (X : Cx) (es : List Expr) (t : TDA) : Prop where
  pa : PA X es (lfA X.K t)
  mn : MnA t
structure DT (X : Cx) (e : Expr) (t : TDT) : Prop where
  pt : PT X e (lfT X.K t)
  mn : MnT t
/-- to weaken a reading -/
theorem pe_wk' {X : Cx} {e : Expr} {t u : TE} (h : PE X e t) (w : ∀ σ H Q, u σ H Q → t σ H Q) : PE X e u := ⟨fun pins s σ H Q I q => h.run pins s σ H Q I (w σ H Q q)⟩
theorem pa_wk' {X : Cx} {e : List Expr} {t u : TA} (h : PA X e t) (w : ∀ σ H Q, u σ H Q → t σ H Q) : PA X e u := ⟨fun pos pins s σ H Q I q => h.run pos pins s σ H Q I (w σ H Q q)⟩
theorem pt_wk' {X : Cx} {e : Expr} {t u : TT} (h : PT X e t) (w : ∀ σ H Q, u σ H Q → t σ H Q) : PT X e u := ⟨fun pins s σ H Q I q => h.run pins s σ H Q I (w σ H Q q)⟩

/-! ### operators by values -/
def dOp2 (f : D → D → Option D) (ta tb : TD) : TD := fun ρ m Q => ta ρ m fun x m1 => tb ρ m1 fun y m2 => ∃ d, f x y = some d ∧ Q d m2
def dOp1 (f : D → Option D) (ta : TD) : TD := fun ρ m Q => ta ρ m fun x m1 => ∃ d, f x = some d ∧ Q d m1
def dCall (f : List D → Option D) (ta : TDA) : TD := fun ρ m Q => ta ρ m fun xs m1 => ∃ d, f xs = some d ∧ Q d m1
/-- r is sound for f -/
def S2 (K : PySem.W.Frag) (r : R2) (f : D → D → Option D) : Prop := ∀ (pt : Option Addr) (S : List Addr) (H : Hp) (x y : V) (a b d : D) (Q : VK), (∀ b ∈ S, H b ≠ none) → Dn K pt (Wo S H) x a → Dn K pt (Wo S H) y b → f a b = some d →
  (∀ v H', Same H H' → Dn K pt (Wo S H') v d → Q v H') → r x y H Q
def S1 (K : PySem.W.Frag) (r : V → Hp → VK → Prop) (f : D → Option D) : Prop := ∀ (pt : Option Addr) (S : List Addr) (H : Hp) (x : V) (a d : D) (Q : VK), (∀ b ∈ S, H b ≠ none) → Dn K pt (Wo S H) x a → f a = some d →
  (∀ v H', Same H H' → Dn K pt (Wo S H') v d → Q v H') → r x H Q
def SC (K : PySem.W.Frag) (r : List V → Hp → VK → Prop) (f : List D → Option D) : Prop := ∀ (pt : Option Addr) (S : List Addr) (H : Hp) (xs : List V) (as : List D) (d : D) (Q : VK), (∀ b ∈ S, H b ≠ none) → DnAll K pt (Wo S H) xs as → f as = some d →
  (∀ v H', Same H H' → Dn K pt (Wo S H') v d → Q v H') → r xs H Q
section
variable {X : Cx} {a b e : Expr} {es : List Expr} {pos : Pos} {ta tb te : TD} {t : TDA}
theorem lf_op2 {K : PySem.W.Frag} {r : R2} {f : D → D → Option D} (s : S2 K r f) (ma : MnE ta) (mb : MnE tb) : ∀ σ H Q, lfE K (dOp2 f ta tb) σ H Q → tOp r (lfE K ta) (lfE K tb) σ H Q := by
  rintro σ H Q ⟨pt, S0, H0, S, ρ, m, E, h⟩
  refine ⟨pt, S0, H0, S, ρ, m, E, ma _ _ _ _ (fun x m1 h1 v H1 e1 E1 x1 => ?_) h⟩
  refine ⟨pt, S0, H0, S, ρ, m1, E1, mb _ _ _ _ (fun y m2 h2 u H2 e2 E2 y2 => ?_) h1⟩
  obtain ⟨d, q, h2⟩ := h2
  exact s pt S H2 v u x y d Q E2.dom (Dn.mono (E1.wo e2) x1) y2 q fun v' H' e' r' => h2 v' H' ((e1.trans e2).trans (.of e')) (E2.same e') r'
theorem mn_op2 {f : D → D → Option D} (ma : MnE ta) (mb : MnE tb) : MnE (dOp2 f ta tb) := fun ρ m Q Q' w h => ma _ _ _ _ (fun x m1 h1 => mb _ _ _ _ (fun y m2 ⟨d, q, h2⟩ => ⟨d, q, w _ _ h2⟩) h1) h
theorem de_op {op : Operator} {r : R2} {f : D → D → Option D} (ho : OpR X (binaryOp op) r) (s : S2 X.K r f) (ha : DE X a ta) (hb : DE X b tb) : DE X (.BinOp a op b pos) (dOp2 f ta tb) :=
  ⟨pe_wk' (pe_op ho ha.pe hb.pe) (lf_op2 s ha.mn hb.mn), mn_op2 ha.mn hb.mn⟩
theorem de_cmp {op : CmpOp} {r : R2} {f : D → D → Option D} (ho : OpR X (compareOp op) r) (s : S2 X.K r f) (ha : DE X a ta) (hb : DE X b tb) (hm : behindInMarks op b = false) : DE X (.Compare a [op] [b] pos) (dOp2 f ta tb) :=
  ⟨pe_wk' (pe_cmpR ho ha.pe hb.pe hm) (lf_op2 s ha.mn hb.mn), mn_op2 ha.mn hb.mn⟩
theorem de_ix {r : R2} {f : D → D → Option D} (hr : IxR X r) (s : S2 X.K r f) (ha : DE X a ta) (hb : DE X b tb) (hs : PlainIx b) : DE X (.Subscript a b pos) (dOp2 f ta tb) :=
  ⟨pe_wk' (pe_ix hr ha.pe hb.pe hs) (lf_op2 s ha.mn hb.mn), mn_op2 ha.mn hb.mn⟩
theorem de_un {op : UnaryOp} {r : V → Hp → VK → Prop} {f : D → Option D} (ho : UnR X (unaryOp op) r) (s : S1 X.K r f) (ha : DE X a ta) : DE X (.UnaryOp op a pos) (dOp1 f ta) := by
  refine ⟨pe_wk' (pe_un ho ha.pe) ?_, fun ρ m Q Q' w h => ha.mn _ _ _ _ (fun x m1 ⟨d, q, h2⟩ => ⟨d, q, w _ _ h2⟩) h⟩
  rintro σ H Q ⟨pt, S0, H0, S, ρ, m, E, h⟩
  refine ⟨pt, S0, H0, S, ρ, m, E, ha.mn _ _ _ _ (fun x m1 h1 v H1 e1 E1 x1 => ?_) h⟩
  obtain ⟨d, q, h2⟩ := h1
  exact s pt S H1 v x d Q E1.dom x1 q fun v' H' e' r' => h2 v' H' (e1.trans (.of e')) (E1.same e') r'
/-! ### names, constants, argument lists -/
def dVar (i : Nat) : TD := fun ρ m Q => ∃ d, ρ[i]? = some (some (.d d)) ∧ Q d m
def dC (d : D) : TD := fun ρ m Q => Q d m
theorem mn_var {i : Nat} : MnE (dVar i) := fun ρ m Q Q' w ⟨d, q, h⟩ => ⟨d, q, w _ _ h⟩
theorem mn_c {d : D} : MnE (dC d) := fun ρ m Q Q' w h => w _ _ h
theorem lf_var {K : PySem.W.Frag} {i : Nat} : ∀ σ H Q, lfE K (dVar i) σ H Q → tVar i σ H Q := by
  rintro σ H Q ⟨pt, S0, H0, S, ρ, m, E, d, q, h⟩
  obtain ⟨v, hv, r⟩ := E.var _ _ q
  exact ⟨v, hv, h v H (.refl _ _) E r⟩
theorem lf_c {K : PySem.W.Frag} {v : V} {d : D} (hd : ∀ pt B, Dn K pt B v d) : ∀ σ H Q, lfE K (dC d) σ H Q → tC v σ H Q := by
  rintro σ H Q ⟨pt, S0, H0, S, ρ, m, E, h⟩
  exact h v H (.refl _ _) E (hd _ _)
def aNil : TDA := fun _ m Q => Q [] m
def aCons (ta : TD) (tr : TDA) : TDA := fun ρ m Q => ta ρ m fun x m1 => tr ρ m1 fun xs m2 => Q (x :: xs) m2
theorem da_nil : DA X [] aNil := by
  refine ⟨pa_wk' pa_nil ?_, fun ρ m Q Q' w h => w _ _ h⟩
  rintro σ H Q ⟨pt, S0, H0, S, ρ, m, E, h⟩
  exact h [] H (.refl _ _) E .nil
theorem da_cons (ha : DE X e te) (hr : DA X es t) (hs : starEach (e :: es) X.env = (false, eval e X.env) :: starEach es X.env := by rfl) : DA X (e :: es) (aCons te t) := by
  refine ⟨pa_wk' (pa_cons ha.pe hr.pa hs) ?_, fun ρ m Q Q' w h => ha.mn _ _ _ _ (fun x m1 h1 => hr.mn _ _ _ _ (fun y m2 h2 => w _ _ h2) h1) h⟩
  rintro σ H Q ⟨pt, S0, H0, S, ρ, m, E, h⟩
  refine ⟨pt, S0, H0, S, ρ, m, E, ha.mn _ _ _ _ (fun x m1 h1 v H1 e1 E1 x1 => ?_) h⟩
  refine ⟨pt, S0, H0, S, ρ, m1, E1, hr.mn _ _ _ _ (fun y m2 h2 u H2 e2 E2 y2 => ?_) h1⟩
  exact h2 (v :: u) H2 (e1.trans e2) E2 (.cons (Dn.mono (E1.wo e2) x1) y2)
theorem mn_call {f : List D → Option D} {t : TDA} (ha : MnA t) : MnE (dCall f t) := fun ρ m Q Q' w h => ha _ _ _ _ (fun x m1 ⟨d, q, h2⟩ => ⟨d, q, w _ _ h2⟩) h
theorem lf_call {K : PySem.W.Frag} {r : List V → Hp → VK → Prop} {f : List D → Option D} {t : TDA} (s : SC K r f) (ma : MnA t) : ∀ σ H Q, lfE K (dCall f t) σ H Q → lfA K t σ H fun vs H1 => r vs H1 Q := by
  rintro σ H Q ⟨pt, S0, H0, S, ρ, m, E, h⟩
  refine ⟨pt, S0, H0, S, ρ, m, E, ma _ _ _ _ (fun x m1 h1 v H1 e1 E1 x1 => ?_) h⟩
  obtain ⟨d, q, h2⟩ := h1
  exact s pt S H1 v x d Q E1.dom x1 q fun v' H' e' r' => h2 v' H' (e1.trans (.of e')) (E1.same e') r'
theorem de_callB {id : String} {x : Str} {p pos : Pos} {r : List V → Hp → VK → Prop} {f : List D → Option D} (hc : CallR X (.builtin id) r) (s : SC X.K r f) (hg : Gl X x) (hm : X.mg x = none) (hv : bootBuiltins x = some (.builtin id)) (ha : DA X (e :: es) t) (hn : x ≠ "__name__" := by decide) (hdb : (x == ("__debug__" : Str)) = false := by decide)
    (he : starEach (e :: es) X.env = (false, eval e X.env) :: starEach es X.env := by rfl) (hpl : (backTo pos (starEach es X.env)).any (·.1) = false := by rfl) : DE X (.Call (.Name x p) (e :: es) [] pos) (dCall f t) :=
  ⟨pe_wk' (pe_callB hc hg hm hv ha.pa hn hdb he hpl) (lf_call s ha.mn), mn_call ha.mn⟩
theorem de_callTy {T : String} {x : Str} {p pos : Pos} {r : List V → Hp → VK → Prop} {f : List D → Option D} (hc : CallR X (.type T) r) (s : SC X.K r f) (hg : Gl X x) (hm : X.mg x = none) (hv : bootBuiltins x = some (.type T)) (ha : DA X (e :: es) t) (hn : x ≠ "__name__" := by decide) (hdb : (x == ("__debug__" : Str)) = false := by decide)
    (he : starEach (e :: es) X.env = (false, eval e X.env) :: starEach es X.env := by rfl) (hpl : (backTo pos (starEach es X.env)).any (·.1) = false := by rfl) : DE X (.Call (.Name x p) (e :: es) [] pos) (dCall f t) :=
  ⟨pe_wk' (pe_callTy hc hg hm hv ha.pa hn hdb he hpl) (lf_call s ha.mn), mn_call ha.mn⟩
/-! ### methods of texts, lists -/
def SM (K : PySem.W.Frag) (T : String) (r : V → List V → Hp → VK → Prop) (f : D → List D → Option D) : Prop := ∀ (pt : Option Addr) (S : List Addr) (H : Hp) (x : V) (xs : List V) (a : D) (as : List D) (d : D) (Q : VK), (∀ b ∈ S, H b ≠ none) → Dn K pt (Wo S H) x a → DnAll K pt (Wo S H) xs as → f a as = some d →
  (∀ v H', Same H H' → Dn K pt (Wo S H') v d → Q v H') → r x xs H Q
/-- what may have methods of T -/
def TyD (T : String) (a : D) : Prop := match a with
  | .str _ => T = "str"
  | .lst _ => T = "list"
  | .dk _ => T = "dict"
  | _ => False
theorem TyD.tyV {K : PySem.W.Frag} {pt : Option Addr} {S : List Addr} {H : Hp} {x : V} {a : D} {T : String} (h : TyD T a) (r : Dn K pt (Wo S H) x a) : tyV K T x H := by
  cases r with
  | str z => exact h
  | lst q _ => exact .inl ⟨h, _, sqL_same (Wo.sub _ _) (.of q)⟩
  | dk q _ _ => exact .inr (.inr (.inl ⟨h, .inl ⟨_, Wo.sub _ _ _ _ q⟩⟩))
  | _ => exact False.elim h
def dMt0 (T : String) (f : D → List D → Option D) (to : TD) : TD := fun ρ m Q => to ρ m fun x m1 => TyD T x ∧ ∃ d, f x [] = some d ∧ Q d m1
def dMt (T : String) (f : D → List D → Option D) (to : TD) (t : TDA) : TD := fun ρ m Q => to ρ m fun x m1 => TyD T x ∧ t ρ m1 fun xs m2 => ∃ d, f x xs = some d ∧ Q d m2
variable {o : Expr} {to : TD} {name : Str} {apos cpos : Pos} {T id : String} {r : V → List V → Hp → VK → Prop} {f : D → List D → Option D}
theorem de_m0 (pa : PlainAttrs T) (slot : Slot T name id) (hty : typeOf (.builtin id) = pure (.type "method_descriptor")) (hm : MtR X id r) (s : SM X.K T r f) (ho : DE X o to)
    (hbase : attributeBase o name X.env (eval o X.env) = eval o X.env := by rfl) (hline : (apos.endLine == cpos.line) = true := by rfl) : DE X (.Call (.Attribute o name apos) [] [] cpos) (dMt0 T f to) := by
  refine ⟨pe_wk' (pe_bm0 pa slot hty hm ho.pe hbase hline) ?_, fun ρ m Q Q' w h => ho.mn _ _ _ _ (fun x m1 ⟨z, d, q, h2⟩ => ⟨z, d, q, w _ _ h2⟩) h⟩
  rintro σ H Q ⟨pt, S0, H0, S, ρ, m, E, h⟩
  refine ⟨pt, S0, H0, S, ρ, m, E, ho.mn _ _ _ _ (fun x m1 h1 v H1 e1 E1 x1 => ?_) h⟩
  obtain ⟨z, d, q, h2⟩ := h1
  exact ⟨z.tyV x1, s pt S H1 v [] x [] d Q E1.dom x1 .nil q fun v' H' e' r' => h2 v' H' (e1.trans (.of e')) (E1.same e') r'⟩
theorem de_m (pa : PlainAttrs T) (slot : Slot T name id) (hty : typeOf (.builtin id) = pure (.type "method_descriptor")) (hm : MtR X id r) (s : SM X.K T r f) (ho : DE X o to) (ha : DA X (e :: es) t)
    (hbase : attributeBase o name X.env (eval o X.env) = eval o X.env := by rfl)
    (hfew : ((backTo cpos (starEach (e :: es) X.env)).all (fun x => !x.1) && (backToKw cpos (keywordEach [] X.env)).all (fun x => x.1.isSome)
      && decide ((e :: es).length + ([] : List Keyword).length + (if ([] : List Keyword).isEmpty then 0 else 1) < 30)) = true := by rfl) (hline : (apos.endLine == cpos.line) = true := by rfl) (hs : starEach (e :: es) X.env = (false, eval e X.env) :: starEach es X.env := by rfl) (hplain : (backTo cpos (starEach es X.env)).any (·.1) = false := by rfl) : DE X (.Call (.Attribute o name apos) (e :: es) [] cpos) (dMt T f to t) := by
  refine ⟨pe_wk' (pe_bm pa slot hty hm ho.pe ha.pa hbase hfew hline hs hplain) ?_, fun ρ m Q Q' w h => ho.mn _ _ _ _ (fun x m1 ⟨z, h1⟩ => ⟨z, ha.mn _ _ _ _ (fun ys m2 ⟨d, q, h2⟩ => ⟨d, q, w _ _ h2⟩) h1⟩) h⟩
  rintro σ H Q ⟨pt, S0, H0, S, ρ, m, E, h⟩
  refine ⟨pt, S0, H0, S, ρ, m, E, ho.mn _ _ _ _ (fun x m1 h1 v H1 e1 E1 x1 => ?_) h⟩
  obtain ⟨z, h1⟩ := h1
  refine ⟨z.tyV x1, pt, S0, H0, S, ρ, m1, E1, ha.mn _ _ _ _ (fun ys m2 h2 us H2 e2 E2 y2 => ?_) h1⟩
  obtain ⟨d, q, h2⟩ := h2
  exact s pt S H2 v us x ys d Q E2.dom (Dn.mono (E1.wo e2) x1) y2 q fun v' H' e' r' => h2 v' H' ((e1.trans e2).trans (.of e')) (E2.same e') r'
end
end Vd
end
section
set_option Elab.async false
set_option linter.all false
set_option maxRecDepth 100000
set_option autoImplicit false
set_option maxHeartbeats 1000000
namespace Vd
open PySem L2 PySem.Spec Vb
open PyProof.Rows hiding St
section
variable {X : Cx} {a b c e : Expr} {es rest : List Expr} {pos : Pos} {ta tb te : TD} {t u : TDT}
/-! ### tests -/
def dTst (te : TD) : TDT := fun ρ m Q => te ρ m fun d m1 => ∃ b, d = .bl b ∧ Q b m1
theorem mn_tst (h : MnE te) : MnT (dTst te) := fun ρ m Q Q' w q => h _ _ _ _ (fun d n ⟨b, e, q⟩ => ⟨b, e, w _ _ q⟩) q
theorem lf_tst {K : PySem.W.Frag} (ma : MnE te) : ∀ σ H Q, lfT K (dTst te) σ H Q → lfE K te σ H fun x H1 => ∃ c, x = .bl c ∧ Q c H1 := by
  rintro σ H Q ⟨pt, S0, H0, S, ρ, m, E, h⟩
  refine ⟨pt, S0, H0, S, ρ, m, E, ma _ _ _ _ (fun x m1 h1 v H1 e1 E1 x1 => ?_) h⟩
  obtain ⟨b, rfl, h1⟩ := h1
  cases x1
  exact ⟨b, rfl, h1 H1 e1 E1⟩
theorem dt_val (h : DE X e te) (he : ∀ whole, isTrue e X.env whole = (do let v ← whole; standAt e.pos; holding [v] (truthy v)) := by intro _; rfl) : DT X e (dTst te) :=
  ⟨pt_wk' (pt_val h.pe he) (lf_tst h.mn), mn_tst h.mn⟩
theorem dt_cmp {op : CmpOp} {r : R2} {f : D → D → Option D} (ho : OpR X (compareOp op) r) (s : S2 X.K r f) (ha : DE X a ta) (hb : DE X b tb) (hm : behindInMarks op b = false) : DT X (.Compare a [op] [b] pos) (dTst (dOp2 f ta tb)) :=
  ⟨pt_wk' (pt_cmpR ho ha.pe hb.pe hm) fun σ H Q h => lf_op2 s ha.mn hb.mn _ _ _ (lf_tst (mn_op2 ha.mn hb.mn) σ H Q h), mn_tst (mn_op2 ha.mn hb.mn)⟩
def dChain (f f' : D → D → Option D) (ta tb tc : TD) : TD := fun ρ m Q => ta ρ m fun x m1 => tb ρ m1 fun y m2 => ∃ k, f x y = some (.bl k) ∧ if k = true then tc ρ m2 fun z m3 => ∃ d, f' y z = some d ∧ Q d m3 else Q (.bl false) m2
theorem mn_chain {f f' : D → D → Option D} {tc : TD} (ma : MnE ta) (mb : MnE tb) (mc : MnE tc) : MnE (dChain f f' ta tb tc) := fun ρ m Q Q' w h => ma _ _ _ _ (fun x m1 h => mb _ _ _ _ (fun y m2 ⟨k, q, h⟩ => ⟨k, q, by
  cases k
  · exact w _ _ h
  · exact mc _ _ _ _ (fun z m3 ⟨d, q, h⟩ => ⟨d, q, w _ _ h⟩) h⟩) h) h
theorem lf_chain {K : PySem.W.Frag} {r r' : R2} {f f' : D → D → Option D} {tc : TD} (s : S2 K r f) (s' : S2 K r' f') (ma : MnE ta) (mb : MnE tb) (mc : MnE tc) : ∀ σ H Q, lfE K (dChain f f' ta tb tc) σ H Q → tChain r r' (lfE K ta) (lfE K tb) (lfE K tc) σ H Q := by
  rintro σ H Q ⟨pt, S0, H0, S, ρ, m, E, h⟩
  refine ⟨pt, S0, H0, S, ρ, m, E, ma _ _ _ _ (fun x m1 h1 v H1 e1 E1 x1 => ?_) h⟩
  refine ⟨pt, S0, H0, S, ρ, m1, E1, mb _ _ _ _ (fun y m2 h2 u H2 e2 E2 y2 => ?_) h1⟩
  obtain ⟨k, q, h2⟩ := h2
  refine s pt S H2 v u x y _ _ E2.dom (Dn.mono (E1.wo e2) x1) y2 q fun v' H' e' r' => ?_
  cases r'
  refine ⟨k, rfl, ?_⟩
  cases k
  · exact h2 _ _ ((e1.trans e2).trans (.of e')) (E2.same e') (.bl false)
  · refine ⟨pt, S0, H0, S, ρ, m2, E2.same e', mc _ _ _ _ (fun z m3 h3 w' H3 e3 E3 z3 => ?_) h2⟩
    obtain ⟨d, q', h3⟩ := h3
    exact s' pt S H3 u w' y z d Q E3.dom (Dn.mono ((E2.same e').wo e3) (Dn.mono (E2.wo (.of e')) y2)) z3 q' fun v5 H5 e5 r5 => h3 v5 H5 (((e1.trans e2).trans (.of e')).trans (e3.trans (.of e5))) (E3.same e5) r5
theorem de_chain {op op' : CmpOp} {r r' : R2} {f f' : D → D → Option D} {tc : TD} (ho : OpR X (compareOp op) r) (ho' : OpR X (compareOp op') r') (s : S2 X.K r f) (s' : S2 X.K r' f') (ha : DE X a ta) (hb : DE X b tb) (hc : DE X c tc)
    (hm : lastMarks [op, op'] [b, c] = false := by with_unfolding_all rfl) : DE X (.Compare a [op, op'] [b, c] pos) (dChain f f' ta tb tc) :=
  ⟨pe_wk' (pe_chain ho ho' ha.pe hb.pe hc.pe hm) (lf_chain s s' ha.mn hb.mn hc.mn), mn_chain ha.mn hb.mn hc.mn⟩
/-- truth of any value -/
def tru : D → Option Bool
  | .non => some false
  | .bl b => some b
  | .int i => some (i != 0)
  | .str z => if z.length ≤ sizeLine then some ((z.length : Int) != 0) else none
  | .lst xs => some (!xs.isEmpty)
  | .tup xs => some (!xs.isEmpty)
  | .dk kvs => some (!kvs.isEmpty)
  | _ => none
def dTru (te : TD) : TDT := fun ρ m Q => te ρ m fun d m1 => ∃ b, tru d = some b ∧ Q b m1
theorem isEmpty_all {K : PySem.W.Frag} {pt : Option Addr} {B : Hp} {xs : List V} {ds : List D} (h : DnAll K pt B xs ds) : (!xs.isEmpty) = !ds.isEmpty := by cases h <;> rfl
theorem tru_of {K : PySem.W.Frag} {pt : Option Addr} {S : List Addr} {H : Hp} {v : V} {d : D} {k : Bool} (h : Dn K pt (Wo S H) v d) (e : tru d = some k) : TruV K v H k := by
  cases h with
  | non => exact (Option.some.inj e).symm
  | bl b => exact (Option.some.inj e).symm
  | int i => exact (Option.some.inj e).symm
  | str z =>
    have e : (if z.length ≤ sizeLine then some ((z.length : Int) != 0) else none) = some k := e
    by_cases hz : z.length ≤ sizeLine
    · rw [if_pos hz] at e
      exact ⟨hz, (Option.some.inj e).symm⟩
    · rw [if_neg hz] at e
      cases e
  | lst q r => exact .inl ⟨_, sqL_same (Wo.sub _ _) (.of q), by rw [isEmpty_all r]; exact (Option.some.inj e).symm⟩
  | tup q r => exact .inr (.inl ⟨_, sqT_same (Wo.sub _ _) q, by rw [isEmpty_all r]; exact (Option.some.inj e).symm⟩)
  | dk q k r =>
    refine .inr (.inr ⟨_, Wo.sub _ _ _ _ q, ?_⟩)
    have := congrArg List.isEmpty k
    rw [List.isEmpty_map, List.isEmpty_map] at this
    rw [this]
    exact (Option.some.inj e).symm
  | _ => cases e
theorem dt_tru (h : DE X e te) (he : ∀ whole, isTrue e X.env whole = (do let v ← whole; standAt e.pos; holding [v] (truthy v)) := by intro _; rfl) : DT X e (dTru te) := by
  refine ⟨pt_wk' (pt_truth h.pe he) ?_, fun ρ m Q Q' w q => h.mn _ _ _ _ (fun d n ⟨b, e, q⟩ => ⟨b, e, w _ _ q⟩) q⟩
  rintro σ H Q ⟨pt, S0, H0, S, ρ, m, E, h1⟩
  refine ⟨pt, S0, H0, S, ρ, m, E, h.mn _ _ _ _ (fun x m1 h1 v H1 e1 E1 x1 => ?_) h1⟩
  obtain ⟨k, q, h2⟩ := h1
  exact ⟨k, tru_of x1 q, h2 H1 e1 E1⟩
def dNot (t : TDT) : TDT := fun ρ m Q => t ρ m fun b m1 => Q (!b) m1
theorem dt_not (h : DT X a t) : DT X (.UnaryOp .Not a pos) (dNot t) := by
  refine ⟨pt_wk' (pt_not h.pt) ?_, fun ρ m Q Q' w q => h.mn _ _ _ _ (fun d n q => w _ _ q) q⟩
  rintro σ H Q ⟨pt, S0, H0, S, ρ, m, E, h1⟩
  exact ⟨pt, S0, H0, S, ρ, m, E, h.mn _ _ _ _ (fun x m1 h1 H1 e1 E1 => h1 H1 e1 E1) h1⟩
structure DW (X : Cx) (e : Expr) (t : TDT) : Prop where
  pw : PW X e (lfT X.K t)
  mn : MnT t
theorem DW.dt (h : DW X e t) : DT X e t := ⟨h.pw.pt, h.mn⟩
theorem pw_wk' {X : Cx} {e : Expr} {t u : TT} (h : PW X e t) (w : ∀ σ H Q, u σ H Q → t σ H Q) : PW X e u := ⟨fun wh pins s σ H Q I q => h.run wh pins s σ H Q I (w σ H Q q)⟩
def dAnd (t u : TDT) : TDT := fun ρ m Q => t ρ m fun b m1 => if b = true then u ρ m1 Q else Q false m1
def dOr (t u : TDT) : TDT := fun ρ m Q => t ρ m fun b m1 => if b = true then Q true m1 else u ρ m1 Q
theorem mn_and (ht : MnT t) (hu : MnT u) : MnT (dAnd t u) := fun ρ m Q Q' w q => ht _ _ _ _ (fun b n q => by
  cases b
  · exact w _ _ q
  · exact hu _ _ _ _ w q) q
theorem mn_or (ht : MnT t) (hu : MnT u) : MnT (dOr t u) := fun ρ m Q Q' w q => ht _ _ _ _ (fun b n q => by
  cases b
  · exact hu _ _ _ _ w q
  · exact w _ _ q) q
theorem dw_and1 (h : DT X a t) : DW X (.BoolOp .And [a] pos) t := ⟨pw_and1 h.pt, h.mn⟩
theorem dw_or1 (h : DT X a t) : DW X (.BoolOp .Or [a] pos) t := ⟨pw_or1 h.pt, h.mn⟩
theorem dw_and (ha : DT X a t) (hb : DW X (.BoolOp .And (b :: rest) pos) u) : DW X (.BoolOp .And (a :: b :: rest) pos) (dAnd t u) := by
  refine ⟨pw_wk' (pw_and ha.pt hb.pw) ?_, mn_and ha.mn hb.mn⟩
  rintro σ H Q ⟨pt, S0, H0, S, ρ, m, E, h1⟩
  refine ⟨pt, S0, H0, S, ρ, m, E, ha.mn _ _ _ _ (fun x m1 h1 H1 e1 E1 => ?_) h1⟩
  cases x
  · exact h1 H1 e1 E1
  · exact ⟨pt, S0, H0, S, ρ, m1, E1, hb.mn _ _ _ _ (fun b m2 h2 H2 e2 E2 => h2 H2 (e1.trans e2) E2) h1⟩
theorem dw_or (ha : DT X a t) (hb : DW X (.BoolOp .Or (b :: rest) pos) u) : DW X (.BoolOp .Or (a :: b :: rest) pos) (dOr t u) := by
  refine ⟨pw_wk' (pw_or ha.pt hb.pw) ?_, mn_or ha.mn hb.mn⟩
  rintro σ H Q ⟨pt, S0, H0, S, ρ, m, E, h1⟩
  refine ⟨pt, S0, H0, S, ρ, m, E, ha.mn _ _ _ _ (fun x m1 h1 H1 e1 E1 => ?_) h1⟩
  cases x
  · exact ⟨pt, S0, H0, S, ρ, m1, E1, hb.mn _ _ _ _ (fun b m2 h2 H2 e2 E2 => h2 H2 (e1.trans e2) E2) h1⟩
  · exact h1 H1 e1 E1
/-! ### and, or, not as values; a if t else b -/
def dAndV (ta tb : TD) : TD := fun ρ m Q => ta ρ m fun d m1 => ∃ c, d = .bl c ∧ if c = true then tb ρ m1 Q else Q (.bl false) m1
def dOrV (ta tb : TD) : TD := fun ρ m Q => ta ρ m fun d m1 => ∃ c, d = .bl c ∧ if c = true then Q (.bl true) m1 else tb ρ m1 Q
def dNotV (ta : TD) : TD := fun ρ m Q => ta ρ m fun d m1 => ∃ c, d = .bl c ∧ Q (.bl (!c)) m1
theorem de_one {op : BoolOp} (h : DE X a te) : DE X (.BoolOp op [a] pos) te := ⟨pe_one h.pe, h.mn⟩
theorem de_and (ha : DE X a ta) (hb : DE X (.BoolOp .And (b :: rest) pos) tb) : DE X (.BoolOp .And (a :: b :: rest) pos) (dAndV ta tb) := by
  refine ⟨pe_wk' (pe_and ha.pe hb.pe) ?_, fun ρ m Q Q' w q => ha.mn _ _ _ _ (fun d n ⟨c, e, q⟩ => ⟨c, e, by
    cases c
    · exact w _ _ q
    · exact hb.mn _ _ _ _ w q⟩) q⟩
  rintro σ H Q ⟨pt, S0, H0, S, ρ, m, E, h1⟩
  refine ⟨pt, S0, H0, S, ρ, m, E, ha.mn _ _ _ _ (fun x m1 h1 v H1 e1 E1 x1 => ?_) h1⟩
  obtain ⟨c, rfl, h1⟩ := h1
  cases x1
  refine ⟨c, rfl, ?_⟩
  cases c
  · exact h1 _ H1 e1 E1 (.bl false)
  · exact ⟨pt, S0, H0, S, ρ, m1, E1, hb.mn _ _ _ _ (fun b m2 h2 v H2 e2 E2 x2 => h2 v H2 (e1.trans e2) E2 x2) h1⟩
theorem de_or (ha : DE X a ta) (hb : DE X (.BoolOp .Or (b :: rest) pos) tb) : DE X (.BoolOp .Or (a :: b :: rest) pos) (dOrV ta tb) := by
  refine ⟨pe_wk' (pe_or ha.pe hb.pe) ?_, fun ρ m Q Q' w q => ha.mn _ _ _ _ (fun d n ⟨c, e, q⟩ => ⟨c, e, by
    cases c
    · exact hb.mn _ _ _ _ w q
    · exact w _ _ q⟩) q⟩
  rintro σ H Q ⟨pt, S0, H0, S, ρ, m, E, h1⟩
  refine ⟨pt, S0, H0, S, ρ, m, E, ha.mn _ _ _ _ (fun x m1 h1 v H1 e1 E1 x1 => ?_) h1⟩
  obtain ⟨c, rfl, h1⟩ := h1
  cases x1
  refine ⟨c, rfl, ?_⟩
  cases c
  · exact ⟨pt, S0, H0, S, ρ, m1, E1, hb.mn _ _ _ _ (fun b m2 h2 v H2 e2 E2 x2 => h2 v H2 (e1.trans e2) E2 x2) h1⟩
  · exact h1 _ H1 e1 E1 (.bl true)
theorem de_not (ha : DE X a ta) : DE X (.UnaryOp .Not a pos) (dNotV ta) := by
  refine ⟨pe_wk' (pe_not ha.pe) ?_, fun ρ m Q Q' w q => ha.mn _ _ _ _ (fun d n ⟨c, e, q⟩ => ⟨c, e, w _ _ q⟩) q⟩
  rintro σ H Q ⟨pt, S0, H0, S, ρ, m, E, h1⟩
  refine ⟨pt, S0, H0, S, ρ, m, E, ha.mn _ _ _ _ (fun x m1 h1 v H1 e1 E1 x1 => ?_) h1⟩
  obtain ⟨c, rfl, h1⟩ := h1
  cases x1
  exact ⟨c, rfl, h1 _ H1 e1 E1 (.bl _)⟩
def dIf (t : TDT) (ta tb : TD) : TD := fun ρ m Q => t ρ m fun c m1 => if c = true then ta ρ m1 Q else tb ρ m1 Q
theorem de_if (ht : DT X c t) (ha : DE X a ta) (hb : DE X b tb) : DE X (.IfExp c a b pos) (dIf t ta tb) := by
  refine ⟨pe_wk' (pe_ifExp ht.pt ha.pe hb.pe) ?_, fun ρ m Q Q' w q => ht.mn _ _ _ _ (fun c n q => by
    cases c
    · exact hb.mn _ _ _ _ w q
    · exact ha.mn _ _ _ _ w q) q⟩
  rintro σ H Q ⟨pt, S0, H0, S, ρ, m, E, h1⟩
  refine ⟨pt, S0, H0, S, ρ, m, E, ht.mn _ _ _ _ (fun x m1 h1 H1 e1 E1 => ?_) h1⟩
  cases x
  · exact ⟨pt, S0, H0, S, ρ, m1, E1, hb.mn _ _ _ _ (fun b m2 h2 v H2 e2 E2 x2 => h2 v H2 (e1.trans e2) E2 x2) h1⟩
  · exact ⟨pt, S0, H0, S, ρ, m1, E1, ha.mn _ _ _ _ (fun b m2 h2 v H2 e2 E2 x2 => h2 v H2 (e1.trans e2) E2 x2) h1⟩
/-! ### displays, slices -/
theorem wo_new {S : List Addr} {H : Hp} {p : Addr} {o : HO} (hd : ∀ b ∈ S, H b ≠ none) (hp : H p = none) : Wo S (upd H p o) p = some o := by
  rw [Wo.out fun z => hd p z hp, upd_same]
def dTup (t : TDA) : TD := fun ρ m Q => t ρ m fun ds m1 => ds.length ≤ sizeLine ∧ Q (.tup ds) m1
def dLst (t : TDA) : TD := fun ρ m Q => t ρ m fun ds m1 => ds.length ≤ sizeLine ∧ Q (.lst ds) m1
theorem mn_tup {t : TDA} (h : MnA t) : MnE (dTup t) := fun ρ m Q Q' w q => h _ _ _ _ (fun d n ⟨l, q⟩ => ⟨l, w _ _ q⟩) q
theorem mn_lst {t : TDA} (h : MnA t) : MnE (dLst t) := fun ρ m Q Q' w q => h _ _ _ _ (fun d n ⟨l, q⟩ => ⟨l, w _ _ q⟩) q
theorem de_tup {x1} {t : TDA} (h : DA X es t) : DE X (.Tuple es x1 pos) (dTup t) := by
  refine ⟨pe_wk' (pe_tup h.pa) ?_, mn_tup h.mn⟩
  rintro σ H Q ⟨pt, S0, H0, S, ρ, m, E, h1⟩
  refine ⟨pt, S0, H0, S, ρ, m, E, h.mn _ _ _ _ (fun xs m1 h1 vs H1 e1 E1 x1 => ?_) h1⟩
  obtain ⟨l, h1⟩ := h1
  exact ⟨by rw [x1.length]; exact l, fun p hp => h1 _ _ (e1.trans (.of (Same.new hp))) (E1.same (Same.new hp)) (.tup (.of (wo_new E1.dom hp)) (x1.mono (Wo.same (Same.new hp))))⟩
theorem de_lst {t : TDA} (h : DA X es t) : DE X (.List es pos) (dLst t) := by
  refine ⟨pe_wk' (pe_lst h.pa) ?_, mn_lst h.mn⟩
  rintro σ H Q ⟨pt, S0, H0, S, ρ, m, E, h1⟩
  refine ⟨pt, S0, H0, S, ρ, m, E, h.mn _ _ _ _ (fun xs m1 h1 vs H1 e1 E1 x1 => ?_) h1⟩
  obtain ⟨l, h1⟩ := h1
  exact ⟨by rw [x1.length]; exact l, fun p hp => h1 _ _ (e1.trans (.of (Same.new hp))) (E1.same (Same.new hp)) (.lst (wo_new E1.dom hp) (x1.mono (Wo.same (Same.new hp))))⟩
abbrev TDO := Rho → Nat → (Option Int → Nat → Prop) → Prop
def lfO (K : PySem.W.Frag) (t : TDO) : TO := fun σ H Q => ∃ pt S0 H0 S ρ m, Ev K pt S0 H0 S σ H ρ m ∧ t ρ m fun o m' => ∀ H', SameX pt H H' → Ev K pt S0 H0 S σ H' ρ m' → Q o H'
structure DO (X : Cx) (e : Option Expr) (t : TDO) : Prop where
  po : PO X e (lfO X.K t)
  mn : ∀ ρ m (Q Q' : Option Int → Nat → Prop), (∀ d n, Q d n → Q' d n) → t ρ m Q → t ρ m Q'
theorem po_wk' {X : Cx} {e : Option Expr} {t u : TO} (h : PO X e t) (w : ∀ σ H Q, u σ H Q → t σ H Q) : PO X e u := ⟨fun pins s σ H Q I q => h.run pins s σ H Q I (w σ H Q q)⟩
def oNone : TDO := fun _ m Q => Q none m
def oSome (te : TD) : TDO := fun ρ m Q => te ρ m fun d m1 => ∃ i, d = .int i ∧ Q (some i) m1
theorem do_none : DO X none oNone := by
  refine ⟨po_wk' po_none ?_, fun ρ m Q Q' w q => w _ _ q⟩
  rintro σ H Q ⟨pt, S0, H0, S, ρ, m, E, h1⟩
  exact h1 H (.refl _ _) E
theorem do_some (h : DE X e te) : DO X (some e) (oSome te) := by
  refine ⟨po_wk' (po_some h.pe) ?_, fun ρ m Q Q' w q => h.mn _ _ _ _ (fun d n ⟨i, e, q⟩ => ⟨i, e, w _ _ q⟩) q⟩
  rintro σ H Q ⟨pt, S0, H0, S, ρ, m, E, h1⟩
  refine ⟨pt, S0, H0, S, ρ, m, E, h.mn _ _ _ _ (fun xs m1 h1 vs H1 e1 E1 x1 => ?_) h1⟩
  obtain ⟨i, rfl, h1⟩ := h1
  cases x1
  exact ⟨i, rfl, h1 H1 e1 E1⟩
def dSl (f : D → Option Int → Option Int → Option D) (te : TD) (tl th : TDO) : TD := fun ρ m Q => te ρ m fun x m1 => tl ρ m1 fun l m2 => th ρ m2 fun u m3 => ∃ d, f x l u = some d ∧ Q d m3
def SS (K : PySem.W.Frag) (r : V → Option Int → Option Int → Hp → VK → Prop) (f : D → Option Int → Option Int → Option D) : Prop := ∀ (pt : Option Addr) (S : List Addr) (H : Hp) (x : V) (l u : Option Int) (a d : D) (Q : VK), (∀ b ∈ S, H b ≠ none) → Dn K pt (Wo S H) x a → f a l u = some d →
  (∀ v H', Same H H' → Dn K pt (Wo S H') v d → Q v H') → r x l u H Q
theorem de_slice {lo hi : Option Expr} {p2 : Pos} {r : V → Option Int → Option Int → Hp → VK → Prop} {f : D → Option Int → Option Int → Option D} {tl th : TDO} (hr : SlR X r) (s : SS X.K r f) (he : DE X e te) (hl : DO X lo tl) (hu : DO X hi th) :
    DE X (.Subscript e (.Slice lo hi none p2) pos) (dSl f te tl th) := by
  refine ⟨pe_wk' (pe_slice hr he.pe hl.po hu.po) ?_, fun ρ m Q Q' w q => he.mn _ _ _ _ (fun d n q => hl.mn _ _ _ _ (fun l n q => hu.mn _ _ _ _ (fun u n ⟨d, e, q⟩ => ⟨d, e, w _ _ q⟩) q) q) q⟩
  rintro σ H Q ⟨pt, S0, H0, S, ρ, m, E, h1⟩
  refine ⟨pt, S0, H0, S, ρ, m, E, he.mn _ _ _ _ (fun x m1 h1 v H1 e1 E1 x1 => ?_) h1⟩
  refine ⟨pt, S0, H0, S, ρ, m1, E1, hl.mn _ _ _ _ (fun l m2 h2 H2 e2 E2 => ?_) h1⟩
  refine ⟨pt, S0, H0, S, ρ, m2, E2, hu.mn _ _ _ _ (fun u m3 h3 H3 e3 E3 => ?_) h2⟩
  obtain ⟨d, q, h3⟩ := h3
  exact s pt S H3 v l u x d Q E3.dom (Dn.mono (E2.wo e3) (Dn.mono (E1.wo e2) x1)) q fun v' H' e' r' => h3 v' H' ((e1.trans (e2.trans e3)).trans (.of e')) (E3.same e') r'
/-! ### promises over data -/
abbrev FD := List D → Nat → (D → Nat → Prop) → Prop
def spD (K : PySem.W.Frag) (F : FD) : Sp := fun vs H Q _ => ∃ pt S ds m, (∀ b ∈ S, H b ≠ none) ∧ (∀ p, pt = some p → p ∈ S) ∧ PotX pt H m ∧ DnAll K pt (Wo S H) vs ds ∧ F ds m fun d m' => ∀ v H', SameX pt H H' → PotX pt H' m' → Dn K pt (Wo S H') v d → Q v H'
def MnF (F : FD) : Prop := ∀ ds m (Q Q' : D → Nat → Prop), (∀ d n, Q d n → Q' d n) → F ds m Q → F ds m Q'
def dCal (F : FD) (t : TDA) : TD := fun ρ m Q => t ρ m fun ds m1 => F ds m1 Q
theorem mn_cal {F : FD} {t : TDA} (h : MnF F) (ha : MnA t) : MnE (dCal F t) := fun ρ m Q Q' w q => ha _ _ _ _ (fun ds n q => h _ _ _ _ w q) q
theorem lf_cal {F : FD} {K : PySem.W.Frag} {t : TDA} (mf : MnF F) (ma : MnA t) {E' : XK} : ∀ σ H Q, lfE K (dCal F t) σ H Q → lfA K t σ H fun vs H1 => spD K F vs H1 Q E' := by
  rintro σ H Q ⟨pt, S0, H0, S, ρ, m, E, h1⟩
  refine ⟨pt, S0, H0, S, ρ, m, E, ma _ _ _ _ (fun ds m1 h1 vs H1 e1 E1 x1 => ?_) h1⟩
  exact ⟨pt, S, ds, m1, E1.dom, E1.pS, E1.pot, x1, mf _ _ _ _ (fun d m2 h2 v H2 e2 p2 x2 => h2 v H2 (e1.trans e2) (E1.step e2 p2) x2) h1⟩
theorem de_c {x : Str} {p : Pos} {k j : Nat} {F : FD} {t : TDA} (mf : MnF F) (cl : Cal X.prog X.w X.K X.mg X.base k x (spD X.K F)) (hr : Room j X.A) (hk : k ≤ j) (hg : Gl X x) (ha : DA X (e :: es) t)
    (hdb : (x == ("__debug__" : Str)) = false := by decide) (he : starEach (e :: es) X.env = (false, eval e X.env) :: starEach es X.env := by rfl) (hpl : (backTo pos (starEach es X.env)).any (·.1) = false := by rfl) :
    DE X (.Call (.Name x p) (e :: es) [] pos) (dCal F t) :=
  ⟨pe_wk' (pe_c cl hr hk hg ha.pa hdb he hpl) (lf_cal mf ha.mn), mn_cal mf ha.mn⟩
theorem de_g {x : Str} {p : Pos} {k j : Nat} {F : FD} {t : TDA} (mf : MnF F) (g : X.A.guards = some []) (cl : CalG X.prog X.w X.K X.mg X.base k x (spD X.K F)) (hr : Room j X.A) (hk : k ≤ j) (hg : Gl X x) (ha : DA X (e :: es) t)
    (hdb : (x == ("__debug__" : Str)) = false := by decide) (he : starEach (e :: es) X.env = (false, eval e X.env) :: starEach es X.env := by rfl) (hpl : (backTo pos (starEach es X.env)).any (·.1) = false := by rfl) :
    DE X (.Call (.Name x p) (e :: es) [] pos) (dCal F t) :=
  ⟨pe_wk' (pe_g g cl hr hk hg ha.pa hdb he hpl) (lf_cal mf ha.mn), mn_cal mf ha.mn⟩
end
end Vd
end
section
set_option Elab.async false
set_option linter.all false
set_option maxRecDepth 100000
set_option autoImplicit false
set_option maxHeartbeats 1000000
namespace Vd
open PySem L2 PySem.Spec Vb
open PyProof.Rows hiding St
section
variable {K : PySem.W.Frag} {pt : Option Addr} {S0 S : List Addr} {H0 H H1 : Hp} {σ : St} {ρ : Rho} {m : Nat}
/-- slots are as they were, but those of vs -/
def Agree (vs : List Nat) (σ σ' : St) : Prop := σ'.length = σ.length ∧ ∀ i, i ∉ vs → σ'[i]? = σ[i]?
theorem Agree.refl (vs : List Nat) (σ : St) : Agree vs σ σ := ⟨rfl, fun _ _ => rfl⟩
theorem Agree.trans {vs : List Nat} {σ σ1 σ2 : St} (a : Agree vs σ σ1) (b : Agree vs σ1 σ2) : Agree vs σ σ2 := ⟨b.1.trans a.1, fun i h => (b.2 i h).trans (a.2 i h)⟩
theorem Agree.more {vs ws : List Nat} {σ σ1 : St} (a : Agree vs σ σ1) (h : ∀ i ∈ vs, i ∈ ws) : Agree ws σ σ1 := ⟨a.1, fun i q => a.2 i fun z => q (h i z)⟩
theorem wipe_get {σ : St} : ∀ {vs : List Nat} {i : Nat}, (wipe σ vs)[i]? = if i ∈ vs then (σ[i]?).map fun _ => none else σ[i]?
  | [], i => by simp [wipe]
  | v :: vs, i => by
    unfold wipe
    by_cases h : v = i
    · subst h
      rw [if_pos List.mem_cons_self]
      by_cases q : v < (wipe σ vs).length
      · rw [List.getElem?_set_self q]
        rw [wipe_length] at q
        rw [List.getElem?_eq_getElem q]
        rfl
      · rw [List.getElem?_eq_none (by simpa using q)]
        rw [wipe_length] at q
        rw [List.getElem?_eq_none (by omega)]
        rfl
    · rw [List.getElem?_set_ne h, wipe_get]
      by_cases q : i ∈ vs
      · rw [if_pos q, if_pos (List.mem_cons_of_mem _ q)]
      · rw [if_neg q, if_neg (by simp only [List.mem_cons, not_or]; exact ⟨fun e => h e.symm, q⟩)]
theorem Agree.wipe {vs : List Nat} {σ σ' : St} (a : Agree vs σ σ') : L2.wipe σ' vs = L2.wipe σ vs := by
  apply List.ext_getElem?
  intro i
  rw [wipe_get, wipe_get]
  by_cases h : i ∈ vs
  · rw [if_pos h, if_pos h]
    by_cases q : i < σ.length
    · rw [List.getElem?_eq_getElem q, List.getElem?_eq_getElem (by rw [a.1]; exact q)]
      rfl
    · rw [List.getElem?_eq_none (show σ'.length ≤ i by rw [a.1]; omega), List.getElem?_eq_none (show σ.length ≤ i by omega)]
  · rw [if_neg h, if_neg h, a.2 i h]
theorem wipe_agree (vs : List Nat) (σ : St) : Agree vs σ (L2.wipe σ vs) := ⟨wipe_length _ _, fun i h => by rw [wipe_get, if_neg h]⟩
theorem wipe_wipe (vs : List Nat) (σ : St) : L2.wipe (L2.wipe σ vs) vs = L2.wipe σ vs := (wipe_agree vs σ).wipe
def wipeR (ρ : Rho) : List Nat → Rho
  | [] => ρ
  | v :: vs => (wipeR ρ vs).set v none
/-- a name gets a datum -/
theorem Ev.set (E : Ev K pt S0 H0 S σ H ρ m) {i : Nat} {v : V} {d : D} (h : Dn K pt (Wo S H) v d) : Ev K pt S0 H0 S (σ.set i (some v)) H (ρ.set i (some (.d d))) m := by
  refine ⟨E.dom0, E.dom, E.sub, E.inc, E.frm, E.ptS, E.pot, by rw [List.length_set, List.length_set]; exact E.len, fun j c q => ?_, fun j k a ds es n q1 q2 => ?_⟩
  · by_cases e : i = j
    · subst e
      by_cases l : i < ρ.length
      · rw [List.getElem?_set_self l] at q
        cases q
        exact ⟨v, List.getElem?_set_self (by rw [E.len]; exact l), h⟩
      · rw [List.getElem?_eq_none (by rw [List.length_set]; omega)] at q
        cases q
    · rw [List.getElem?_set_ne e] at q ⊢
      exact E.var j c q
  · have out : ∀ {j : Nat} {a : Addr} {ds : List D}, (ρ.set i (some (.d d)))[j]? = some (some (.own a ds)) → ρ[j]? = some (some (.own a ds)) := fun {j a ds} q => by
      by_cases e : i = j
      · subst e
        by_cases l : i < ρ.length
        · rw [List.getElem?_set_self l] at q
          cases q
        · rw [List.getElem?_eq_none (by rw [List.length_set]; omega)] at q
          cases q
      · rwa [List.getElem?_set_ne e] at q
    exact E.dis j k a ds es n (out q1) (out q2)
theorem Ev.forget (E : Ev K pt S0 H0 S σ H ρ m) {i : Nat} {x : Option V} : Ev K pt S0 H0 S (σ.set i x) H (ρ.set i none) m := by
  have out : ∀ {j : Nat} {c : C}, (ρ.set i none)[j]? = some (some c) → i ≠ j ∧ ρ[j]? = some (some c) := fun {j c} q => by
    by_cases e : i = j
    · subst e
      by_cases l : i < ρ.length
      · rw [List.getElem?_set_self l] at q
        cases q
      · rw [List.getElem?_eq_none (by rw [List.length_set]; omega)] at q
        cases q
    · rw [List.getElem?_set_ne e] at q
      exact ⟨e, q⟩
  refine ⟨E.dom0, E.dom, E.sub, E.inc, E.frm, E.ptS, E.pot, by rw [List.length_set, List.length_set]; exact E.len, fun j c q => ?_, fun j k a ds es n q1 q2 => E.dis j k a ds es n (out q1).2 (out q2).2⟩
  obtain ⟨e, q⟩ := out q
  rw [List.getElem?_set_ne e]
  exact E.var j c q
theorem Ev.wipe (E : Ev K pt S0 H0 S σ H ρ m) : ∀ vs : List Nat, Ev K pt S0 H0 S (L2.wipe σ vs) H (wipeR ρ vs) m
  | [] => E
  | v :: vs => Ev.forget (Ev.wipe E vs)
/-- a list of one's own is changed that no name stands for -/
theorem Ev.updO (E : Ev K pt S0 H0 S σ H ρ m) {a : Addr} {o : HO} (hS : a ∈ S) (h0 : H0 a = none) (hp : pt ≠ some a) (hn : ∀ (i : Nat) (ds : List D), ρ[i]? ≠ some (some (.own a ds))) : Ev K pt S0 H0 S σ (upd H a o) ρ m := by
  have same : ∀ b, b ≠ a → upd H a o b = H b := fun b h => upd_ne h
  have wo : Same (Wo S H) (Wo S (upd H a o)) := fun b u q => by
    obtain ⟨n, q⟩ := Wo.some q
    have nb : b ≠ a := fun e => n (by rw [e]; exact hS)
    rw [Wo.out n, upd_ne nb]
    exact q
  refine ⟨E.dom0, fun b hb => ?_, E.sub, E.inc, fun b u n q => ?_, E.ptS, fun p e => ?_, E.len, fun i c q => ?_, E.dis⟩
  · by_cases e : b = a
    · rw [e, upd_same]
      exact fun z => nomatch z
    · rw [upd_ne e]
      exact E.dom b hb
  · rw [upd_ne fun e => by rw [e, h0] at q; cases q]
    exact E.frm b u n q
  · obtain ⟨x, y, z, q, r⟩ := E.pot p e
    exact ⟨x, y, z, by rw [upd_ne fun u => hp (by rw [e, u])]; exact q, r⟩
  · obtain ⟨v, e, r⟩ := E.var i c q
    refine ⟨v, e, ?_⟩
    cases c with
    | d x => exact Dn.mono wo r
    | own b ds =>
      obtain ⟨r1, r2, r3, r4, vs, r5, r6⟩ := r
      exact ⟨r1, r2, r3, r4, vs, by rw [upd_ne fun e => hn i ds (by rw [← e]; exact q)]; exact r5, DnAll.mono wo r6⟩
/-- a new list is begun -/
theorem Ev.newO (E : Ev K pt S0 H0 S σ H ρ m) {a : Addr} {o : HO} (ha : H a = none) : Ev K pt S0 H0 (a :: S) σ (upd H a o) ρ m ∧ H0 a = none ∧ pt ≠ some a ∧ (∀ (i : Nat) (ds : List D), ρ[i]? ≠ some (some (.own a ds))) ∧ a ∉ S ∧ Same (Wo S H) (Wo (a :: S) (upd H a o)) := by
  have hp : pt ≠ some a := fun e => E.dom a (E.pS a e) ha
  have h0 : H0 a = none := by
    cases h : H0 a with
    | none => rfl
    | some u => rw [E.frm a u hp h] at ha; cases ha
  have nS : a ∉ S := fun z => E.dom a z ha
  have wo : Same (Wo S H) (Wo (a :: S) (upd H a o)) := fun b u q => by
    obtain ⟨n, q⟩ := Wo.some q
    have ne : b ≠ a := ne_of_none q ha
    rw [Wo.out (by simp only [List.mem_cons, not_or]; exact ⟨ne, n⟩), upd_ne ne]
    exact q
  refine ⟨⟨E.dom0, fun b hb => ?_, fun b hb => ?_, fun b hb => List.mem_cons_of_mem _ (E.inc b hb), fun b u n q => ?_, E.ptS, fun p e => (E.pot p e).same (Same.new ha), E.len, fun i c q => ?_, E.dis⟩, h0, hp, fun i ds q => ?_, nS, wo⟩
  · by_cases e : b = a
    · rw [e, upd_same]
      exact fun z => nomatch z
    · rw [upd_ne e]
      exact E.dom b ((List.mem_cons.mp hb).resolve_left e)
  · rcases List.mem_cons.mp hb with e | hb
    · exact .inr (e ▸ h0)
    · exact E.sub b hb
  · exact Same.new ha b u (E.frm b u n q)
  · obtain ⟨v, e, r⟩ := E.var i c q
    refine ⟨v, e, ?_⟩
    cases c with
    | d x => exact Dn.mono wo r
    | own b ds =>
      obtain ⟨r1, r2, r3, r4, vs, r5, r6⟩ := r
      exact ⟨r1, List.mem_cons_of_mem _ r2, r3, r4, vs, Same.new ha _ _ r5, DnAll.mono wo r6⟩
  · obtain ⟨v, e, r⟩ := E.var i _ q
    exact nS r.2.1
/-- a list of one's own is let go -/
theorem Ev.dropO {a : Addr} (E : Ev K pt S0 H0 (a :: S) σ H ρ m) (nS : a ∉ S) (hn : ∀ (i : Nat) (ds : List D), ρ[i]? ≠ some (some (.own a ds))) (h0 : H0 a = none) : Ev K pt S0 H0 S σ H ρ m := by
  have wo : Same (Wo (a :: S) H) (Wo S H) := Wo.less fun b hb => List.mem_cons_of_mem _ hb
  refine ⟨E.dom0, fun b hb => E.dom b (List.mem_cons_of_mem _ hb), fun b hb => E.sub b (List.mem_cons_of_mem _ hb), fun b hb => ?_, E.frm, E.ptS, E.pot, E.len, fun i c q => ?_, E.dis⟩
  · rcases List.mem_cons.mp (E.inc b hb) with e | h
    · exact absurd (e ▸ h0) (E.dom0 b hb)
    · exact h
  · obtain ⟨v, e, r⟩ := E.var i c q
    refine ⟨v, e, ?_⟩
    cases c with
    | d x => exact Dn.mono wo r
    | own b ds =>
      obtain ⟨r1, r2, r3, r4, vs, r5, r6⟩ := r
      rcases List.mem_cons.mp r2 with z | r2
      · exact absurd (z ▸ q) (hn i ds)
      · exact ⟨r1, r2, r3, r4, vs, r5, DnAll.mono wo r6⟩
end

/-! ### targets -/
abbrev TgD := D → Rho → Option Rho
/-- the store g is sound for f; it touches the slots vs alone -/
def GS (K : PySem.W.Frag) (g : TG) (f : TgD) (vs : List Nat) : Prop := ∀ (pt : Option Addr) (S0 S : List Addr) (H0 H : Hp) (σ : St) (ρ ρ' : Rho) (m : Nat) (v : V) (d : D) (Q : St → Hp → Prop), Ev K pt S0 H0 S σ H ρ m → Dn K pt (Wo S H) v d → f d ρ = some ρ' →
  (∀ σ', Ev K pt S0 H0 S σ' H ρ' m → Agree vs σ σ' → Q σ' H) → g v σ H Q
def GSs (K : PySem.W.Frag) (g : TGs) (f : List D → Rho → Option Rho) (vs : List Nat) : Prop := ∀ (pt : Option Addr) (S0 S : List Addr) (H0 H : Hp) (σ : St) (ρ ρ' : Rho) (m : Nat) (us : List V) (ds : List D) (Q : St → Hp → Prop), Ev K pt S0 H0 S σ H ρ m → DnAll K pt (Wo S H) us ds → f ds ρ = some ρ' →
  (∀ σ', Ev K pt S0 H0 S σ' H ρ' m → Agree vs σ σ' → Q σ' H) → g us σ H Q
def fName (i : Nat) : TgD := fun d ρ => some (ρ.set i (some (.d d)))
def fNil : List D → Rho → Option Rho := fun ds ρ => if ds.length = 0 then some ρ else none
def fCons (f : TgD) (g : List D → Rho → Option Rho) : List D → Rho → Option Rho
  | [], _ => none
  | d :: ds, ρ => (f d ρ).bind (g ds)
def fTup (n : Nat) (f : List D → Rho → Option Rho) : TgD
  | .tup ds, ρ => if ds.length = n then f ds ρ else none
  | _, _ => none
theorem gs_name {K : PySem.W.Frag} {i : Nat} : GS K (gName i) (fName i) [i] := by
  intro pt S0 S H0 H σ ρ ρ' m v d Q E h e q
  cases e
  refine q _ (E.set h) ⟨List.length_set, fun j hj => List.getElem?_set_ne fun z => hj (by rw [z]; exact List.mem_cons_self)⟩
theorem gs_nil {K : PySem.W.Frag} : GSs K gNil fNil [] := by
  intro pt S0 S H0 H σ ρ ρ' m us ds Q E h e q
  unfold fNil at e
  split at e
  · rename_i l
    cases e
    have := h.length
    exact ⟨List.length_eq_zero_iff.mp (by omega), q σ E (.refl _ _)⟩
  · cases e
theorem gs_cons {K : PySem.W.Frag} {g : TG} {f : TgD} {gs : TGs} {fs : List D → Rho → Option Rho} {vs ws : List Nat} (h1 : GS K g f vs) (h2 : GSs K gs fs ws) : GSs K (gCons g gs) (fCons f fs) (vs ++ ws) := by
  intro pt S0 S H0 H σ ρ ρ' m us ds Q E h e q
  cases h with
  | nil => cases e
  | cons hd tl =>
    obtain ⟨ρ1, e1, e2⟩ := Option.bind_eq_some_iff.mp e
    refine ⟨_, _, rfl, h1 pt S0 S H0 H σ ρ ρ1 m _ _ _ E hd e1 fun σ1 E1 a1 => ?_⟩
    exact h2 pt S0 S H0 H σ1 ρ1 ρ' m _ _ _ E1 tl e2 fun σ2 E2 a2 => q σ2 E2 ((a1.more fun i h => List.mem_append_left _ h).trans (a2.more fun i h => List.mem_append_right _ h))
theorem gs_tup {K : PySem.W.Frag} {n : Nat} {gs : TGs} {fs : List D → Rho → Option Rho} {vs : List Nat} (h : GSs K gs fs vs) : GS K (gTup K n gs) (fTup n fs) vs := by
  intro pt S0 S H0 H σ ρ ρ' m v d Q E hd e q
  cases hd with
  | @tup a xs ds hq ha =>
    have e : (if ds.length = n then fs ds ρ else none) = some ρ' := e
    by_cases l : ds.length = n
    · rw [if_pos l] at e
      exact ⟨_, _, rfl, sqT_same (Wo.sub _ _) hq, by rw [ha.length]; exact l, h pt S0 S H0 H σ ρ ρ' m _ _ _ E ha e q⟩
    · rw [if_neg l] at e
      cases e
  | _ => cases e

/-! ### what is walked -/
/-- the walk J goes through ds -/
def ItD (K : PySem.W.Frag) (pt : Option Addr) (S : List Addr) (H1 : Hp) (J : It) (ds : List D) : Prop := ∀ (i : Nat) (S' : List Addr) (H : Hp), Same (Wo S H1) (Wo S' H) → (∀ b ∈ S', H b ≠ none) →
  (∀ d, ds[i]? = some d → J.go i H ∧ ∀ v H', J.yld i H v H' → Same H H' ∧ Dn K pt (Wo S' H') v d) ∧ (ds.length = i → J.stop i H)
def IS (K : PySem.W.Frag) (wi : TI) (ti : TDA) : Prop := MnA ti ∧ ∀ σ H R, (∃ pt S0 H0 S ρ m, Ev K pt S0 H0 S σ H ρ m ∧ ti ρ m fun ds m' => ∀ H1 J, SameX pt H H1 → Ev K pt S0 H0 S σ H1 ρ m' → ItD K pt S H1 J ds → R J H1) → wi σ H R
def dSeqL (te : TD) : TDA := fun ρ m Q => te ρ m fun d m1 => ∃ ds, d = .lst ds ∧ Q ds m1
def dSeqT (te : TD) : TDA := fun ρ m Q => te ρ m fun d m1 => ∃ ds, d = .tup ds ∧ Q ds m1
section
variable {K : PySem.W.Frag} {te : TD}
theorem is_list (me : MnE te) : IS K (iList K (lfE K te)) (dSeqL te) := by
  refine ⟨fun ρ m Q Q' w q => me _ _ _ _ (fun d n ⟨ds, e, q⟩ => ⟨ds, e, w _ _ q⟩) q, ?_⟩
  rintro σ H R ⟨pt, S0, H0, S, ρ, m, E, h⟩
  refine ⟨pt, S0, H0, S, ρ, m, E, me _ _ _ _ (fun x m1 h1 v H1 e1 E1 x1 => ?_) h⟩
  obtain ⟨ds, rfl, h1⟩ := h1
  cases x1 with
  | lst hq0 ha =>
    have hq : SqL K (Wo S H1) _ _ := .of hq0
    refine ⟨_, rfl, ⟨_, sqL_same (Wo.sub _ _) hq⟩, h1 H1 _ e1 E1 fun i S' H' sm dm => ⟨fun d hd => ?_, fun hl => ?_⟩⟩
    · obtain ⟨v, hv, dv⟩ := ha.get hd
      refine ⟨⟨_, v, sqL_same (Wo.sub _ _) (sqL_same sm hq), hv⟩, fun u H2 hy => ?_⟩
      obtain ⟨rfl, hy⟩ := hy
      have := hy _ (sqL_same (Wo.sub _ _) (sqL_same sm hq))
      rw [hv] at this
      cases this
      exact ⟨.refl _, Dn.mono sm dv⟩
    · exact ⟨_, sqL_same (Wo.sub _ _) (sqL_same sm hq), by rw [ha.length]; exact Nat.le_of_eq hl⟩
theorem is_tup (me : MnE te) : IS K (iTup K (lfE K te)) (dSeqT te) := by
  refine ⟨fun ρ m Q Q' w q => me _ _ _ _ (fun d n ⟨ds, e, q⟩ => ⟨ds, e, w _ _ q⟩) q, ?_⟩
  rintro σ H R ⟨pt, S0, H0, S, ρ, m, E, h⟩
  refine ⟨pt, S0, H0, S, ρ, m, E, me _ _ _ _ (fun x m1 h1 v H1 e1 E1 x1 => ?_) h⟩
  obtain ⟨ds, rfl, h1⟩ := h1
  cases x1 with
  | tup hq ha =>
    refine ⟨_, rfl, ⟨_, sqT_same (Wo.sub _ _) hq⟩, h1 H1 _ e1 E1 fun i S' H' sm dm => ⟨fun d hd => ?_, fun hl => ?_⟩⟩
    · obtain ⟨v, hv, dv⟩ := ha.get hd
      refine ⟨⟨_, v, sqT_same (Wo.sub _ _) (sqT_same sm hq), hv⟩, fun u H2 hy => ?_⟩
      obtain ⟨rfl, hy⟩ := hy
      have := hy _ (sqT_same (Wo.sub _ _) (sqT_same sm hq))
      rw [hv] at this
      cases this
      exact ⟨.refl _, Dn.mono sm dv⟩
    · exact ⟨_, sqT_same (Wo.sub _ _) (sqT_same sm hq), by rw [ha.length]; exact Nat.le_of_eq hl⟩
end
/-- range(lo, hi) as data -/
def rgD (lo hi : Int) : List D := (List.range (hi - lo).toNat).map fun k => D.int (lo + (k : Nat))
theorem itd_range {K : PySem.W.Frag} {pt : Option Addr} {S : List Addr} {H1 : Hp} {lo hi : Int} : ItD K pt S H1 (Itr lo (hi - lo).toNat) (rgD lo hi) := fun i S' H' sm dm => by
  unfold rgD
  refine ⟨fun d hd => ?_, fun hl => by rw [List.length_map, List.length_range] at hl; exact Nat.le_of_eq hl⟩
  rw [List.getElem?_map] at hd
  obtain ⟨k, hk, rfl⟩ := Option.map_eq_some_iff.mp hd
  obtain ⟨h1, h2⟩ := List.getElem?_eq_some_iff.mp hk
  rw [List.length_range] at h1
  rw [List.getElem_range] at h2
  subst h2
  refine ⟨h1, fun v H2 hy => ?_⟩
  obtain ⟨rfl, rfl⟩ := hy
  exact ⟨.refl _, .int _⟩
def dRg1 (t : TDA) : TDA := fun ρ m Q => t ρ m fun ds m1 => ∃ j : Int, ds = [.int j] ∧ -(2 ^ 62) ≤ j ∧ j < 2 ^ 62 ∧ Q (rgD 0 j) m1
def dRg2 (t : TDA) : TDA := fun ρ m Q => t ρ m fun ds m1 => ∃ i j : Int, ds = [.int i, .int j] ∧ (-(2 ^ 62) ≤ i ∧ i < 2 ^ 62 ∧ -(2 ^ 62) ≤ j ∧ j < 2 ^ 62) ∧ Q (rgD i j) m1
section
variable {K : PySem.W.Frag} {t : TDA}
theorem is_rg1 (mt : MnA t) : IS K (iRng1 (lfA K t)) (dRg1 t) := by
  refine ⟨fun ρ m Q Q' w q => mt _ _ _ _ (fun d n ⟨ds, e, a, b, q⟩ => ⟨ds, e, a, b, w _ _ q⟩) q, ?_⟩
  rintro σ H R ⟨pt, S0, H0, S, ρ, m, E, h⟩
  refine ⟨pt, S0, H0, S, ρ, m, E, mt _ _ _ _ (fun x m1 h1 v H1 e1 E1 x1 => ?_) h⟩
  obtain ⟨j, rfl, h2, h3, h1⟩ := h1
  obtain ⟨v, rfl, hv⟩ := x1.one
  cases hv
  refine ⟨j, rfl, h2, h3, h1 H1 _ e1 E1 ?_⟩
  have := itd_range (K := K) (pt := pt) (S := S) (H1 := H1) (lo := 0) (hi := j)
  rwa [Int.sub_zero] at this
theorem is_rg2 (mt : MnA t) : IS K (iRng2 (lfA K t)) (dRg2 t) := by
  refine ⟨fun ρ m Q Q' w q => mt _ _ _ _ (fun d n ⟨i, j, e, a, q⟩ => ⟨i, j, e, a, w _ _ q⟩) q, ?_⟩
  rintro σ H R ⟨pt, S0, H0, S, ρ, m, E, h⟩
  refine ⟨pt, S0, H0, S, ρ, m, E, mt _ _ _ _ (fun x m1 h1 v H1 e1 E1 x1 => ?_) h⟩
  obtain ⟨i, j, rfl, h2, h1⟩ := h1
  obtain ⟨v, u, rfl, hv, hu⟩ := x1.two
  cases hv
  cases hu
  exact ⟨i, j, rfl, h2, h1 H1 _ e1 E1 itd_range⟩
/-- zip of two lists, of two tuples -/
def zipD (xs ys : List D) : List D := (xs.zip ys).map fun p => .tup [p.1, p.2]
def dZip (t : TDA) : TDA := fun ρ m Q => t ρ m fun ds m1 => ∃ xs ys, (ds = [.lst xs, .lst ys] ∨ ds = [.tup xs, .tup ys]) ∧ Q (zipD xs ys) m1
theorem is_zip (mt : MnA t) : IS K (RZ.iZipA K (lfA K t)) (dZip t) := by
  refine ⟨fun ρ m Q Q' w q => mt _ _ _ _ (fun d n ⟨i, j, e, q⟩ => ⟨i, j, e, w _ _ q⟩) q, ?_⟩
  rintro σ H R ⟨pt, S0, H0, S, ρ, m, E, h⟩
  refine ⟨pt, S0, H0, S, ρ, m, E, mt _ _ _ _ (fun x m1 h1 v H1 e1 E1 x1 => ?_) h⟩
  obtain ⟨xs, ys, e, h1⟩ := h1
  have pair : ∀ {i : Nat} {d : D}, (zipD xs ys)[i]? = some d → ∃ x y, xs[i]? = some x ∧ ys[i]? = some y ∧ d = .tup [x, y] := fun {i d} hd => by
    unfold zipD at hd
    rw [List.getElem?_map] at hd
    obtain ⟨p, hp, rfl⟩ := Option.map_eq_some_iff.mp hd
    obtain ⟨h1, h2⟩ := List.getElem?_zip_eq_some.mp hp
    exact ⟨_, _, h1, h2, rfl⟩
  have short : ∀ {i : Nat}, (zipD xs ys).length ≤ i → xs.length ≤ i ∨ ys.length ≤ i := fun {i} hl => by
    unfold zipD at hl
    rw [List.length_map, List.length_zip] at hl
    omega
  have fresh : ∀ {S' : List Addr} {H' : Hp} {T : Addr} {x y : V} {dx dy : D}, (∀ b ∈ S', H' b ≠ none) → H' T = none → Dn K pt (Wo S' H') x dx → Dn K pt (Wo S' H') y dy → Same H' (upd H' T (.tup [x, y])) ∧ Dn K pt (Wo S' (upd H' T (.tup [x, y]))) (.ref T) (.tup [dx, dy]) := fun {S' H' T x y dx dy} dm hT h1 h2 =>
    ⟨Same.new hT, .tup (.of (wo_new dm hT)) (.cons (h1.mono (Wo.same (Same.new hT))) (.cons (h2.mono (Wo.same (Same.new hT))) .nil))⟩
  rcases e with rfl | rfl
  · obtain ⟨a, b, rfl, ha, hb⟩ := x1.two
    cases ha with
    | lst qa0 ra =>
      have qa : SqL K (Wo S H1) _ _ := .of qa0
      cases hb with
      | lst qb0 rb =>
        have qb : SqL K (Wo S H1) _ _ := .of qb0
        refine ⟨_, _, _, _, rfl, .inl ⟨sqL_same (Wo.sub _ _) qa, sqL_same (Wo.sub _ _) qb, h1 H1 _ e1 E1 fun i S' H' sm dm => ⟨fun d hd => ?_, fun hl => ?_⟩⟩⟩
        · obtain ⟨x, y, hx, hy, rfl⟩ := pair hd
          obtain ⟨v, hv, dv⟩ := ra.get hx
          obtain ⟨u, hu, du⟩ := rb.get hy
          have la := sqL_same (Wo.sub _ _) (sqL_same sm qa)
          have lb := sqL_same (Wo.sub _ _) (sqL_same sm qb)
          refine ⟨⟨_, _, v, u, la, lb, hv, hu⟩, fun z H2 hz => ?_⟩
          obtain ⟨T, x', y', rfl, hT, rfl, q1, q2⟩ := hz
          have e1 := q1 _ la
          have e2 := q2 _ lb
          rw [hv] at e1
          rw [hu] at e2
          cases e1
          cases e2
          exact fresh dm hT (dv.mono sm) (du.mono sm)
        · refine ⟨_, _, sqL_same (Wo.sub _ _) (sqL_same sm qa), sqL_same (Wo.sub _ _) (sqL_same sm qb), ?_⟩
          rw [ra.length, rb.length]
          exact short (Nat.le_of_eq hl)
  · obtain ⟨a, b, rfl, ha, hb⟩ := x1.two
    cases ha with
    | tup qa ra =>
      cases hb with
      | tup qb rb =>
        refine ⟨_, _, _, _, rfl, .inr ⟨sqT_same (Wo.sub _ _) qa, sqT_same (Wo.sub _ _) qb, h1 H1 _ e1 E1 fun i S' H' sm dm => ⟨fun d hd => ?_, fun hl => ?_⟩⟩⟩
        · obtain ⟨x, y, hx, hy, rfl⟩ := pair hd
          obtain ⟨v, hv, dv⟩ := ra.get hx
          obtain ⟨u, hu, du⟩ := rb.get hy
          have la := sqT_same (Wo.sub _ _) (sqT_same sm qa)
          have lb := sqT_same (Wo.sub _ _) (sqT_same sm qb)
          refine ⟨⟨_, _, v, u, la, lb, hv, hu⟩, fun z H2 hz => ?_⟩
          obtain ⟨T, x', y', rfl, hT, rfl, q1, q2⟩ := hz
          have e1 := q1 _ la
          have e2 := q2 _ lb
          rw [hv] at e1
          rw [hu] at e2
          cases e1
          cases e2
          exact fresh dm hT (dv.mono sm) (du.mono sm)
        · refine ⟨_, _, sqT_same (Wo.sub _ _) (sqT_same sm qa), sqT_same (Wo.sub _ _) (sqT_same sm qb), ?_⟩
          rw [ra.length, rb.length]
          exact short (Nat.le_of_eq hl)
end
end Vd
end
section
set_option Elab.async false
set_option linter.all false
set_option maxRecDepth 100000
set_option autoImplicit false
set_option maxHeartbeats 1000000
namespace Vd
open PySem L2 PySem.Spec Vb
open PyProof.Rows hiding St
/-! ### list comprehensions -/
def lcD (f : TgD) (tt : TDT) (te : TD) (vs : List Nat) (ρ : Rho) : List D → List D → Nat → (List D → Nat → Prop) → Prop
  | [], acc, m, Q => Q acc m
  | x :: xs, acc, m, Q => ∃ ρ', f x (wipeR ρ vs) = some ρ' ∧ tt ρ' m fun b m1 => if b = true then te ρ' m1 fun y m2 => acc.length < sizeLine ∧ lcD f tt te vs ρ xs (acc ++ [y]) m2 Q else lcD f tt te vs ρ xs acc m1 Q
theorem lcD_mono {f : TgD} {tt : TDT} {te : TD} {vs : List Nat} {ρ : Rho} (mt : MnT tt) (me : MnE te) : ∀ {xs acc : List D} {m : Nat} {Q Q' : List D → Nat → Prop}, (∀ ds n, Q ds n → Q' ds n) → lcD f tt te vs ρ xs acc m Q → lcD f tt te vs ρ xs acc m Q'
  | [], acc, m, Q, Q', w, h => w _ _ h
  | x :: xs, acc, m, Q, Q', w, ⟨ρ', e, h⟩ => ⟨ρ', e, mt _ _ _ _ (fun b m1 h => by
    cases b
    · exact lcD_mono mt me w h
    · exact me _ _ _ _ (fun y m2 ⟨l, h⟩ => ⟨l, lcD_mono mt me w h⟩) h) h⟩
def dLc (ti : TDA) (f : TgD) (tt : TDT) (te : TD) (vs : List Nat) : TD := fun ρ m Q => ti ρ m fun ds m1 => lcD f tt te vs ρ ds [] m1 fun acc m2 => Q (.lst acc) m2
theorem lf_lc {K : PySem.W.Frag} {wi : TI} {ti : TDA} {g : TG} {f : TgD} {tt : TDT} {te : TD} {vs ws : List Nat} {tT : TT} (iz : IS K wi ti) (gs : GS K g f ws) (hw : ∀ i ∈ ws, i ∈ vs) (mt : MnT tt) (me : MnE te) (htT : ∀ σ H Q, lfT K tt σ H Q → tT σ H Q) :
    ∀ σ H Q, lfE K (dLc ti f tt te vs) σ H Q → tLc wi g tT (lfE K te) vs σ H Q := by
  rintro σ H Q ⟨pt, S0, H0, S, ρ, m, E, h⟩
  refine iz.2 _ _ _ ⟨pt, S0, H0, S, ρ, m, E, iz.1 _ _ _ _ (fun ds m1 h1 H1 J e1 E1 it => ?_) h⟩
  intro D hD
  obtain ⟨ED, h0, hp, hn, nS, wo⟩ := E1.newO (o := .lst []) hD
  refine ⟨fun i n H' => n = ds.length - i ∧ i ≤ ds.length ∧ ∃ accv accd m', Ev K pt S0 H0 (D :: S) σ H' ρ m' ∧ SameX pt H1 H' ∧ H' D = some (.lst accv) ∧ DnAll K pt (Wo (D :: S) H') accv accd ∧ lcD f tt te vs ρ (ds.drop i) accd m' fun acc m2 => ∀ v H'', SameX pt H H'' → Ev K pt S0 H0 S σ H'' ρ m2 → Dn K pt (Wo S H'') v (.lst acc) → Q v H'', ?_, ?_⟩
  · exact ⟨_, rfl, Nat.zero_le _, [], [], m1, ED, .of (Same.new hD), upd_same, .nil, h1⟩
  · rintro i n H' ⟨rfl, hi, accv, accd, m', E', s1, hA, dA, hl⟩
    have ssm : Same (Wo S H1) (Wo (D :: S) H') := fun b o q => by
      obtain ⟨nb, q⟩ := Wo.some q
      have nbD : b ≠ D := ne_of_none q hD
      rw [Wo.out (by simp only [List.mem_cons, not_or]; exact ⟨nbD, nb⟩)]
      exact s1 b o (fun z => nb (E1.pS b z)) q
    obtain ⟨go, stop⟩ := it i (D :: S) H' ssm E'.dom
    by_cases hlt : i < ds.length
    · obtain ⟨g1, g2⟩ := go ds[i] (List.getElem?_eq_getElem hlt)
      rw [List.drop_eq_getElem_cons hlt] at hl
      obtain ⟨ρ', e', hl⟩ := hl
      refine .inr ⟨g1, fun H'' => ∃ accv accd m', Ev K pt S0 H0 (D :: S) σ H'' ρ m' ∧ SameX pt H1 H'' ∧ H'' D = some (.lst accv) ∧ DnAll K pt (Wo (D :: S) H'') accv accd ∧ lcD f tt te vs ρ (ds.drop (i + 1)) accd m' fun acc m2 => ∀ v H'', SameX pt H H'' → Ev K pt S0 H0 S σ H'' ρ m2 → Dn K pt (Wo S H'') v (.lst acc) → Q v H'', fun H'' q => ⟨_, Nat.sub_lt_sub_left hlt (Nat.lt_succ_self i), rfl, hlt, q⟩, fun x H2 hy => ?_⟩
      obtain ⟨sm2, dx⟩ := g2 x H2 hy
      have E2 := E'.same sm2
      refine gs pt S0 (D :: S) H0 H2 _ _ ρ' m' x _ _ (E2.wipe vs) dx e' fun σ2 E3 ag => ⟨(Agree.wipe (ag.more hw)).trans (wipe_wipe vs σ), htT _ _ _ ⟨pt, S0, H0, D :: S, ρ', m', E3, mt _ _ _ _ (fun b m3 h3 H3 e3 E4 => ?_) hl⟩⟩
      · have back : ∀ {H4 : Hp} {m4 : Nat}, Ev K pt S0 H0 (D :: S) σ2 H4 ρ' m4 → SameX pt H2 H4 → Ev K pt S0 H0 (D :: S) σ H4 ρ m4 := fun {H4 m4} E4 s => E2.step s E4.pot
        cases b
        · exact ⟨accv, accd, m3, back E4 e3, s1.trans ((SameX.of sm2).trans e3), e3 _ _ hp (sm2 _ _ hA), dA.mono ((Wo.same sm2).trans (E2.wo e3)), h3⟩
        · refine ⟨pt, S0, H0, D :: S, ρ', m3, E4, me _ _ _ _ (fun y m4 h4 v H4 e4 E5 dy => ?_) h3⟩
          obtain ⟨l, h4⟩ := h4
          have hA4 : H4 D = some (.lst accv) := e4 _ _ hp (e3 _ _ hp (sm2 _ _ hA))
          have dA4 := dA.mono ((Wo.same sm2).trans ((E2.wo e3).trans (E4.wo e4)))
          have wo5 : Same (Wo (D :: S) H4) (Wo (D :: S) (upd H4 D (.lst (accv ++ [v])))) := fun b o q => by
            obtain ⟨nb, q⟩ := Wo.some q
            rw [Wo.out nb, upd_ne fun z => nb (by rw [z]; exact List.mem_cons_self)]
            exact q
          have nO : ∀ (i : Nat) (ds : List Vd.D), ρ[i]? ≠ some (some (.own D ds)) := hn
          refine ⟨accv, hA4, by rw [dA.length]; exact l, accv ++ [v], accd ++ [y], m4, (back E5 (e3.trans e4)).updO List.mem_cons_self h0 hp nO, fun b o nb q => ?_, upd_same, (dA4.mono wo5).append (.cons (dy.mono wo5) .nil), h4⟩
          rw [upd_ne (ne_of_none q hD)]
          exact e4 b o nb (e3 b o nb (sm2 b o (s1 b o nb q)))
    · have e : i = ds.length := by omega
      subst e
      rw [List.drop_length] at hl
      have E6 := E'.dropO nS hn h0
      exact .inl ⟨stop rfl, hl _ H' (e1.trans s1) E6 (.lst (by rw [Wo.out nS]; exact hA) (dA.mono (Wo.less fun b hb => List.mem_cons_of_mem _ hb)))⟩
structure DTs (X : Cx) (ifs : List Expr) (t : TDT) (T : TT) : Prop where
  pts : PTs X ifs T
  snd : ∀ σ H Q, lfT X.K t σ H Q → T σ H Q
  mn : MnT t
def dYes : TDT := fun _ m Q => Q true m
section
variable {X : Cx}
theorem dts_nil : DTs X [] dYes tYes := ⟨pts_nil, fun σ H Q ⟨pt, S0, H0, S, ρ, m, E, h⟩ => h H (.refl _ _) E, fun ρ m Q Q' w q => w _ _ q⟩
theorem dts_one {c : Expr} {t : TDT} (h : DT X c t) : DTs X [c] t (lfT X.K t) := ⟨pts_one h.pt, fun _ _ _ q => q, h.mn⟩
theorem de_lc {elt tg iter : Expr} {ifs : List Expr} {scope : Scope} {own : List (Str × Nat)} {pos : Pos} {wi : TI} {ti : TDA} {g : TG} {f : TgD} {ws : List Nat} {tt : TDT} {tT : TT} {te : TD} (hc : X.calm = true) (hN : X.N.Nodup) (hi : PI X tg iter wi) (iz : IS X.K wi ti) (ok : BlkOk X.N X.env.scope scope own)
    (gs : GS X.K g f ws) (hw : ∀ i ∈ ws, i ∈ own.map (·.2))
    (hg : ∀ (s : Shared) (H : Hp) (C : Addr) (cl : List (Str × Addr)) (fp : List Addr), PG (X.blk s H scope (compEnvC scope cl C X.env) fp) tg g)
    (ht : ∀ (s : Shared) (H : Hp) (C : Addr) (cl : List (Str × Addr)) (fp : List Addr), DTs (X.blk s H scope (compEnvC scope cl C X.env) fp) ifs tt tT)
    (he : ∀ (s : Shared) (H : Hp) (C : Addr) (cl : List (Str × Addr)) (fp : List Addr), DE (X.blk s H scope (compEnvC scope cl C X.env) fp) elt te) (mt : MnT tt) (me : MnE te) (snd : ∀ σ H Q, lfT X.K tt σ H Q → tT σ H Q) (hs : ∀ x, foldedSetIterable iter X.env x = pure x := by intro _; rfl) :
    DE X (.ListComp elt [⟨tg, iter, ifs, 0⟩] scope pos) (dLc ti f tt te (own.map (·.2))) :=
  ⟨pe_wk' (pe_lc hc hN hi ok hg (fun s H C cl fp => (ht s H C cl fp).pts) (fun s H C cl fp => (he s H C cl fp).pe) hs) (lf_lc iz gs hw mt me snd), fun ρ m Q Q' w q => iz.1 _ _ _ _ (fun ds m1 q => lcD_mono mt me (fun _ _ q => w _ _ q) q) q⟩
end
/-! ### statements -/
structure Ed where
  nx : Rho → Nat → Prop
  rt : D → Nat → Prop
  bk : Rho → Nat → Prop := fun _ _ => False
  ct : Rho → Nat → Prop := fun _ _ => False
abbrev TSD := Ed → Rho → Nat → Prop
structure Ed.Le (a b : Ed) : Prop where
  nx : ∀ ρ m, a.nx ρ m → b.nx ρ m
  rt : ∀ d m, a.rt d m → b.rt d m
  bk : ∀ ρ m, a.bk ρ m → b.bk ρ m
  ct : ∀ ρ m, a.ct ρ m → b.ct ρ m
def MnS (t : TSD) : Prop := ∀ (a b : Ed) ρ m, a.Le b → t a ρ m → t b ρ m
/-- how the ends of a statement over data lie over the heap -/
def lfEd (K : PySem.W.Frag) (pt : Option Addr) (S0 : List Addr) (H0 : Hp) (S : List Addr) (H : Hp) (D : Ends) : Ed where
  nx := fun ρ' m' => ∀ σ' H' S', Ev K pt S0 H0 S' σ' H' ρ' m' → Same (Wo S H) (Wo S' H') → D.nx σ' H'
  bk := fun ρ' m' => ∀ σ' H' S', Ev K pt S0 H0 S' σ' H' ρ' m' → Same (Wo S H) (Wo S' H') → D.bk σ' H'
  ct := fun ρ' m' => ∀ σ' H' S', Ev K pt S0 H0 S' σ' H' ρ' m' → Same (Wo S H) (Wo S' H') → D.ct σ' H'
  rt := fun d m' => ∀ v H', SameX pt H0 H' → PotX pt H' m' → Dn K pt (Wo S0 H') v d → D.rt v H'
def lfS (K : PySem.W.Frag) (t : TSD) : TS := fun D σ H => ∃ pt S0 H0 S ρ m, Ev K pt S0 H0 S σ H ρ m ∧ t (lfEd K pt S0 H0 S H D) ρ m
theorem lfEd_le {K : PySem.W.Frag} {pt : Option Addr} {S0 S S1 : List Addr} {H0 H H1 : Hp} {D : Ends} (e : Same (Wo S H) (Wo S1 H1)) : (lfEd K pt S0 H0 S H D).Le (lfEd K pt S0 H0 S1 H1 D) :=
  ⟨fun _ _ q σ' H' S' E s => q σ' H' S' E (e.trans s), fun _ _ q => q, fun _ _ q σ' H' S' E s => q σ' H' S' E (e.trans s), fun _ _ q σ' H' S' E s => q σ' H' S' E (e.trans s)⟩
structure DS (X : Cx) (st : Stmt) (t : TSD) : Prop where
  ps : PS X st (lfS X.K t)
  mn : MnS t
structure DSs (X : Cx) (st : List Stmt) (t : TSD) : Prop where
  pss : PSs X st (lfS X.K t)
  mn : MnS t
theorem ps_wk' {X : Cx} {st : Stmt} {t u : TS} (h : PS X st t) (w : ∀ D σ H, u D σ H → t D σ H) : PS X st u := ⟨fun pins s σ H D I q => h.run pins s σ H D I (w D σ H q)⟩
theorem pss_wk' {X : Cx} {st : List Stmt} {t u : TS} (h : PSs X st t) (w : ∀ D σ H, u D σ H → t D σ H) : PSs X st u := ⟨fun pins s σ H D I q => h.run pins s σ H D I (w D σ H q)⟩
section
variable {X : Cx} {st : Stmt} {rest a b : List Stmt} {t u : TSD} {c e : Expr} {pos : Pos} {te : TD} {tc : TDT}
def sSeq (t u : TSD) : TSD := fun D ρ m => t { D with nx := u D } ρ m
def sNil : TSD := fun D ρ m => D.nx ρ m
theorem dss_nil : DSs X [] sNil := by
  refine ⟨pss_wk' pss_nil ?_, fun a b ρ m l q => l.nx _ _ q⟩
  rintro D σ H ⟨pt, S0, H0, S, ρ, m, E, h⟩
  exact h σ H S E (.refl _)
theorem dss_cons (h1 : DS X st t) (h2 : DSs X rest u) : DSs X (st :: rest) (sSeq t u) := by
  refine ⟨pss_wk' (pss_cons h1.ps h2.pss) ?_, fun a b ρ m l q => h1.mn { a with nx := u a } { b with nx := u b } ρ m ⟨fun ρ m q => h2.mn _ _ _ _ l q, l.rt, l.bk, l.ct⟩ q⟩
  rintro D σ H ⟨pt, S0, H0, S, ρ, m, E, h⟩
  refine ⟨pt, S0, H0, S, ρ, m, E, h1.mn { lfEd X.K pt S0 H0 S H D with nx := u (lfEd X.K pt S0 H0 S H D) } _ _ _ ⟨fun ρ1 m1 q σ1 H1 S1 E1 s1 => ?_, fun _ _ q => q, fun _ _ q => q, fun _ _ q => q⟩ h⟩
  exact ⟨pt, S0, H0, S1, ρ1, m1, E1, h2.mn _ _ _ _ (lfEd_le s1) q⟩
theorem dss_one (h1 : DS X st t) : DSs X [st] t := ⟨pss_one h1.ps, h1.mn⟩
def sIf (tc : TDT) (t u : TSD) : TSD := fun D ρ m => tc ρ m fun b m1 => if b = true then t D ρ m1 else u D ρ m1
theorem ds_if (hc : DT X c tc) (ha : DSs X a t) (hb : DSs X b u) : DS X (.If c a b pos) (sIf tc t u) := by
  refine ⟨ps_wk' (ps_if hc.pt ha.pss hb.pss) ?_, fun a b ρ m l q => hc.mn _ _ _ _ (fun k n q => by
    cases k
    · exact hb.mn _ _ _ _ l q
    · exact ha.mn _ _ _ _ l q) q⟩
  rintro D σ H ⟨pt, S0, H0, S, ρ, m, E, h⟩
  refine ⟨pt, S0, H0, S, ρ, m, E, hc.mn _ _ _ _ (fun k m1 h1 H1 e1 E1 => ?_) h⟩
  cases k
  · exact ⟨pt, S0, H0, S, ρ, m1, E1, hb.mn _ _ _ _ (lfEd_le (E.wo e1)) h1⟩
  · exact ⟨pt, S0, H0, S, ρ, m1, E1, ha.mn _ _ _ _ (lfEd_le (E.wo e1)) h1⟩
def sRet (te : TD) : TSD := fun D ρ m => te ρ m D.rt
theorem ds_ret (he : DE X e te) : DS X (.Return (some e) pos) (sRet te) := by
  refine ⟨ps_wk' (ps_ret he.pe) ?_, fun a b ρ m l q => he.mn _ _ _ _ l.rt q⟩
  rintro D σ H ⟨pt, S0, H0, S, ρ, m, E, h⟩
  exact ⟨pt, S0, H0, S, ρ, m, E, he.mn _ _ _ _ (fun d m1 h1 v H1 e1 E1 x1 => h1 v H1 E1.frm E1.pot (x1.mono (Wo.less E1.inc))) h⟩
def sDrop (te : TD) : TSD := fun D ρ m => te ρ m fun _ m1 => D.nx ρ m1
theorem ds_expr (he : DE X e te) (hs : swapsWith e none pos.line X.env = pure false := by rfl) : DS X (.Expr e pos) (sDrop te) := by
  refine ⟨ps_wk' (ps_expr he.pe hs) ?_, fun a b ρ m l q => he.mn _ _ _ _ (fun _ _ q => l.nx _ _ q) q⟩
  rintro D σ H ⟨pt, S0, H0, S, ρ, m, E, h⟩
  exact ⟨pt, S0, H0, S, ρ, m, E, he.mn _ _ _ _ (fun d m1 h1 v H1 e1 E1 x1 => h1 σ H1 S E1 (E.wo e1)) h⟩
def sAsg (te : TD) (f : TgD) : TSD := fun D ρ m => te ρ m fun d m1 => ∃ ρ', f d ρ = some ρ' ∧ D.nx ρ' m1
theorem mn_asg {f : TgD} (me : MnE te) : MnS (sAsg te f) := fun a b ρ m l q => me _ _ _ _ (fun _ _ ⟨ρ', e, q⟩ => ⟨ρ', e, l.nx _ _ q⟩) q
theorem lf_asg {K : PySem.W.Frag} {g : TG} {f : TgD} {vs : List Nat} (gs : GS K g f vs) (me : MnE te) : ∀ D σ H, lfS K (sAsg te f) D σ H → tAsg (lfE K te) g D σ H := by
  rintro D σ H ⟨pt, S0, H0, S, ρ, m, E, h⟩
  refine ⟨pt, S0, H0, S, ρ, m, E, me _ _ _ _ (fun d m1 h1 v H1 e1 E1 x1 => ?_) h⟩
  obtain ⟨ρ', e, h1⟩ := h1
  exact gs pt S0 S H0 H1 σ ρ ρ' m1 v d _ E1 x1 e fun σ' E' ag => h1 σ' H1 S E' (E.wo e1)
theorem ds_set {i : Nat} {x : Str} {pos' : Pos} (hN : X.N.Nodup) (hi : X.N[i]? = some x) (hx : Loc X.env.scope x) (he : DE X e te) (hs : swapsWith e (some (.Name x pos')) pos.line X.env = pure false := by rfl) (hf : X.fn x = true ∨ X.env.scope.names.lookup x = some .local := by first | exact .inl rfl | exact .inr rfl | assumption) :
    DS X (.Assign [.Name x pos'] e pos) (sAsg te (fName i)) := ⟨ps_wk' (ps_set hN hi hx he.pe hs hf) (lf_asg gs_name he.mn), mn_asg he.mn⟩
theorem ds_setLc {i : Nat} {y : Str} {py : Pos} {elt tg iter : Expr} {ifs : List Expr} {scope : Scope} {own : List (Str × Nat)} {pos spos : Pos} {wi : TI} {ti : TDA} {g : TG} {f : TgD} {ws : List Nat} {tt : TDT} {tT : TT} {te : TD} (hc : X.calm = true) (hN : X.N.Nodup) (hy : X.N[i]? = some y) (hyl : X.env.scope.names.lookup y = some .local)
    (hsw : swapsWith (.ListComp elt [⟨tg, iter, ifs, 0⟩] scope pos) (some (.Name y py)) spos.line X.env = pure true) (hi : PI X tg iter wi) (iz : IS X.K wi ti) (ok : BlkOk X.N X.env.scope scope own)
    (gs : GS X.K g f ws) (hw : ∀ i ∈ ws, i ∈ own.map (·.2))
    (hg : ∀ (s : Shared) (H : Hp) (C : Addr) (cl : List (Str × Addr)) (fp : List Addr), PG (X.blk s H scope (compEnvC scope cl C X.env) fp) tg g)
    (ht : ∀ (s : Shared) (H : Hp) (C : Addr) (cl : List (Str × Addr)) (fp : List Addr), DTs (X.blk s H scope (compEnvC scope cl C X.env) fp) ifs tt tT)
    (he : ∀ (s : Shared) (H : Hp) (C : Addr) (cl : List (Str × Addr)) (fp : List Addr), DE (X.blk s H scope (compEnvC scope cl C X.env) fp) elt te) (mt : MnT tt) (me : MnE te) (snd : ∀ σ H Q, lfT X.K tt σ H Q → tT σ H Q) (hs : ∀ x, foldedSetIterable iter X.env x = pure x := by intro _; rfl) :
    DS X (.Assign [.Name y py] (.ListComp elt [⟨tg, iter, ifs, 0⟩] scope pos) spos) (sAsg (dLc ti f tt te (own.map (·.2))) (fName i)) := by
  have mn : MnE (dLc ti f tt te (own.map (·.2))) := fun ρ m Q Q' w q => iz.1 _ _ _ _ (fun ds m1 q => lcD_mono mt me (fun _ _ q => w _ _ q) q) q
  refine ⟨ps_wk' (ps_setLc hc hN hy hyl hsw hi ok hg (fun s H C cl fp => (ht s H C cl fp).pts) (te := lfE X.K te) (fun s H C cl fp => (he s H C cl fp).pe) hs) fun D σ H q => ?_, mn_asg mn⟩
  have q' := lf_asg (g := gName i) gs_name mn D σ H q
  exact lf_lc iz gs hw mt me snd _ _ _ q'
theorem ds_asg {tg : Expr} {g : TG} {f : TgD} {vs : List Nat} (he : DE X e te) (hg : PG X tg g) (gs : GS X.K g f vs) (hs : swapsWithSole [tg] e pos.line X.env = pure false := by rfl) (hw : swappedStores [tg] e X.env = pure none := by rfl)
    (h1 : (assignEach [tg] X.env).map (·.2) = [assign tg X.env] := by rfl) : DS X (.Assign [tg] e pos) (sAsg te f) := ⟨ps_wk' (ps_asg he.pe hg hs hw h1) (lf_asg gs he.mn), mn_asg he.mn⟩
/-! ### loops -/
def flD (f : TgD) (tb : TSD) (D : Ed) : List Vd.D → Rho → Nat → Prop
  | [], ρ, m => D.nx ρ m
  | x :: xs, ρ, m => ∃ ρ', f x ρ = some ρ' ∧ tb { nx := flD f tb D xs, ct := flD f tb D xs, bk := D.nx, rt := D.rt } ρ' m
def sFor (ti : TDA) (f : TgD) (tb : TSD) : TSD := fun D ρ m => ti ρ m fun ds m1 => flD f tb D ds ρ m1
theorem flD_mono {f : TgD} {tb : TSD} (mb : MnS tb) {a b : Ed} (l : a.Le b) : ∀ {xs : List D} {ρ : Rho} {m : Nat}, flD f tb a xs ρ m → flD f tb b xs ρ m
  | [], _, _, h => l.nx _ _ h
  | x :: xs, _, _, ⟨ρ', e, h⟩ => ⟨ρ', e, mb { nx := flD f tb a xs, ct := flD f tb a xs, bk := a.nx, rt := a.rt } _ _ _ ⟨fun _ _ q => flD_mono mb l q, l.rt, l.nx, fun _ _ q => flD_mono mb l q⟩ h⟩
theorem ds_for {tg iter : Expr} {body : List Stmt} {wi : TI} {ti : TDA} {g : TG} {f : TgD} {vs : List Nat} {tb : TSD} (hp : PassesOwn (model X.prog X.w) X.A X.env X.xe) (hc : X.calm = true) (hi : PI X tg iter wi) (iz : IS X.K wi ti) (hg : PG X tg g) (gs : GS X.K g f vs) (hb : DSs X body tb)
    (hs : ∀ x, foldedSetIterable iter X.env x = pure x := by intro _; rfl) : DS X (.For tg iter body [] pos) (sFor ti f tb) := by
  refine ⟨ps_wk' (ps_for hp hc hi hg hb.pss hs) ?_, fun a b ρ m l q => iz.1 _ _ _ _ (fun _ _ q => flD_mono hb.mn l q) q⟩
  rintro D σ H ⟨pt, S0, H0, S, ρ, m, E, h⟩
  refine iz.2 _ _ _ ⟨pt, S0, H0, S, ρ, m, E, iz.1 _ _ _ _ (fun ds m1 h1 H1 J e1 E1 it => ?_) h⟩
  refine ⟨fun i n σ' H' => n = ds.length - i ∧ i ≤ ds.length ∧ ∃ S' ρ' m', Ev X.K pt S0 H0 S' σ' H' ρ' m' ∧ Same (Wo S H1) (Wo S' H') ∧ flD f tb (lfEd X.K pt S0 H0 S H1 D) (ds.drop i) ρ' m', ?_, ?_⟩
  · exact ⟨_, rfl, Nat.zero_le _, S, ρ, m1, E1, .refl _, flD_mono hb.mn (lfEd_le (E.wo e1)) h1⟩
  · rintro i n σ' H' ⟨rfl, hi, S', ρ', m', E', sm, hl⟩
    obtain ⟨go, stop⟩ := it i S' H' sm E'.dom
    by_cases hlt : i < ds.length
    · obtain ⟨g1, g2⟩ := go ds[i] (List.getElem?_eq_getElem hlt)
      rw [List.drop_eq_getElem_cons hlt] at hl
      obtain ⟨ρ2, e2, hl⟩ := hl
      refine .inr ⟨g1, fun σ'' H'' => ∃ S' ρ' m', Ev X.K pt S0 H0 S' σ'' H'' ρ' m' ∧ Same (Wo S H1) (Wo S' H'') ∧ flD f tb (lfEd X.K pt S0 H0 S H1 D) (ds.drop (i + 1)) ρ' m', fun σ'' H'' q => ⟨_, Nat.sub_lt_sub_left hlt (Nat.lt_succ_self i), rfl, hlt, q⟩, fun x H2 hy => ?_⟩
      obtain ⟨sm2, dx⟩ := g2 x H2 hy
      refine gs pt S0 S' H0 H2 σ' ρ' ρ2 m' x _ _ (E'.same sm2) dx e2 fun σ2 E2 ag => ?_
      refine ⟨pt, S0, H0, S', ρ2, m', E2, hb.mn { nx := flD f tb (lfEd X.K pt S0 H0 S H1 D) (ds.drop (i + 1)), ct := flD f tb (lfEd X.K pt S0 H0 S H1 D) (ds.drop (i + 1)), bk := (lfEd X.K pt S0 H0 S H1 D).nx, rt := (lfEd X.K pt S0 H0 S H1 D).rt } _ _ _ ⟨fun ρ3 m3 q σ3 H3 S3 E3 s3 => ?_, fun _ _ q => q, fun ρ3 m3 q σ3 H3 S3 E3 s3 => ?_, fun ρ3 m3 q σ3 H3 S3 E3 s3 => ?_⟩ hl⟩
      · exact ⟨S3, ρ3, m3, E3, sm.trans ((Wo.same sm2).trans s3), q⟩
      · exact q σ3 H3 S3 E3 (sm.trans ((Wo.same sm2).trans s3))
      · exact ⟨S3, ρ3, m3, E3, sm.trans ((Wo.same sm2).trans s3), q⟩
    · have e : i = ds.length := by omega
      subst e
      rw [List.drop_length] at hl
      exact .inl ⟨stop rfl, hl σ' H' S' E' sm⟩
end
/-! ### defs -/
section
variable {P : Program} {w : World} {K : PySem.W.Frag} {mg : Str → Option Value} {base : Heap} {x qual : Str} {st : Stmt} {f : Addr} {fd : FuncData} {N ps : List Str} {k : Nat} {F : FD} {t : TSD}
def startR (N : List Str) (ds : List D) : Rho := ds.map (fun d => some (.d d)) ++ List.replicate (N.length - ds.length) none
theorem start_ev {pt : Option Addr} {S : List Addr} {H : Hp} {vs : List V} {ds : List D} {m : Nat} (hd : ∀ b ∈ S, H b ≠ none) (hp : ∀ p, pt = some p → p ∈ S) (po : PotX pt H m) (ha : DnAll K pt (Wo S H) vs ds) : Ev K pt S H S (L2.start N vs) H (startR N ds) m := by
  have at_ : ∀ (i : Nat) (c : C), (startR N ds)[i]? = some (some c) → ∃ d, ds[i]? = some d ∧ c = .d d := fun i c q => by
    unfold startR at q
    by_cases l : i < ds.length
    · rw [List.getElem?_append_left (by rw [List.length_map]; exact l), List.getElem?_map, List.getElem?_eq_getElem l] at q
      exact ⟨ds[i], List.getElem?_eq_getElem l, (Option.some.inj (Option.some.inj q)).symm⟩
    · rw [List.getElem?_append_right (by rw [List.length_map]; omega), List.getElem?_replicate] at q
      split at q
      · cases q
      · cases q
  refine ⟨hd, hd, fun b hb => .inl hb, fun b hb => hb, .refl _ _, hp, po, ?_, fun i c q => ?_, fun i j a ds' es n q1 q2 => ?_⟩
  · unfold L2.start startR
    rw [List.length_append, List.length_append, List.length_map, List.length_map, List.length_replicate, List.length_replicate, ha.length]
  · obtain ⟨d, hd, rfl⟩ := at_ i c q
    obtain ⟨v, hv, r⟩ := ha.get hd
    refine ⟨v, ?_, r⟩
    unfold L2.start
    have l := (List.getElem?_eq_some_iff.mp hv).1
    rw [List.getElem?_append_left (by rw [List.length_map]; exact l), List.getElem?_map, hv]
    rfl
  · obtain ⟨d, _, z⟩ := at_ i _ q1
    cases z
/-- a def keeps the promise F -/
theorem Fun.okD (Fu : Fun K x qual st f fd) (S : FnScope N ps (defScope st)) (len : ∀ ds m Q, F ds m Q → ds.length = ps.length)
    (hbody : ∀ (cdv : Value) (A : Around) (outer : List Env) (s : Shared) (H : Hp) (E : XK), Room k (A.deeper (envOfC qual (defScope st) s.heap.objs.size f cdv)) → DSs (cxOf CX0 P w K mg base N qual (defScope st) f cdv A outer s H E).nox (defBody st) t)
    (h : ∀ ds m Q, F ds m Q → t { nx := fun _ m' => Q .non m', rt := Q } (startR N ds) m) : FnOk P w K mg base CX0 (k + 1) f fd ps (spD K F) := by
  refine Fu.ok S (fun vs H Q E q => ?_) fun cdv A outer s H vs Q E hr q => ?_
  · obtain ⟨pt, S', ds, m, _, _, _, ha, q⟩ := q
    rw [ha.length]
    exact len _ _ _ q
  · obtain ⟨pt, S', ds, m, hd, hp, po, ha, q⟩ := q
    have B := hbody cdv A outer s H E hr
    refine ⟨_, B.pss, pt, S', H, S', _, m, start_ev hd hp po ha, B.mn { nx := fun _ m' => (fun d m' => ∀ v H', SameX pt H H' → PotX pt H' m' → Dn K pt (Wo S' H') v d → Q v H') .non m', rt := fun d m' => ∀ v H', SameX pt H H' → PotX pt H' m' → Dn K pt (Wo S' H') v d → Q v H' } _ _ _ ⟨fun ρ m q σ' H' S'' E' _ => ?_, fun d m q v H' a b c => q v H' a b c, fun _ _ q => q.elim, fun _ _ q => q.elim⟩ (h _ _ _ q)⟩
    exact q .non H' E'.frm E'.pot .non
theorem okDG (Fu : Fun K x qual st f fd) (S : FnScope N ps (defScope st)) (len : ∀ ds m Q, F ds m Q → ds.length = ps.length)
    (hbody : ∀ (cdv : Value) (A : Around) (outer : List Env) (s : Shared) (H : Hp) (E : XK), A.guards = some [] → Room k (A.deeper (envOfC qual (defScope st) s.heap.objs.size f cdv)) → DSs (cxOf CX0 P w K mg base N qual (defScope st) f cdv A outer s H E).nox (defBody st) t)
    (h : ∀ ds m Q, F ds m Q → t { nx := fun _ m' => Q .non m', rt := Q } (startR N ds) m) : FnG P w K mg base CX0 (k + 1) f fd ps (spD K F) := by
  refine okG Fu S (fun vs H Q E q => ?_) fun cdv A outer s H vs Q E hg hr q => ?_
  · obtain ⟨pt, S', ds, m, _, _, _, ha, q⟩ := q
    rw [ha.length]
    exact len _ _ _ q
  · obtain ⟨pt, S', ds, m, hd, hp, po, ha, q⟩ := q
    have B := hbody cdv A outer s H E hg hr
    refine ⟨_, B.pss, pt, S', H, S', _, m, start_ev hd hp po ha, B.mn { nx := fun _ m' => (fun d m' => ∀ v H', SameX pt H H' → PotX pt H' m' → Dn K pt (Wo S' H') v d → Q v H') .non m', rt := fun d m' => ∀ v H', SameX pt H H' → PotX pt H' m' → Dn K pt (Wo S' H') v d → Q v H' } _ _ _ ⟨fun ρ m q σ' H' S'' E' _ => ?_, fun d m q v H' a b c => q v H' a b c, fun _ _ q => q.elim, fun _ _ q => q.elim⟩ (h _ _ _ q)⟩
    exact q .non H' E'.frm E'.pot .non
end
end Vd
end
section
set_option Elab.async false
set_option linter.all false
set_option maxRecDepth 100000
set_option autoImplicit false
set_option maxHeartbeats 1000000
namespace Vd
open PySem L2 PySem.Spec Vb
open PyProof.Rows hiding St
/-! ### lists of one's own -/
section
variable {K : PySem.W.Frag} {pt : Option Addr} {S0 S : List Addr} {H0 H H' : Hp} {σ : St} {ρ : Rho} {m : Nat}
theorem Ev.at_own (E : Ev K pt S0 H0 S σ H ρ m) {i : Nat} {a : Addr} {ds : List D} (h : ρ[i]? = some (some (.own a ds))) :
    σ[i]? = some (some (.ref a)) ∧ a ∈ S ∧ H0 a = none ∧ pt ≠ some a ∧ ∃ vs, H a = some (.lst vs) ∧ DnAll K pt (Wo S H) vs ds := by
  obtain ⟨v, q, rfl, r⟩ := E.var i _ h
  exact ⟨q, r⟩
/-- what stands at the own list changes -/
theorem Ev.grow (E : Ev K pt S0 H0 S σ H ρ m) {i : Nat} {a : Addr} {ds es : List D} {vs : List V} (h : ρ[i]? = some (some (.own a ds))) (hv : DnAll K pt (Wo S H) vs es) :
    Ev K pt S0 H0 S σ (upd H a (.lst vs)) (ρ.set i (some (.own a es))) m ∧ Same (Wo S H) (Wo S (upd H a (.lst vs))) := by
  obtain ⟨q, hS, h0, hp, _⟩ := E.at_own h
  have wo : Same (Wo S H) (Wo S (upd H a (.lst vs))) := fun b u q => by
    obtain ⟨n, q⟩ := Wo.some q
    have nb : b ≠ a := fun e => n (by rw [e]; exact hS)
    rw [Wo.out n, upd_ne nb]
    exact q
  have li : i < ρ.length := (List.getElem?_eq_some_iff.mp h).1
  refine ⟨⟨E.dom0, fun b hb => ?_, E.sub, E.inc, fun b u n q => ?_, E.ptS, fun p e => ?_, by rw [List.length_set]; exact E.len, fun j c q => ?_, fun j k b ds' es' n q1 q2 => ?_⟩, wo⟩
  · by_cases e : b = a
    · rw [e, upd_same]
      exact fun z => nomatch z
    · rw [upd_ne e]
      exact E.dom b hb
  · rw [upd_ne fun e => by rw [e, h0] at q; cases q]
    exact E.frm b u n q
  · obtain ⟨x, y, z, q, r⟩ := E.pot p e
    exact ⟨x, y, z, by rw [upd_ne fun u => hp (by rw [e, u])]; exact q, r⟩
  · by_cases e : i = j
    · subst e
      rw [List.getElem?_set_self li] at q
      cases q
      exact ⟨.ref a, by assumption, rfl, hS, h0, hp, vs, upd_same, hv.mono wo⟩
    · rw [List.getElem?_set_ne e] at q
      obtain ⟨v, e1, r⟩ := E.var j c q
      refine ⟨v, e1, ?_⟩
      cases c with
      | d x => exact Dn.mono wo r
      | own b fs =>
        obtain ⟨r1, r2, r3, r4, us, r5, r6⟩ := r
        refine ⟨r1, r2, r3, r4, us, ?_, DnAll.mono wo r6⟩
        rw [upd_ne fun z => E.dis i j a ds fs e h (by rw [← z]; exact q)]
        exact r5
  · have out : ∀ {j : Nat} {b : Addr} {fs : List D}, (ρ.set i (some (.own a es)))[j]? = some (some (.own b fs)) → ∃ gs, ρ[j]? = some (some (.own b gs)) := fun {j b fs} q => by
      by_cases e : i = j
      · subst e
        rw [List.getElem?_set_self li] at q
        cases q
        exact ⟨_, h⟩
      · rw [List.getElem?_set_ne e] at q
        exact ⟨_, q⟩
    obtain ⟨g1, q1⟩ := out q1
    obtain ⟨g2, q2⟩ := out q2
    exact E.dis j k b g1 g2 n q1 q2
/-- the own list is let go: it is a datum from here on -/
theorem Ev.freeze (E : Ev K pt S0 H0 S σ H ρ m) {i : Nat} {a : Addr} {ds : List D} (h : ρ[i]? = some (some (.own a ds))) :
    Ev K pt S0 H0 (S.filter fun b => decide (b ≠ a)) σ H (ρ.set i (some (.d (.lst ds)))) m ∧ Same (Wo S H) (Wo (S.filter fun b => decide (b ≠ a)) H) := by
  obtain ⟨q, hS, h0, hp, vs, hH, hv⟩ := E.at_own h
  have mem : ∀ b, b ∈ S.filter (fun b => decide (b ≠ a)) ↔ b ∈ S ∧ b ≠ a := fun b => by rw [List.mem_filter, decide_eq_true_eq]
  have wo : Same (Wo S H) (Wo (S.filter fun b => decide (b ≠ a)) H) := Wo.less fun b hb => ((mem b).mp hb).1
  have li : i < ρ.length := (List.getElem?_eq_some_iff.mp h).1
  have out : ∀ {j : Nat} {c : C}, (ρ.set i (some (.d (.lst ds))))[j]? = some (some c) → (j = i ∧ c = .d (.lst ds)) ∨ (i ≠ j ∧ ρ[j]? = some (some c)) := fun {j c} q => by
    by_cases e : i = j
    · subst e
      rw [List.getElem?_set_self li] at q
      cases q
      exact .inl ⟨rfl, rfl⟩
    · rw [List.getElem?_set_ne e] at q
      exact .inr ⟨e, q⟩
  refine ⟨⟨E.dom0, fun b hb => E.dom b ((mem b).mp hb).1, fun b hb => E.sub b ((mem b).mp hb).1, fun b hb => (mem b).mpr ⟨E.inc b hb, fun e => E.dom0 b hb (by rw [e]; exact h0)⟩, E.frm, E.ptS, E.pot, by rw [List.length_set]; exact E.len, fun j c q => ?_, fun j k b d1 d2 n q1 q2 => ?_⟩, wo⟩
  · rcases out q with ⟨rfl, rfl⟩ | ⟨ne, q⟩
    · exact ⟨.ref a, by assumption, .lst (by rw [Wo.out fun z => ((mem a).mp z).2 rfl]; exact hH) (hv.mono wo)⟩
    · obtain ⟨v, e1, r⟩ := E.var j c q
      refine ⟨v, e1, ?_⟩
      cases c with
      | d x => exact Dn.mono wo r
      | own b fs =>
        obtain ⟨r1, r2, r3, r4, us, r5, r6⟩ := r
        exact ⟨r1, (mem b).mpr ⟨r2, fun z => E.dis i j a ds fs ne h (by rw [← z]; exact q)⟩, r3, r4, us, r5, DnAll.mono wo r6⟩
  · rcases out q1 with ⟨_, z⟩ | ⟨_, q1⟩
    · cases z
    · rcases out q2 with ⟨_, z⟩ | ⟨_, q2⟩
      · cases z
      · exact E.dis j k b d1 d2 n q1 q2
end
section
variable {X : Cx} {e : Expr} {es : List Expr} {rest : List Stmt} {u : TSD} {te : TD} {t : TDA} {tc : TDT} {pos : Pos}
def sFrz (i : Nat) (u : TSD) : TSD := fun D ρ m => ∃ a ds, ρ[i]? = some (some (.own a ds)) ∧ u D (ρ.set i (some (.d (.lst ds)))) m
theorem dss_frz (i : Nat) (h : DSs X rest u) : DSs X rest (sFrz i u) := by
  refine ⟨pss_wk' h.pss ?_, fun a b ρ m l ⟨x, ds, e, q⟩ => ⟨x, ds, e, h.mn _ _ _ _ l q⟩⟩
  rintro D σ H ⟨pt, S0, H0, S, ρ, m, E, a, ds, e, q⟩
  obtain ⟨E', s⟩ := E.freeze e
  exact ⟨pt, S0, H0, _, _, m, E', h.mn _ _ _ _ (lfEd_le s) q⟩
/-- a test may look at an own list -/
def dBor (i : Nat) (t : TDT) : TDT := fun ρ m Q => ∃ a ds, ρ[i]? = some (some (.own a ds)) ∧ t (ρ.set i (some (.d (.lst ds)))) m Q
theorem dt_bor (i : Nat) (h : DT X e tc) : DT X e (dBor i tc) := by
  refine ⟨pt_wk' h.pt ?_, fun ρ m Q Q' w ⟨x, ds, e, q⟩ => ⟨x, ds, e, h.mn _ _ _ _ w q⟩⟩
  rintro σ H Q ⟨pt, S0, H0, S, ρ, m, E, a, ds, e, q⟩
  obtain ⟨E', s⟩ := E.freeze e
  exact ⟨pt, S0, H0, _, _, m, E', h.mn _ _ _ _ (fun b m1 q H1 e1 E1 => q H1 e1 (E.step e1 E1.pot)) q⟩
/-- an expression that gives a plain value may look at an own list -/
def plain : D → Bool
  | .non | .bl _ | .int _ | .str _ => true
  | _ => false
theorem plain_of {K : PySem.W.Frag} {pt : Option Addr} {B B' : Hp} {v : V} {d : D} (h : plain d = true) (r : Dn K pt B v d) : Dn K pt B' v d := by
  cases r with
  | non => exact .non
  | bl b => exact .bl b
  | int i => exact .int i
  | str z => exact .str z
  | _ => cases h
def dBorE (i : Nat) (t : TD) : TD := fun ρ m Q => ∃ a ds, ρ[i]? = some (some (.own a ds)) ∧ t (ρ.set i (some (.d (.lst ds)))) m fun d m1 => plain d = true ∧ Q d m1
theorem de_bor (i : Nat) (h : DE X e te) : DE X e (dBorE i te) := by
  refine ⟨pe_wk' h.pe ?_, fun ρ m Q Q' w ⟨x, ds, e, q⟩ => ⟨x, ds, e, h.mn _ _ _ _ (fun d n ⟨l, q⟩ => ⟨l, w _ _ q⟩) q⟩⟩
  rintro σ H Q ⟨pt, S0, H0, S, ρ, m, E, a, ds, e, q⟩
  obtain ⟨E', s⟩ := E.freeze e
  exact ⟨pt, S0, H0, _, _, m, E', h.mn _ _ _ _ (fun b m1 ⟨l, q⟩ v H1 e1 E1 x1 => q v H1 e1 (E.step e1 E1.pot) (plain_of l x1)) q⟩
/-! name = [..], a list of one's own from here on -/
def sOwn (i : Nat) (t : TDA) : TSD := fun D ρ m => t ρ m fun ds m1 => ds.length ≤ sizeLine ∧ i < ρ.length ∧ ∀ a, (∀ (j : Nat) (es : List Vd.D), ρ[j]? ≠ some (some (.own a es))) → D.nx (ρ.set i (some (.own a ds))) m1
theorem ds_own {i : Nat} {x : Str} {pos' pl : Pos} (hN : X.N.Nodup) (hi : X.N[i]? = some x) (hx : Loc X.env.scope x) (ha : DA X es t) (hs : swapsWith (.List es pl) (some (.Name x pos')) pos.line X.env = pure false := by rfl) (hf : X.fn x = true ∨ X.env.scope.names.lookup x = some .local := by first | exact .inl rfl | exact .inr rfl | assumption) :
    DS X (.Assign [.Name x pos'] (.List es pl) pos) (sOwn i t) := by
  refine ⟨ps_wk' (ps_set hN hi hx (pe_lst ha.pa) hs hf) ?_, fun a b ρ m l q => ha.mn _ _ _ _ (fun ds n ⟨h1, h2, h3⟩ => ⟨h1, h2, fun a z => l.nx _ _ (h3 a z)⟩) q⟩
  rintro D σ H ⟨pt, S0, H0, S, ρ, m, E, h⟩
  refine ⟨pt, S0, H0, S, ρ, m, E, ha.mn _ _ _ _ (fun ds m1 h1 vs H1 e1 E1 x1 => ?_) h⟩
  obtain ⟨l, li, h1⟩ := h1
  refine ⟨by rw [x1.length]; exact l, fun p hp => ?_⟩
  obtain ⟨E2, h0, hpt, hn, nS, wo⟩ := E1.newO (o := .lst vs) hp
  refine h1 p hn _ _ (p :: S) ?_ ((E.wo e1).trans wo)
  have E3 : Ev X.K pt S0 H0 (p :: S) (σ.set i (some (.ref p))) (upd H1 p (.lst vs)) (ρ.set i none) m1 := E2.forget
  refine ⟨E3.dom0, E3.dom, E3.sub, E3.inc, E3.frm, E3.ptS, E3.pot, by rw [List.length_set, List.length_set]; exact E.len, fun j c q => ?_, fun j k b d1 d2 n q1 q2 => ?_⟩
  · by_cases z : i = j
    · subst z
      rw [List.getElem?_set_self li] at q
      cases q
      exact ⟨.ref p, List.getElem?_set_self (by rw [E.len]; exact li), rfl, List.mem_cons_self, h0, hpt, vs, upd_same, x1.mono wo⟩
    · refine E3.var j c ?_
      rw [List.getElem?_set_ne z] at q ⊢
      exact q
  · have out : ∀ {j : Nat} {b : Addr} {fs : List Vd.D}, (ρ.set i (some (.own p ds)))[j]? = some (some (.own b fs)) → (j = i ∧ b = p) ∨ (j ≠ i ∧ ρ[j]? = some (some (.own b fs))) := fun {j b fs} q => by
      by_cases z : i = j
      · subst z
        rw [List.getElem?_set_self li] at q
        cases q
        exact .inl ⟨rfl, rfl⟩
      · rw [List.getElem?_set_ne z] at q
        exact .inr ⟨fun y => z y.symm, q⟩
    rcases out q1 with ⟨z1, z2⟩ | ⟨n1, q3⟩
    · rcases out q2 with ⟨z3, _⟩ | ⟨_, q4⟩
      · exact n (z1.trans z3.symm)
      · exact hn _ _ (by rw [← z2]; exact q4)
    · rcases out q2 with ⟨_, z2⟩ | ⟨_, q4⟩
      · exact hn _ _ (by rw [← z2]; exact q3)
      · exact E.dis j k b d1 d2 n q3 q4
/-! name.append(e), name.extend(e) -/
def sApp (i : Nat) (te : TD) : TSD := fun D ρ m => ∃ a ds, ρ[i]? = some (some (.own a ds)) ∧ te ρ m fun d m1 => ds.length < sizeLine ∧ D.nx (ρ.set i (some (.own a (ds ++ [d])))) m1
def sExt (i : Nat) (te : TD) : TSD := fun D ρ m => ∃ a ds, ρ[i]? = some (some (.own a ds)) ∧ te ρ m fun d m1 => ∃ es, d = .lst es ∧ ds.length + es.length ≤ sizeLine ∧ D.nx (ρ.set i (some (.own a (ds ++ es)))) m1
theorem ds_app {i : Nat} {o : Expr} {apos cpos : Pos} (hv : PE X o (tVar i)) (he : DE X e te) (hs : swapsWith (.Call (.Attribute o "append" apos) [e] [] cpos) none pos.line X.env = pure false := by rfl)
    (hbase : attributeBase o "append" X.env (eval o X.env) = eval o X.env := by rfl)
    (hfew : ((backTo cpos (starEach [e] X.env)).all (fun x => !x.1) && (backToKw cpos (keywordEach [] X.env)).all (fun x => x.1.isSome)
      && decide ([e].length + ([] : List Keyword).length + (if ([] : List Keyword).isEmpty then 0 else 1) < 30)) = true := by rfl)
    (hline : (apos.endLine == cpos.line) = true := by rfl) (hse : starEach [e] X.env = (false, eval e X.env) :: starEach [] X.env := by rfl) (hplain : (backTo cpos (starEach [] X.env)).any (·.1) = false := by rfl) :
    DS X (.Expr (.Call (.Attribute o "append" apos) [e] [] cpos) pos) (sApp i te) := by
  refine ⟨ps_wk' (ps_expr (pe_bm PySem.F.plainAttrs_list PySem.F.slot_list_append PySem.F.type_list_append mt_append hv (pa_cons he.pe pa_nil hse) hbase hfew hline hse hplain) hs) ?_, fun a b ρ m l ⟨x, ds, h1, q⟩ => ⟨x, ds, h1, he.mn _ _ _ _ (fun d n ⟨h2, h3⟩ => ⟨h2, l.nx _ _ h3⟩) q⟩⟩
  rintro D σ H ⟨pt, S0, H0, S, ρ, m, E, a, ds, hi, h⟩
  obtain ⟨q, hS, h0, hp, vs, hH, hv⟩ := E.at_own hi
  refine ⟨_, q, .inl ⟨rfl, vs, SqL.of hH⟩, pt, S0, H0, S, ρ, m, E, he.mn _ _ _ _ (fun d m1 h1 v H1 e1 E1 x1 => ?_) h⟩
  obtain ⟨hl, h1⟩ := h1
  have hv1 := hv.mono (E.wo e1)
  have hH1 := e1 _ _ hp hH
  refine ⟨_, _, _, rfl, rfl, hH1, by rw [hv.length]; exact hl, ?_⟩
  obtain ⟨E2, s⟩ := E1.grow hi (hv1.append (.cons x1 .nil))
  exact h1 σ _ S E2 ((E.wo e1).trans s)
theorem ds_ext {i : Nat} {o : Expr} {apos cpos : Pos} (hv : PE X o (tVar i)) (he : DE X e te) (hs : swapsWith (.Call (.Attribute o "extend" apos) [e] [] cpos) none pos.line X.env = pure false := by rfl)
    (hbase : attributeBase o "extend" X.env (eval o X.env) = eval o X.env := by rfl)
    (hfew : ((backTo cpos (starEach [e] X.env)).all (fun x => !x.1) && (backToKw cpos (keywordEach [] X.env)).all (fun x => x.1.isSome)
      && decide ([e].length + ([] : List Keyword).length + (if ([] : List Keyword).isEmpty then 0 else 1) < 30)) = true := by rfl)
    (hline : (apos.endLine == cpos.line) = true := by rfl) (hse : starEach [e] X.env = (false, eval e X.env) :: starEach [] X.env := by rfl) (hplain : (backTo cpos (starEach [] X.env)).any (·.1) = false := by rfl) :
    DS X (.Expr (.Call (.Attribute o "extend" apos) [e] [] cpos) pos) (sExt i te) := by
  refine ⟨ps_wk' (ps_expr (pe_bm PySem.F.plainAttrs_list PySem.F.slot_list_extend PySem.F.type_list_extend mt_extend hv (pa_cons he.pe pa_nil hse) hbase hfew hline hse hplain) hs) ?_, fun a b ρ m l ⟨x, ds, h1, q⟩ => ⟨x, ds, h1, he.mn _ _ _ _ (fun d n ⟨es, h2, h3, h4⟩ => ⟨es, h2, h3, l.nx _ _ h4⟩) q⟩⟩
  rintro D σ H ⟨pt, S0, H0, S, ρ, m, E, a, ds, hi, h⟩
  obtain ⟨q, hS, h0, hp, vs, hH, hv⟩ := E.at_own hi
  refine ⟨_, q, .inl ⟨rfl, vs, SqL.of hH⟩, pt, S0, H0, S, ρ, m, E, he.mn _ _ _ _ (fun d m1 h1 v H1 e1 E1 x1 => ?_) h⟩
  obtain ⟨es, rfl, hl, h1⟩ := h1
  have hv1 := hv.mono (E.wo e1)
  have hH1 := e1 _ _ hp hH
  cases x1 with
  | lst hb xb =>
    refine ⟨_, _, _, _, rfl, rfl, hH1, Wo.sub _ _ _ _ hb, by rw [hv.length, xb.length]; exact hl, ?_⟩
    obtain ⟨E2, s⟩ := E1.grow hi (hv1.append xb)
    exact h1 σ _ S E2 ((E.wo e1).trans s)
end
end Vd
end
section
set_option Elab.async false
set_option linter.all false
set_option maxRecDepth 100000
set_option autoImplicit false
set_option maxHeartbeats 1000000
namespace Vd
open PySem L2 PySem.Spec Vb
open PyProof.Rows hiding St
section
variable {X : Cx} {K : PySem.W.Frag}
/-! ### sound rules, put together -/
theorem S2.or {r r' : R2} {f g h : D → D → Option D} (s : S2 K r f) (s' : S2 K r' g) (w : ∀ a b d, h a b = some d → f a b = some d ∨ g a b = some d) : S2 K (fun x y H Q => r x y H Q ∨ r' x y H Q) h :=
  fun pt S H x y a b d Q hd hx hy e q => (w a b d e).elim (fun e => .inl (s pt S H x y a b d Q hd hx hy e q)) fun e => .inr (s' pt S H x y a b d Q hd hx hy e q)
theorem SC.or {r r' : List V → Hp → VK → Prop} {f g h : List D → Option D} (s : SC K r f) (s' : SC K r' g) (w : ∀ a d, h a = some d → f a = some d ∨ g a = some d) : SC K (fun x H Q => r x H Q ∨ r' x H Q) h :=
  fun pt S H xs as d Q hd hx e q => (w as d e).elim (fun e => .inl (s pt S H xs as d Q hd hx e q)) fun e => .inr (s' pt S H xs as d Q hd hx e q)
/-! ### + -/
def fAddI : D → D → Option D
  | .int i, .int j => some (.int (i + j))
  | _, _ => none
def fAddS : D → D → Option D
  | .str i, .str j => if i.length + j.length ≤ sizeLine then some (.str (i ++ j)) else none
  | _, _ => none
def fAddL : D → D → Option D
  | .lst xs, .lst ys => if xs.length + ys.length ≤ sizeLine then some (.lst (xs ++ ys)) else none
  | _, _ => none
def fAdd : D → D → Option D
  | .int i, .int j => some (.int (i + j))
  | .str i, .str j => if i.length + j.length ≤ sizeLine then some (.str (i ++ j)) else none
  | .lst xs, .lst ys => if xs.length + ys.length ≤ sizeLine then some (.lst (xs ++ ys)) else none
  | _, _ => none
theorem ite_some {c : Prop} [Decidable c] {a d : D} (h : (if c then some a else none) = some d) : c ∧ a = d := by
  split at h
  · exact ⟨by assumption, Option.some.inj h⟩
  · cases h
theorem s_addI : S2 K (rI0 fun i j => .int (i + j)) fAddI := by
  intro pt S H x y a b d Q hd hx hy e q
  cases hx with
  | int i =>
    cases hy with
    | int j => cases e; exact ⟨_, _, rfl, rfl, q _ _ (.refl _) (.int _)⟩
    | _ => cases e
  | _ => cases e
theorem s_addS : S2 K (fun x y H Q => ∃ i j, x = .str i ∧ y = .str j ∧ i.length + j.length ≤ sizeLine ∧ Q (.str (i ++ j)) H) fAddS := by
  intro pt S H x y a b d Q hd hx hy e q
  cases hx with
  | str i =>
    cases hy with
    | str j =>
      obtain ⟨l, rfl⟩ := ite_some e
      exact ⟨_, _, rfl, rfl, l, q _ _ (.refl _) (.str _)⟩
    | _ => cases e
  | _ => cases e
theorem s_addL : S2 K rCat fAddL := by
  intro pt S H x y a b d Q hd hx hy e q
  cases hx with
  | lst hx rx =>
    cases hy with
    | lst hy ry =>
      obtain ⟨l, rfl⟩ := ite_some e
      exact ⟨_, _, _, _, rfl, rfl, Wo.sub _ _ _ _ hx, Wo.sub _ _ _ _ hy, by rw [rx.length, ry.length]; exact l, fun p hp => q _ _ (Same.new hp) (.lst (wo_new hd hp) ((rx.append ry).mono (Wo.same (Same.new hp))))⟩
    | _ => cases e
  | _ => cases e
def rAddA : R2 := fun x y H Q => (rI0 fun i j => .int (i + j)) x y H Q ∨ ((fun x y H Q => ∃ i j, x = .str i ∧ y = .str j ∧ i.length + j.length ≤ sizeLine ∧ Q (.str (i ++ j)) H : R2) x y H Q ∨ rCat x y H Q)
theorem op_addA : OpR X (binaryOp .Add) rAddA := OpR.or op_add (OpR.or op_add_str op_cat)
def fAdd2 : D → D → Option D
  | .str i, .str j => if i.length + j.length ≤ sizeLine then some (.str (i ++ j)) else none
  | .lst xs, .lst ys => if xs.length + ys.length ≤ sizeLine then some (.lst (xs ++ ys)) else none
  | _, _ => none
theorem s_add : S2 K rAddA fAdd := S2.or s_addI (S2.or (h := fAdd2) s_addS s_addL fun a b d e => by
    cases a <;> cases b <;> first | exact .inl e | exact .inr e | cases e) fun a b d e => by
  cases a <;> cases b <;> first | exact .inl e | exact .inr e | cases e
/-! ### -, *, %, //, ** -/
def fI (C : Int → Int → Bool) (g : Int → Int → D) : D → D → Option D
  | .int i, .int j => if C i j = true then some (g i j) else none
  | _, _ => none
theorem s_I {Cp : Int → Int → Prop} {Cb : Int → Int → Bool} {g : Int → Int → V} {gd : Int → Int → D} (hc : ∀ i j, Cb i j = true → Cp i j) (hg : ∀ pt B i j, Dn K pt B (g i j) (gd i j)) : S2 K (rI Cp g) (fI Cb gd) := by
  intro pt S H x y a b d Q hd hx hy e q
  cases hx with
  | int i =>
    cases hy with
    | int j =>
      obtain ⟨l, rfl⟩ := ite_some e
      exact ⟨_, _, rfl, rfl, hc _ _ l, q _ _ (.refl _) (hg _ _ _ _)⟩
    | _ => cases e
  | _ => cases e
def fI0 (g : Int → Int → D) : D → D → Option D
  | .int i, .int j => some (g i j)
  | _, _ => none
theorem s_I0 {g : Int → Int → V} {gd : Int → Int → D} (hg : ∀ pt B i j, Dn K pt B (g i j) (gd i j)) : S2 K (rI0 g) (fI0 gd) := by
  intro pt S H x y a b d Q hd hx hy e q
  cases hx with
  | int i =>
    cases hy with
    | int j => cases e; exact ⟨_, _, rfl, rfl, q _ _ (.refl _) (hg _ _ _ _)⟩
    | _ => cases e
  | _ => cases e
abbrev fSub : D → D → Option D := fI0 fun i j => .int (i - j)
theorem s_sub : S2 K (rI0 fun i j => .int (i - j)) fSub := s_I0 fun _ _ _ _ => .int _
abbrev fMul : D → D → Option D := fI (fun i j => decide (-(2 ^ 64) < i) && decide (i < 2 ^ 64)) fun i j => .int (i * j)
theorem s_mul : S2 K (rI CMul fun i j => .int (i * j)) fMul := s_I (fun i j h => by
  rw [Bool.and_eq_true, decide_eq_true_eq, decide_eq_true_eq] at h
  exact .inl h) fun _ _ _ _ => .int _
abbrev fMod : D → D → Option D := fI (fun _ j => decide (0 < j)) fun i j => .int (i % j)
theorem s_mod : S2 K (rI (fun _ j => 0 < j) fun i j => .int (i % j)) fMod := s_I (fun i j h => of_decide_eq_true h) fun _ _ _ _ => .int _
abbrev fDiv : D → D → Option D := fI (fun _ j => decide (0 < j) && decide (j < 1073741824)) fun i j => .int (i / j)
theorem s_div : S2 K (rI CDiv fun i j => .int (i / j)) fDiv := s_I (fun i j h => by
  rw [Bool.and_eq_true, decide_eq_true_eq, decide_eq_true_eq] at h
  exact h) fun _ _ _ _ => .int _
abbrev fPow : D → D → Option D := fI (fun i j => decide (0 ≤ j) && decide (j ≤ 1000000) && decide (i.natAbs < 2 ^ 64)) fun i j => .int (i ^ j.toNat)
theorem s_pow : S2 K (rI CPow fun i j => .int (i ^ j.toNat)) fPow := s_I (fun i j h => by
  rw [Bool.and_eq_true, Bool.and_eq_true, decide_eq_true_eq, decide_eq_true_eq, decide_eq_true_eq] at h
  exact ⟨h.1.1, h.1.2, h.2⟩) fun _ _ _ _ => .int _
/-! ### comparisons -/
abbrev fLt : D → D → Option D := fI0 fun i j => .bl (decide (i < j))
theorem s_lt : S2 K (rI0 fun i j => .bl (decide (i < j))) fLt := s_I0 fun _ _ _ _ => .bl _
abbrev fLe : D → D → Option D := fI0 fun i j => .bl (decide (i ≤ j))
theorem s_le : S2 K (rI0 fun i j => .bl (decide (i ≤ j))) fLe := s_I0 fun _ _ _ _ => .bl _
abbrev fGt : D → D → Option D := fI0 fun i j => .bl (decide (j < i))
theorem s_gt : S2 K (rI0 fun i j => .bl (decide (j < i))) fGt := s_I0 fun _ _ _ _ => .bl _
abbrev fGe : D → D → Option D := fI0 fun i j => .bl (decide (j ≤ i))
theorem s_ge : S2 K (rI0 fun i j => .bl (decide (j ≤ i))) fGe := s_I0 fun _ _ _ _ => .bl _
def isN : D → Option Bool
  | .non => some true
  | .bl _ | .int _ | .str _ | .lst _ | .tup _ | .dk _ | .ins _ _ | .pot => some false
  | .op _ => none
def fIs : D → D → Option D
  | a, .non => (isN a).map fun b => .bl b
  | _, _ => none
def fIsnt : D → D → Option D
  | a, .non => (isN a).map fun b => .bl (!b)
  | _, _ => none
theorem isN_of {pt : Option Addr} {B : Hp} {v : V} {a : D} {b : Bool} (h : Dn K pt B v a) (e : isN a = some b) : decide (v = .non) = b := by
  cases h <;> first | (cases e; rfl) | cases e
theorem s_is : S2 K (fun x y H Q => y = .non ∧ Q (.bl (decide (x = .non))) H) fIs := by
  intro pt S H x y a b d Q hd hx hy e q
  cases hy with
  | non =>
    obtain ⟨k, hk, rfl⟩ := Option.map_eq_some_iff.mp e
    exact ⟨rfl, by rw [isN_of hx hk]; exact q _ _ (.refl _) (.bl _)⟩
  | _ => cases e
theorem s_isnt : S2 K (fun x y H Q => y = .non ∧ Q (.bl (!decide (x = .non))) H) fIsnt := by
  intro pt S H x y a b d Q hd hx hy e q
  cases hy with
  | non =>
    obtain ⟨k, hk, rfl⟩ := Option.map_eq_some_iff.mp e
    exact ⟨rfl, by rw [isN_of hx hk]; exact q _ _ (.refl _) (.bl _)⟩
  | _ => cases e
/-! == -/
def eqS : D → D → Option Bool
  | .non, .non => some true
  | .int i, .int j => some (decide (i = j))
  | .bl i, .bl j => some (decide (i = j))
  | .str i, .str j => some (decide (i = j))
  | .non, .int _ => some false
  | .int _, .non => some false
  | .non, .str _ => some false
  | .str _, .non => some false
  | _, _ => none
/-- == where one of both lists is empty -/
def eqE : D → D → Option Bool
  | .lst xs, .lst [] => some xs.isEmpty
  | _, _ => none
def fEq (a b : D) : Option D := (eqS a b).map fun k => .bl k
def fNe (a b : D) : Option D := (eqS a b).map fun k => .bl (!k)
theorem eqS_of {pt : Option Addr} {B B' : Hp} {v u : V} {a b : D} {k : Bool} (h : Dn K pt B v a) (h' : Dn K pt B' u b) (e : eqS a b = some k) : scal v u = true ∧ decide (v = u) = k := by
  cases h with
  | non => cases h' <;> first | (cases e; exact ⟨rfl, rfl⟩) | cases e
  | bl i =>
    cases h' with
    | bl j => cases e; exact ⟨rfl, by simp⟩
    | _ => cases e
  | int i =>
    cases h' with
    | int j => cases e; exact ⟨rfl, by simp⟩
    | non => cases e; exact ⟨rfl, rfl⟩
    | _ => cases e
  | str i =>
    cases h' with
    | str j => cases e; exact ⟨rfl, by simp⟩
    | non => cases e; exact ⟨rfl, rfl⟩
    | _ => cases e
  | _ => cases h' <;> cases e
theorem s_eq : S2 K rEq fEq := by
  intro pt S H x y a b d Q hd hx hy e q
  obtain ⟨k, hk, rfl⟩ := Option.map_eq_some_iff.mp e
  obtain ⟨h1, h2⟩ := eqS_of hx hy hk
  exact ⟨h1, by rw [h2]; exact q _ _ (.refl _) (.bl _)⟩
theorem s_ne : S2 K rNe fNe := by
  intro pt S H x y a b d Q hd hx hy e q
  obtain ⟨k, hk, rfl⟩ := Option.map_eq_some_iff.mp e
  obtain ⟨h1, h2⟩ := eqS_of hx hy hk
  exact ⟨h1, by rw [h2]; exact q _ _ (.refl _) (.bl _)⟩
/-! ### len, all, tuple, list, int, str, abs -/
def lenD : D → Option Nat
  | .str z => if z.length ≤ sizeLine then some z.length else none
  | .lst xs => some xs.length
  | .tup xs => some xs.length
  | _ => none
def fLen : List D → Option D
  | [a] => (lenD a).map fun (n : Nat) => D.int (n : Int)
  | _ => none
theorem s_len : SC K (fun xs H Q => ∃ x n, xs = [x] ∧ LenV K x H n ∧ Q (.int n) H) fLen := by
  intro pt S H xs as d Q hd hx e q
  cases hx with
  | nil => cases e
  | cons h r =>
    cases r with
    | cons _ _ => cases e
    | nil =>
      obtain ⟨n, hn, rfl⟩ := Option.map_eq_some_iff.mp e
      refine ⟨_, n, rfl, ?_, q _ _ (.refl _) (.int _)⟩
      cases h with
      | str z =>
        have hn : (if z.length ≤ sizeLine then some z.length else none) = some n := hn
        by_cases l : z.length ≤ sizeLine
        · rw [if_pos l] at hn
          exact ⟨l, (Option.some.inj hn).symm⟩
        · rw [if_neg l] at hn
          cases hn
      | lst h r => exact .inl ⟨_, .of (Wo.sub _ _ _ _ h), by rw [r.length]; exact (Option.some.inj hn).symm⟩
      | tup h r => exact .inr ⟨_, sqT_same (Wo.sub _ _) h, by rw [r.length]; exact (Option.some.inj hn).symm⟩
      | _ => cases hn
def asBls : List D → Option (List Bool)
  | [] => some []
  | .bl b :: ds => (asBls ds).map (b :: ·)
  | _ :: _ => none
theorem asBls_of : ∀ {ds : List D} {bs : List Bool}, asBls ds = some bs → ds = bs.map D.bl
  | [], _, e => by cases e; rfl
  | d :: ds, bs, e => by
    cases d with
    | bl b =>
      obtain ⟨cs, hc, rfl⟩ := Option.map_eq_some_iff.mp e
      rw [asBls_of hc]
      rfl
    | _ => cases e
theorem asBls_map : ∀ {bs : List Bool}, asBls (bs.map D.bl) = some bs
  | [] => rfl
  | b :: bs => by
    show (asBls (bs.map D.bl)).map (b :: ·) = _
    rw [asBls_map]
    rfl
def asStrs : List D → Option (List Str)
  | [] => some []
  | .str b :: ds => (asStrs ds).map (b :: ·)
  | _ :: _ => none
theorem asStrs_of : ∀ {ds : List D} {bs : List Str}, asStrs ds = some bs → ds = bs.map D.str
  | [], _, e => by cases e; rfl
  | d :: ds, bs, e => by
    cases d with
    | str b =>
      obtain ⟨cs, hc, rfl⟩ := Option.map_eq_some_iff.mp e
      rw [asStrs_of hc]
      rfl
    | _ => cases e
theorem asStrs_map : ∀ {bs : List Str}, asStrs (bs.map D.str) = some bs
  | [] => rfl
  | b :: bs => by
    show (asStrs (bs.map D.str)).map (b :: ·) = _
    rw [asStrs_map]
    rfl
def fAll : List D → Option D
  | [.lst ds] => (asBls ds).map fun bs => .bl (bs.all id)
  | _ => none
theorem s_all : SC K (rAll K) fAll := by
  intro pt S H xs as d Q hd hx e q
  cases hx with
  | nil => cases e
  | cons h r =>
    cases r with
    | cons _ _ => cases h <;> cases e
    | nil =>
      cases h with
      | lst h r =>
        obtain ⟨bs, hb, rfl⟩ := Option.map_eq_some_iff.mp e
        have := asBls_of hb
        subst this
        rw [r.bls] at h
        exact ⟨_, bs, rfl, .of (Wo.sub _ _ _ _ h), q _ _ (.refl _) (.bl _)⟩
      | _ => cases e
def fTupOf : List D → Option D
  | [.lst ds] => some (.tup ds)
  | [.tup ds] => some (.tup ds)
  | _ => none
theorem s_tupOf : SC K (fun xs H Q => ∃ p ys, xs = [.ref p] ∧ ((SqL K H p ys ∧ ∀ l, H l = none → Q (.ref l) (upd H l (.tup ys))) ∨ (SqT K H p ys ∧ Q (.ref p) H))) fTupOf := by
  intro pt S H xs as d Q hd hx e q
  cases hx with
  | nil => cases e
  | cons h r =>
    cases r with
    | cons _ _ => cases h <;> cases e
    | nil =>
      cases h with
      | lst h r =>
        cases e
        exact ⟨_, _, rfl, .inl ⟨.of (Wo.sub _ _ _ _ h), fun l hl => q _ _ (Same.new hl) (.tup (.of (wo_new hd hl)) (r.mono (Wo.same (Same.new hl))))⟩⟩
      | tup h r =>
        cases e
        exact ⟨_, _, rfl, .inr ⟨sqT_same (Wo.sub _ _) h, q _ _ (.refl _) (.tup h r)⟩⟩
      | _ => cases e
def fLstOf : List D → Option D
  | [.lst ds] => some (.lst ds)
  | [.tup ds] => some (.lst ds)
  | _ => none
theorem s_lstOf : SC K (fun xs H Q => ∃ p ys, xs = [.ref p] ∧ (SqL K H p ys ∨ SqT K H p ys) ∧ ∀ l, H l = none → Q (.ref l) (upd H l (.lst ys))) fLstOf := by
  intro pt S H xs as d Q hd hx e q
  cases hx with
  | nil => cases e
  | cons h r =>
    cases r with
    | cons _ _ => cases h <;> cases e
    | nil =>
      cases h with
      | lst h r =>
        cases e
        exact ⟨_, _, rfl, .inl (.of (Wo.sub _ _ _ _ h)), fun l hl => q _ _ (Same.new hl) (.lst (wo_new hd hl) (r.mono (Wo.same (Same.new hl))))⟩
      | tup h r =>
        cases e
        exact ⟨_, _, rfl, .inr (sqT_same (Wo.sub _ _) h), fun l hl => q _ _ (Same.new hl) (.lst (wo_new hd hl) (r.mono (Wo.same (Same.new hl))))⟩
      | _ => cases e
def fInt : List D → Option D
  | [.int i] => some (.int i)
  | [.bl k] => some (.int (if k then 1 else 0))
  | [.str a] => if a.length ≤ 640 then (PySem.intText? a).map fun n => .int n else none
  | _ => none
def rIntA : List V → Hp → VK → Prop := fun xs H Q => ((∃ i, xs = [.int i] ∧ Q (.int i) H) ∨ ∃ k, xs = [.bl k] ∧ Q (.int (if k then 1 else 0)) H) ∨ ∃ a n, xs = [.str a] ∧ PySem.intText? a = some n ∧ a.length ≤ 640 ∧ Q (.int n) H
theorem call_intA : CallR X (.type "int") rIntA := CallR.or call_int1 call_int_str
theorem s_int : SC K rIntA fInt := by
  intro pt S H xs as d Q hd hx e q
  cases hx with
  | nil => cases e
  | cons h r =>
    cases r with
    | cons _ _ => cases h <;> cases e
    | nil =>
      cases h with
      | int i => cases e; exact .inl (.inl ⟨i, rfl, q _ _ (.refl _) (.int _)⟩)
      | bl k => cases e; exact .inl (.inr ⟨k, rfl, q _ _ (.refl _) (.int _)⟩)
      | str a =>
        have e : (if a.length ≤ 640 then (PySem.intText? a).map fun n => D.int n else none) = some d := e
        by_cases l : a.length ≤ 640
        · rw [if_pos l] at e
          obtain ⟨n, hn, rfl⟩ := Option.map_eq_some_iff.mp e
          exact .inr ⟨a, n, rfl, hn, l, q _ _ (.refl _) (.int _)⟩
        · rw [if_neg l] at e
          cases e
      | _ => cases e
def fStr : List D → Option D
  | [.int i] => if i.natAbs.log2 < 1920 then some (.str (toString i)) else none
  | _ => none
theorem s_str : SC K (fun xs H Q => ∃ i, xs = [.int i] ∧ i.natAbs.log2 < 1920 ∧ Q (.str (toString i)) H) fStr := by
  intro pt S H xs as d Q hd hx e q
  cases hx with
  | nil => cases e
  | cons h r =>
    cases r with
    | cons _ _ => cases h <;> cases e
    | nil =>
      cases h with
      | int i =>
        obtain ⟨l, rfl⟩ := ite_some e
        exact ⟨i, rfl, l, q _ _ (.refl _) (.str _)⟩
      | _ => cases e
/-! ### an item, a slice -/
def fIx : D → D → Option D
  | .lst xs, .int i => atI xs i
  | .tup xs, .int i => atI xs i
  | .str z, .int i => if z.length ≤ sizeLine then (atI z.cps.toList i).map fun c => .str ⟨#[c]⟩ else none
  | _, _ => none
theorem atI_all {pt : Option Addr} {B : Hp} {vs : List V} {ds : List D} {i : Int} {d : D} (r : DnAll K pt B vs ds) (e : atI ds i = some d) : ∃ v, atI vs i = some v ∧ Dn K pt B v d := by
  unfold atI at e ⊢
  rw [r.length]
  obtain ⟨j, hj, e⟩ := Option.bind_eq_some_iff.mp e
  obtain ⟨v, hv, q⟩ := r.get e
  exact ⟨v, Option.bind_eq_some_iff.mpr ⟨j, hj, hv⟩, q⟩
theorem s_ix : S2 K (rIx K) fIx := by
  intro pt S H x y a b d Q hd hx hy e q
  cases hx with
  | lst h r =>
    cases hy with
    | int i =>
      obtain ⟨v, hv, dv⟩ := atI_all r e
      exact .inl ⟨_, _, _, _, rfl, rfl, .of (Wo.sub _ _ _ _ h), hv, q _ _ (.refl _) dv⟩
    | _ => cases e
  | tup h r =>
    cases hy with
    | int i =>
      obtain ⟨v, hv, dv⟩ := atI_all r e
      exact .inr (.inl ⟨_, _, _, _, rfl, rfl, sqT_same (Wo.sub _ _) h, hv, q _ _ (.refl _) dv⟩)
    | _ => cases e
  | str z =>
    cases hy with
    | int i =>
      have e : (if z.length ≤ sizeLine then (atI z.cps.toList i).map fun c => D.str ⟨#[c]⟩ else none) = some d := e
      by_cases l : z.length ≤ sizeLine
      · rw [if_pos l] at e
        obtain ⟨c, hc, rfl⟩ := Option.map_eq_some_iff.mp e
        exact .inr (.inr ⟨_, _, _, rfl, rfl, l, hc, q _ _ (.refl _) (.str _)⟩)
      · rw [if_neg l] at e
        cases e
    | _ => cases e
  | _ => cases hy <;> cases e
def cutD (xs : List D) (lo hi : Option Int) : List D := (xs.drop (HT.sIx xs.length 0 lo)).take (HT.sIx xs.length xs.length hi - HT.sIx xs.length 0 lo)
theorem cut_all {pt : Option Addr} {B : Hp} {vs : List V} {ds : List D} {lo hi : Option Int} (r : DnAll K pt B vs ds) : DnAll K pt B (cutV vs lo hi) (cutD ds lo hi) := by
  unfold cutV cutD
  rw [r.length]
  exact (r.drop _).take _
theorem cutD_to (xs : List D) (n : Nat) : cutD xs none (some (n : Int)) = xs.take n := by
  unfold cutD
  rw [HT.sIx_none, HT.sIx_nat, List.drop_zero, Nat.sub_zero, List.take_eq_take_iff]
  omega
theorem cutD_from (xs : List D) (n : Nat) : cutD xs (some (n : Int)) none = xs.drop n := by
  unfold cutD
  rw [HT.sIx_none, HT.sIx_nat]
  by_cases h : n ≤ xs.length
  · rw [Nat.min_eq_left h]
    exact List.take_of_length_le (by rw [List.length_drop]; omega)
  · rw [Nat.min_eq_right (by omega), Nat.sub_self, List.take_zero, List.drop_eq_nil_of_le (by omega)]
def fSl : D → Option Int → Option Int → Option D
  | .lst xs, lo, hi => some (.lst (cutD xs lo hi))
  | .tup xs, lo, hi => some (.tup (cutD xs lo hi))
  | .str z, lo, hi => if z.length ≤ sizeLine then some (.str (cutS z lo hi)) else none
  | _, _, _ => none
def rSlAll (K : PySem.W.Frag) : V → Option Int → Option Int → Hp → VK → Prop := fun x lo hi H Q => rSlL K x lo hi H Q ∨ (rSlA K x lo hi H Q ∨ rSlS x lo hi H Q)
theorem sl_all : SlR X (rSlAll X.K) := SlR.or sl_list (SlR.or sl_tupA sl_str)
theorem s_sl : SS K (rSlAll K) fSl := by
  intro pt S H x l u a d Q hd hx e q
  cases hx with
  | lst h r =>
    cases e
    exact .inl ⟨_, _, rfl, .of (Wo.sub _ _ _ _ h), fun p hp => q _ _ (Same.new hp) (.lst (wo_new hd hp) ((cut_all r).mono (Wo.same (Same.new hp))))⟩
  | tup h r =>
    cases e
    refine .inr (.inl ⟨_, _, rfl, sqT_same (Wo.sub _ _) h, fun z => q _ _ (.refl _) (.tup h ?_), fun z p hp => q _ _ (Same.new hp) (.tup (.of (wo_new hd hp)) ((cut_all r).mono (Wo.same (Same.new hp))))⟩)
    unfold cutD
    rw [← r.length, z.1, z.2, List.drop_zero, Nat.sub_zero, r.length, List.take_length]
    exact r
  | str z =>
    obtain ⟨hz, rfl⟩ := ite_some e
    exact .inr (.inr ⟨z, rfl, hz, q _ _ (.refl _) (.str _)⟩)
  | _ => cases e
/-! ### methods of texts -/
def fMtB (f : Str → Bool) : D → List D → Option D
  | .str a, [] => some (.bl (f a))
  | _, _ => none
theorem s_mtB {f : Str → Bool} : SM K "str" (fun x xs H Q => ∃ a, x = .str a ∧ xs = [] ∧ True ∧ Q (.bl (f a)) H) (fMtB f) := by
  intro pt S H x xs a as d Q hd hx ha e q
  cases hx with
  | str z =>
    cases ha with
    | nil => cases e; exact ⟨z, rfl, rfl, trivial, q _ _ (.refl _) (.bl _)⟩
    | cons _ _ => cases e
  | _ => cases as <;> cases e
def fSplit : D → List D → Option D
  | .str a, [.str b] => if (b.length == 0) = false ∧ a.length + 2 ≤ sizeLine then some (.lst ((Txt.split a b).map .str)) else none
  | _, _ => none
theorem s_split : SM K "str" (fun x xs H Q => ∃ a b, x = .str a ∧ xs = [.str b] ∧ (b.length == 0) = false ∧ a.length + 2 ≤ sizeLine ∧ rNewStrs (Txt.split a b) H Q) fSplit := by
  intro pt S H x xs a as d Q hd hx ha e q
  cases hx with
  | str z =>
    cases ha with
    | nil => cases e
    | cons h r =>
      cases r with
      | cons _ _ => cases h <;> cases e
      | nil =>
        cases h with
        | str b =>
          obtain ⟨l, rfl⟩ := ite_some e
          exact ⟨z, b, rfl, rfl, l.1, l.2, fun p hp => q _ _ (Same.new hp) (.lst (wo_new hd hp) (.of_strs _))⟩
        | _ => cases e
  | _ => cases as <;> cases e
def fJoin : D → List D → Option D
  | .str a, [.lst ds] => (asStrs ds).bind fun ys => if (ys.map (·.length)).sum + ys.length * a.length ≤ 16777216 then some (.str (Txt.join a ys)) else none
  | _, _ => none
theorem s_join : SM K "str" (fun x xs H Q => ∃ a p, ∃ ys : List Str, x = .str a ∧ xs = [.ref p] ∧ (SqL K H p (ys.map V.str) ∨ SqT K H p (ys.map V.str)) ∧
    (ys.map (·.length)).sum + ys.length * a.length ≤ 16777216 ∧ Q (.str (Txt.join a ys)) H) fJoin := by
  intro pt S H x xs a as d Q hd hx ha e q
  cases hx with
  | str z =>
    cases ha with
    | nil => cases e
    | cons h r =>
      cases r with
      | cons _ _ => cases h <;> cases e
      | nil =>
        cases h with
        | lst h r =>
          obtain ⟨ys, hy, e⟩ := Option.bind_eq_some_iff.mp e
          obtain ⟨l, rfl⟩ := ite_some e
          have := asStrs_of hy
          subst this
          rw [r.strs] at h
          exact ⟨z, _, ys, rfl, rfl, .inl (.of (Wo.sub _ _ _ _ h)), l, q _ _ (.refl _) (.str _)⟩
        | _ => cases e
  | _ => cases as <;> cases e
/-! ### in, for flat things -/
def flatD : D → Bool
  | .non | .bl _ | .int _ | .str _ => true
  | _ => false
def eqF : D → D → Bool
  | .non, .non => true
  | .bl a, .bl b => a == b
  | .bl a, .int b => (if a then 1 else 0) == b
  | .int a, .bl b => a == (if b then 1 else 0)
  | .int a, .int b => a == b
  | .str a, .str b => a == b
  | _, _ => false
theorem flat_of {pt : Option Addr} {B : Hp} {v : V} {d : D} (h : Dn K pt B v d) (f : flatD d = true) : flatV v = true := by
  cases h <;> first | rfl | cases f
theorem eqF_of {pt : Option Addr} {B B' : Hp} {v u : V} {d e : D} (h : Dn K pt B v d) (h' : Dn K pt B' u e) (f : flatD d = true) (f' : flatD e = true) : eqV v u = eqF d e := by
  cases h <;> first | (cases f; done) | (cases h' <;> first | (cases f'; done) | rfl)
theorem flats_of {pt : Option Addr} {B : Hp} : ∀ {vs : List V} {ds : List D}, DnAll K pt B vs ds → ds.all flatD = true → vs.all flatV = true
  | _, _, .nil, _ => rfl
  | _, _, .cons h r, f => by
    rw [List.all_cons, Bool.and_eq_true] at f ⊢
    exact ⟨flat_of h f.1, flats_of r f.2⟩
theorem inV_of {pt : Option Addr} {B B' : Hp} {x : V} {d : D} (h : Dn K pt B' x d) (f : flatD d = true) : ∀ {vs : List V} {ds : List D}, DnAll K pt B vs ds → ds.all flatD = true → inV x vs = ds.any fun y => eqF y d
  | _, _, .nil, _ => rfl
  | _, _, .cons h1 r, fs => by
    rw [List.all_cons, Bool.and_eq_true] at fs
    have := inV_of h f r fs.2
    unfold inV at this ⊢
    rw [List.any_cons, List.any_cons, this, eqF_of h1 h fs.1 f]
def inD (neg : Bool) (d : D) (ds : List D) : Option D := if flatD d = true ∧ ds.all flatD = true then some (.bl (if neg then !ds.any (fun y => eqF y d) else ds.any fun y => eqF y d)) else none
def fIn (neg : Bool) : D → D → Option D
  | d, .lst ds => inD neg d ds
  | d, .tup ds => inD neg d ds
  | _, _ => none
theorem s_in (neg : Bool) : S2 K (rIn K neg) (fIn neg) := by
  intro pt S H x y a b d Q hd hx hy e q
  cases hy with
  | lst h r =>
    obtain ⟨⟨f1, f2⟩, rfl⟩ := ite_some e
    refine ⟨_, _, rfl, .inl (.of (Wo.sub _ _ _ _ h)), flat_of hx f1, flats_of r f2, ?_⟩
    rw [inV_of hx f1 r f2]
    exact q _ _ (.refl _) (.bl _)
  | tup h r =>
    obtain ⟨⟨f1, f2⟩, rfl⟩ := ite_some e
    refine ⟨_, _, rfl, .inr (sqT_same (Wo.sub _ _) h), flat_of hx f1, flats_of r f2, ?_⟩
    rw [inV_of hx f1 r f2]
    exact q _ _ (.refl _) (.bl _)
  | _ => cases e
/-! ### isinstance of the usual classes -/
def tyN : D → Option String
  | .non => some "NoneType" | .bl _ => some "bool" | .int _ => some "int" | .str _ => some "str" | .lst _ => some "list" | .tup _ => some "tuple" | .dk _ => some "dict"
  | _ => none
def isTab (a n : String) : Option Bool := if ["int", "str", "bool", "tuple", "list", "dict"].contains n = true then some (a == n || (a == "bool" && n == "int")) else none
def fIsi : List D → Option D
  | [d, .op (.ty n)] => (tyN d).bind fun a => (isTab a n).map fun b => .bl b
  | _ => none
theorem kit_tab {a n : String} {b : Bool} (h : ["NoneType", "bool", "int", "str", "list", "tuple", "dict"].contains a = true) (e : isTab a n = some b) : PySem.W.kitOne K (.type a) (.type n) = some b := by
  unfold isTab at e
  split at e
  · rename_i hn
    simp only [List.contains_cons, List.contains_nil, Bool.or_false, Bool.or_eq_true, beq_iff_eq] at h hn
    cases e
    rcases h with rfl | rfl | rfl | rfl | rfl | rfl | rfl <;> rcases hn with rfl | rfl | rfl | rfl | rfl | rfl <;> rfl
  · cases e
theorem tyX_of {pt : Option Addr} {S : List Addr} {H : Hp} {v : V} {d : D} {a : String} (h : Dn K pt (Wo S H) v d) (e : tyN d = some a) : TyX K H v (.type a) := by
  cases h with
  | non => cases e; exact .base .non
  | bl b => cases e; exact .base (.bl b)
  | int i => cases e; exact .base (.int i)
  | str z => cases e; exact .base (.str z)
  | lst q _ => cases e; exact .base (.lst (Wo.sub _ _ _ _ q))
  | tup q _ =>
    cases e
    rcases sqT_same (Wo.sub _ _) q with (q | ⟨o, q⟩) | ⟨o, its, n, q, c, _⟩
    · exact .base (.tup q)
    · exact .fTuple q
    · exact .kTuple q c
  | dk q _ _ => cases e; exact .base (.dK (Wo.sub _ _ _ _ q))
  | _ => cases e
theorem s_isi : SC K (rIsi K) fIsi := by
  intro pt S H xs as d Q hd hx e q
  match as, e with
  | [x, .op (.ty n)], e =>
    obtain ⟨v, u, rfl, h1, h2⟩ := hx.two
    obtain ⟨a, ha, e⟩ := Option.bind_eq_some_iff.mp e
    obtain ⟨b, hb, rfl⟩ := Option.map_eq_some_iff.mp e
    cases h2
    refine ⟨v, _, _, _, b, rfl, .ty n, tyX_of h1 ha, kit_tab ?_ hb, q _ _ (.refl _) (.bl _)⟩
    cases x <;> first | (cases ha; rfl) | cases ha
end
end Vd
end
section
set_option Elab.async false
set_option linter.all false
set_option maxRecDepth 100000
set_option autoImplicit false
set_option maxHeartbeats 1000000
namespace Vd
open PySem L2 PySem.Spec Vb
open PyProof.Rows hiding St
section
variable {X : Cx}
theorem dv (i : Nat) {x : Str} {pos : Pos} (hN : X.N[i]? = some x := by rfl) (hv : Vis X.env.scope x := by first | exact Or.inl rfl | exact Or.inr (Or.inl rfl) | exact Or.inr (Or.inr rfl)) (hd : (x == ("__debug__" : Str)) = false := by decide) (hcd : (x == ("__classdict__" : Str)) = false := by decide) :
    DE X (.Name x pos) (dVar i) := ⟨pe_wk' (pv i hN hv hd hcd) lf_var, mn_var⟩
theorem de_int {i j pos} : DE X (.Constant (.int i) j pos) (dC (.int i)) := ⟨pe_wk' pe_int (lf_c fun _ _ => .int _), mn_c⟩
theorem de_bl {b j pos} : DE X (.Constant (.bool b) j pos) (dC (.bl b)) := ⟨pe_wk' pe_bl (lf_c fun _ _ => .bl _), mn_c⟩
theorem de_non {j pos} : DE X (.Constant .none j pos) (dC .non) := ⟨pe_wk' pe_non (lf_c fun _ _ => .non), mn_c⟩
theorem de_str {x j pos} : DE X (.Constant (.str x) j pos) (dC (.str x)) := ⟨pe_wk' pe_str (lf_c fun _ _ => .str _), mn_c⟩
theorem de_gint {x : Str} {i : Int} {pos : Pos} (hg : Gl X x) (hm : ∃ t, X.mg x = some (.int i t)) (hd : (x == ("__debug__" : Str)) = false := by decide) : DE X (.Name x pos) (dC (.int i)) := by
  obtain ⟨t, hm⟩ := hm
  exact ⟨pe_wk' (pe_glob (v := .int i) hg hm ⟨_, rfl⟩ hd) (lf_c fun _ _ => .int _), mn_c⟩
theorem de_gref {x : Str} {a : Addr} {pos : Pos} (hg : Gl X x) (hm : X.mg x = some (.ref a)) (hd : (x == ("__debug__" : Str)) = false := by decide) : DE X (.Name x pos) (dC (.op (.ref a))) :=
  ⟨pe_wk' (pe_glob (v := .ref a) hg hm rfl hd) (lf_c fun _ _ => .op _), mn_c⟩
theorem de_ty {x : Str} {T : String} {pos : Pos} (hg : Gl X x) (hm : X.mg x = none) (hv : bootBuiltins x = some (.type T)) (hn : x ≠ "__name__" := by decide) (hd : (x == ("__debug__" : Str)) = false := by decide) : DE X (.Name x pos) (dC (.op (.ty T))) :=
  ⟨pe_wk' (pe_bltn (v := .ty T) hg hm hv rfl hn hd) (lf_c fun _ _ => .op _), mn_c⟩
def fNeg : D → Option D
  | .int i => some (.int (-i))
  | _ => none
theorem s_neg {K : PySem.W.Frag} : S1 K (rU fun i => .int (-i)) fNeg := by
  intro pt S H x a d Q hd hx e q
  cases hx with
  | int i => cases e; exact ⟨i, rfl, q _ _ (.refl _) (.int _)⟩
  | _ => cases e
/-! ### walks, targets, packed -/
structure DI (X : Cx) (tg iter : Expr) (wi : TI) (ti : TDA) : Prop where
  pi : PI X tg iter wi
  iz : IS X.K wi ti
theorem di_list {tg l : Expr} {te : TD} (h : DE X l te) : DI X tg l (iList X.K (lfE X.K te)) (dSeqL te) := ⟨pi_list h.pe, is_list h.mn⟩
theorem di_tup {tg l : Expr} {te : TD} (h : DE X l te) : DI X tg l (iTup X.K (lfE X.K te)) (dSeqT te) := ⟨pi_tup h.pe, is_tup h.mn⟩
theorem di_rg1 {tg a : Expr} {ta : TDA} {p pos : Pos} (hg : Gl X "range") (hm : X.mg "range" = none) (ha : DA X [a] ta) (hs : starEach [a] X.env = [(false, eval a X.env)] := by rfl) : DI X tg (.Call (.Name "range" p) [a] [] pos) (iRng1 (lfA X.K ta)) (dRg1 ta) := ⟨pi_range1 hg hm ha.pa hs, is_rg1 ha.mn⟩
theorem di_rg2 {tg a b : Expr} {ta : TDA} {p pos : Pos} (hg : Gl X "range") (hm : X.mg "range" = none) (ha : DA X [a, b] ta) (hs : starEach [a, b] X.env = [(false, eval a X.env), (false, eval b X.env)] := by rfl) (hs2 : starEach [b] X.env = [(false, eval b X.env)] := by rfl) : DI X tg (.Call (.Name "range" p) [a, b] [] pos) (iRng2 (lfA X.K ta)) (dRg2 ta) := ⟨pi_range2 hg hm ha.pa hs hs2, is_rg2 ha.mn⟩
theorem di_zip {e e2 : Expr} {ta : TDA} {p pos tpos : Pos} {elts : List Expr} {kk : Nat} (hg : Gl X "zip") (hm : X.mg "zip" = none) (ha : DA X [e, e2] ta)
    (hs : starEach [e, e2] X.env = (false, eval e X.env) :: starEach [e2] X.env := by rfl) (hpl : (backTo pos (starEach [e2] X.env)).any (·.1) = false := by rfl) : DI X (.Tuple elts kk tpos) (.Call (.Name "zip" p) [e, e2] [] pos) (RZ.iZipA X.K (lfA X.K ta)) (dZip ta) := ⟨RZ.pi_zipA hg hm ha.pa hs hpl, is_zip ha.mn⟩
theorem de_comp {elt tg iter : Expr} {ifs : List Expr} {scope : Scope} {own : List (Str × Nat)} {pos : Pos} {wi : TI} {ti : TDA} {g : TG} {f : TgD} {ws : List Nat} {tt : TDT} {tT : TT} {te : TD} (hc : X.calm = true) (hN : X.N.Nodup) (hi : DI X tg iter wi ti) (ok : BlkOk X.N X.env.scope scope own)
    (gs : GS X.K g f ws) (hw : ∀ i ∈ ws, i ∈ own.map (·.2))
    (hg : ∀ (s : Shared) (H : Hp) (C : Addr) (cl : List (Str × Addr)) (fp : List Addr), PG (X.blk s H scope (compEnvC scope cl C X.env) fp) tg g)
    (ht : ∀ (s : Shared) (H : Hp) (C : Addr) (cl : List (Str × Addr)) (fp : List Addr), DTs (X.blk s H scope (compEnvC scope cl C X.env) fp) ifs tt tT)
    (he : ∀ (s : Shared) (H : Hp) (C : Addr) (cl : List (Str × Addr)) (fp : List Addr), DE (X.blk s H scope (compEnvC scope cl C X.env) fp) elt te) (hs : ∀ x, foldedSetIterable iter X.env x = pure x := by intro _; rfl) :
    DE X (.ListComp elt [⟨tg, iter, ifs, 0⟩] scope pos) (dLc ti f tt te (own.map (·.2))) :=
  de_lc hc hN hi.pi hi.iz ok gs hw hg ht he (ht {} (fun _ => none) 0 [] []).mn (he {} (fun _ => none) 0 [] []).mn (ht {} (fun _ => none) 0 [] []).snd hs
theorem ds_comp {i : Nat} {y : Str} {py : Pos} {elt tg iter : Expr} {ifs : List Expr} {scope : Scope} {own : List (Str × Nat)} {pos spos : Pos} {wi : TI} {ti : TDA} {g : TG} {f : TgD} {ws : List Nat} {tt : TDT} {tT : TT} {te : TD} (hc : X.calm = true) (hN : X.N.Nodup) (hy : X.N[i]? = some y) (hyl : X.env.scope.names.lookup y = some .local)
    (hsw : swapsWith (.ListComp elt [⟨tg, iter, ifs, 0⟩] scope pos) (some (.Name y py)) spos.line X.env = pure true) (hi : DI X tg iter wi ti) (ok : BlkOk X.N X.env.scope scope own)
    (gs : GS X.K g f ws) (hw : ∀ i ∈ ws, i ∈ own.map (·.2))
    (hg : ∀ (s : Shared) (H : Hp) (C : Addr) (cl : List (Str × Addr)) (fp : List Addr), PG (X.blk s H scope (compEnvC scope cl C X.env) fp) tg g)
    (ht : ∀ (s : Shared) (H : Hp) (C : Addr) (cl : List (Str × Addr)) (fp : List Addr), DTs (X.blk s H scope (compEnvC scope cl C X.env) fp) ifs tt tT)
    (he : ∀ (s : Shared) (H : Hp) (C : Addr) (cl : List (Str × Addr)) (fp : List Addr), DE (X.blk s H scope (compEnvC scope cl C X.env) fp) elt te) (hs : ∀ x, foldedSetIterable iter X.env x = pure x := by intro _; rfl) :
    DS X (.Assign [.Name y py] (.ListComp elt [⟨tg, iter, ifs, 0⟩] scope pos) spos) (sAsg (dLc ti f tt te (own.map (·.2))) (fName i)) :=
  ds_setLc hc hN hy hyl hsw hi.pi hi.iz ok gs hw hg ht he (ht {} (fun _ => none) 0 [] []).mn (he {} (fun _ => none) 0 [] []).mn (ht {} (fun _ => none) 0 [] []).snd hs
theorem ds_loop {tg iter : Expr} {body : List Stmt} {pos : Pos} {wi : TI} {ti : TDA} {g : TG} {f : TgD} {vs : List Nat} {tb : TSD} (hp : PassesOwn (model X.prog X.w) X.A X.env X.xe) (hc : X.calm = true) (hi : DI X tg iter wi ti) (hg : PG X tg g) (gs : GS X.K g f vs) (hb : DSs X body tb)
    (hs : ∀ x, foldedSetIterable iter X.env x = pure x := by intro _; rfl) : DS X (.For tg iter body [] pos) (sFor ti f tb) := ds_for hp hc hi.pi hi.iz hg gs hb hs
/-! ### draws -/
/-- a promise that asks more is kept, too -/
theorem fn_more {P : Program} {w : World} {K : PySem.W.Frag} {mg : Str → Option Value} {base : Heap} {k : Nat} {f : Addr} {fd : FuncData} {ps : List Str} {sp sp' : Sp} (F : FnOk P w K mg base CX0 k f fd ps sp) (h : ∀ vs H Q E, sp' vs H Q E → sp vs H Q E) : FnOk P w K mg base CX0 k f fd ps sp' :=
  ⟨fun vs H Q E q => F.len vs H Q E (h _ _ _ _ q), fun A outer s H args us vs Q E hr e0 hb r q => F.run A outer s H args us vs Q E hr e0 hb r (h _ _ _ _ q)⟩
theorem Cal.more {P : Program} {w : World} {K : PySem.W.Frag} {mg : Str → Option Value} {base : Heap} {k : Nat} {x : Str} {sp sp' : Sp} (c : Cal P w K mg base k x sp) (h : ∀ vs H Q E, sp' vs H Q E → sp vs H Q E) : Cal P w K mg base k x sp' := by
  obtain ⟨f, fd, ps, F, r⟩ := c.ex
  exact ⟨f, fd, ps, fn_more F h, r⟩
structure TakeP (ds : List D) (m : Nat) (Q : D → Nat → Prop) : Prop where
  ex : ∃ (u : Int) (n : Nat), ds = [.pot, .int u] ∧ m = n + 1 ∧ 0 < u ∧ u < 1073741824 ∧ ∀ d : Int, 0 ≤ d → d < u → Q (.int d) n
def fTake : FD := TakeP
theorem mn_take : MnF fTake := fun ds m Q Q' w ⟨u, n, h1, h2, h3, h4, q⟩ => ⟨u, n, h1, h2, h3, h4, fun d a b => w _ _ (q d a b)⟩
theorem take_of {K : PySem.W.Frag} : ∀ vs H Q E, spD K fTake vs H Q E → spTake vs H Q E := by
  rintro vs H Q E ⟨pt, S, ds, m, hd, hp, po, ha, u, n, rfl, rfl, u0, u1, q⟩
  obtain ⟨v, x, rfl, h1, h2⟩ := ha.two
  cases h2
  cases h1 with
  | pot e =>
    subst e
    rename_i p
    refine ⟨p, u, n, rfl, po p rfl, u0, u1, fun d H' d0 d1 dr => q d d0 d1 _ H' (fun b o nb e => dr.1 b o (fun z => nb (by rw [z])) e) (fun p' e => ?_) (.int _)⟩
    cases e
    exact dr.2
/-- the items of a thing -/
def itemsD : D → Option (List D)
  | .lst xs => some xs
  | .tup xs => some xs
  | .str z => if z.length ≤ sizeLine then some (z.cps.toList.map fun c => .str ⟨#[c]⟩) else none
  | _ => none
structure OfP (ds : List D) (m : Nat) (Q : D → Nat → Prop) : Prop where
  ex : ∃ (s : D) (xs : List D) (n : Nat), ds = [.pot, s] ∧ itemsD s = some xs ∧ 0 < xs.length ∧ xs.length < 1073741824 ∧ m = n + 1 ∧ ∀ d ∈ xs, Q d n
def fOf : FD := OfP
theorem mn_of : MnF fOf := fun ds m Q Q' w ⟨s, xs, n, h1, h2, h3, h4, h5, q⟩ => ⟨s, xs, n, h1, h2, h3, h4, h5, fun d hd => w _ _ (q d hd)⟩
end
end Vd
end
section
set_option Elab.async false
set_option linter.all false
set_option maxRecDepth 100000
set_option autoImplicit false
set_option maxHeartbeats 1000000
namespace Vd
open PySem L2 PySem.Spec Vb
open PyProof.Rows hiding St
/-! ### dicts whose keys are ints and texts -/
def lookD (kvs : List (Key × D)) (k : Key) : Option D := (kvs.find? fun kv => decide (kv.1 = k)).map (·.2)
def putD (kvs : List (Key × D)) (k : Key) (d : D) : List (Key × D) :=
  if (kvs.any fun kv => decide (kv.1 = k)) = true then kvs.map (fun kv => if kv.1 = k then (kv.1, d) else kv) else kvs ++ [(k, d)]
def keyD : D → Option Key
  | .int i => some (.inl i)
  | .str z => some (.inr z)
  | _ => none
section
variable {K : PySem.W.Frag} {pt : Option Addr} {B : Hp}
theorem keyD_of {v : V} {d : D} {k : Key} (h : Dn K pt B v d) (e : keyD d = some k) : v = kV k := by
  cases h <;> first | (cases e; rfl) | cases e
/-- both dicts have the same keys, and what belongs together -/
inductive DkAll (K : PySem.W.Frag) (pt : Option Addr) (B : Hp) : List (Key × V) → List (Key × D) → Prop
  | nil : DkAll K pt B [] []
  | cons {k : Key} {v : V} {d : D} {hs : List (Key × V)} {kvs : List (Key × D)} : Dn K pt B v d → DkAll K pt B hs kvs → DkAll K pt B ((k, v) :: hs) ((k, d) :: kvs)
theorem DkAll.to : ∀ {hs : List (Key × V)} {kvs : List (Key × D)}, DkAll K pt B hs kvs → hs.map (·.1) = kvs.map (·.1) ∧ DnAll K pt B (hs.map (·.2)) (kvs.map (·.2))
  | _, _, .nil => ⟨rfl, .nil⟩
  | _, _, .cons h r => ⟨congrArg (_ :: ·) r.to.1, .cons h r.to.2⟩
theorem DkAll.of : ∀ {hs : List (Key × V)} {kvs : List (Key × D)}, hs.map (·.1) = kvs.map (·.1) → DnAll K pt B (hs.map (·.2)) (kvs.map (·.2)) → DkAll K pt B hs kvs
  | [], [], _, _ => .nil
  | [], _ :: _, e, _ => by cases e
  | _ :: _, [], e, _ => by cases e
  | (k, v) :: hs, (l, d) :: kvs, e, r => by
    injection e with e1 e2
    have e1 : k = l := e1
    subst e1
    cases r with
    | cons h r => exact .cons h (DkAll.of e2 r)
theorem DkAll.length : ∀ {hs : List (Key × V)} {kvs : List (Key × D)}, DkAll K pt B hs kvs → hs.length = kvs.length
  | _, _, .nil => rfl
  | _, _, .cons _ r => congrArg (· + 1) r.length
theorem DkAll.mono {B' : Hp} (e : Same B B') : ∀ {hs : List (Key × V)} {kvs : List (Key × D)}, DkAll K pt B hs kvs → DkAll K pt B' hs kvs
  | _, _, .nil => .nil
  | _, _, .cons h r => .cons (h.mono e) (r.mono e)
theorem DkAll.look {k : Key} : ∀ {hs : List (Key × V)} {kvs : List (Key × D)}, DkAll K pt B hs kvs → (lookD kvs k = none ∧ valV hs k = none) ∨ ∃ d v, lookD kvs k = some d ∧ valV hs k = some v ∧ Dn K pt B v d
  | _, _, .nil => .inl ⟨rfl, rfl⟩
  | _, _, .cons (k := k') (v := v) (d := d) h r => by
    by_cases e : k' = k
    · exact .inr ⟨d, v, by simp [lookD, e], by simp [valV, e], h⟩
    · rcases r.look (k := k) with ⟨h1, h2⟩ | ⟨d', v', h1, h2, h3⟩
      · exact .inl ⟨by simpa [lookD, e] using h1, by simpa [valV, e] using h2⟩
      · exact .inr ⟨d', v', by simpa [lookD, e] using h1, by simpa [valV, e] using h2, h3⟩
theorem DkAll.any {k : Key} : ∀ {hs : List (Key × V)} {kvs : List (Key × D)}, DkAll K pt B hs kvs → (hs.any fun kv => decide (kv.1 = k)) = kvs.any fun kv => decide (kv.1 = k)
  | _, _, .nil => rfl
  | _, _, .cons h r => by rw [List.any_cons, List.any_cons, r.any]
theorem DkAll.app : ∀ {hs hs' : List (Key × V)} {kvs kvs' : List (Key × D)}, DkAll K pt B hs kvs → DkAll K pt B hs' kvs' → DkAll K pt B (hs ++ hs') (kvs ++ kvs')
  | _, _, _, _, .nil, s => s
  | _, _, _, _, .cons h r, s => .cons h (r.app s)
theorem DkAll.upd {k : Key} {v : V} {d : D} (q : Dn K pt B v d) : ∀ {hs : List (Key × V)} {kvs : List (Key × D)}, DkAll K pt B hs kvs → DkAll K pt B (hs.map fun kv => if kv.1 = k then (kv.1, v) else kv) (kvs.map fun kv => if kv.1 = k then (kv.1, d) else kv)
  | _, _, .nil => .nil
  | _, _, .cons (k := k') h r => by
    rw [List.map_cons, List.map_cons]
    by_cases e : k' = k
    · rw [if_pos e, if_pos e]
      exact .cons q (r.upd q)
    · rw [if_neg e, if_neg e]
      exact .cons h (r.upd q)
theorem DkAll.put {k : Key} {v : V} {d : D} {hs : List (Key × V)} {kvs : List (Key × D)} (r : DkAll K pt B hs kvs) (q : Dn K pt B v d) : DkAll K pt B (putK hs k v) (putD kvs k d) := by
  unfold putK putD
  rw [r.any]
  split
  · exact r.upd q
  · exact r.app (.cons q .nil)
theorem Dn.dk' {a : Addr} {hs : List (Key × V)} {kvs : List (Key × D)} (h : B a = some (.dK hs)) (r : DkAll K pt B hs kvs) : Dn K pt B (.ref a) (.dk kvs) := .dk h r.to.1 r.to.2
end
def fDGet : D → D → Option D
  | .dk kvs, k => (keyD k).bind (lookD kvs)
  | _, _ => none
def rDGet : R2 := fun x y H Q => ∃ a v, x = .ref a ∧ DGet H a y (some v) ∧ Q v H
theorem s_dget {K : PySem.W.Frag} : S2 K rDGet fDGet := by
  intro pt S H x y a b d Q hd hx hy e q
  cases hx with
  | dk h1 h2 h3 =>
    obtain ⟨k, hk, e⟩ := Option.bind_eq_some_iff.mp e
    rcases (DkAll.of h2 h3).look (k := k) with ⟨z, _⟩ | ⟨d', v, z1, z2, z3⟩
    · rw [z] at e
      cases e
    · rw [z1] at e
      cases e
      refine ⟨_, v, rfl, ?_, q _ _ (.refl _) z3⟩
      rw [keyD_of hy hk, ← z2]
      exact DGet.k (Wo.sub _ _ _ _ h1)
  | _ => cases e
def fDIn : D → D → Option D
  | k, .dk kvs => (keyD k).map fun k => .bl (lookD kvs k).isSome
  | _, _ => none
def rDIn : R2 := fun y x H Q => ∃ a o, x = .ref a ∧ DGet H a y o ∧ Q (.bl o.isSome) H
theorem s_din {K : PySem.W.Frag} : S2 K rDIn fDIn := by
  intro pt S H x y a b d Q hd hx hy e q
  cases hy with
  | @dk a' hs kvs h1 h2 h3 =>
    obtain ⟨k, hk, rfl⟩ := Option.map_eq_some_iff.mp e
    refine ⟨_, valV hs k, rfl, ?_, ?_⟩
    · rw [keyD_of hx hk]
      exact DGet.k (Wo.sub _ _ _ _ h1)
    · rcases (DkAll.of h2 h3).look (k := k) with ⟨z1, z2⟩ | ⟨d', v, z1, z2, z3⟩
      · rw [z2]
        rw [z1] at q
        exact q _ _ (.refl _) (.bl _)
      · rw [z2]
        rw [z1] at q
        exact q _ _ (.refl _) (.bl _)
  | _ => cases e
def dDGet1 (to te : TD) : TD := fun ρ m Q => to ρ m fun x m1 => ∃ kvs, x = .dk kvs ∧ te ρ m1 fun y m2 => ∃ k, keyD y = some k ∧ Q ((lookD kvs k).getD .non) m2
section
variable {X : Cx} {o i e : Expr} {to ti te : TD} {pos apos cpos : Pos}
theorem de_dget (hu : X.A.units + 1 < cLine) (ho : DE X o to) (hi : DE X i ti) (hs : NoSl i) : DE X (.Subscript o i pos) (dOp2 fDGet to ti) :=
  ⟨pe_wk' (pe_dget hu ho.pe hi.pe hs) fun σ H Q h => lf_op2 (r := rDGet) s_dget ho.mn hi.mn σ H Q h, mn_op2 ho.mn hi.mn⟩
theorem de_din (hu : X.A.units + 1 < cLine) (hi : DE X i ti) (ho : DE X o to) (h1 : behindInMarks .In o = false := by first | exact nobehind _ (by decide) (by decide) | rfl) : DE X (.Compare i [.In] [o] pos) (dOp2 fDIn ti to) :=
  ⟨pe_wk' (pe_cmp (pc_din hu hi.pe ho.pe) h1) fun σ H Q h => lf_op2 (r := rDIn) s_din hi.mn ho.mn σ H Q h, mn_op2 hi.mn ho.mn⟩
theorem de_dget1 (hu : X.A.units + 1 < cLine) (ho : DE X o to) (he : DE X e te) (m : M1 X o "get" apos e cpos) : DE X (.Call (.Attribute o "get" apos) [e] [] cpos) (dDGet1 to te) := by
  refine ⟨pe_wk' (pe_dget1 hu ho.pe he.pe m) ?_, fun ρ m Q Q' w q => ho.mn _ _ _ _ (fun x n ⟨kvs, e1, q⟩ => ⟨kvs, e1, he.mn _ _ _ _ (fun y n ⟨k, e2, q⟩ => ⟨k, e2, w _ _ q⟩) q⟩) q⟩
  rintro σ H Q ⟨pt, S0, H0, S, ρ, m, E, h⟩
  refine ⟨pt, S0, H0, S, ρ, m, E, ho.mn _ _ _ _ (fun x m1 h1 v H1 e1 E1 x1 => ?_) h⟩
  obtain ⟨kvs, rfl, h1⟩ := h1
  cases x1 with
  | @dk a' hs _ a1 a2 a3 =>
    refine ⟨_, rfl, .inl ⟨_, .inl (Wo.sub _ _ _ _ a1)⟩, pt, S0, H0, S, ρ, m1, E1, he.mn _ _ _ _ (fun y m2 h2 u H2 e2 E2 y2 => ?_) h1⟩
    obtain ⟨k, hk, h2⟩ := h2
    have wo := E1.wo e2
    refine ⟨valV hs k, ?_, ?_⟩
    · rw [keyD_of y2 hk]
      exact DGet.k (Wo.sub _ _ _ _ (wo _ _ a1))
    · rcases ((DkAll.of a2 a3).mono wo).look (k := k) with ⟨z1, z2⟩ | ⟨d', v', z1, z2, z3⟩
      · rw [z2]
        rw [z1] at h2
        exact h2 _ _ (e1.trans e2) E2 .non
      · rw [z2]
        rw [z1] at h2
        exact h2 _ _ (e1.trans e2) E2 z3
end
/-! ### a written dict -/
structure DPs (X : Cx) (pos : Pos) (keys : List (Option Expr)) (values : List Expr) (ks : List Key) (t : TDA) : Prop where
  ex : ∃ trs, PPs X pos keys values trs ∧ keys.all (·.isSome) = true ∧ keys.length = values.length ∧ keys.length = ks.length ∧
    ∀ σ H Q, (lfA X.K t σ H fun vs H1 => Q ((ks.map kV).zip vs) H1) → tPairs trs σ H Q
  mn : MnA t
section
variable {X : Cx} {pos pos' : Pos} {keys : List (Option Expr)} {values : List Expr} {ks : List Key} {t : TDA} {v : Expr} {tv : TD}
theorem dps_nil : DPs X pos [] [] [] aNil := by
  refine ⟨⟨[], pps_nil, rfl, rfl, rfl, ?_⟩, fun ρ m Q Q' w q => w _ _ q⟩
  rintro σ H Q ⟨pt, S0, H0, S, ρ, m, E, h⟩
  exact h [] H (.refl _ _) E .nil
theorem dps_str {z : Str} {j} (hv : DE X v tv) (hr : DPs X pos keys values ks t) : DPs X pos (some (.Constant (.str z) j pos') :: keys) (v :: values) (.inr z :: ks) (aCons tv t) := by
  obtain ⟨trs, h1, h2, h3, h4, h5⟩ := hr.ex
  refine ⟨⟨_, pps_cons pe_str hv.pe h1, h2, by rw [List.length_cons, List.length_cons, h3], by rw [List.length_cons, List.length_cons, h4], ?_⟩, fun ρ m Q Q' w h => hv.mn _ _ _ _ (fun x m1 h1 => hr.mn _ _ _ _ (fun y m2 h2 => w _ _ h2) h1) h⟩
  rintro σ H Q ⟨pt, S0, H0, S, ρ, m, E, h⟩
  refine ⟨pt, S0, H0, S, ρ, m, E, hv.mn _ _ _ _ (fun x m1 h1 v H1 e1 E1 x1 => ?_) h⟩
  refine h5 _ _ _ ⟨pt, S0, H0, S, ρ, m1, E1, hr.mn _ _ _ _ (fun y m2 h2 u H2 e2 E2 y2 => ?_) h1⟩
  exact h2 (v :: u) H2 (e1.trans e2) E2 (.cons (Dn.mono (E1.wo e2) x1) y2)
def dDisp (ks : List Key) (t : TDA) : TD := fun ρ m Q => t ρ m fun ds m1 => Q (.dk (ks.zip ds)) m1
theorem mergeK_new : ∀ {more kvs : List (Key × V)}, (kvs.map (·.1) ++ more.map (·.1)).Nodup → mergeK kvs more = kvs ++ more
  | [], kvs, _ => by simp [mergeK]
  | p :: more, kvs, h => by
    have h' : (kvs.map (·.1) ++ (p.1 :: more.map (·.1))).Nodup := h
    have no : (kvs.any fun kv => decide (kv.1 = p.1)) = false := by
      rw [List.any_eq_false]
      intro q hq
      rw [decide_eq_true_eq]
      intro e
      exact (List.nodup_append.mp h').2.2 q.1 (List.mem_map_of_mem hq) p.1 List.mem_cons_self e
    have e : putK kvs p.1 p.2 = kvs ++ [p] := by
      unfold putK
      rw [no, if_neg Bool.false_ne_true]
    show mergeK (putK kvs p.1 p.2) more = _
    rw [e, mergeK_new (by rw [List.map_append, List.append_assoc]; exact h'), List.append_assoc]
    rfl
theorem zip_sub {α β : Type} : ∀ (ks : List α) (vs : List β), ((ks.zip vs).map (·.1)).Sublist ks
  | [], _ => by simp
  | _ :: _, [] => by simp
  | k :: ks, v :: vs => (zip_sub ks vs).cons₂ k
theorem DkAll.zip {K : PySem.W.Frag} {pt : Option Addr} {B : Hp} : ∀ {ks : List Key} {vs : List V} {ds : List D}, DnAll K pt B vs ds → DkAll K pt B (ks.zip vs) (ks.zip ds)
  | [], _, _, _ => .nil
  | _ :: _, _, _, .nil => .nil
  | k :: ks, _, _, .cons h r => .cons h (DkAll.zip r)
theorem de_disp (h : DPs X pos keys values ks t) (hn : ks.Nodup) (h0 : keys ≠ []) (h15 : ks.length ≤ 15) : DE X (.Dict keys values pos) (dDisp ks t) := by
  obtain ⟨trs, h1, h2, h3, h4, h5⟩ := h.ex
  refine ⟨pe_wk' (pe_disp h1 h2 h3 h0 (by rw [h4]; exact h15)) ?_, fun ρ m Q Q' w q => h.mn _ _ _ _ (fun _ _ q => w _ _ q) q⟩
  rintro σ H Q ⟨pt, S0, H0, S, ρ, m, E, hq⟩ p hp
  obtain ⟨E1, hz0, hpt, hno, nS, wo⟩ := E.newO (o := .dK []) hp
  refine h5 _ _ _ ⟨pt, S0, H0, p :: S, ρ, m, E1, h.mn _ _ _ _ (fun ds m1 q vs H1 e1 E2 x1 => ?_) hq⟩
  have hH : H1 p = some (.dK []) := e1 _ _ hpt upd_same
  refine ⟨hH, ks.zip vs, ?_, by rw [List.length_zip]; omega, ?_⟩
  · apply List.ext_getElem?
    intro j
    simp only [List.getElem?_map, List.getElem?_zip_eq_some, List.zip_map_left, List.getElem?_map]
    rfl
  · rw [mergeK_new (by
      rw [List.map_nil, List.nil_append]
      exact hn.sublist (zip_sub _ _)), List.nil_append]
    have E3 := E2.updO (o := .dK (ks.zip vs)) List.mem_cons_self hz0 hpt hno
    have E4 := E3.dropO nS hno hz0
    have sx : SameX pt H (upd H1 p (.dK (ks.zip vs))) := fun b o nb e => by
      rw [upd_ne (ne_of_none e hp)]
      exact e1 b o nb (Same.new hp b o e)
    have wo2 : Same (Wo (p :: S) H1) (Wo S (upd H1 p (.dK (ks.zip vs)))) := fun b o e => by
      obtain ⟨n, e⟩ := Wo.some e
      simp only [List.mem_cons, not_or] at n
      rw [Wo.out n.2, upd_ne n.1]
      exact e
    exact q _ _ sx E4 (.dk' (by rw [Wo.out nS, upd_same]) (.zip (x1.mono wo2)))
end
/-! ### a dict comprehension -/
def dcD (f : TgD) (tt : TDT) (tk tv : TD) (vs : List Nat) (ρ : Rho) : List D → List (Key × D) → Nat → (List (Key × D) → Nat → Prop) → Prop
  | [], acc, m, Q => Q acc m
  | x :: xs, acc, m, Q => ∃ ρ', f x (wipeR ρ vs) = some ρ' ∧ tt ρ' m fun b m1 => if b = true then tk ρ' m1 fun y m2 => tv ρ' m2 fun z m3 => ∃ k, keyD y = some k ∧ acc.length < sizeLine ∧ dcD f tt tk tv vs ρ xs (putD acc k z) m3 Q else dcD f tt tk tv vs ρ xs acc m1 Q
theorem dcD_mono {f : TgD} {tt : TDT} {tk tv : TD} {vs : List Nat} {ρ : Rho} (mt : MnT tt) (mk : MnE tk) (mv : MnE tv) : ∀ {xs : List D} {acc : List (Key × D)} {m : Nat} {Q Q' : List (Key × D) → Nat → Prop}, (∀ ds n, Q ds n → Q' ds n) → dcD f tt tk tv vs ρ xs acc m Q → dcD f tt tk tv vs ρ xs acc m Q'
  | [], acc, m, Q, Q', w, h => w _ _ h
  | x :: xs, acc, m, Q, Q', w, ⟨ρ', e, h⟩ => ⟨ρ', e, mt _ _ _ _ (fun b m1 h => by
    cases b
    · exact dcD_mono mt mk mv w h
    · exact mk _ _ _ _ (fun y m2 h => mv _ _ _ _ (fun z m3 ⟨k, e, l, h⟩ => ⟨k, e, l, dcD_mono mt mk mv w h⟩) h) h) h⟩
def dDc (ti : TDA) (f : TgD) (tt : TDT) (tk tv : TD) (vs : List Nat) : TD := fun ρ m Q => ti ρ m fun ds m1 => dcD f tt tk tv vs ρ ds [] m1 fun acc m2 => Q (.dk acc) m2
theorem lf_dc {K : PySem.W.Frag} {wi : TI} {ti : TDA} {g : TG} {f : TgD} {tt : TDT} {tk tv : TD} {vs ws : List Nat} {tT : TT} (iz : IS K wi ti) (gs : GS K g f ws) (hw : ∀ i ∈ ws, i ∈ vs) (mt : MnT tt) (mk : MnE tk) (mv : MnE tv) (htT : ∀ σ H Q, lfT K tt σ H Q → tT σ H Q) :
    ∀ σ H Q, lfE K (dDc ti f tt tk tv vs) σ H Q → tDc wi g tT (lfE K tk) (lfE K tv) vs σ H Q := by
  rintro σ H Q ⟨pt, S0, H0, S, ρ, m, E, h⟩
  refine iz.2 _ _ _ ⟨pt, S0, H0, S, ρ, m, E, iz.1 _ _ _ _ (fun ds m1 h1 H1 J e1 E1 it => ?_) h⟩
  intro D hD
  obtain ⟨ED, h0, hp, hn, nS, wo⟩ := E1.newO (o := .dK []) hD
  refine ⟨fun i n H' => n = ds.length - i ∧ i ≤ ds.length ∧ ∃ accv accd m', Ev K pt S0 H0 (D :: S) σ H' ρ m' ∧ SameX pt H1 H' ∧ H' D = some (.dK accv) ∧ DkAll K pt (Wo (D :: S) H') accv accd ∧ dcD f tt tk tv vs ρ (ds.drop i) accd m' fun acc m2 => ∀ v H'', SameX pt H H'' → Ev K pt S0 H0 S σ H'' ρ m2 → Dn K pt (Wo S H'') v (.dk acc) → Q v H'', ?_, ?_⟩
  · exact ⟨_, rfl, Nat.zero_le _, [], [], m1, ED, .of (Same.new hD), upd_same, .nil, h1⟩
  · rintro i n H' ⟨rfl, hi, accv, accd, m', E', s1, hA, dA, hl⟩
    have ssm : Same (Wo S H1) (Wo (D :: S) H') := fun b o q => by
      obtain ⟨nb, q⟩ := Wo.some q
      have nbD : b ≠ D := ne_of_none q hD
      rw [Wo.out (by simp only [List.mem_cons, not_or]; exact ⟨nbD, nb⟩)]
      exact s1 b o (fun z => nb (E1.pS b z)) q
    obtain ⟨go, stop⟩ := it i (D :: S) H' ssm E'.dom
    by_cases hlt : i < ds.length
    · obtain ⟨g1, g2⟩ := go ds[i] (List.getElem?_eq_getElem hlt)
      rw [List.drop_eq_getElem_cons hlt] at hl
      obtain ⟨ρ', e', hl⟩ := hl
      refine .inr ⟨g1, fun H'' => ∃ accv accd m', Ev K pt S0 H0 (D :: S) σ H'' ρ m' ∧ SameX pt H1 H'' ∧ H'' D = some (.dK accv) ∧ DkAll K pt (Wo (D :: S) H'') accv accd ∧ dcD f tt tk tv vs ρ (ds.drop (i + 1)) accd m' fun acc m2 => ∀ v H'', SameX pt H H'' → Ev K pt S0 H0 S σ H'' ρ m2 → Dn K pt (Wo S H'') v (.dk acc) → Q v H'', fun H'' q => ⟨_, Nat.sub_lt_sub_left hlt (Nat.lt_succ_self i), rfl, hlt, q⟩, fun x H2 hy => ?_⟩
      obtain ⟨sm2, dx⟩ := g2 x H2 hy
      have E2 := E'.same sm2
      refine gs pt S0 (D :: S) H0 H2 _ _ ρ' m' x _ _ (E2.wipe vs) dx e' fun σ2 E3 ag => ⟨(Agree.wipe (ag.more hw)).trans (wipe_wipe vs σ), htT _ _ _ ⟨pt, S0, H0, D :: S, ρ', m', E3, mt _ _ _ _ (fun b m3 h3 H3 e3 E4 => ?_) hl⟩⟩
      have back : ∀ {H4 : Hp} {m4 : Nat}, Ev K pt S0 H0 (D :: S) σ2 H4 ρ' m4 → SameX pt H2 H4 → Ev K pt S0 H0 (D :: S) σ H4 ρ m4 := fun {H4 m4} E4 s => E2.step s E4.pot
      cases b
      · exact ⟨accv, accd, m3, back E4 e3, s1.trans ((SameX.of sm2).trans e3), e3 _ _ hp (sm2 _ _ hA), dA.mono ((Wo.same sm2).trans (E2.wo e3)), h3⟩
      · refine ⟨pt, S0, H0, D :: S, ρ', m3, E4, mk _ _ _ _ (fun y m4 h4 v H4 e4 E5 dy => ?_) h3⟩
        refine ⟨pt, S0, H0, D :: S, ρ', m4, E5, mv _ _ _ _ (fun z m5 h5 u H5 e5 E6 dz => ?_) h4⟩
        obtain ⟨k, hk, l, h5⟩ := h5
        have hA4 : H5 D = some (.dK accv) := e5 _ _ hp (e4 _ _ hp (e3 _ _ hp (sm2 _ _ hA)))
        have dA4 := dA.mono ((Wo.same sm2).trans ((E2.wo e3).trans ((E4.wo e4).trans (E5.wo e5))))
        have wo5 : Same (Wo (D :: S) H5) (Wo (D :: S) (upd H5 D (.dK (putK accv k u)))) := fun b o q => by
          obtain ⟨nb, q⟩ := Wo.some q
          rw [Wo.out nb, upd_ne fun z => nb (by rw [z]; exact List.mem_cons_self)]
          exact q
        refine ⟨accv, k, keyD_of dy hk, hA4, by rw [dA.length]; exact l, putK accv k u, putD accd k z, m5, (back E6 (e3.trans (e4.trans e5))).updO List.mem_cons_self h0 hp hn, fun b o nb q => ?_, upd_same, (dA4.mono wo5).put (dz.mono wo5), h5⟩
        rw [upd_ne (ne_of_none q hD)]
        exact e5 b o nb (e4 b o nb (e3 b o nb (sm2 b o (s1 b o nb q))))
    · have e : i = ds.length := by omega
      subst e
      rw [List.drop_length] at hl
      have E6 := E'.dropO nS hn h0
      exact .inl ⟨stop rfl, hl _ H' (e1.trans s1) E6 (.dk' (by rw [Wo.out nS]; exact hA) (dA.mono (Wo.less fun b hb => List.mem_cons_of_mem _ hb)))⟩
theorem de_dcomp {X : Cx} {kx vx tg iter : Expr} {ifs : List Expr} {scope : Scope} {own : List (Str × Nat)} {pos : Pos} {wi : TI} {ti : TDA} {g : TG} {f : TgD} {ws : List Nat} {tt : TDT} {tT : TT} {tk tv : TD} (hc : X.calm = true) (hN : X.N.Nodup) (hi : DI X tg iter wi ti) (ok : BlkOk X.N X.env.scope scope own)
    (gs : GS X.K g f ws) (hw : ∀ i ∈ ws, i ∈ own.map (·.2))
    (hg : ∀ (s : Shared) (H : Hp) (C : Addr) (cl : List (Str × Addr)) (fp : List Addr), PG (X.blk s H scope (compEnvC scope cl C X.env) fp) tg g)
    (ht : ∀ (s : Shared) (H : Hp) (C : Addr) (cl : List (Str × Addr)) (fp : List Addr), DTs (X.blk s H scope (compEnvC scope cl C X.env) fp) ifs tt tT)
    (hk : ∀ (s : Shared) (H : Hp) (C : Addr) (cl : List (Str × Addr)) (fp : List Addr), DE (X.blk s H scope (compEnvC scope cl C X.env) fp) kx tk)
    (he : ∀ (s : Shared) (H : Hp) (C : Addr) (cl : List (Str × Addr)) (fp : List Addr), DE (X.blk s H scope (compEnvC scope cl C X.env) fp) vx tv) (hs : ∀ x, foldedSetIterable iter X.env x = pure x := by intro _; rfl) :
    DE X (.DictComp kx vx [⟨tg, iter, ifs, 0⟩] scope pos) (dDc ti f tt tk tv (own.map (·.2))) :=
  ⟨pe_wk' (pe_dc hc hN hi.pi ok hg (fun s H C cl fp => (ht s H C cl fp).pts) (tk := lfE X.K tk) (tv := lfE X.K tv) (fun s H C cl fp => (hk s H C cl fp).pe) (fun s H C cl fp => (he s H C cl fp).pe) hs)
    (lf_dc hi.iz gs hw (ht {} (fun _ => none) 0 [] []).mn (hk {} (fun _ => none) 0 [] []).mn (he {} (fun _ => none) 0 [] []).mn (ht {} (fun _ => none) 0 [] []).snd),
   fun ρ m Q Q' w q => hi.iz.1 _ _ _ _ (fun ds m1 q => dcD_mono (ht {} (fun _ => none) 0 [] []).mn (hk {} (fun _ => none) 0 [] []).mn (he {} (fun _ => none) 0 [] []).mn (fun _ _ q => w _ _ q) q) q⟩
end Vd
end
section
set_option Elab.async false
set_option linter.all false
set_option maxRecDepth 100000
set_option autoImplicit false
set_option maxHeartbeats 1000000
namespace Vd
open PySem L2 PySem.Spec Vb
open PyProof.Rows hiding St
/-! ### statements that are never come to -/
def sNever : TSD := fun _ _ _ => False
section
variable {X : Cx} {st : Stmt}
theorem ds_never : DS X st sNever := ⟨ps_wk' ps_never fun D σ H ⟨_, _, _, _, _, _, _, h⟩ => h.elim, fun _ _ _ _ _ h => h.elim⟩
end
/-! ### enumerate -/
def enumD (xs : List D) : List D := xs.mapIdx fun i x => .tup [.int (i : Nat), x]
def dEnum (t : TDA) : TDA := fun ρ m Q => t ρ m fun ds m1 => ∃ xs, ds = [.lst xs] ∧ Q (enumD xs) m1
theorem is_enum {K : PySem.W.Frag} {t : TDA} (mt : MnA t) : IS K (iEnum K (lfA K t)) (dEnum t) := by
  refine ⟨fun ρ m Q Q' w q => mt _ _ _ _ (fun d n ⟨i, e, q⟩ => ⟨i, e, w _ _ q⟩) q, ?_⟩
  rintro σ H R ⟨pt, S0, H0, S, ρ, m, E, h⟩
  refine ⟨pt, S0, H0, S, ρ, m, E, mt _ _ _ _ (fun x m1 h1 v H1 e1 E1 x1 => ?_) h⟩
  obtain ⟨xs, rfl, h1⟩ := h1
  obtain ⟨v, rfl, hv⟩ := x1.one
  cases hv with
  | lst q0 r =>
    have qa : SqL K (Wo S H1) _ _ := .of q0
    refine ⟨_, _, rfl, sqL_same (Wo.sub _ _) qa, h1 H1 _ e1 E1 fun i S' H' sm dm => ⟨fun d hd => ?_, fun hl => ?_⟩⟩
    · unfold enumD at hd
      rw [List.getElem?_mapIdx] at hd
      obtain ⟨x, hx, rfl⟩ := Option.map_eq_some_iff.mp hd
      obtain ⟨u, hu, du⟩ := r.get hx
      have la := sqL_same (Wo.sub _ _) (sqL_same sm qa)
      refine ⟨⟨_, u, la, hu⟩, fun z H2 hz => ?_⟩
      obtain ⟨T, x', rfl, hT, rfl, q1⟩ := hz
      have e1 := q1 _ la
      rw [hu] at e1
      cases e1
      exact ⟨Same.new hT, .tup (.of (wo_new dm hT)) (.cons (.int _) (.cons ((du.mono sm).mono (Wo.same (Same.new hT))) .nil))⟩
    · refine ⟨_, sqL_same (Wo.sub _ _) (sqL_same sm qa), ?_⟩
      unfold enumD at hl
      rw [List.length_mapIdx] at hl
      rw [r.length]
      exact Nat.le_of_eq hl
theorem di_enum {X : Cx} {e : Expr} {ta : TDA} {p pos tpos : Pos} {elts : List Expr} {kk : Nat} (hg : Gl X "enumerate") (hm : X.mg "enumerate" = none) (ha : DA X [e] ta) (hs : starEach [e] X.env = [(false, eval e X.env)] := by rfl) :
    DI X (.Tuple elts kk tpos) (.Call (.Name "enumerate" p) [e] [] pos) (iEnum X.K (lfA X.K ta)) (dEnum ta) := ⟨pi_enum hg hm ha.pa hs, is_enum ha.mn⟩
/-! ### a star among the items -/
def aStar (te : TD) (t : TDA) : TDA := fun ρ m Q => te ρ m fun d m1 => ∃ xs, (d = .lst xs ∨ d = .tup xs) ∧ t ρ m1 fun ys m2 => Q (xs ++ ys) m2
theorem da_star {X : Cx} {e : Expr} {es : List Expr} {p : Pos} {te : TD} {t : TDA} (he : DE X e te) (hr : DA X es t) (hs : starEach (.Starred e p :: es) X.env = (true, eval e X.env) :: starEach es X.env := by rfl) : DA X (.Starred e p :: es) (aStar te t) := by
  refine ⟨pa_wk' (StX.pa_star he.pe hr.pa hs) ?_, fun ρ m Q Q' w q => he.mn _ _ _ _ (fun d n ⟨xs, e, q⟩ => ⟨xs, e, hr.mn _ _ _ _ (fun ys n q => w _ _ q) q⟩) q⟩
  rintro σ H Q ⟨pt, S0, H0, S, ρ, m, E, h⟩
  refine ⟨pt, S0, H0, S, ρ, m, E, he.mn _ _ _ _ (fun x m1 h1 v H1 e1 E1 x1 => ?_) h⟩
  obtain ⟨xs, hx, h1⟩ := h1
  rcases hx with rfl | rfl
  · cases x1 with
    | lst q r =>
      refine ⟨_, _, rfl, .inr (.of (Wo.sub _ _ _ _ q)), pt, S0, H0, S, ρ, m1, E1, hr.mn _ _ _ _ (fun ys m2 h2 us H2 e2 E2 y2 => ?_) h1⟩
      exact h2 _ H2 (e1.trans e2) E2 ((r.mono (E1.wo e2)).append y2)
  · cases x1 with
    | tup q r =>
      refine ⟨_, _, rfl, .inl (sqT_same (Wo.sub _ _) q), pt, S0, H0, S, ρ, m1, E1, hr.mn _ _ _ _ (fun ys m2 h2 us H2 e2 E2 y2 => ?_) h1⟩
      exact h2 _ H2 (e1.trans e2) E2 ((r.mono (E1.wo e2)).append y2)
/-! ### a field -/
def fFld (f : Str) : D → Option D
  | .ins _ fs => fs.lookup f
  | _ => none
theorem ins_look {K : PySem.W.Frag} {pt : Option Addr} {B : Hp} {f : Str} {d : D} : ∀ {hs : List (Str × V)} {fs : List (Str × D)}, hs.map (·.1) = fs.map (·.1) → DnAll K pt B (hs.map (·.2)) (fs.map (·.2)) → fs.lookup f = some d → ∃ v, hs.lookup f = some v ∧ Dn K pt B v d
  | [], [], _, _, e => by cases e
  | [], _ :: _, k, _, _ => by cases k
  | _ :: _, [], k, _, _ => by cases k
  | (k, v) :: hs, (l, d') :: fs, e, r, h => by
    injection e with e1 e2
    have e1 : k = l := e1
    subst e1
    cases r with
    | cons h1 r =>
      rw [List.lookup_cons] at h ⊢
      split at h
      · rename_i q
        cases h
        exact ⟨v, rfl, h1⟩
      · rename_i q
        obtain ⟨u, hu, du⟩ := ins_look e2 r h
        exact ⟨u, hu, du⟩
/-- the class C has plain instances, whose field f is no attribute of the class -/
structure FldOk (K : PySem.W.Frag) (C : Addr) (f : Str) : Prop where
  cl : Cls K C
  na : NoAttr K C f
def dFld (C : Addr) (f : Str) (ta : TD) : TD := fun ρ m Q => ta ρ m fun x m1 => ∃ fs d, x = .ins C fs ∧ fs.lookup f = some d ∧ Q d m1
theorem de_fld {X : Cx} {C : Addr} {e : Expr} {f : Str} {pos : Pos} {ta : TD} (F : FldOk X.K C f) (he : DE X e ta) (hb : attributeBase e f X.env (eval e X.env) = eval e X.env := by rfl) : DE X (.Attribute e f pos) (dFld C f ta) := by
  refine ⟨pe_wk' (pe_fld he.pe hb) ?_, fun ρ m Q Q' w q => he.mn _ _ _ _ (fun d n ⟨fs, d', e1, e2, q⟩ => ⟨fs, d', e1, e2, w _ _ q⟩) q⟩
  rintro σ H Q ⟨pt, S0, H0, S, ρ, m, E, h⟩
  refine ⟨pt, S0, H0, S, ρ, m, E, he.mn _ _ _ _ (fun x m1 h1 v H1 e1 E1 x1 => ?_) h⟩
  obtain ⟨fs, d, rfl, hl, h1⟩ := h1
  cases x1 with
  | ins q k r =>
    obtain ⟨u, hu, du⟩ := ins_look k r hl
    exact ⟨_, _, _, _, u, rfl, Wo.sub _ _ _ _ q, F.cl, F.na, hu, h1 u H1 e1 E1 du⟩
/-! ### from data to what is shown and compared -/
mutual
def toPy : D → Option PyData
  | .non => some .none
  | .bl b => some (.bool b)
  | .int i => some (.int i)
  | .str z => some (.str z)
  | .lst xs => (toPys xs).map .list
  | .tup xs => (toPys xs).map .tuple
  | .dk _ | .ins _ _ | .pot | .op _ => none
def toPys : List D → Option (List PyData)
  | [] => some []
  | d :: ds => (toPy d).bind fun p => (toPys ds).map (p :: ·)
end
mutual
theorem Dn.dp {K : PySem.W.Frag} {pt : Option Addr} {B : Hp} : ∀ {v : V} {d : D} {p : PyData}, Dn K pt B v d → toPy d = some p → Dp K B v p
  | _, _, _, .non, e => by simp [toPy] at e; subst e; exact .non
  | _, _, _, .bl b, e => by simp [toPy] at e; subst e; exact .bl b
  | _, _, _, .int i, e => by simp [toPy] at e; subst e; exact .int i
  | _, _, _, .str z, e => by simp [toPy] at e; subst e; exact .str z
  | _, _, _, .lst h r, e => by
    rw [toPy] at e
    obtain ⟨ps, hp, rfl⟩ := Option.map_eq_some_iff.mp e
    exact .lst (.of h) (DnAll.dp r hp)
  | _, _, _, .tup h r, e => by
    rw [toPy] at e
    obtain ⟨ps, hp, rfl⟩ := Option.map_eq_some_iff.mp e
    exact .tup h (DnAll.dp r hp)
  | _, _, _, .dk _ _ _, e => by simp [toPy] at e
  | _, _, _, .ins _ _ _, e => by simp [toPy] at e
  | _, _, _, .pot _, e => by simp [toPy] at e
  | _, _, _, .op _, e => by simp [toPy] at e
theorem DnAll.dp {K : PySem.W.Frag} {pt : Option Addr} {B : Hp} : ∀ {vs : List V} {ds : List D} {ps : List PyData}, DnAll K pt B vs ds → toPys ds = some ps → DpAll K B vs ps
  | _, _, _, .nil, e => by simp [toPys] at e; subst e; exact .nil
  | _, _, _, .cons h r, e => by
    rw [toPys] at e
    obtain ⟨p, hp, e⟩ := Option.bind_eq_some_iff.mp e
    obtain ⟨ps, hps, rfl⟩ := Option.map_eq_some_iff.mp e
    exact .cons (Dn.dp h hp) (DnAll.dp r hps)
end
theorem dp_same {K : PySem.W.Frag} {H H' : Hp} (e : Same H H') : (∀ {v : V} {p : PyData}, Dp K H v p → Dp K H' v p) := by
  intro v p h
  exact Dp.rec (motive_1 := fun v p _ => Dp K H' v p) (motive_2 := fun vs ps _ => DpAll K H' vs ps) .non (fun b => .bl b) (fun i => .int i) (fun x => .str x)
    (fun h _ r => .lst (sqL_same e h) r) (fun h _ r => .tup (sqT_same e h) r) .nil (fun _ _ a b => .cons a b) h
/-- d is shown in at most n signs, nested at most k deep -/
def Rp (d : D) (n k : Nat) : Prop := ∃ p, toPy d = some p ∧ p.showable = true ∧ p.hasDict = false ∧ p.depth ≤ k ∧ p.shown.length ≤ n
def reprD (d : D) : Option Str := (toPy d).map (·.shown)
def fRepr : List D → Option D
  | [d] => (toPy d).bind fun p => if p.showable = true ∧ p.hasDict = false ∧ p.depth ≤ 60 ∧ p.shown.length ≤ sizeLine then some (.str p.shown) else none
  | _ => none
theorem s_repr {K : PySem.W.Frag} : SC K (rRepr K) fRepr := by
  intro pt S H xs as d Q hd hx e q
  cases hx with
  | nil => cases e
  | cons h r =>
    cases r with
    | cons _ _ => cases e
    | nil =>
      obtain ⟨p, hp, e⟩ := Option.bind_eq_some_iff.mp e
      obtain ⟨⟨h1, h2, h3, h4⟩, rfl⟩ := ite_some e
      exact ⟨_, p, rfl, .inl ⟨dp_same (Wo.sub _ _) (h.dp hp), h2⟩, h1, h4, h3, q _ _ (.refl _) (.str _)⟩
theorem Rp.repr {d : D} {n k : Nat} (h : Rp d n k) (hn : n ≤ 16777216) (hk : k ≤ 60) : ∃ z, fRepr [d] = some (.str z) ∧ z.length ≤ n := by
  obtain ⟨p, h1, h2, h3, h4, h5⟩ := h
  refine ⟨p.shown, ?_, h5⟩
  show (toPy d).bind _ = _
  rw [h1, Option.bind_some, if_pos ⟨h2, h3, by omega, by rw [sizeLine_eq]; omega⟩]
/-- == with data at any depth -/
def fEqD (a b : D) : Option D := (toPy a).bind fun p => (toPy b).bind fun q => if SeqAt.shaped p = true ∧ SeqAt.shaped q = true then some (.bl (PyData.eqv p q)) else none
def fNeD (a b : D) : Option D := (toPy a).bind fun p => (toPy b).bind fun q => if SeqAt.shaped p = true ∧ SeqAt.shaped q = true then some (.bl (!PyData.eqv p q)) else none
theorem s_eqD {K : PySem.W.Frag} : S2 K (rEqD K) fEqD := by
  intro pt S H x y a b d Q hd hx hy e q
  obtain ⟨p, hp, e⟩ := Option.bind_eq_some_iff.mp e
  obtain ⟨p', hp', e⟩ := Option.bind_eq_some_iff.mp e
  obtain ⟨⟨h1, h2⟩, rfl⟩ := ite_some e
  exact ⟨p, p', dp_same (Wo.sub _ _) (hx.dp hp), dp_same (Wo.sub _ _) (hy.dp hp'), h1, h2, q _ _ (.refl _) (.bl _)⟩
theorem s_neD {K : PySem.W.Frag} : S2 K (rNeD K) fNeD := by
  intro pt S H x y a b d Q hd hx hy e q
  obtain ⟨p, hp, e⟩ := Option.bind_eq_some_iff.mp e
  obtain ⟨p', hp', e⟩ := Option.bind_eq_some_iff.mp e
  obtain ⟨⟨h1, h2⟩, rfl⟩ := ite_some e
  exact ⟨p, p', dp_same (Wo.sub _ _) (hx.dp hp), dp_same (Wo.sub _ _) (hy.dp hp'), h1, h2, q _ _ (.refl _) (.bl _)⟩
end Vd
end
section
set_option Elab.async false
set_option linter.all false
set_option maxRecDepth 100000
set_option autoImplicit false
set_option maxHeartbeats 1000000
/-! What the hand layer lacks: a module's dict copied, own == and != by a def, set of texts, zip of a text and a list. -/
namespace Vd
open PySem L2 PySem.Spec Vb
open PyProof.Rows hiding St
/-- the pairs of a module's dict of texts to plain values -/
def rowsOf : List DictEntry → Option (List (Key × V))
  | [] => some []
  | e :: es => match e.key, absV e.val with
    | .str x _, some v => (rowsOf es).map fun r => (.inr x, v) :: r
    | _, _ => none
theorem absV_rel {u : Value} {v : V} (h : absV u = some v) : RelV v u := by
  cases u <;> first | (cases h; first | rfl | exact ⟨_, rfl⟩) | cases h
theorem rowsOf_pairs {P : Program} {w : World} : ∀ {es : List DictEntry} {kvs : List (Key × V)}, rowsOf es = some kvs → ∃ vs, KV kvs vs ∧ Pairs (mixKind P w) es vs
  | [], _, h => by cases h; exact ⟨[], .nil, .nil⟩
  | e :: es, kvs, h => by
    unfold rowsOf at h
    split at h
    · rename_i x t v hk hv
      obtain ⟨r, hr, rfl⟩ := Option.map_eq_some_iff.mp h
      obtain ⟨vs, h1, h2⟩ := rowsOf_pairs (P := P) (w := w) hr
      refine ⟨(.inr x, e.val) :: vs, .cons ⟨rfl, absV_rel hv⟩ h1, .cons ?_ rfl h2⟩
      have q : keyIs (.inr x) e.key = true := by
        rw [hk]
        exact keyIs_str x t
      exact q
    · cases h
/-- a dict of the module's own top -/
structure KDic (K : PySem.W.Frag) (w : World) (a : Addr) (kvs : List (Key × V)) : Prop where
  ex : ∃ es n, K.lookup a = some ⟨.type "dict", none, .dict es n, #[]⟩ ∧ PySem.W.KeysLit w.params es.toList ∧ rowsOf es.toList = some kvs
  nd : (kvs.map (·.1)).Nodup
  len : kvs.length ≤ 1000
  low : (a == sysModules) = false
theorem KDic.dict {P : Program} {K : PySem.W.Frag} {w : World} {a : Addr} {kvs : List (Key × V)} {h : Heap} (X : K.In h) (d : KDic K w a kvs) : ∃ vs, KV kvs vs ∧ h.DictOf (mixKind P w) a vs := by
  obtain ⟨es, n, h1, h2, h3⟩ := d.ex
  obtain ⟨vs, r, p⟩ := rowsOf_pairs (P := P) (w := w) h3
  refine ⟨vs, r, _, es, n, X _ _ h1, ⟨rfl, rfl, rfl⟩, rfl, fun e he => ?_, p, ?_⟩
  · obtain ⟨x, t, e1, e2⟩ := h2.all e (Array.mem_toList_iff.mpr he)
    exact ⟨.inr x, by rw [e1]; exact keyIs_str x t, e2⟩
  · rw [← r.keys]
    exact d.nd
theorem call_dictK {X : Cx} : CallR X (.type "dict") (fun xs H Q => ∃ (a : Addr) (kvs : List (Key × V)), xs = [.ref a] ∧ KDic X.K X.w a kvs ∧ ∀ p, H p = none → Q (.ref p) (upd H p (.dK kvs))) := by
  rintro pins s σ H xs us Q I r ⟨a, kvs, rfl, hd, q⟩
  obtain ⟨u, rfl, rx⟩ := vals1 r
  cases rx
  obtain ⟨vs, rel, dd⟩ := hd.dict (P := X.prog) I.kIn
  have hl := hd.len
  have z : kvs.length ≤ sizeLine := by rw [sizeLine_eq]; omega
  refine PySem.kt_call_dict hd.low dd (by rw [← rel.length]; exact z) fun h' d' hs => ?_
  have hm : (s.heap.objs.size == sysModules) = false := beq_eq_false_iff_ne.mpr (Nat.ne_of_gt I.big)
  exact ⟨.ref s.heap.objs.size, upd H s.heap.objs.size (.dK kvs), I.laid (t' := s.toks) (fun b u e => (hs.2 b (Nat.ne_of_lt (Heap.lt_size e))).trans (Heap.get?_push_of_some _ e)) (Nat.le_refl _)
    (show ObjOk X.prog X.w _ _ _ (.dK kvs) from ⟨z, hm, vs, rel, d'⟩), rfl, q _ (I.hok.fresh (Nat.le_refl _))⟩
end Vd
end
section
set_option Elab.async false
set_option linter.all false
set_option maxRecDepth 100000
set_option autoImplicit false
set_option maxHeartbeats 2000000
namespace Vd
open PySem L2 PySem.Spec Vb
open PyProof.Rows hiding St
section
variable {P : Program} {w : World} {A : Around} {E : Value → Shared → Prop} {s : Shared} {K : PySem.W.Frag} {x C f N : Addr} {ox : Obj} {od : Option Obj} {b tb : Value} {nm q : Str} {bs bm sub : List Value} {hd : Bool} {sn : List Str} {ab : Bool} {col : Option Bool} {dd : Option Addr} {k0 k1 k2 k3 k5 : Option Value} {nid : String}
/-- the body of object.__ne__, the own __eq__ behind it -/
theorem ne_body {R : Fin → Shared → Prop} (KX : K.In s.heap) (J : PySem.W.InstAt s.heap x ox C od) (he : PySem.W.findIn K (.ref C) "__eq__" = some (some (.ref f))) (hf : PySem.W.isFn K (.ref f) = true) (hu : A.units < cLine)
    (run : wpAny (model P w) A (call (.ref f) [.ref x, b]) (fun v s' => ∃ r, v = .bool r ∧ R (.done (.ret (.bool (!r)))) s') E s) : wpAny (model P w) A (Builtin.«object.__ne__» ⟨[.ref x, b], []⟩) R E s := by
  unfold Builtin.«object.__ne__»
  repeat (first
    | with_reducible refine wpAny_cRoomFor hu ?_
    | (refine wpAny_bind (m := callSpecialIfBound? (.ref x) (Str.ofString "__eq__") [b]) (PySem.W.ifBound_K KX J he hf (wpAny_mono run (fun v s' hr => by
          obtain ⟨r, rfl, hq⟩ := hr
          repeat (first | exact hq | exact wpAny_pure hq | exact wpAny_truthy_bool hq | (refine wpAny_bind (m := truthy (.bool _)) (wpAny_truthy_bool ?_)) | wp_step)) fun _ _ z => z)))
    | wp_step)
/-- x.__ne__(b) is object's own -/
theorem ne_try {R : Option Value → Shared → Prop} (KX : K.In s.heap) (J : PySem.W.InstAt s.heap x ox C od) (hC : K.lookup C = some (excClassObj nm q C N bs bm hd sn sub ab col dd k0 k1 k2 k3 k5 nid)) (hob : bm.contains (.type "object") = true)
    (hn : PySem.W.findIn K (.ref C) "__ne__" = some (some (.builtin "object.__ne__"))) (he : PySem.W.findIn K (.ref C) "__eq__" = some (some (.ref f))) (hf : PySem.W.isFn K (.ref f) = true) (hu : A.units + 1 < cLine)
    (run : wpAny (model P w) A.in1 (call (.ref f) [.ref x, b]) (fun v s' => ∃ r, v = .bool r ∧ R (some (.bool (!r))) s') E s) : wpAny (model P w) A (tryCompare (.ref x) "__ne__" b) R E s := by
  have S := F.cmp_object.ne
  have kin : wpAny (model P w) A (call (.builtin "object.__ne__") [.ref x, b]) (fun v s' => ∃ r, v = .bool r ∧ R (some (.bool r)) s') E s := by
    obtain ⟨hp, g, dr, t, os⟩ := s
    refine wpAny_call (codeAny_call_builtin S.plain F.cmpEntry_ne (wpAny_check_slot_inst F.cmpKind_ne F.cmpSplit_ne (F.cmpArgs_ne _ _) hob J.at_ J.cls (KX _ _ hC) (ne_body (A := A.in1) KX J he hf hu (wpAny_mono run (fun v s' hv => ?_) fun _ _ z => z))))
    obtain ⟨r, rfl, hq⟩ := hv
    first | exact ⟨r, rfl, ⟨_, rfl, hq⟩⟩ | exact ⟨r, rfl, wpAny_pure ⟨_, rfl, hq⟩⟩
  simp only [tryCompare, callSpecialIfBound?, bindSpecialIfBound?]
  refine wpAny_bind (wpAny_holding (wpAny_bind (wpAny_bind (wpAny_bind (J.type.here ((PySem.W.looks_findIn KX hn).here ?_))))))
  simp only [S.bind]
  refine wpAny_bind (wpAny_askSetting (wpAny_ite ?_))
  have fin : ∀ (T : Option Value → Shared → Prop), (∀ r s', R (some (.bool r)) s' → T (some (.bool r)) s') → wpAny (model P w) A (call (.builtin "object.__ne__") ([.ref x] ++ [b]) >>= fun v => pure (some v)) T E s :=
    fun T hT => wpAny_bind (wpAny_mono kin (fun v s' hv => by
      obtain ⟨r, rfl, hq⟩ := hv
      exact wpAny_pure (hT _ _ hq)) fun _ _ z => z)
  split
  · exact wpAny_bind (wpAny_pure (wpAny_pure (fin _ fun r s' hq => wpAny_pure hq)))
  · exact wpAny_tryCatch (wpAny_bind (wpAny_pure (wpAny_pure (fin _ fun r s' hq => wpAny_pure hq))))
/-- x != b -/
theorem ne_rich {R : Value → Shared → Prop} (KX : K.In s.heap) (J : PySem.W.InstAt s.heap x ox C od) (hC : K.lookup C = some (excClassObj nm q C N bs bm hd sn sub ab col dd k0 k1 k2 k3 k5 nid)) (hob : bm.contains (.type "object") = true)
    (hb : PySem.W.Looks (model P w) s.heap (typeOf b) tb) (hnf : PySem.W.notFirst K C tb = true)
    (hn : PySem.W.findIn K (.ref C) "__ne__" = some (some (.builtin "object.__ne__"))) (he : PySem.W.findIn K (.ref C) "__eq__" = some (some (.ref f))) (hf : PySem.W.isFn K (.ref f) = true) (hu : A.units + 1 < cLine)
    (run : wpAny (model P w) A.in1 (call (.ref f) [.ref x, b]) (fun v s' => ∃ r, v = .bool r ∧ R (.bool (!r)) s') E s) : wpAny (model P w) A (richCompare .NotEq (.ref x) b) R E s := by
  have one : wpAny (model P w) A (tryCompare (.ref x) "__ne__" b) (fun r s' => ∃ v, r = some v ∧ R v s') E s := ne_try KX J hC hob hn he hf hu (wpAny_mono run (fun v s' hv => by
    obtain ⟨r, rfl, hq⟩ := hv
    exact ⟨r, rfl, _, rfl, hq⟩) fun _ _ z => z)
  unfold richCompare
  simp only [oneThing_ref]
  refine wpAny_holding (wpAny_bind (wpAny_cRoomFor (Nat.lt_of_succ_lt hu) ?_))
  rw [show cmpInfo .NotEq = (("!=", "__ne__", "__ne__") : String × Str × Str) from rfl]
  dsimp only
  refine wpAny_bind (J.type.here (wpAny_bind (hb.here ?_)))
  have last : wpAny (model P w) A (tryCompare (.ref x) "__ne__" b) (fun r s' => ∃ v, r = some v ∧ R v s') E s := one
  by_cases hq : (Value.ref C != tb) = true
  · have e : PySem.W.subIn K tb (.ref C) = some false := by
      rcases Bool.or_eq_true_iff.mp hnf with e | e
      · rw [beq_iff_eq.mp e] at hq
        simp at hq
      · exact beq_iff_eq.mp e
    rw [if_pos (by first | exact hq | simpa using hq)]
    refine wpAny_bind ((PySem.W.looks_subIn KX e).here ?_)
    simp only [Bool.false_eq_true, if_false]
    refine wpAny_bind (wpAny_mono last (fun r s' z => ?_) fun _ _ z => z)
    obtain ⟨v, rfl, hv⟩ := z
    exact wpAny_pure hv
  · rw [if_neg (by first | exact hq | simpa using hq)]
    refine wpAny_bind (wpAny_pure ?_)
    simp only [Bool.false_eq_true, if_false]
    refine wpAny_bind (wpAny_mono last (fun r s' z => ?_) fun _ _ z => z)
    obtain ⟨v, rfl, hv⟩ := z
    exact wpAny_pure hv
end
end Vd
end
section
set_option Elab.async false
set_option linter.all false
set_option maxRecDepth 100000
set_option autoImplicit false
set_option maxHeartbeats 2000000
namespace Vd
open PySem L2 PySem.Spec Vb
open PyProof.Rows hiding St
/-- the type of what stands on the right -/
inductive YTy (K : PySem.W.Frag) (H : Hp) : V → Value → Prop
  | str (z : Str) : YTy K H (.str z) (.type "str")
  | int (i : Int) : YTy K H (.int i) (.type "int")
  | non : YTy K H .non (.type "NoneType")
  | lst {a : Addr} {xs : List V} : H a = some (.lst xs) → YTy K H (.ref a) (.type "list")
  | tup {a : Addr} {xs : List V} : SqT K H a xs → YTy K H (.ref a) (.type "tuple")
  | ins {a C dx : Addr} {fs : List (Str × V)} : H a = some (.ins C dx fs) → YTy K H (.ref a) (.ref C)
theorem YTy.looks {X : Cx} {pins : List (Addr × Obj)} {σ : St} {H : Hp} {s : Shared} {y : V} {u t : Value} (h : YTy X.K H y t) (I : Inv X pins σ H s) (r : RelV y u) : PySem.W.Looks (model X.prog X.w) s.heap (typeOf u) t := by
  cases h with
  | str z =>
    obtain ⟨k, rfl⟩ := r
    exact PySem.W.Looks.of_pure rfl
  | int z =>
    obtain ⟨k, rfl⟩ := r
    exact PySem.W.Looks.of_pure rfl
  | non =>
    cases r
    exact PySem.W.Looks.of_pure rfl
  | lst e =>
    cases r
    obtain ⟨_, its, n, _, e⟩ := I.hok _ _ e
    exact (PySem.W.Looks.ld e).andThen .now
  | tup e =>
    cases r
    obtain ⟨its, rv, ⟨o, ho, hc, n, hd⟩, _⟩ := I.tuple e
    exact hc ▸ (PySem.W.Looks.ld ho).andThen .now
  | ins e =>
    cases r
    obtain ⟨mA, J, _⟩ := ins_get I.hok e
    obtain ⟨od, J, _⟩ := J.look
    exact J.type
/-- the class C has an own __eq__, at f, and object's __ne__ -/
structure CmpC (K : PySem.W.Frag) (C f : Addr) : Prop where
  lk : ∃ nm q N bs hd sn sub ab col dd k0 k1 k2 k3 k5 nid, K.lookup C = some (excClassObj nm q C N bs [.type "object"] hd sn sub ab col dd k0 k1 k2 k3 k5 nid)
  eq : PySem.W.findIn K (.ref C) "__eq__" = some (some (.ref f))
  ne : PySem.W.findIn K (.ref C) "__ne__" = some (some (.builtin "object.__ne__"))
  fn : PySem.W.isFn K (.ref f) = true
/-- what stands on the right may stand there -/
def YOk (K : PySem.W.Frag) (C : Addr) (H : Hp) (y : V) : Prop := ∃ t, YTy K H y t ∧ PySem.W.notFirst K C t = true
def rEqO (K : PySem.W.Frag) (C : Addr) (sp : Sp) : R2 := fun x y H Q => ∃ a dx fs, x = .ref a ∧ H a = some (.ins C dx fs) ∧ YOk K C H y ∧ sp [x, y] H (fun v H' => ∃ k, v = .bl k ∧ Q (.bl k) H') E0
def rNeO (K : PySem.W.Frag) (C : Addr) (sp : Sp) : R2 := fun x y H Q => ∃ a dx fs, x = .ref a ∧ H a = some (.ins C dx fs) ∧ YOk K C H y ∧ sp [x, y] H (fun v H' => ∃ k, v = .bl k ∧ Q (.bl (!k)) H') E0
theorem fnR_of {P : Program} {w : World} {K : PySem.W.Frag} {mg : Str → Option Value} {base : Heap} {CX : CXT} {k : Nat} {f : Addr} {fd : FuncData} {ps : List Str} {sp : Sp} (F : FnOk P w K mg base CX k f fd ps sp) (hb : Binds K fd ps []) : FnR P w K mg base CX k f sp :=
  (FnOk.raw F hb .nil).imp fun vs H Q E h => by
    rw [List.append_nil]
    exact h
section
variable {X : Cx} {C f : Addr} {fd : FuncData} {ps : List Str} {sp : Sp} {k : Nat}
theorem op_eqO (c : CmpC X.K C f) (F : FnOk X.prog X.w X.K X.mg X.base CX0 k f fd ps sp) (hb : Binds X.K fd ps []) (hr : Room k X.A) : OpR X (compareOp .Eq) (rEqO X.K C sp) := by
  rintro pins s σ H x y v u Q I rx ry ⟨a, dx, fs, rfl, ha, ⟨t, ty, nf⟩, q⟩
  cases (show v = Value.ref a from rx)
  obtain ⟨mA, J, _⟩ := ins_get I.hok ha
  obtain ⟨od, J, _⟩ := J.look
  obtain ⟨m, hF⟩ := I.fr
  show wpAny _ _ (richCompare .Eq (.ref a) u) _ _ s
  refine PySem.W.cmp_K (op := .Eq) (tb := t) hr.units0 hF I.ok.mod.kin J (ty.looks I ry) nf c.eq c.fn ?_
  refine wpAny_mono (wpAny_call (SlX.run_at (us := [.ref a, u]) (ws := [.ref a, y]) (fnR_of F hb) hr I.env0 pass0 I (.cons rfl (.cons ry .nil)) q)) (fun w s' z => ?_) fun _ _ x => x
  obtain ⟨z, H', I', rz, b, rfl, qz⟩ := z
  cases rz
  exact ⟨.bl b, H', I', rfl, qz⟩
theorem op_neO (c : CmpC X.K C f) (F : FnOk X.prog X.w X.K X.mg X.base CX0 k f fd ps sp) (hb : Binds X.K fd ps []) (hr : Room (k + 1) X.A) : OpR X (compareOp .NotEq) (rNeO X.K C sp) := by
  rintro pins s σ H x y v u Q I rx ry ⟨a, dx, fs, rfl, ha, ⟨t, ty, nf⟩, q⟩
  cases (show v = Value.ref a from rx)
  obtain ⟨mA, J, _⟩ := ins_get I.hok ha
  obtain ⟨od, J, _⟩ := J.look
  obtain ⟨nm, q1, N, bs, hd, sn, sub, ab, col, dd, k0, k1, k2, k3, k5, nid, lk⟩ := c.lk
  show wpAny _ _ (richCompare .NotEq (.ref a) u) _ _ s
  refine ne_rich I.kIn J lk (by decide +kernel) (ty.looks I ry) nf c.ne c.eq c.fn (by have := hr.units; omega) ?_
  refine wpAny_mono (wpAny_call (SlX.run_at (us := [.ref a, u]) (ws := [.ref a, y]) (fnR_of F hb) (Room.in1 hr) I.env0.in1 pass0 I (.cons rfl (.cons ry .nil)) q)) (fun w s' z => ?_) fun _ _ x => x
  obtain ⟨z, H', I', rz, b, rfl, qz⟩ := z
  cases rz
  exact ⟨b, rfl, .bl (!b), H', I', rfl, qz⟩
end
end Vd
end
section
set_option Elab.async false
set_option linter.all false
set_option maxRecDepth 100000
set_option autoImplicit false
set_option maxHeartbeats 2000000
/-! zip of a text and a list. -/
namespace Vd
open PySem L2 PySem.Spec Vb
open PyProof.Rows hiding St
/-- the turns of zip(x, list at b) -/
def ItS (K : PySem.W.Frag) (x : Str) (b : Addr) : It :=
  ⟨fun i H => ∃ ys : List V, SqL K H b ys ∧ i < x.cps.size ∧ i < ys.length,
   fun i H v H' => ∃ T c y, v = .ref T ∧ H T = none ∧ H' = upd H T (.tup [.str ⟨#[c]⟩, y]) ∧ x.cps[i]? = some c ∧ ∀ ys, SqL K H b ys → ys[i]? = some y,
   fun i H => ∃ ys : List V, SqL K H b ys ∧ i ≤ x.cps.size ∧ i ≤ ys.length ∧ (i = x.cps.size ∨ i = ys.length)⟩
theorem nea {a b : Nat} (h : a < b ∨ b < a) : (a : Addr) ≠ b := fun z => by
  have z : a = b := z
  omega
theorem out1 {a b : Nat} (h : a < b ∨ b < a) : (a : Addr) ∉ ([b] : List Addr) := by
  rw [List.mem_singleton]
  exact nea h
theorem out2 {a b c : Nat} (h : a < b ∨ b < a) (h' : a < c ∨ c < a) : (a : Addr) ∉ ([b, c] : List Addr) := by
  simp only [List.mem_cons, List.not_mem_nil, or_false, not_or]
  exact ⟨nea h, nea h'⟩
theorem far_of {I b : Nat} (h : b < I) : ZipSep2 (I + 4) (I + 2) (I + 3) I (I + 1) [I] [I + 1, b] where
  TIz := nea (by omega)
  TOz := nea (by omega)
  TITO := nea (by omega)
  TIi1 := nea (by omega)
  mem1 := List.mem_cons_self
  zf1 := out1 (by omega)
  Tf1 := out1 (by omega)
  TIi2 := nea (by omega)
  mem2 := List.mem_cons_self
  zf2 := out2 (by omega) (by omega)
  Tf2 := out2 (by omega) (by omega)
  sep1_2 := out2 (by omega) (by omega)
  sep2_1 := out1 (by omega)
theorem strIter_keep {h h' : Heap} {a : Addr} {n : String} {x : Str} {t : Tok} {i : Nat} (s : h.IsStrIter a n x t i) (k : ∀ o, h.get? a = some o → h'.get? a = some o) : h'.IsStrIter a n x t i := by
  obtain ⟨o, e1, e2, e3⟩ := s
  exact ⟨o, k _ e1, e2, e3⟩
theorem turn_strL {P : Program} {w : World} {K : PySem.W.Frag} {elts : List Expr} {kk : Nat} {tpos : Pos} {x : Str} {t : Tok} {I b : Nat} (hb : b < I) :
    Turn P w K (.Tuple elts kk tpos) (ItS K x b) [I + 4, I + 2, I + 3, I, I + 1] (I + 4) (fun i h => IsZip h (I + 4) (I + 2) (I + 3) .none ∧ IsTupOf2 h (I + 2) (.ref I) (.ref (I + 1)) ∧ (∃ p q, IsTupOf2 h (I + 3) p q) ∧ h.IsStrIter I (strIterType x) x t i ∧ h.IsListIter (I + 1) b i) where
  mem := by simp
  obj := fun i h st c hc => by
    obtain ⟨a1, a2, ⟨p, q, a3⟩, a4, ⟨o2, a5, _, d5⟩⟩ := st
    obtain ⟨o1, e1, _, d1⟩ := id a4
    simp only [List.mem_cons, List.not_mem_nil, or_false] at hc
    rcases hc with z | z | z | z | z <;> subst z
    · exact ⟨_, a1, fun v z => nomatch z⟩
    · exact ⟨_, a2, fun v z => nomatch z⟩
    · exact ⟨_, a3, fun v z => nomatch z⟩
    · exact ⟨o1, e1, fun v z => by rw [d1] at z; cases z⟩
    · exact ⟨o2, a5, fun v z => by rw [d5] at z; cases z⟩
  keep := fun i h h' st k => by
    obtain ⟨a1, a2, ⟨p, q, a3⟩, a4, a5⟩ := st
    exact ⟨k _ (by simp) _ a1, k _ (by simp) _ a2, ⟨p, q, k _ (by simp) _ a3⟩, strIter_keep a4 fun o z => k _ (by simp) o z, a5.at fun o z => k _ (by simp) o z⟩
  item := by
    intro X hP hw hK hc i pins s σ H E J hf st hg
    subst hP hw hK
    obtain ⟨a1, a2, ⟨p, q, a3⟩, a4, a5⟩ := st
    obtain ⟨ys, hy, l1, l2⟩ := hg
    obtain ⟨its, rv, pl, _⟩ := J.list hy
    have hn : its.toArray.size = ys.length := by rw [List.size_toArray, rv.length]
    have hI : I + 4 < s.heap.objs.size := Heap.lt_size a1
    refine wpAny_pyNext_zipD2_item (far_of hb) (Draws.text (by exact J.ok.hd hc) I x t) (Draws.list (by exact J.ok.hd hc) (I + 1) b (nea (by omega)) its.toArray) a1 a2 a3 a4 ⟨a5, pl.isList⟩ l1 (by rw [hn]; exact l2) fun x1 x2 h1 tk P1 P2 b1 b2 b3 b4 b5 b6 b7 => ?_
    obtain ⟨c, u, hcx, rfl⟩ := P1
    have hyi : ys[i]? = some ys[i] := List.getElem?_eq_getElem l2
    obtain ⟨u2, hu2, ru2⟩ := rv.get hyi
    have e2 : x2 = u2 := by
      have : its.toArray[i]? = some x2 := P2
      rw [List.getElem?_toArray, hu2] at this
      exact (Option.some.inj this).symm
    subst e2
    refine ⟨_, rfl, wpAny_letOwnedTupleGo_zip (s := { s with heap := h1, toks := tk }) b1 fun h2 z2 sb => ?_⟩
    have apart : ∀ c, c ∈ [I + 4, I + 2, I + 3, I, I + 1] → c < s.heap.objs.size := fun c hcm => by
      have hI : I + 4 < s.heap.objs.size := hI
      simp only [List.mem_cons, List.not_mem_nil, or_false] at hcm
      rcases hcm with z | z | z | z | z <;> rw [z]
      · exact hI
      · exact Nat.lt_trans (Nat.add_lt_add_left (by decide) I) hI
      · exact Nat.lt_trans (Nat.add_lt_add_left (by decide) I) hI
      · exact Nat.lt_of_le_of_lt (Nat.le_add_right _ _) hI
      · exact Nat.lt_trans (Nat.add_lt_add_left (by decide) I) hI
    have hT2 : h2.get? s.heap.objs.size = some { cls := .type "tuple", data := .seq #[.str ⟨#[c]⟩ u, x2] } := (sb.2 s.heap.objs.size (nea (.inr hI))).trans b5
    have new : ObjOk X.prog X.w (upd H s.heap.objs.size (.tup [.str ⟨#[c]⟩, ys[i]])) h2 s.heap.objs.size (.tup [.str ⟨#[c]⟩, ys[i]]) :=
      ⟨by show 2 ≤ sizeLine; decide, [.str ⟨#[c]⟩ u, x2], .cons ⟨u, rfl⟩ (.cons ru2 .nil), ⟨_, hT2, rfl, _, rfl⟩⟩
    have J1 : Inv X pins σ (upd H s.heap.objs.size (.tup [.str ⟨#[c]⟩, ys[i]])) { s with heap := h2, toks := tk } :=
      J.turnedNew (t' := tk) (ch := [I + 4, I + 2, I + 3, I, I + 1]) (fun d o hd q => by
        simp only [List.mem_cons, List.not_mem_nil, or_false, not_or] at hd
        exact (sb.2 d hd.1).trans (b7 d o hd.1 hd.2.2.1 hd.2.2.2.1 hd.2.2.2.2 q)) hf (Nat.le_refl _) new
    refine ⟨.ref s.heap.objs.size, _, J1, rfl, ⟨_, c, ys[i], rfl, J.hok.fresh (Nat.le_refl _), rfl, hcx, fun l hl => by rw [J.list_inj hl hy]; exact hyi⟩, ⟨z2, ?_, ⟨_, _, (sb.2 (I + 3) (nea (by omega))).trans b2⟩, strIter_keep b3 fun o z => (sb.2 I (nea (by omega))).trans z, b4.1.at fun o z => (sb.2 (I + 1) (nea (by omega))).trans z⟩, fun d hd => ?_⟩
    · exact (sb.2 (I + 2) (nea (by omega))).trans (b7 (I + 2) _ (nea (by omega)) (nea (by omega)) (nea (by omega)) (nea (by omega)) a2)
    · rw [upd_ne (Nat.ne_of_lt (apart d hd))]
      exact (hf d hd).1
  done := by
    intro X hP hw hK hc i pins s σ H E J hf st hg
    subst hP hw hK
    obtain ⟨a1, a2, ⟨p, q, a3⟩, a4, a5⟩ := st
    obtain ⟨ys, hy, l1, l2, l3⟩ := hg
    obtain ⟨its, rv, pl, _⟩ := J.list hy
    have hn : its.toArray.size = ys.length := by rw [List.size_toArray, rv.length]
    refine wpAny_pyNext_zipD2_end (far_of hb) (Draws.text (by exact J.ok.hd hc) I x t) (Draws.list (by exact J.ok.hd hc) (I + 1) b (nea (by omega)) its.toArray) a1 a2 a3 a4 ⟨a5, pl.isList⟩ l1 (by rw [hn]; exact l2) (by rw [hn]; exact l3) fun h1 tk k => ⟨rfl, ?_⟩
    exact J.turnedL (t' := tk) (ch := [I + 4, I + 2, I + 3, I, I + 1]) (fun d o hd q => by
      simp only [List.mem_cons, List.not_mem_nil, or_false, not_or] at hd
      exact k d o hd.1 hd.2.2.1 hd.2.2.2.1 hd.2.2.2.2 q) hf
  self := fun A i s Q E st h => wpAny_pyIter_zip st.1 h
def iZipS (K : PySem.W.Frag) (ta : TA) : TI := fun σ H R => ta σ H fun vs H1 => ∃ x b ys, vs = [.str x, .ref b] ∧ SqL K H1 b ys ∧ R (ItS K x b) H1
theorem pi_zipS {X : Cx} {e e2 : Expr} {ta : TA} {p pos tpos : Pos} {elts : List Expr} {kk : Nat} (hg : Gl X "zip") (hm : X.mg "zip" = none) (ha : PA X [e, e2] ta)
    (hs : starEach [e, e2] X.env = (false, eval e X.env) :: starEach [e2] X.env := by rfl) (hpl : (backTo pos (starEach [e2] X.env)).any (·.1) = false := by rfl) :
    PI X (.Tuple elts kk tpos) (.Call (.Name "zip" p) [e, e2] [] pos) (iZipS X.K ta) := by
  refine ⟨fun pins s σ H R J h => Call_ (ld_blt J hg hm PyProof.Rows.boot_zip (PyProof.Rows.callWith_type1 (thn (ha.run pos pins s σ H _ J h) fun us s1 ⟨vs, H1, J1, r1, q1⟩ => ?_) hs hpl))⟩
  obtain ⟨x, b, ys, rfl, hy, q⟩ := q1
  cases r1 with
  | cons r rr =>
    cases rr with
    | cons r' rr =>
      cases rr
      cases r'
      obtain ⟨t, rfl⟩ := r
      obtain ⟨its, rv, pl, _⟩ := J1.list hy
      have lb : b < s1.heap.objs.size := pl.lt
      refine zip_begins2 (begins_text x t) (begins_list b its.toArray) trivial pl.isList fun h' a1 a2 a3 a4 a5 hsz hk => wpAny_pyIter_zip a1 ?_
      have J2 : Inv X pins σ H1 { s1 with heap := h' } := J1.kept (t' := s1.toks) hk
      refine ⟨s1.heap.objs.size + 4, [s1.heap.objs.size + 4, s1.heap.objs.size + 2, s1.heap.objs.size + 3, s1.heap.objs.size, s1.heap.objs.size + 1], _, _, H1, rfl, J2, turn_strL (t := t) lb, ⟨a1, a2, ⟨_, _, a3⟩, ⟨_, a4, rfl, rfl⟩, ⟨_, a5, rfl, rfl⟩⟩, fun c hcm => ?_, q⟩
      simp only [List.mem_cons, List.not_mem_nil, or_false] at hcm
      have hle : s1.heap.objs.size ≤ c := by
        rcases hcm with z | z | z | z | z <;> rw [z]
        · exact Nat.le_add_right _ _
        · exact Nat.le_add_right _ _
        · exact Nat.le_add_right _ _
        · exact Nat.le_refl _
        · exact Nat.le_add_right _ _
      exact J1.fpOk hle (J1.hok.fresh hle)
end Vd
end
section
set_option Elab.async false
set_option linter.all false
set_option maxRecDepth 100000
set_option autoImplicit false
set_option maxHeartbeats 1000000
namespace Vd
open PySem L2 PySem.Spec Vb
open PyProof.Rows hiding St
/-! ### zip of a text and a list -/
def zipSD (x : Str) (ys : List D) : List D := (x.cps.toList.zip ys).map fun p => .tup [.str ⟨#[p.1]⟩, p.2]
def dZipS (t : TDA) : TDA := fun ρ m Q => t ρ m fun ds m1 => ∃ x ys, ds = [.str x, .lst ys] ∧ Q (zipSD x ys) m1
theorem is_zipS {K : PySem.W.Frag} {t : TDA} (mt : MnA t) : IS K (iZipS K (lfA K t)) (dZipS t) := by
  refine ⟨fun ρ m Q Q' w q => mt _ _ _ _ (fun d n ⟨i, j, e, q⟩ => ⟨i, j, e, w _ _ q⟩) q, ?_⟩
  rintro σ H R ⟨pt, S0, H0, S, ρ, m, E, h⟩
  refine ⟨pt, S0, H0, S, ρ, m, E, mt _ _ _ _ (fun x m1 h1 v H1 e1 E1 x1 => ?_) h⟩
  obtain ⟨z, ys, rfl, h1⟩ := h1
  obtain ⟨a, b, rfl, ha, hb⟩ := x1.two
  cases ha
  cases hb with
  | lst q0 r =>
    have qa : SqL K (Wo S H1) _ _ := .of q0
    refine ⟨z, _, _, rfl, sqL_same (Wo.sub _ _) qa, h1 H1 _ e1 E1 fun i S' H' sm dm => ⟨fun d hd => ?_, fun hl => ?_⟩⟩
    · unfold zipSD at hd
      rw [List.getElem?_map] at hd
      obtain ⟨p, hp, rfl⟩ := Option.map_eq_some_iff.mp hd
      obtain ⟨p1, p2⟩ := List.getElem?_zip_eq_some.mp hp
      obtain ⟨u, hu, du⟩ := r.get p2
      have la := sqL_same (Wo.sub _ _) (sqL_same sm qa)
      have hc : z.cps[i]? = some p.1 := by rw [← Array.getElem?_toList]; exact p1
      refine ⟨⟨_, la, (Array.getElem?_eq_some_iff.mp hc).1, (List.getElem?_eq_some_iff.mp hu).1⟩, fun y H2 hy => ?_⟩
      obtain ⟨T, c, y', rfl, hT, rfl, q1, q2⟩ := hy
      have e1 := q2 _ la
      rw [hu] at e1
      cases e1
      rw [hc] at q1
      cases q1
      exact ⟨Same.new hT, .tup (.of (wo_new dm hT)) (.cons (.str _) (.cons ((du.mono sm).mono (Wo.same (Same.new hT))) .nil))⟩
    · unfold zipSD at hl
      rw [List.length_map, List.length_zip, Array.length_toList] at hl
      refine ⟨_, sqL_same (Wo.sub _ _) (sqL_same sm qa), ?_, ?_, ?_⟩ <;> rw [← hl] <;> (try rw [r.length]) <;> omega
theorem di_zipS {X : Cx} {e e2 : Expr} {ta : TDA} {p pos tpos : Pos} {elts : List Expr} {kk : Nat} (hg : Gl X "zip") (hm : X.mg "zip" = none) (ha : DA X [e, e2] ta)
    (hs : starEach [e, e2] X.env = (false, eval e X.env) :: starEach [e2] X.env := by rfl) (hpl : (backTo pos (starEach [e2] X.env)).any (·.1) = false := by rfl) : DI X (.Tuple elts kk tpos) (.Call (.Name "zip" p) [e, e2] [] pos) (iZipS X.K (lfA X.K ta)) (dZipS ta) := ⟨pi_zipS hg hm ha.pa hs hpl, is_zipS ha.mn⟩
/-! ### a module's dict copied -/
def plainV : V → D
  | .non => .non
  | .bl b => .bl b
  | .int i => .int i
  | .str z => .str z
  | v => .op v
theorem plainV_dn {K : PySem.W.Frag} {pt : Option Addr} {B : Hp} (v : V) : Dn K pt B v (plainV v) := by
  cases v <;> first | exact .non | exact .bl _ | exact .int _ | exact .str _ | exact .op _
def plainKv (hs : List (Key × V)) : List (Key × D) := hs.map fun p => (p.1, plainV p.2)
theorem plainKv_dk {K : PySem.W.Frag} {pt : Option Addr} {B : Hp} : ∀ (hs : List (Key × V)), DkAll K pt B hs (plainKv hs)
  | [] => .nil
  | (k, v) :: hs => .cons (plainV_dn v) (plainKv_dk hs)
def fDictK (a : Addr) (hs : List (Key × V)) : List D → Option D
  | [.op (.ref b)] => if b = a then some (.dk (plainKv hs)) else none
  | _ => none
theorem s_dictK {K : PySem.W.Frag} {w : World} {a : Addr} {hs : List (Key × V)} (kd : KDic K w a hs) : SC K (fun xs H Q => ∃ (a : Addr) (kvs : List (Key × V)), xs = [.ref a] ∧ KDic K w a kvs ∧ ∀ p, H p = none → Q (.ref p) (upd H p (.dK kvs))) (fDictK a hs) := by
  intro pt S H xs as d Q hd hx e q
  match as, e with
  | [.op (.ref b)], e =>
    obtain ⟨rfl, rfl⟩ := ite_some e
    obtain ⟨v, rfl, hv⟩ := hx.one
    cases hv
    exact ⟨_, hs, rfl, kd, fun p hp => q _ _ (Same.new hp) (.dk' (wo_new hd hp) (plainKv_dk hs))⟩
/-! ### own == and != -/
def yTyD : D → Option Value
  | .str _ => some (.type "str")
  | .int _ => some (.type "int")
  | .non => some (.type "NoneType")
  | .lst _ => some (.type "list")
  | .tup _ => some (.type "tuple")
  | .ins C _ => some (.ref C)
  | _ => none
theorem yTyD_of {K : PySem.W.Frag} {pt : Option Addr} {S : List Addr} {H : Hp} {v : V} {d : D} {t : Value} (h : Dn K pt (Wo S H) v d) (e : yTyD d = some t) : YTy K H v t := by
  cases h with
  | non => cases e; exact .non
  | int i => cases e; exact .int i
  | str z => cases e; exact .str z
  | lst q _ => cases e; exact .lst (Wo.sub _ _ _ _ q)
  | tup q _ => cases e; exact .tup (sqT_same (Wo.sub _ _) q)
  | ins q _ _ => cases e; exact .ins (Wo.sub _ _ _ _ q)
  | _ => cases e
def dEqO (K : PySem.W.Frag) (C : Addr) (neg : Bool) (F : FD) (ta tb : TD) : TD := fun ρ m Q => ta ρ m fun x m1 => tb ρ m1 fun y m2 => ∃ fs t, x = .ins C fs ∧ yTyD y = some t ∧ PySem.W.notFirst K C t = true ∧ F [x, y] m2 fun d m3 => ∃ k, d = .bl k ∧ Q (.bl (k != neg)) m3
section
variable {X : Cx} {C f : Addr} {fd : FuncData} {ps : List Str} {k : Nat} {F : FD} {a b : Expr} {pos : Pos} {ta tb : TD}
theorem mn_eqO {K : PySem.W.Frag} {neg : Bool} (mf : MnF F) (ma : MnE ta) (mb : MnE tb) : MnE (dEqO K C neg F ta tb) := fun ρ m Q Q' w q => ma _ _ _ _ (fun x n q => mb _ _ _ _ (fun y n ⟨fs, t, h1, h2, h3, q⟩ => ⟨fs, t, h1, h2, h3, mf _ _ _ _ (fun d n ⟨k, e, q⟩ => ⟨k, e, w _ _ q⟩) q⟩) q) q
theorem lf_eqO {K : PySem.W.Frag} {neg : Bool} {r : R2} (mf : MnF F) (ma : MnE ta) (mb : MnE tb) (hr : ∀ x y H Q, (∃ a dx fs, x = .ref a ∧ H a = some (.ins C dx fs) ∧ YOk K C H y ∧ spD K F [x, y] H (fun v H' => ∃ k, v = .bl k ∧ Q (.bl (k != neg)) H') E0) → r x y H Q) :
    ∀ σ H Q, lfE K (dEqO K C neg F ta tb) σ H Q → tOp r (lfE K ta) (lfE K tb) σ H Q := by
  rintro σ H Q ⟨pt, S0, H0, S, ρ, m, E, h⟩
  refine ⟨pt, S0, H0, S, ρ, m, E, ma _ _ _ _ (fun x m1 h1 v H1 e1 E1 x1 => ?_) h⟩
  refine ⟨pt, S0, H0, S, ρ, m1, E1, mb _ _ _ _ (fun y m2 h2 u H2 e2 E2 y2 => ?_) h1⟩
  obtain ⟨fs, t, rfl, h3, h4, h2⟩ := h2
  have x2 := Dn.mono (E1.wo e2) x1
  refine hr _ _ _ _ ?_
  cases x1 with
  | ins q k r =>
    refine ⟨_, _, _, rfl, Wo.sub _ _ _ _ (E1.wo e2 _ _ q), ⟨t, yTyD_of y2 h3, h4⟩, pt, S, _, m2, E2.dom, E2.pS, E2.pot, .cons x2 (.cons y2 .nil), mf _ _ _ _ (fun d m3 ⟨k, e, q⟩ v H' e3 p3 d3 => ?_) h2⟩
    subst e
    cases d3
    exact ⟨k, rfl, q _ H' ((e1.trans e2).trans e3) (E2.step e3 p3) (.bl _)⟩
theorem de_eqO (mf : MnF F) (c : CmpC X.K C f) (Fn : FnOk X.prog X.w X.K X.mg X.base CX0 k f fd ps (spD X.K F)) (hb : Binds X.K fd ps []) (hr : Room k X.A) (ha : DE X a ta) (hb' : DE X b tb) (hm : behindInMarks .Eq b = false) : DE X (.Compare a [.Eq] [b] pos) (dEqO X.K C false F ta tb) :=
  ⟨pe_wk' (pe_cmpR (op_eqO c Fn hb hr) ha.pe hb'.pe hm) (lf_eqO mf ha.mn hb'.mn fun x y H Q ⟨a, dx, fs, h1, h2, h3, q⟩ => ⟨a, dx, fs, h1, h2, h3, by simpa using q⟩), mn_eqO mf ha.mn hb'.mn⟩
theorem de_neO (mf : MnF F) (c : CmpC X.K C f) (Fn : FnOk X.prog X.w X.K X.mg X.base CX0 k f fd ps (spD X.K F)) (hb : Binds X.K fd ps []) (hr : Room (k + 1) X.A) (ha : DE X a ta) (hb' : DE X b tb) (hm : behindInMarks .NotEq b = false) : DE X (.Compare a [.NotEq] [b] pos) (dEqO X.K C true F ta tb) :=
  ⟨pe_wk' (pe_cmpR (op_neO c Fn hb hr) ha.pe hb'.pe hm) (lf_eqO mf ha.mn hb'.mn fun x y H Q ⟨a, dx, fs, h1, h2, h3, q⟩ => ⟨a, dx, fs, h1, h2, h3, by simpa using q⟩), mn_eqO mf ha.mn hb'.mn⟩
/-! ### an own object made: its __init__ keeps F of what is given, and tells the fields -/
def spMk (K : PySem.W.Frag) (C : Addr) (F : FD) : Sp := fun vs H Q _ => ∃ x dx us pt S ds m, vs = .ref x :: us ∧ H x = some (.ins C dx []) ∧ H dx = some (.own x) ∧ dx ≠ x ∧ x ∉ S ∧ dx ∉ S ∧ (∀ b ∈ S, H b ≠ none) ∧ (∀ p, pt = some p → p ∈ S) ∧ PotX pt H m ∧ DnAll K pt (Wo (x :: dx :: S) H) us ds ∧
  F ds m fun d m' => ∀ H', (∀ b o, pt ≠ some b → b ≠ x → b ≠ dx → H b = some o → H' b = some o) → PotX pt H' m' → Dn K pt (Wo S H') (.ref x) d → Q .non H'
end
end Vd
end
section
set_option Elab.async false
set_option linter.all false
set_option maxRecDepth 100000
set_option autoImplicit false
set_option maxHeartbeats 1000000
namespace Vd
open PySem L2 PySem.Spec Vb
open PyProof.Rows hiding St
section
variable {X : Cx} {C f : Addr} {fd : FuncData} {ps : List Str} {k : Nat} {F : FD} {x : Str} {p pos : Pos} {e : Expr} {es : List Expr} {t : TDA} {te : TD}
/-- from what the arguments are to what __init__ is promised -/
theorem mk_at {K : PySem.W.Frag} {pt : Option Addr} {S0 S : List Addr} {H0 H H1 : Hp} {σ : St} {ρ : Rho} {m : Nat} {vs : List V} {ds : List D} {Q : VK} {E : XK} (mf : MnF F) (e1 : SameX pt H H1) (Ev1 : Ev K pt S0 H0 S σ H1 ρ m) (x1 : DnAll K pt (Wo S H1) vs ds)
    (h : F ds m fun d m' => ∀ v H', SameX pt H H' → Ev K pt S0 H0 S σ H' ρ m' → Dn K pt (Wo S H') v d → Q v H') (x dx : Addr) (hx : H1 x = none) (hd : H1 dx = none) (nd : dx ≠ x) :
    spMk K C F (.ref x :: vs) (upd (upd H1 dx (.own x)) x (.ins C dx [])) (fun v H2 => v = .non ∧ Q (.ref x) H2) E := by
  have new : Same H1 (upd (upd H1 dx (.own x)) x (.ins C dx [])) := (Same.new hd).trans (Same.new (by rw [upd_ne nd.symm]; exact hx))
  have nS : ∀ {b : Addr}, H1 b = none → b ∉ S := fun {b} h z => Ev1.dom b z h
  refine ⟨x, dx, vs, pt, S, ds, m, rfl, upd_same, by rw [upd_ne nd]; exact upd_same, nd, nS hx, nS hd, fun b hb => (Ev1.same new).dom b hb, Ev1.pS, Ev1.pot.same new, x1.mono fun b o q => ?_, mf _ _ _ _ (fun d m' q H' s p' dn => ⟨rfl, ?_⟩) h⟩
  · obtain ⟨n, q⟩ := Wo.some q
    have n1 : b ≠ x := ne_of_none q hx
    have n2 : b ≠ dx := ne_of_none q hd
    rw [Wo.out (by simp only [List.mem_cons, not_or]; exact ⟨n1, n2, n⟩)]
    exact new b o q
  · have sx : SameX pt H1 H' := fun b o n q => s b o n (ne_of_none q hx) (ne_of_none q hd) (new b o q)
    exact q _ H' (e1.trans sx) (Ev1.step sx p') dn
theorem de_make (mf : MnF F) (M : Mk X.K C f) (Fn : FnOk X.prog X.w X.K X.mg X.base CX0 k f fd ps (spMk X.K C F)) (hr : Room (k + 1) X.A) (hg : Gl X x) (hm : X.mg x = some (.ref C)) (hb : Binds X.K fd ps []) (ha : DA X (e :: es) t)
    (hdb : (x == ("__debug__" : Str)) = false := by decide) (he : starEach (e :: es) X.env = (false, eval e X.env) :: starEach es X.env := by rfl) (hpl : (backTo pos (starEach es X.env)).any (·.1) = false := by rfl) :
    DE X (.Call (.Name x p) (e :: es) [] pos) (dCal F t) := by
  refine ⟨pe_wk' (pe_make M Fn hr hg hm hb .nil pass0 ha.pa hdb he hpl) ?_, mn_cal mf ha.mn⟩
  rintro σ H Q ⟨pt, S0, H0, S, ρ, m, E, h⟩
  refine ⟨pt, S0, H0, S, ρ, m, E, ha.mn _ _ _ _ (fun ds m1 h1 vs H1 e1 E1 x1 x dx hx hd nd => ?_) h⟩
  rw [List.append_nil]
  exact mk_at mf e1 E1 x1 h1 x dx hx hd nd
theorem de_makeK {nm : Str} {kpos : Pos} (mf : MnF F) (M : Mk X.K C f) (Fn : FnOk X.prog X.w X.K X.mg X.base CX0 k f fd ps (spMk X.K C F)) (hr : Room (k + 1) X.A) (hg : Gl X x) (hm : X.mg x = some (.ref C))
    (hb : KBn X.K fd ps 1 [nm] (fun a b => a ++ b) fun a b => a ++ b) (he : DE X e te)
    (hall : (backToKw pos (keywordEach [⟨some nm, e, kpos⟩] X.env)).all (·.1.isSome) = true := by rfl) (hks : (backToKw pos (keywordEach [⟨some nm, e, kpos⟩] X.env)).filterMap (·.1) = [nm] := by rfl) (hdb : (x == ("__debug__" : Str)) = false := by decide)
    (hpl : ((backTo pos (starEach [] X.env)).any (·.1) || (backToKw pos (keywordEach [⟨some nm, e, kpos⟩] X.env)).any (·.1.isNone)) = false := by rfl) :
    DE X (.Call (.Name x p) [] [⟨some nm, e, kpos⟩] pos) (dCal F (aCons te aNil)) := by
  refine ⟨pe_wk' (pe_makeK0 M Fn hr hg hm hb pass0 (pk_cons he.pe pk_nil) hall hks hdb hpl) ?_, mn_cal mf fun ρ m Q Q' w h => he.mn _ _ _ _ (fun x m1 h1 => w _ _ h1) h⟩
  rintro σ H Q ⟨pt, S0, H0, S, ρ, m, E, h⟩
  refine ⟨pt, S0, H0, S, ρ, m, E, he.mn _ _ _ _ (fun d m1 h1 v H1 e1 E1 x1 => ⟨rfl, rfl, fun x dx hx hd nd => ?_⟩) h⟩
  exact mk_at mf e1 E1 (.cons x1 .nil) h1 x dx hx hd nd
end
end Vd
end
section
set_option Elab.async false
set_option linter.all false
set_option maxRecDepth 100000
set_option autoImplicit false
set_option maxHeartbeats 1000000
/-! Texts: numbers, names, lines. -/
namespace Vd
open PySem L2 PySem.Spec Vb
open PyProof.Rows hiding St
/-- the text of a number -/
def numS (n : Nat) : Str := Str.ofString (toString ((n : Nat) : Int))
theorem num_cps {n : Nat} : ∀ c ∈ (numS n).cps.toList, 48 ≤ c ∧ c ≤ 57 := by
  intro c hc
  have hc : c ∈ (Str.ofString (toString ((n : Nat) : Int))).cps.toList := hc
  rw [signs_ofString] at hc
  obtain ⟨ch, hch, e⟩ := List.mem_map.mp hc
  have hch : ch ∈ (Nat.repr n).toList := hch
  rw [Nat.toList_repr] at hch
  have h := Nat.isDigit_of_mem_toDigits (by decide) (by decide) hch
  have r : 48 ≤ ch.toNat ∧ ch.toNat ≤ 57 := by
    simp only [Char.isDigit, Bool.and_eq_true, decide_eq_true_eq] at h
    exact ⟨h.1, h.2⟩
  rw [← e]
  exact r
theorem num_len {n : Nat} (h : n < 1000000000) : (numS n).length ≤ 9 := toString_length_le (k := 9) (by omega) (by decide) (by
  have : ((10 : Int) ^ 9) = 1000000000 := by decide
  omega)
theorem num_pos {n : Nat} : 1 ≤ (numS n).length := by
  show 1 ≤ (Str.ofString (toString ((n : Nat) : Int))).length
  rw [PyProof.Rows.ofString_length]
  show 1 ≤ (Nat.repr n).toList.length
  rw [Nat.toList_repr]
  exact toDigits_len_ge 10 n
theorem num_ascii {n : Nat} : Txt.isascii (numS n) = true := by
  unfold Txt.isascii
  rw [← Array.all_toList, List.all_eq_true]
  intro c hc
  have := num_cps c hc
  exact decide_eq_true (by omega)
theorem digit_is {c : Nat} (h : 48 ≤ c ∧ c ≤ 57) : Unicode.isDigit c = true := by
  rcases (show c = 48 ∨ c = 49 ∨ c = 50 ∨ c = 51 ∨ c = 52 ∨ c = 53 ∨ c = 54 ∨ c = 55 ∨ c = 56 ∨ c = 57 by omega) with z | z | z | z | z | z | z | z | z | z <;> subst z <;> decide +kernel
theorem num_digit {n : Nat} : Txt.isdigit (numS n) = true := by
  unfold Txt.isdigit
  rw [Bool.and_eq_true]
  refine ⟨decide_eq_true num_pos, ?_⟩
  rw [← Array.all_toList, List.all_eq_true]
  exact fun c hc => digit_is (num_cps c hc)
theorem num_int {n : Nat} (h : n < 1000000000) : PySem.intText? (numS n) = some (n : Int) := PySem.W.KIN.num_reads (by omega) (by
  have : ((10 : Int) ^ 10) = 10000000000 := by decide
  omega)
/-- a name: one to eight letters a to z -/
def IsNm (z : Str) : Prop := (∀ c ∈ z.cps.toList, 97 ≤ c ∧ c ≤ 122) ∧ 1 ≤ z.length ∧ z.length ≤ 8
theorem len_cps (z : Str) : z.length = z.cps.toList.length := by
  show z.cps.size = _
  rw [Array.length_toList]
theorem letter_is {c : Nat} (h : 97 ≤ c ∧ c ≤ 122) : Unicode.isAlpha c = true ∧ Unicode.isLower c = true ∧ (Unicode.isUpper c || Unicode.isTitle c) = false := by
  obtain ⟨k, hk, rfl⟩ : ∃ k, k < 26 ∧ c = 97 + k := ⟨c - 97, by omega, by omega⟩
  have all : ∀ k : Fin 26, Unicode.isAlpha (97 + k.val) = true ∧ Unicode.isLower (97 + k.val) = true ∧ (Unicode.isUpper (97 + k.val) || Unicode.isTitle (97 + k.val)) = false := by decide +kernel
  exact all ⟨k, hk⟩
theorem nm_ascii {z : Str} (h : IsNm z) : Txt.isascii z = true := by
  unfold Txt.isascii
  rw [← Array.all_toList, List.all_eq_true]
  intro c hc
  have := h.1 c hc
  exact decide_eq_true (by omega)
theorem nm_alpha {z : Str} (h : IsNm z) : Txt.isalpha z = true := by
  unfold Txt.isalpha
  rw [Bool.and_eq_true]
  refine ⟨decide_eq_true h.2.1, ?_⟩
  rw [← Array.all_toList, List.all_eq_true]
  exact fun c hc => (letter_is (h.1 c hc)).1
theorem nm_lower {z : Str} (h : IsNm z) : Txt.islower z = true := by
  unfold Txt.islower
  rw [Bool.and_eq_true]
  constructor
  · rw [← Array.any_toList, List.any_eq_true]
    have hl := h.2.1
    rw [len_cps] at hl
    obtain ⟨c, hc⟩ := List.exists_mem_of_length_pos (l := z.cps.toList) (by omega)
    exact ⟨c, hc, (letter_is (h.1 c hc)).2.1⟩
  · rw [Bool.not_eq_true', ← Array.any_toList, List.any_eq_false]
    intro c hc
    rw [(letter_is (h.1 c hc)).2.2]
    exact Bool.false_ne_true
/-! what the functions over data give -/
theorem fEq_int {i j : Int} : fEq (.int i) (.int j) = some (.bl (decide (i = j))) := rfl
theorem fEq_str {i j : Str} : fEq (.str i) (.str j) = some (.bl (decide (i = j))) := rfl
theorem fNe_int {i j : Int} : fNe (.int i) (.int j) = some (.bl (!decide (i = j))) := rfl
theorem fNe_str {i j : Str} : fNe (.str i) (.str j) = some (.bl (!decide (i = j))) := rfl
theorem fStr_num {n : Nat} (h : n < 1000000000) : fStr [.int (n : Int)] = some (.str (numS n)) := by
  have q : ((n : Int)).natAbs.log2 < 1920 := by
    rw [Int.natAbs_natCast]
    by_cases z : n = 0
    · subst z
      decide
    · exact (Nat.log2_lt z (k := 1920)).mpr (Nat.lt_of_lt_of_le h (by decide +kernel))
  show (if _ then _ else _) = _
  rw [if_pos q]
  rfl
theorem fInt_num {n : Nat} (h : n < 1000000000) : fInt [.str (numS n)] = some (.int (n : Int)) := by
  have := num_len h
  show (if _ then _ else _) = _
  rw [if_pos (show (numS n).length ≤ 640 by omega), num_int h]
  rfl
theorem fInt_int {i : Int} : fInt [.int i] = some (.int i) := rfl
theorem fLen_str {z : Str} (h : z.length ≤ sizeLine) : fLen [.str z] = some (.int ((z.length : Nat) : Int)) := by
  show (if _ then _ else _ : Option Nat).map _ = _
  rw [if_pos h]
  rfl
theorem fLen_lst {xs : List D} : fLen [.lst xs] = some (.int ((xs.length : Nat) : Int)) := rfl
theorem fLen_tup {xs : List D} : fLen [.tup xs] = some (.int ((xs.length : Nat) : Int)) := rfl
theorem fAll_bls {bs : List Bool} : fAll [.lst (bs.map D.bl)] = some (.bl (bs.all id)) := by
  show (asBls _).map _ = _
  rw [asBls_map]
  rfl
theorem fAdd_str {a b : Str} (h : a.length + b.length ≤ sizeLine) : fAdd (.str a) (.str b) = some (.str (a ++ b)) := if_pos h
theorem fAdd_lst {a b : List D} (h : a.length + b.length ≤ sizeLine) : fAdd (.lst a) (.lst b) = some (.lst (a ++ b)) := if_pos h
theorem fAdd_int {i j : Int} : fAdd (.int i) (.int j) = some (.int (i + j)) := rfl
theorem fSplit_join {y : Str} {s : Nat} {S : List Nat} (ey : TL.tl y = s :: S) (hk : y.cps.all (· < 256) = true) {parts : List Str} (hne : parts ≠ []) (hp : ∀ p ∈ parts, s ∉ TL.tl p) (hl : (Txt.join y parts).length + 2 ≤ sizeLine) :
    fSplit (.str (Txt.join y parts)) [.str y] = some (.lst (parts.map .str)) := by
  have hy : (y.length == 0) = false := by
    have : y.length = (TL.tl y).length := len_cps y
    rw [this, ey]
    rfl
  show (if _ then _ else _) = _
  rw [if_pos ⟨hy, hl⟩, TL.split_join ey hk hne hp]
theorem fJoin_strs {y : Str} {parts : List Str} (h : (parts.map (·.length)).sum + parts.length * y.length ≤ 16777216) : fJoin (.str y) [.lst (parts.map .str)] = some (.str (Txt.join y parts)) := by
  show (asStrs _).bind _ = _
  rw [asStrs_map, Option.bind_some, if_pos h]
/-! tests that were lacking -/
section
variable {X : Cx} {a b c i o : Expr} {ta tb tc ti to : TD} {pos : Pos}
theorem dt_chain {op op' : CmpOp} {r r' : R2} {f f' : D → D → Option D} (ho : OpR X (compareOp op) r) (ho' : OpR X (compareOp op') r') (s : S2 X.K r f) (s' : S2 X.K r' f') (ha : DE X a ta) (hb : DE X b tb) (hc : DE X c tc)
    (hm : lastMarks [op, op'] [b, c] = false := by with_unfolding_all rfl) : DT X (.Compare a [op, op'] [b, c] pos) (dTst (dChain f f' ta tb tc)) :=
  ⟨pt_wk' (pt_chain ho ho' ha.pe hb.pe hc.pe hm) fun σ H Q h => lf_chain s s' ha.mn hb.mn hc.mn _ _ _ (lf_tst (mn_chain ha.mn hb.mn hc.mn) σ H Q h), mn_tst (mn_chain ha.mn hb.mn hc.mn)⟩
theorem dt_din (hu : X.A.units + 1 < cLine) (hi : DE X i ti) (ho : DE X o to) (h1 : behindInMarks .In o = false := by first | exact nobehind _ (by decide) (by decide) | rfl) : DT X (.Compare i [.In] [o] pos) (dTst (dOp2 fDIn ti to)) :=
  ⟨pt_wk' (pt_cmp (pc_din hu hi.pe ho.pe) h1) fun σ H Q h => lf_op2 (r := rDIn) s_din hi.mn ho.mn σ H _ (lf_tst (mn_op2 hi.mn ho.mn) σ H Q h), mn_tst (mn_op2 hi.mn ho.mn)⟩
end
theorem sign_eq {c d : Nat} : ((⟨#[c]⟩ : Str) = ⟨#[d]⟩) = (c = d) := by
  refine propext ⟨fun h => ?_, fun h => by rw [h]⟩
  have := congrArg (fun z : Str => z.cps.toList) h
  simpa using this
theorem ixl0 {a : D} {r : List D} : fIx (.lst (a :: r)) (.int 0) = some a := atI_nat (xs := a :: r) (j := 0) rfl
theorem ixl1 {a b : D} {r : List D} : fIx (.lst (a :: b :: r)) (.int 1) = some b := atI_nat (xs := a :: b :: r) (j := 1) rfl
theorem ixl2 {a b c : D} {r : List D} : fIx (.lst (a :: b :: c :: r)) (.int 2) = some c := atI_nat (xs := a :: b :: c :: r) (j := 2) rfl
theorem ixl {xs : List D} {i : Nat} {d : D} (h : xs[i]? = some d) : fIx (.lst xs) (.int (i : Nat)) = some d := atI_nat h
theorem sll {xs : List D} {n : Nat} : fSl (.lst xs) (some (n : Int)) none = some (.lst (xs.drop n)) := congrArg (fun z => some (D.lst z)) (cutD_from xs n)
theorem sll1 {xs : List D} : fSl (.lst xs) (some 1) none = some (.lst (xs.drop 1)) := sll (n := 1)
theorem sll2 {xs : List D} : fSl (.lst xs) (some 2) none = some (.lst (xs.drop 2)) := sll (n := 2)
theorem fIn_lst {d : D} {ds : List D} (h1 : flatD d = true) (h2 : ds.all flatD = true) : fIn false d (.lst ds) = some (.bl (ds.any fun y => eqF y d)) := if_pos ⟨h1, h2⟩
theorem fNotIn_lst {d : D} {ds : List D} (h1 : flatD d = true) (h2 : ds.all flatD = true) : fIn true d (.lst ds) = some (.bl (!ds.any fun y => eqF y d)) := if_pos ⟨h1, h2⟩
end Vd
end
section
set_option Elab.async false
set_option linter.all false
set_option maxRecDepth 100000
set_option autoImplicit false
set_option maxHeartbeats 1000000
/-! name = {k: v for ..}, the name a local. -/
namespace Vd
open PySem L2 PySem.Spec Vb
open PyProof.Rows hiding St
theorem swD {kx vx : Expr} {gs : List Comprehension} {scope : Scope} {pos py : Pos} {y : Str} {l : Nat} {env : Env} (hk : env.scope.kind = .function) (hy : env.scope.names.lookup y = some .local) (hl : (py.line == pos.line) = true)
    (hno : (scope.names.any fun (n, k) => n == y && (k == .local || k == .cell)) = false) : swapsWith (.DictComp kx vx gs scope pos) (some (.Name y py)) l env = pure true := by
  have e1 : env.kindOf y = some .local := hy
  have e2 : env.blockKind = .function := by
    unfold Env.blockKind
    rw [hk]
    rfl
  unfold swapsWith
  simp only [e1, e2, hno, Expr.pos, hl]
  rfl
section
variable {X : Cx} {i : Nat} {y : Str} {py : Pos} {kx vx tg iter : Expr} {ifs : List Expr} {scope : Scope} {own : List (Str × Nat)} {pos spos : Pos}
theorem ps_setDc {wi : TI} {g : TG} {tt : TT} {tk tv : TE} (hc : X.calm = true) (hN : X.N.Nodup) (hy : X.N[i]? = some y) (hyl : X.env.scope.names.lookup y = some .local)
    (hsw : swapsWith (.DictComp kx vx [⟨tg, iter, ifs, 0⟩] scope pos) (some (.Name y py)) spos.line X.env = pure true) (hi : PI X tg iter wi) (ok : BlkOk X.N X.env.scope scope own)
    (hg : ∀ (s : Shared) (H : Hp) (C : Addr) (cl : List (Str × Addr)) (fp : List Addr), PG (X.blk s H scope (compEnvC scope cl C X.env) fp) tg g) (ht : ∀ (s : Shared) (H : Hp) (C : Addr) (cl : List (Str × Addr)) (fp : List Addr), PTs (X.blk s H scope (compEnvC scope cl C X.env) fp) ifs tt)
    (hk : ∀ (s : Shared) (H : Hp) (C : Addr) (cl : List (Str × Addr)) (fp : List Addr), PE (X.blk s H scope (compEnvC scope cl C X.env) fp) kx tk)
    (he : ∀ (s : Shared) (H : Hp) (C : Addr) (cl : List (Str × Addr)) (fp : List Addr), PE (X.blk s H scope (compEnvC scope cl C X.env) fp) vx tv) (hs : ∀ x, foldedSetIterable iter X.env x = pure x := by intro _; rfl) :
    PS X (.Assign [.Name y py] (.DictComp kx vx [⟨tg, iter, ifs, 0⟩] scope pos) spos) (tAsg (tDc wi g tt tk tv (own.map (·.2))) (gName i)) := by
  refine ⟨fun pins s σ H D I h => ?_⟩
  rw [exec_Assign_Name_used _ _ _ _ hsw]
  have h' : tDc wi g tt tk tv (own.map (·.2)) σ H (fun x H1 => gName i x σ H1 D.nx) := h
  refine wpAny_bind (wpAny_standAt (wpAny_bind (wpAny_bind (thn (dc_core (use := some (assign (.Name y py) X.env)) (Qf := fun _ s' => SP X pins D .next s') hc hN I hi ok hg ht hk he hs h' fun L C s' m H' I' q hn f => ?_) fun _ s' hq => wpAny_pure (wpAny_pure hq)))))
  refine wpAny_assign_Name (store_ok2 (v := V.ref L) I' hN hy (.inl hyl) rfl (fun s2 I2 ⟨a, sb, ha⟩ => ?_) (.inr hyl))
  obtain ⟨f0, f1, f2, f3, f4, f5⟩ := f
  have far : C ≠ a := ha.elim (fun z => z ▸ f1) fun z e => f4 y a z e.symm
  exact ⟨m, hn.sameBut sb far, fun h3 sb3 => ⟨_, H', I2.turned (t' := s2.toks) (fun b o hb e => (sb3.2 b hb).trans e) f0 f1 f3 f4 f5, q⟩⟩
theorem ds_dcomp {wi : TI} {ti : TDA} {g : TG} {f : TgD} {ws : List Nat} {tt : TDT} {tT : TT} {tk tv : TD} (hc : X.calm = true) (hN : X.N.Nodup) (hy : X.N[i]? = some y) (hyl : X.env.scope.names.lookup y = some .local)
    (hsw : swapsWith (.DictComp kx vx [⟨tg, iter, ifs, 0⟩] scope pos) (some (.Name y py)) spos.line X.env = pure true) (hi : DI X tg iter wi ti) (ok : BlkOk X.N X.env.scope scope own)
    (gs : GS X.K g f ws) (hw : ∀ i ∈ ws, i ∈ own.map (·.2))
    (hg : ∀ (s : Shared) (H : Hp) (C : Addr) (cl : List (Str × Addr)) (fp : List Addr), PG (X.blk s H scope (compEnvC scope cl C X.env) fp) tg g)
    (ht : ∀ (s : Shared) (H : Hp) (C : Addr) (cl : List (Str × Addr)) (fp : List Addr), DTs (X.blk s H scope (compEnvC scope cl C X.env) fp) ifs tt tT)
    (hk : ∀ (s : Shared) (H : Hp) (C : Addr) (cl : List (Str × Addr)) (fp : List Addr), DE (X.blk s H scope (compEnvC scope cl C X.env) fp) kx tk)
    (he : ∀ (s : Shared) (H : Hp) (C : Addr) (cl : List (Str × Addr)) (fp : List Addr), DE (X.blk s H scope (compEnvC scope cl C X.env) fp) vx tv) (hs : ∀ x, foldedSetIterable iter X.env x = pure x := by intro _; rfl) :
    DS X (.Assign [.Name y py] (.DictComp kx vx [⟨tg, iter, ifs, 0⟩] scope pos) spos) (sAsg (dDc ti f tt tk tv (own.map (·.2))) (fName i)) := by
  have m1 := (ht {} (fun _ => none) 0 [] []).mn
  have m2 := (hk {} (fun _ => none) 0 [] []).mn
  have m3 := (he {} (fun _ => none) 0 [] []).mn
  have mn : MnE (dDc ti f tt tk tv (own.map (·.2))) := fun ρ m Q Q' w q => hi.iz.1 _ _ _ _ (fun ds n q => dcD_mono m1 m2 m3 (fun _ _ q => w _ _ q) q) q
  refine ⟨ps_wk' (ps_setDc hc hN hy hyl hsw hi.pi ok hg (fun s H C cl fp => (ht s H C cl fp).pts) (tk := lfE X.K tk) (tv := lfE X.K tv) (fun s H C cl fp => (hk s H C cl fp).pe) (fun s H C cl fp => (he s H C cl fp).pe) hs) fun D σ H q => ?_, mn_asg mn⟩
  exact lf_dc hi.iz gs hw m1 m2 m3 (ht {} (fun _ => none) 0 [] []).snd _ _ _ (lf_asg (g := gName i) gs_name mn D σ H q)
end
end Vd
end
section
set_option Elab.async false
set_option linter.all false
set_option maxRecDepth 100000
set_option autoImplicit false
set_option maxHeartbeats 2000000
namespace Vd
open PySem L2 PySem.Spec Vb
open PyProof.Rows hiding St
section
variable {X : Cx} {C f : Addr} {fd : FuncData} {ps : List Str} {sp : Sp} {k : Nat}
structure LenC (K : PySem.W.Frag) (C f : Addr) : Prop where
  len : PySem.W.findIn K (.ref C) "__len__" = some (some (.ref f))
  fn : PySem.W.isFn K (.ref f) = true
def rLenO (C : Addr) (sp : Sp) : List V → Hp → VK → Prop := fun xs H Q => ∃ a dx fs, xs = [.ref a] ∧ H a = some (.ins C dx fs) ∧ sp [.ref a] H (fun v H' => ∃ n : Nat, v = .int n ∧ n ≤ sizeLine ∧ Q (.int n) H') E0
theorem len_ownB {prog : Program} {w : World} {A : Around} {E : Value → Shared → Prop} {s : Shared} {K : PySem.W.Frag} {x : Addr} {ox : Obj} {od : Option Obj} {Q : Value → Shared → Prop} (KX : K.In s.heap) (J : PySem.W.InstAt s.heap x ox C od) (c : LenC K C f)
    (h : wpAny (model prog w) A.in1 (call (.ref f) [.ref x]) (fun r s' => ∃ (n : Nat) (t : Nat), r = .int n t ∧ n ≤ sizeLine ∧ ∀ t' tk, Q (.int n t') { s' with toks := tk }) E s) : wpAny (model prog w) A (call (.builtin "len") [.ref x]) Q E s := by
  have z := sizeLine_eq
  refine Calls.call_function_entry kind_len plain_len entry_len (args_len1 _) ?_
  unfold Builtin.«len»
  refine wpAny_bind (m := oneArg "len" _) (wpAny_pure ?_)
  refine wpAny_bind (m := callSpecial? (.ref x) (PySem.Str.ofString "__len__")) (PySem.W.special_fn KX J c.len (beq_iff_eq.mp c.fn) (wpAny_mono h (fun r s' hr => ?_) fun _ _ y => y))
  obtain ⟨n, t, rfl, hn, hq⟩ := hr
  refine wpAny_bind (wpAny_holding (wpAny_pure ?_))
  refine wpAny_bind (wpAny_letGo ?_)
  rw [if_neg (by omega)]
  show wpAny _ _ (if (n : Int) ≥ 2 ^ 63 then _ else retInt n) _ _ _
  rw [if_neg (by omega)]
  exact wpAny_bind (wpAny_mkInt (wpAny_pure ⟨_, rfl, hq _ _⟩))
theorem call_lenO (c : LenC X.K C f) (F : FnOk X.prog X.w X.K X.mg X.base CX0 k f fd ps sp) (hb : Binds X.K fd ps []) (hr : Room (k + 1) X.A) : CallR X (.builtin "len") (rLenO C sp) := by
  intro pins s σ H xs us Q I r h
  obtain ⟨a, dx, fs, rfl, ha, q⟩ := h
  obtain ⟨u, rfl, ru⟩ := vals1 r
  obtain rfl : u = Value.ref a := ru
  obtain ⟨mA, J, _⟩ := ins_get I.hok ha
  obtain ⟨od, J, _⟩ := J.look
  refine len_ownB I.kIn J c ?_
  refine wpAny_mono (wpAny_call (SlX.run_at (us := [.ref a]) (ws := [.ref a]) (fnR_of F hb) (Room.in1 hr) I.env0.in1 pass0 I (.cons rfl .nil) q)) (fun w s' z => ?_) fun _ _ x => x
  obtain ⟨z, H', I', rz, n, rfl, hn, qz⟩ := z
  obtain ⟨t, rfl⟩ := rz
  exact ⟨n, t, rfl, hn, fun t' tk => ⟨.int n, H', I'.tok _, ⟨_, rfl⟩, qz⟩⟩
end
end Vd
end
section
set_option Elab.async false
set_option linter.all false
set_option maxRecDepth 100000
set_option autoImplicit false
namespace Vd
open PySem L2 PySem.Spec Vb
open PyProof.Rows hiding St
section
variable {X : Cx} {C f : Addr} {fd : FuncData} {ps : List Str} {k : Nat} {F : FD} {a : Expr} {p pos : Pos} {ta : TD}
/-- len(x) of an own object: what its __len__ keeps -/
def dLenO (C : Addr) (F : FD) (ta : TD) : TD := fun ρ m Q => ta ρ m fun x m1 => ∃ fs, x = .ins C fs ∧ F [x] m1 fun d m2 => ∃ n : Nat, d = .int (n : Int) ∧ n ≤ sizeLine ∧ Q (.int (n : Int)) m2
theorem de_lenO (mf : MnF F) (c : LenC X.K C f) (Fn : FnOk X.prog X.w X.K X.mg X.base CX0 k f fd ps (spD X.K F)) (hb : Binds X.K fd ps []) (hr : Room (k + 1) X.A) (hg : Gl X "len") (hm : X.mg "len" = none) (ha : DE X a ta)
    (he : starEach [a] X.env = (false, eval a X.env) :: starEach [] X.env := by rfl) (hpl : (backTo pos (starEach [] X.env)).any (·.1) = false := by rfl) : DE X (.Call (.Name "len" p) [a] [] pos) (dLenO C F ta) := by
  refine ⟨pe_wk' (pe_callB (call_lenO c Fn hb hr) hg hm (by decide +kernel) (pa_cons ha.pe pa_nil he) (by decide) (by decide) he hpl) ?_, fun ρ m Q Q' w q => ha.mn _ _ _ _ (fun x n ⟨fs, e, q⟩ => ⟨fs, e, mf _ _ _ _ (fun d n ⟨j, e, l, q⟩ => ⟨j, e, l, w _ _ q⟩) q⟩) q⟩
  rintro σ H Q ⟨pt, S0, H0, S, ρ, m, E, h⟩
  refine ⟨pt, S0, H0, S, ρ, m, E, ha.mn _ _ _ _ (fun x m1 h1 v H1 e1 E1 x1 => ?_) h⟩
  obtain ⟨fs, rfl, h1⟩ := h1
  have x0 := x1
  cases x1 with
  | ins q k r =>
    refine ⟨_, _, _, rfl, Wo.sub _ _ _ _ q, pt, S, _, m1, E1.dom, E1.pS, E1.pot, .cons x0 .nil, mf _ _ _ _ (fun d m3 ⟨n, e, l, q⟩ v H' e3 p3 d3 => ?_) h1⟩
    subst e
    cases d3
    exact ⟨n, rfl, l, q _ H' (e1.trans e3) (E1.step e3 p3) (.int _)⟩
end
end Vd
end
section
set_option Elab.async false
set_option linter.all false
set_option maxRecDepth 100000
set_option autoImplicit false
/-! An own __init__: statements, then fields of self stored. -/
namespace Vd
open PySem L2 PySem.Spec Vb
open PyProof.Rows hiding St
abbrev TSI := List (Str × D) → Rho → Nat → (D → Nat → Prop) → Prop
def NoOwn (ρ : Rho) : Prop := ∀ (i : Nat) (a : Addr) (ds : List D), ρ[i]? ≠ some (some (.own a ds))
def iNil (C : Addr) : Addr → TSI := fun _ gs _ m Q => Q (.ins C gs) m
def iFld (f : Str) (te : TD) (t : Addr → TSI) : Addr → TSI := fun x gs ρ m Q => ρ[0]? = some (some (.d (.op (.ref x)))) ∧ te ρ m fun d m1 => f ∉ gs.map (·.1) ∧ gs.length < 1000 ∧ NoOwn ρ ∧ t x (gs ++ [(f, d)]) ρ m1 Q
def iSt (t1 : TSD) (t : Addr → TSI) : Addr → TSI := fun x gs ρ m Q => t1 { nx := fun ρ' m' => t x gs ρ' m' Q, rt := fun _ _ => False } ρ m
def MnI (t : Addr → TSI) : Prop := ∀ x gs ρ m (Q Q' : D → Nat → Prop), (∀ d n, Q d n → Q' d n) → t x gs ρ m Q → t x gs ρ m Q'
/-- the fields are stored, all else is as it was -/
def DoneI (K : PySem.W.Frag) (pt : Option Addr) (S : List Addr) (C x dx : Addr) (H H' : Hp) (d : D) (m' : Nat) : Prop :=
  (∀ b o, pt ≠ some b → b ≠ x → H b = some o → H' b = some o) ∧ PotX pt H' m' ∧ ∃ hs fs, d = .ins C fs ∧ H' x = some (.ins C dx hs) ∧ hs.map (·.1) = fs.map (·.1) ∧ DnAll K pt (Wo S H') (hs.map (·.2)) (fs.map (·.2))
def lfI (K : PySem.W.Frag) (C : Addr) (t : Addr → TSI) : TS := fun D σ H => ∃ pt S0 H0 S ρ m x dx hs gs, Ev K pt S0 H0 S σ H ρ m ∧ x ∈ S0 ∧ pt ≠ some x ∧ H0 x = some (.ins C dx hs) ∧ hs.map (·.1) = gs.map (·.1) ∧ DnAll K pt (Wo S0 H0) (hs.map (·.2)) (gs.map (·.2)) ∧
  t x gs ρ m fun d m' => ∀ σ' H', DoneI K pt S0 C x dx H0 H' d m' → D.nx σ' H'
structure InitS (X : Cx) (C : Addr) (st : List Stmt) (t : Addr → TSI) : Prop where
  pss : PSs X st (lfI X.K C t)
  mn : MnI t
theorem putF_new {f : Str} {v : V} : ∀ {fs : List (Str × V)}, f ∉ fs.map (·.1) → putF f v fs = fs ++ [(f, v)]
  | [], _ => rfl
  | (g, x) :: r, h => by
    show (if g = f then _ else _) = _
    rw [if_neg fun e => h (by rw [← e]; exact List.mem_cons_self), putF_new fun z => h (List.mem_cons_of_mem _ z)]
    rfl
section
variable {K : PySem.W.Frag} {pt : Option Addr} {S0 S : List Addr} {H0 H H' : Hp} {σ : St} {ρ : Rho} {m m' : Nat}
/-- what was hidden at the begin is all that is hidden of what was there -/
theorem Ev.hid (E : Ev K pt S0 H0 S σ H ρ m) : Same (Wo S0 H0) (Wo S H) := fun b o q => by
  obtain ⟨n, q⟩ := Wo.some q
  have n2 : b ∉ S := fun z => by
    rcases E.sub b z with z | z
    · exact n z
    · rw [z] at q
      cases q
  rw [Wo.out n2]
  exact E.frm b o (fun z => n2 (E.pS b z)) q
/-- begun anew, after a store to what is hidden -/
theorem Ev.anew (E : Ev K pt S0 H0 S σ H ρ m) (no : NoOwn ρ) {x : Addr} {o : HO} (hx : x ∈ S) (hp : pt ≠ some x) : Ev K pt S (upd H x o) S σ (upd H x o) ρ m := by
  have dm : ∀ b ∈ S, upd H x o b ≠ none := fun b hb => by
    by_cases e : b = x
    · rw [e, upd_same]
      exact fun z => nomatch z
    · rw [upd_ne e]
      exact E.dom b hb
  have w : Same (Wo S H) (Wo S (upd H x o)) := fun b o' q => by
    obtain ⟨n, q⟩ := Wo.some q
    have nx : b ≠ x := fun e => n (by rw [e]; exact hx)
    rw [Wo.out n, upd_ne nx]
    exact q
  refine ⟨dm, dm, fun b hb => .inl hb, fun b hb => hb, .refl _ _, E.pS, fun p e => ?_, E.len, fun i c q => ?_, fun i j a ds es n q => absurd q (no i a ds)⟩
  · have n : p ≠ x := fun z => hp (by rw [← z]; exact e)
    obtain ⟨a, b, c, q, r⟩ := E.pot p e
    exact ⟨a, b, c, by rw [upd_ne n]; exact q, r⟩
  · obtain ⟨v, hv, r⟩ := E.var i c q
    cases c with
    | d z => exact ⟨v, hv, Dn.mono w r⟩
    | own a ds => exact absurd q (no i a ds)
theorem DoneI.back {C x dx : Addr} {d : D} {o : HO} (E : Ev K pt S0 H0 S σ H ρ m) (h : DoneI K pt S C x dx (upd H x o) H' d m') : DoneI K pt S0 C x dx H0 H' d m' := by
  obtain ⟨h1, h2, hs, fs, e1, e2, e3, e4⟩ := h
  refine ⟨fun b o' n1 n2 q => h1 b o' n1 n2 (by rw [upd_ne n2]; exact E.frm b o' n1 q), h2, hs, fs, e1, e2, e3, e4.mono (Wo.less E.inc)⟩
end
section
variable {X : Cx} {C : Addr} {st : Stmt} {rest : List Stmt} {e : Expr} {te : TD} {t : Addr → TSI} {t1 : TSD} {f x : Str} {pos pos' p0 : Pos}
theorem ini_nil : InitS X C [] (iNil C) := by
  refine ⟨pss_wk' pss_nil ?_, fun x gs ρ m Q Q' w q => w _ _ q⟩
  rintro D σ H ⟨pt, S0, H0, S, ρ, m, x, dx, hs, gs, E, hx, hp, h0, hk, ha, q⟩
  refine q σ H ⟨fun b o n _ z => E.frm b o n z, E.pot, hs, gs, rfl, E.frm _ _ hp h0, hk, ?_⟩
  exact ha.mono fun b o z => by
    have y := E.hid b o z
    exact Wo.less E.inc b o y
theorem ini_st (h1 : DS X st t1) (h2 : InitS X C rest t) : InitS X C (st :: rest) (iSt t1 t) := by
  refine ⟨pss_wk' (pss_cons h1.ps h2.pss) ?_, fun x gs ρ m Q Q' w q => h1.mn { nx := fun ρ' m' => t x gs ρ' m' Q, rt := fun _ _ => False } _ _ _ ⟨fun ρ m z => h2.mn _ _ _ _ _ _ w z, fun _ _ z => z, fun _ _ z => z, fun _ _ z => z⟩ q⟩
  rintro D σ H ⟨pt, S0, H0, S, ρ, m, x, dx, hs, gs, E, hx, hp, h0, hk, ha, q⟩
  refine ⟨pt, S0, H0, S, ρ, m, E, h1.mn { nx := fun ρ' m' => t x gs ρ' m' fun d m' => ∀ σ' H', DoneI X.K pt S0 C x dx H0 H' d m' → D.nx σ' H', rt := fun _ _ => False } _ _ _ ⟨fun ρ1 m1 z σ1 H1 S1 E1 s1 => ?_, fun _ _ z => z.elim, fun _ _ z => z.elim, fun _ _ z => z.elim⟩ q⟩
  exact ⟨pt, S0, H0, S1, ρ1, m1, x, dx, hs, gs, E1, hx, hp, h0, hk, ha, z⟩
theorem ini_fld (c : Cls X.K C) (na : NoAttr X.K C f) (hv : PE X (.Name x p0) (tVar 0)) (he : DE X e te) (h2 : InitS X C rest t) (hs : swapsWith e (some (.Attribute (.Name x p0) f pos')) pos.line X.env = pure false := by rfl) :
    InitS X C (.Assign [.Attribute (.Name x p0) f pos'] e pos :: rest) (iFld f te t) := by
  refine ⟨pss_wk' (pss_cons (ps_fld hv he.pe hs) h2.pss) ?_, fun x gs ρ m Q Q' w ⟨z, q⟩ => ⟨z, he.mn _ _ _ _ (fun d n ⟨a, b, c, q⟩ => ⟨a, b, c, h2.mn _ _ _ _ _ _ w q⟩) q⟩⟩
  rintro D σ H ⟨pt, S0, H0, S, ρ, m, x, dx, hs, gs, E, hx, hp, h0, hk, ha, z0, q⟩
  refine ⟨pt, S0, H0, S, ρ, m, E, he.mn _ _ _ _ (fun d m1 q v H1 e1 E1 x1 => ?_) q⟩
  obtain ⟨nf, lg, no, q⟩ := q
  obtain ⟨u, hu, ru⟩ := E1.var _ _ z0
  cases ru with
  | op =>
    have h1 : H1 x = some (.ins C dx hs) := E1.frm _ _ hp h0
    have lh : hs.length = gs.length := by
      have := congrArg List.length hk
      rwa [List.length_map, List.length_map] at this
    refine ⟨_, hu, x, C, dx, hs, rfl, h1, c, na, by rw [lh]; exact lg, ?_⟩
    rw [putF_new (by rw [hk]; exact nf)]
    have E2 := E1.anew no (o := .ins C dx (hs ++ [(f, v)])) (E1.inc x hx) hp
    have w : Same (Wo S H1) (Wo S (upd H1 x (.ins C dx (hs ++ [(f, v)])))) := fun b o' q => by
      obtain ⟨n, q⟩ := Wo.some q
      have nx : b ≠ x := fun e => n (by rw [e]; exact E1.inc x hx)
      rw [Wo.out n, upd_ne nx]
      exact q
    refine ⟨pt, S, _, S, ρ, m1, x, dx, hs ++ [(f, v)], gs ++ [(f, d)], E2, E1.inc x hx, hp, upd_same, by rw [List.map_append, List.map_append, hk]; rfl, ?_, h2.mn _ _ _ _ _ _ (fun d' m' z σ' H' dn => z σ' H' (dn.back E1)) q⟩
    rw [List.map_append, List.map_append]
    exact ((ha.mono E1.hid).mono w).append (.cons (Dn.mono w x1) .nil)
end
/-- an own __init__ keeps F -/
theorem Fun.okI {P : Program} {w : World} {K : PySem.W.Frag} {mg : Str → Option Value} {base : Heap} {x qual : Str} {st : Stmt} {f C : Addr} {fd : FuncData} {N ps : List Str} {k : Nat} {F : FD} {t : Addr → TSI} (Fu : Fun K x qual st f fd) (S : FnScope N ps (defScope st)) (len : ∀ ds m Q, F ds m Q → ds.length + 1 = ps.length)
    (hbody : ∀ (cdv : Value) (A : Around) (outer : List Env) (s : Shared) (H : Hp) (E : XK), Room k (A.deeper (envOfC qual (defScope st) s.heap.objs.size f cdv)) → InitS (cxOf CX0 P w K mg base N qual (defScope st) f cdv A outer s H E).nox C (defBody st) t)
    (h : ∀ a ds m Q, F ds m Q → t a [] (startR N (.op (.ref a) :: ds)) m Q) : FnOk P w K mg base CX0 (k + 1) f fd ps (spMk K C F) := by
  refine Fu.ok S (fun vs H Q E q => ?_) fun cdv A outer s H vs Q E hr q => ?_
  · obtain ⟨x, dx, us, pt, S', ds, m, rfl, _, _, _, _, _, _, _, _, ha, q⟩ := q
    rw [List.length_cons, ha.length]
    exact len _ _ _ q
  · obtain ⟨x, dx, us, pt, S', ds, m, rfl, hx, hd, nd, n1, n2, dm, ps', po, ha, q⟩ := q
    have B := hbody cdv A outer s H E hr
    have npt : pt ≠ some x := fun e => n1 (ps' x e)
    have dm2 : ∀ b ∈ x :: dx :: S', H b ≠ none := fun b hb => by
      rcases List.mem_cons.mp hb with rfl | hb
      · rw [hx]; exact fun z => nomatch z
      · rcases List.mem_cons.mp hb with rfl | hb
        · rw [hd]; exact fun z => nomatch z
        · exact dm b hb
    refine ⟨_, B.pss, pt, x :: dx :: S', H, x :: dx :: S', _, m, x, dx, [], [], start_ev (ds := .op (.ref x) :: ds) dm2 (fun p e => List.mem_cons_of_mem _ (List.mem_cons_of_mem _ (ps' p e))) po (.cons (.op _) ha), List.mem_cons_self, npt, hx, rfl, .nil, B.mn _ _ _ _ _ _ (fun d m' z σ' H' dn => ?_) (h x ds m _ q)⟩
    obtain ⟨h1, h2, hs, fs, rfl, e2, e3, e4⟩ := dn
    refine z H' (fun b o a b' _ q => h1 b o a b' q) h2 (.ins (dx := dx) (by rw [Wo.out n1]; exact e2) e3 (e4.mono (Wo.less fun b hb => List.mem_cons_of_mem _ (List.mem_cons_of_mem _ hb))))
end Vd
end
section
set_option Elab.async false
set_option linter.all false
set_option maxRecDepth 100000
set_option autoImplicit false
/-! isinstance of an own class; own methods. -/
namespace Vd
open PySem L2 PySem.Spec Vb
open PyProof.Rows hiding St
/-- what isinstance asks of an own class C -/
structure OwnTy (K : PySem.W.Frag) (C : Addr) : Prop where
  cl : Cls K C
  ha : PySem.W.findIn K (.ref C) "__class__" = some (some (.builtin "object.__class__"))
  hn : PySem.W.specialIn K (.builtin "object.__class__") "__get__" = some (some (.builtin "getset_descriptor.__get__"))
  ht : PySem.W.takesIn K (.builtin "object.__class__") = some true
  hm : PySem.W.mroIn K C (.type "object") = some true
  self : PySem.W.kitOne K (.ref C) (.ref C) = some true
  str : PySem.W.kitOne K (.type "str") (.ref C) = some false
  tup : PySem.W.kitOne K (.type "tuple") (.ref C) = some false
def fIsiO (C : Addr) : List D → Option D
  | [.ins B _, .op (.ref c)] => if B = C ∧ c = C then some (.bl true) else none
  | [.str _, .op (.ref c)] => if c = C then some (.bl false) else none
  | [.tup _, .op (.ref c)] => if c = C then some (.bl false) else none
  | _ => none
theorem s_isiO {K : PySem.W.Frag} {C : Addr} (o : OwnTy K C) : SC K (rIsi K) (fIsiO C) := by
  intro pt S H xs as d Q hd hx e q
  match as, e with
  | [.ins B fs, .op (.ref c)], e =>
    obtain ⟨⟨rfl, rfl⟩, rfl⟩ := ite_some e
    obtain ⟨v, u, rfl, h1, h2⟩ := hx.two
    cases h2
    cases h1 with
    | ins z _ _ => exact ⟨_, _, _, _, true, rfl, .own _, .base (.ins (Wo.sub _ _ _ _ z) o.cl o.ha o.hn o.ht o.hm), o.self, q _ _ (.refl _) (.bl _)⟩
  | [.str z, .op (.ref c)], e =>
    obtain ⟨rfl, rfl⟩ := ite_some e
    obtain ⟨v, u, rfl, h1, h2⟩ := hx.two
    cases h2
    cases h1
    exact ⟨_, _, _, _, false, rfl, .own _, .base (.str z), o.str, q _ _ (.refl _) (.bl _)⟩
  | [.tup z, .op (.ref c)], e =>
    obtain ⟨rfl, rfl⟩ := ite_some e
    obtain ⟨v, u, rfl, h1, h2⟩ := hx.two
    cases h2
    exact ⟨_, _, _, _, false, rfl, .own _, tyX_of h1 rfl, o.tup, q _ _ (.refl _) (.bl _)⟩
theorem noOwn_nil : NoOwn [] = True := by
  refine eq_true fun i a ds => ?_
  simp
theorem noOwn_d {x : D} {r : Rho} : NoOwn (some (.d x) :: r) = NoOwn r := by
  refine propext ⟨fun h i a ds => h (i + 1) a ds, fun h i a ds => ?_⟩
  cases i with
  | zero => exact fun z => nomatch z
  | succ i => exact h i a ds
theorem noOwn_none {r : Rho} : NoOwn (none :: r) = NoOwn r := by
  refine propext ⟨fun h i a ds => h (i + 1) a ds, fun h i a ds => ?_⟩
  cases i with
  | zero => exact fun z => nomatch z
  | succ i => exact h i a ds
end Vd
end
section
set_option Elab.async false
set_option linter.all false
set_option maxRecDepth 100000
set_option autoImplicit false
/-! Own lists that are made in a tuple of stores. -/
namespace Vd
open PySem L2 PySem.Spec Vb
open PyProof.Rows hiding St
theorem Ev.ownAt {K : PySem.W.Frag} {pt : Option Addr} {S0 S : List Addr} {H0 H : Hp} {σ : St} {ρ : Rho} {m : Nat} (E : Ev K pt S0 H0 S σ H ρ m) {a : Addr} {vs : List V} {ds : List D} {i : Nat} (hS : a ∈ S) (h0 : H0 a = none) (hp : pt ≠ some a) (hn : ∀ (j : Nat) (es : List D), ρ[j]? ≠ some (some (.own a es)))
    (hv : H a = some (.lst vs)) (x : DnAll K pt (Wo S H) vs ds) (li : i < ρ.length) : Ev K pt S0 H0 S (σ.set i (some (.ref a))) H (ρ.set i (some (.own a ds))) m := by
  have E3 : Ev K pt S0 H0 S (σ.set i (some (.ref a))) H (ρ.set i none) m := E.forget
  refine ⟨E3.dom0, E3.dom, E3.sub, E3.inc, E3.frm, E3.ptS, E3.pot, by rw [List.length_set, List.length_set]; exact E.len, fun j c q => ?_, fun j k b d1 d2 n q1 q2 => ?_⟩
  · by_cases z : i = j
    · subst z
      rw [List.getElem?_set_self li] at q
      cases q
      exact ⟨.ref a, List.getElem?_set_self (by rw [E.len]; exact li), rfl, hS, h0, hp, vs, hv, x⟩
    · refine E3.var j c ?_
      rw [List.getElem?_set_ne z] at q ⊢
      exact q
  · have out : ∀ {j : Nat} {b : Addr} {fs : List Vd.D}, (ρ.set i (some (.own a ds)))[j]? = some (some (.own b fs)) → (j = i ∧ b = a) ∨ (j ≠ i ∧ ρ[j]? = some (some (.own b fs))) := fun {j b fs} q => by
      by_cases z : i = j
      · subst z
        rw [List.getElem?_set_self li] at q
        cases q
        exact .inl ⟨rfl, rfl⟩
      · rw [List.getElem?_set_ne z] at q
        exact .inr ⟨fun y => z y.symm, q⟩
    rcases out q1 with ⟨z1, z2⟩ | ⟨n1, q3⟩
    · rcases out q2 with ⟨z3, _⟩ | ⟨_, q4⟩
      · exact n (z1.trans z3.symm)
      · exact hn _ _ (by rw [← z2]; exact q4)
    · rcases out q2 with ⟨_, z2⟩ | ⟨_, q4⟩
      · exact hn _ _ (by rw [← z2]; exact q3)
      · exact E.dis j k b d1 d2 n q3 q4
section
variable {X : Cx} {x y : Str} {px py tpos vpos pl pos : Pos} {es : List Expr} {e : Expr} {kk k2 : Nat} {t : TDA} {te : TD} {i j : Nat}
/-- x, y = [..], e -/
def sOwn2 (i j : Nat) (t : TDA) (te : TD) : TSD := fun D ρ m => t ρ m fun ds m1 => ds.length ≤ sizeLine ∧ i < ρ.length ∧ te ρ m1 fun d m2 => ∀ a, (∀ (j : Nat) (es : List Vd.D), ρ[j]? ≠ some (some (.own a es))) → D.nx ((ρ.set i (some (.own a ds))).set j (some (.d d))) m2
theorem ds_own2 (hc : X.calm = true) (gi : PG X (.Name x px) (gName i)) (gj : PG X (.Name y py) (gName j)) (ha : DA X es t) (he : DE X e te)
    (hs : swapsWithSole [.Tuple [.Name x px, .Name y py] kk tpos] (.Tuple [.List es pl, e] k2 vpos) pos.line X.env = pure false := by rfl) (hw : swappedStores [.Tuple [.Name x px, .Name y py] kk tpos] (.Tuple [.List es pl, e] k2 vpos) X.env = pure none := by rfl)
    (h1 : (assignEach [.Tuple [.Name x px, .Name y py] kk tpos] X.env).map (·.2) = [assign (.Tuple [.Name x px, .Name y py] kk tpos) X.env] := by rfl)
    (s1 : starEach [.List es pl, e] X.env = (false, eval (.List es pl) X.env) :: starEach [e] X.env := by rfl) (s2 : starEach [e] X.env = (false, eval e X.env) :: starEach [] X.env := by rfl) :
    DS X (.Assign [.Tuple [.Name x px, .Name y py] kk tpos] (.Tuple [.List es pl, e] k2 vpos) pos) (sOwn2 i j t te) := by
  refine ⟨ps_wk' (ps_asg (pe_tup (pa_cons (pe_lst ha.pa) (pa_cons he.pe pa_nil s2) s1)) (pg_tup (n := 2) hc (pgs_cons gi (pgs_cons gj pgs_nil))) hs hw h1) ?_, fun a b ρ m l q => ha.mn _ _ _ _ (fun ds n ⟨h1, h2, h3⟩ => ⟨h1, h2, he.mn _ _ _ _ (fun d n h3 a z => l.nx _ _ (h3 a z)) h3⟩) q⟩
  rintro D σ H ⟨pt, S0, H0, S, ρ, m, E, h⟩
  refine ⟨pt, S0, H0, S, ρ, m, E, ha.mn _ _ _ _ (fun ds m1 h1 vs H1 e1 E1 x1 => ?_) h⟩
  obtain ⟨l, li, h1⟩ := h1
  refine ⟨by rw [x1.length]; exact l, fun p hp => ?_⟩
  obtain ⟨E2, h0, hpt, hn, nS, wo⟩ := E1.newO (o := .lst vs) hp
  refine ⟨pt, S0, H0, p :: S, ρ, m1, E2, he.mn _ _ _ _ (fun d m2 h2 v H3 e3 E3 x3 => ?_) h1⟩
  refine ⟨(by show 2 ≤ sizeLine; decide), fun q hq => ?_⟩
  have hp3 : H3 p = some (.lst vs) := e3 _ _ hpt upd_same
  have npq : p ≠ q := ne_of_none hp3 hq
  have n3 : Same H3 (upd H3 q (.tup [.ref p, v])) := Same.new hq
  have E4 := E3.same n3
  have w4 : Same (Wo (p :: S) H3) (Wo (p :: S) (upd H3 q (.tup [.ref p, v]))) := Wo.same n3
  have E5 := E4.ownAt (i := i) List.mem_cons_self h0 hpt hn (n3 _ _ hp3) (((x1.mono wo).mono (E2.wo e3)).mono w4) li
  have E6 := E5.set (i := j) (Dn.mono w4 x3)
  exact ⟨q, _, rfl, SqT.of upd_same, rfl, _, _, rfl, _, _, rfl, rfl, h2 p hn _ _ _ E6 ((E.wo e1).trans (wo.trans ((E2.wo e3).trans w4)))⟩
/-- x, y = list(e), [] -/
def sOwnL (i j : Nat) (te : TD) : TSD := fun D ρ m => te ρ m fun d m1 => ∃ ds, d = .lst ds ∧ i < ρ.length ∧ j < ρ.length ∧ i ≠ j ∧ ∀ a b, (∀ (j : Nat) (es : List Vd.D), ρ[j]? ≠ some (some (.own a es))) → D.nx ((ρ.set i (some (.own a ds))).set j (some (.own b []))) m1
theorem ds_ownL {c : Pos} {p : Pos} (hc : X.calm = true) (hg : Gl X "list") (hm : X.mg "list" = none) (gi : PG X (.Name x px) (gName i)) (gj : PG X (.Name y py) (gName j)) (he : DE X e te)
    (hs : swapsWithSole [.Tuple [.Name x px, .Name y py] kk tpos] (.Tuple [.Call (.Name "list" p) [e] [] c, .List [] pl] k2 vpos) pos.line X.env = pure false := by rfl) (hw : swappedStores [.Tuple [.Name x px, .Name y py] kk tpos] (.Tuple [.Call (.Name "list" p) [e] [] c, .List [] pl] k2 vpos) X.env = pure none := by rfl)
    (h1 : (assignEach [.Tuple [.Name x px, .Name y py] kk tpos] X.env).map (·.2) = [assign (.Tuple [.Name x px, .Name y py] kk tpos) X.env] := by rfl)
    (s1 : starEach [.Call (.Name "list" p) [e] [] c, .List [] pl] X.env = (false, eval (.Call (.Name "list" p) [e] [] c) X.env) :: starEach [.List [] pl] X.env := by rfl) (s2 : starEach [.List [] pl] X.env = (false, eval (.List [] pl) X.env) :: starEach [] X.env := by rfl)
    (s3 : starEach [e] X.env = (false, eval e X.env) :: starEach [] X.env := by rfl) (hpl : (backTo c (starEach [] X.env)).any (·.1) = false := by rfl) :
    DS X (.Assign [.Tuple [.Name x px, .Name y py] kk tpos] (.Tuple [.Call (.Name "list" p) [e] [] c, .List [] pl] k2 vpos) pos) (sOwnL i j te) := by
  refine ⟨ps_wk' (ps_asg (pe_tup (pa_cons (pe_callTy call_list_of hg hm (by decide +kernel) (pa_cons he.pe pa_nil s3) (by decide) (by decide) s3 hpl) (pa_cons (pe_lst pa_nil) pa_nil s2) s1)) (pg_tup (n := 2) hc (pgs_cons gi (pgs_cons gj pgs_nil))) hs hw h1) ?_, fun a b ρ m l q => he.mn _ _ _ _ (fun d n ⟨ds, h1, h2, h3, h4, h5⟩ => ⟨ds, h1, h2, h3, h4, fun a b z => l.nx _ _ (h5 a b z)⟩) q⟩
  rintro D σ H ⟨pt, S0, H0, S, ρ, m, E, h⟩
  refine ⟨pt, S0, H0, S, ρ, m, E, he.mn _ _ _ _ (fun d m1 h1 v H1 e1 E1 x1 => ?_) h⟩
  obtain ⟨ds, rfl, li, lj, nij, h1⟩ := h1
  cases x1 with
  | lst hv x1 =>
    rename_i a0 vs
    refine ⟨a0, vs, rfl, .inl (SqL.of (Wo.sub _ _ _ _ hv)), fun p hp => ?_⟩
    obtain ⟨E2, h0, hpt, hn, nS, wo⟩ := E1.newO (o := .lst vs) hp
    refine ⟨by decide, fun r hr => ?_⟩
    obtain ⟨E3, g0, hrt, gn, gS, wo3⟩ := E2.newO (o := .lst []) hr
    have hp2 : upd H1 p (.lst vs) p = some (.lst vs) := upd_same
    have npr : p ≠ r := ne_of_none hp2 hr
    refine ⟨(by show 2 ≤ sizeLine; decide), fun q hq => ?_⟩
    have hp3 : upd (upd H1 p (.lst vs)) r (.lst []) p = some (.lst vs) := by rw [upd_ne npr]; exact hp2
    have n3 : Same (upd (upd H1 p (.lst vs)) r (.lst [])) (upd (upd (upd H1 p (.lst vs)) r (.lst [])) q (.tup [.ref p, .ref r])) := Same.new hq
    have E4 := E3.same n3
    have w4 := Wo.same (S := r :: p :: S) n3
    have E5 := E4.ownAt (i := i) (List.mem_cons_of_mem _ List.mem_cons_self) h0 hpt hn (n3 _ _ hp3) (((x1.mono wo).mono wo3).mono w4) li
    have E6 := E5.ownAt (i := j) (vs := []) (ds := []) List.mem_cons_self g0 hrt (fun k es z => by
      by_cases e : i = k
      · subst e
        rw [List.getElem?_set_self li] at z
        cases z
        exact npr rfl
      · rw [List.getElem?_set_ne e] at z
        exact gn k es z) (n3 _ _ upd_same) .nil (by rw [List.length_set]; exact lj)
    exact ⟨q, _, rfl, SqT.of upd_same, rfl, _, _, rfl, _, _, rfl, rfl, h1 p r hn _ _ _ E6 ((E.wo e1).trans (wo.trans (wo3.trans w4)))⟩
theorem DnAll.erase {K : PySem.W.Frag} {pt : Option Addr} {B : Hp} : ∀ {vs : List V} {ds : List D}, DnAll K pt B vs ds → ∀ k, DnAll K pt B (vs.eraseIdx k) (ds.eraseIdx k)
  | _, _, .nil, k => by simpa using DnAll.nil
  | _, _, .cons h r, 0 => r
  | _, _, .cons h r, k + 1 => .cons h (DnAll.erase r k)
/-- y.append(x.pop(e)) -/
def sPopApp (i j : Nat) (te : TD) : TSD := fun D ρ m => ∃ a ds b fs, ρ[i]? = some (some (.own a ds)) ∧ ρ[j]? = some (some (.own b fs)) ∧ i ≠ j ∧ te ρ m fun d m1 => ∃ (k : Nat) (x : Vd.D), d = .int (k : Int) ∧ ds[k]? = some x ∧ ds.length ≤ 1000 ∧ fs.length < sizeLine ∧ D.nx ((ρ.set i (some (.own a (ds.eraseIdx k)))).set j (some (.own b (fs ++ [x])))) m1
theorem ds_popApp {oi oj : Expr} {p1 p2 c1 c2 : Pos} (hi : PE X oi (tVar i)) (hj : PE X oj (tVar j)) (he : DE X e te) (hs : swapsWith (.Call (.Attribute oj "append" p1) [.Call (.Attribute oi "pop" p2) [e] [] c2] [] c1) none pos.line X.env = pure false := by rfl)
    (b1 : attributeBase oj "append" X.env (eval oj X.env) = eval oj X.env := by rfl) (b2 : attributeBase oi "pop" X.env (eval oi X.env) = eval oi X.env := by rfl)
    (f1 : ((backTo c1 (starEach [.Call (.Attribute oi "pop" p2) [e] [] c2] X.env)).all (fun x => !x.1) && (backToKw c1 (keywordEach [] X.env)).all (fun x => x.1.isSome)
      && decide ([Expr.Call (.Attribute oi "pop" p2) [e] [] c2].length + ([] : List Keyword).length + (if ([] : List Keyword).isEmpty then 0 else 1) < 30)) = true := by rfl)
    (f2 : ((backTo c2 (starEach [e] X.env)).all (fun x => !x.1) && (backToKw c2 (keywordEach [] X.env)).all (fun x => x.1.isSome)
      && decide ([e].length + ([] : List Keyword).length + (if ([] : List Keyword).isEmpty then 0 else 1) < 30)) = true := by rfl)
    (l1 : (p1.endLine == c1.line) = true := by rfl) (l2 : (p2.endLine == c2.line) = true := by rfl)
    (s1 : starEach [.Call (.Attribute oi "pop" p2) [e] [] c2] X.env = (false, eval (.Call (.Attribute oi "pop" p2) [e] [] c2) X.env) :: starEach [] X.env := by rfl) (s2 : starEach [e] X.env = (false, eval e X.env) :: starEach [] X.env := by rfl)
    (q1 : (backTo c1 (starEach [] X.env)).any (·.1) = false := by rfl) (q2 : (backTo c2 (starEach [] X.env)).any (·.1) = false := by rfl) :
    DS X (.Expr (.Call (.Attribute oj "append" p1) [.Call (.Attribute oi "pop" p2) [e] [] c2] [] c1) pos) (sPopApp i j te) := by
  refine ⟨ps_wk' (ps_expr (pe_bm PySem.F.plainAttrs_list PySem.F.slot_list_append PySem.F.type_list_append mt_append hj (pa_cons (pe_bm PySem.F.plainAttrs_list PySem.F.slot_list_pop PySem.F.type_list_pop mt_popAt hi (pa_cons he.pe pa_nil s2) b2 f2 l2 s2 q2) pa_nil s1) b1 f1 l1 s1 q1) hs) ?_, fun a b ρ m l ⟨x, ds, y, fs, h1, h2, h3, q⟩ => ⟨x, ds, y, fs, h1, h2, h3, he.mn _ _ _ _ (fun d n ⟨k, z, g1, g2, g3, g4, g5⟩ => ⟨k, z, g1, g2, g3, g4, l.nx _ _ g5⟩) q⟩⟩
  rintro D σ H ⟨pt, S0, H0, S, ρ, m, E, a, ds, b, fs, h1, h2, nij, h⟩
  obtain ⟨q, hS, h0, hp, vs, hH, hv⟩ := E.at_own h1
  obtain ⟨q', hS', h0', hp', us, hH', hu⟩ := E.at_own h2
  refine ⟨_, q', .inl ⟨rfl, us, SqL.of hH'⟩, _, q, .inl ⟨rfl, vs, SqL.of hH⟩, pt, S0, H0, S, ρ, m, E, he.mn _ _ _ _ (fun d m1 g v H1 e1 E1 x1 => ?_) h⟩
  obtain ⟨k, x, rfl, hk, hl, hl2, g⟩ := g
  cases x1
  have lk : k < ds.length := (List.getElem?_eq_some_iff.mp hk).1
  have hv1 := hv.mono (E.wo e1)
  obtain ⟨z, hz, dz⟩ := hv1.get hk
  refine ⟨a, vs, _, k, z, rfl, rfl, e1 _ _ hp hH, by omega, by omega, ?_, hz, ?_⟩
  · have := hv.length
    unfold PySem.seqIndex?
    simp
    omega
  · obtain ⟨E2, w2⟩ := E1.grow h1 (hv1.erase k)
    have h2' : (ρ.set i (some (.own a (ds.eraseIdx k))))[j]? = some (some (.own b fs)) := by rw [List.getElem?_set_ne nij]; exact h2
    obtain ⟨_, _, _, _, us2, hH2, hu2⟩ := E2.at_own h2'
    obtain ⟨E3, w3⟩ := E2.grow h2' (hu2.append (.cons (Dn.mono w2 dz) .nil))
    exact ⟨b, us2, z, rfl, rfl, hH2, by rw [hu2.length]; exact hl2, g _ _ _ E3 ((E.wo e1).trans (w2.trans w3))⟩
end
end Vd
end
section
set_option Elab.async false
set_option linter.all false
set_option maxRecDepth 100000
set_option autoImplicit false
/-! The signs of a text walked; comprehensions as a whole. -/
namespace Vd
open PySem L2 PySem.Spec Vb
open PyProof.Rows hiding St
def signsD (z : Str) : List D := z.cps.toList.map fun c => .str ⟨#[c]⟩
def dSigns (te : TD) : TDA := fun ρ m Q => te ρ m fun d m1 => ∃ z, d = .str z ∧ Q (signsD z) m1
theorem is_str {K : PySem.W.Frag} {te : TD} (me : MnE te) : IS K (iStr (lfE K te)) (dSigns te) := by
  refine ⟨fun ρ m Q Q' w q => me _ _ _ _ (fun d n ⟨ds, e, q⟩ => ⟨ds, e, w _ _ q⟩) q, ?_⟩
  rintro σ H R ⟨pt, S0, H0, S, ρ, m, E, h⟩
  refine ⟨pt, S0, H0, S, ρ, m, E, me _ _ _ _ (fun x m1 h1 v H1 e1 E1 x1 => ?_) h⟩
  obtain ⟨z, rfl, h1⟩ := h1
  cases x1
  refine ⟨z, rfl, h1 H1 _ e1 E1 fun i S' H' sm dm => ⟨fun d hd => ?_, fun hl => ?_⟩⟩
  · unfold signsD at hd
    rw [List.getElem?_map] at hd
    obtain ⟨c, hc, rfl⟩ := Option.map_eq_some_iff.mp hd
    have hc : z.cps[i]? = some c := by rw [← Array.getElem?_toList]; exact hc
    refine ⟨(Array.getElem?_eq_some_iff.mp hc).1, fun v H2 hy => ?_⟩
    obtain ⟨rfl, c', h', rfl⟩ := hy
    rw [hc] at h'
    cases h'
    exact ⟨.refl _, .str _⟩
  · unfold signsD at hl
    rw [List.length_map, Array.length_toList] at hl
    exact Nat.le_of_eq hl
theorem di_str {X : Cx} {tg l : Expr} {te : TD} (h : DE X l te) : DI X tg l (iStr (lfE X.K te)) (dSigns te) := ⟨pi_str h.pe, is_str h.mn⟩
/-- a comprehension that draws: each item is of P, B draws an item at most -/
theorem lc_draw {f : TgD} {te : TD} {vs : List Nat} {ρ : Rho} {P : D → Prop} {B : Nat} : ∀ (xs acc : List D) (m : Nat) (Q : List D → Nat → Prop),
    (∀ x ∈ xs, ∃ ρ', f x (wipeR ρ vs) = some ρ' ∧ ∀ (m : Nat) (R : D → Nat → Prop), B ≤ m → (∀ y m', P y → m ≤ m' + B → R y m') → te ρ' m R) →
    acc.length + xs.length ≤ sizeLine → xs.length * B ≤ m → (∀ a ∈ acc, P a) → (∀ ys m', ys.length = acc.length + xs.length → (∀ y ∈ ys, P y) → m ≤ m' + xs.length * B → Q ys m') → lcD f dYes te vs ρ xs acc m Q
  | [], acc, m, Q, _, _, _, ha, q => q acc m rfl ha (by simp)
  | x :: xs, acc, m, Q, h, hl, hm, ha, q => by
    obtain ⟨ρ', e, h1⟩ := h x List.mem_cons_self
    rw [List.length_cons] at hl hm
    rw [Nat.succ_mul] at hm
    refine ⟨ρ', e, h1 m _ (by omega) fun y m' hy hm' => ⟨by omega, ?_⟩⟩
    refine lc_draw xs (acc ++ [y]) m' Q (fun z hz => h z (List.mem_cons_of_mem _ hz)) (by rw [List.length_append, List.length_singleton]; omega) (by omega) (fun a z => ?_) fun ys m2 h2 h3 h4 => ?_
    · rcases List.mem_append.mp z with z | z
      · exact ha a z
      · rw [List.mem_singleton.mp z]; exact hy
    · refine q ys m2 (by rw [h2, List.length_append, List.length_singleton, List.length_cons]; omega) h3 ?_
      rw [List.length_cons, Nat.succ_mul]
      omega
/-- a comprehension that draws nothing -/
theorem lc_pure {f : TgD} {tt : TDT} {te : TD} {vs : List Nat} {ρ : Rho} {g : D → D} {p : D → Bool} {m : Nat} {Q : List D → Nat → Prop} : ∀ (xs acc : List D),
    (∀ x ∈ xs, ∃ ρ', f x (wipeR ρ vs) = some ρ' ∧ ∀ R : D → Nat → Prop, (p x = true → R (g x) m) → tt ρ' m fun b m1 => (b = p x ∧ m1 = m) ∧ (p x = true → te ρ' m R)) →
    MnT tt → acc.length + xs.length ≤ sizeLine → Q (acc ++ (xs.filter p).map g) m → lcD f tt te vs ρ xs acc m Q
  | [], acc, _, _, _, q => by simpa [lcD] using q
  | x :: xs, acc, h, mt, hl, q => by
    obtain ⟨ρ', e, h1⟩ := h x List.mem_cons_self
    rw [List.length_cons] at hl
    refine ⟨ρ', e, ?_⟩
    cases hp : p x
    · refine mt _ _ _ _ ?_ (h1 (fun _ _ => True) fun _ => trivial)
      rintro b m1 ⟨⟨rfl, rfl⟩, _⟩
      rw [hp]
      exact lc_pure xs acc (fun z hz => h z (List.mem_cons_of_mem _ hz)) mt (by omega) (by rw [List.filter_cons_of_neg (by rw [hp]; exact Bool.false_ne_true)] at q; exact q)
    · refine mt _ _ _ _ ?_ (h1 (fun y m2 => acc.length < sizeLine ∧ lcD f tt te vs ρ xs (acc ++ [y]) m2 Q) fun _ => ⟨by omega, ?_⟩)
      · rintro b m1 ⟨⟨rfl, rfl⟩, k⟩
        rw [hp]
        exact k hp
      · refine lc_pure xs (acc ++ [g x]) (fun z hz => h z (List.mem_cons_of_mem _ hz)) mt (by rw [List.length_append, List.length_singleton]; omega) ?_
        rw [List.filter_cons_of_pos hp, List.map_cons] at q
        rw [List.append_assoc]
        exact q
/-- a comprehension that maps -/
theorem lc_map {f : TgD} {te : TD} {vs : List Nat} {ρ : Rho} {g : D → D} {m : Nat} {Q : List D → Nat → Prop} : ∀ (xs acc : List D),
    (∀ x ∈ xs, ∃ ρ', f x (wipeR ρ vs) = some ρ' ∧ ∀ R : D → Nat → Prop, R (g x) m → te ρ' m R) →
    acc.length + xs.length ≤ sizeLine → Q (acc ++ xs.map g) m → lcD f dYes te vs ρ xs acc m Q
  | [], acc, _, _, q => by simpa [lcD] using q
  | x :: xs, acc, h, hl, q => by
    obtain ⟨ρ', e, h1⟩ := h x List.mem_cons_self
    rw [List.length_cons] at hl
    exact ⟨ρ', e, h1 _ ⟨by omega, lc_map xs (acc ++ [g x]) (fun z hz => h z (List.mem_cons_of_mem _ hz)) (by rw [List.length_append, List.length_singleton]; omega) (by rw [List.append_assoc]; exact q)⟩⟩
theorem wipe_len {ρ : Rho} : ∀ {vs : List Nat}, (wipeR ρ vs).length = ρ.length
  | [] => rfl
  | v :: vs => by
    show ((wipeR ρ vs).set v none).length = _
    rw [List.length_set, wipe_len]
end Vd
end
section
set_option Elab.async false
set_option linter.all false
set_option maxRecDepth 100000
set_option autoImplicit false
/-! Names that are drawn: letters joined, a first letter exchanged. -/
namespace Vd
open PySem L2 PySem.Spec Vb
open PyProof.Rows hiding St
/-- a text of these signs -/
def ofL (cs : List Nat) : Str := ⟨cs.toArray⟩
theorem ofL_tl (cs : List Nat) : (ofL cs).cps.toList = cs := by unfold ofL; simp
theorem ofL_len (cs : List Nat) : (ofL cs).length = cs.length := by rw [len_cps, ofL_tl]
theorem ofL_cps (z : Str) : ofL z.cps.toList = z := rfl
theorem empty_tl : TL.tl ("" : Str) = [] := by decide +kernel
theorem empty_len : ("" : Str).length = 0 := by decide +kernel
theorem join_signs : ∀ cs : List Nat, Txt.join "" (cs.map fun c => (⟨#[c]⟩ : Str)) = ofL cs := by
  intro cs
  refine TL.ext_tl ?_
  rw [TL.join_eq, TL.tl_join, empty_tl]
  show _ = (ofL cs).cps.toList
  rw [ofL_tl]
  induction cs with
  | nil => rfl
  | cons c cs ih =>
    cases cs with
    | nil => rfl
    | cons d cs =>
      show [c] ++ ([] ++ TL.joinL [] (TL.tl ⟨#[d]⟩ :: (cs.map fun c => (⟨#[c]⟩ : Str)).map TL.tl)) = c :: d :: cs
      rw [List.nil_append]
      exact congrArg (c :: ·) ih
theorem fJoin_signs {cs : List Nat} (h : cs.length ≤ 1000) : fJoin (.str "") [.lst (cs.map fun c => .str ⟨#[c]⟩)] = some (.str (ofL cs)) := by
  have e : (cs.map fun c => D.str ⟨#[c]⟩) = (cs.map fun c => (⟨#[c]⟩ : Str)).map .str := by rw [List.map_map]; rfl
  rw [e, fJoin_strs, join_signs]
  rw [empty_len, Nat.mul_zero, Nat.add_zero, List.map_map]
  have : ∀ cs : List Nat, (cs.map ((·.length) ∘ fun c => (⟨#[c]⟩ : Str))).sum = cs.length := by
    intro cs
    induction cs with
    | nil => rfl
    | cons c cs ih =>
      rw [List.map_cons, List.sum_cons, ih, List.length_cons]
      show 1 + _ = _
      omega
  rw [this]
  omega
/-- all of single signs -/
theorem signs_of {P : Nat → Prop} : ∀ {ys : List D}, (∀ y ∈ ys, ∃ c, y = .str ⟨#[c]⟩ ∧ P c) → ∃ cs : List Nat, ys = (cs.map fun c => .str ⟨#[c]⟩) ∧ ∀ c ∈ cs, P c
  | [], _ => ⟨[], rfl, fun _ h => nomatch h⟩
  | y :: ys, h => by
    obtain ⟨c, rfl, hc⟩ := h y List.mem_cons_self
    obtain ⟨cs, rfl, hcs⟩ := signs_of fun z hz => h z (List.mem_cons_of_mem _ hz)
    exact ⟨c :: cs, rfl, fun x hx => (List.mem_cons.mp hx).elim (fun e => e ▸ hc) (hcs x)⟩
/-- a text without its first sign -/
def tailS (z : Str) : Str := ofL (z.cps.toList.drop 1)
theorem cutS_1 (z : Str) : cutS z (some 1) none = tailS z := by
  unfold cutS tailS ofL
  have e : HT.sIx z.length 0 (some 1) = min 1 z.length := HT.sIx_nat z.length 0 1
  rw [e, HT.sIx_none]
  refine congrArg (fun l : List Nat => (⟨l.toArray⟩ : Str)) ?_
  rw [len_cps]
  by_cases h : 1 ≤ z.cps.toList.length
  · rw [Nat.min_eq_left h]
    exact List.take_of_length_le (by rw [List.length_drop]; omega)
  · rw [Nat.min_eq_right (by omega), Nat.sub_self, List.take_zero, List.drop_eq_nil_of_le (by omega)]
theorem sls1 {z : Str} (h : z.length ≤ sizeLine) : fSl (.str z) (some 1) none = some (.str (tailS z)) := by
  show (if _ then _ else _) = _
  rw [if_pos h, cutS_1]
theorem tail_tl (z : Str) : (tailS z).cps.toList = z.cps.toList.drop 1 := ofL_tl _
theorem append_tl (a b : Str) : (a ++ b).cps.toList = a.cps.toList ++ b.cps.toList := TL.tl_append a b
theorem sign_tl (c : Nat) : (⟨#[c]⟩ : Str).cps.toList = [c] := rfl
/-- the first letter exchanged -/
theorem nm_sign {z : Str} {c : Nat} (h : IsNm z) (hc : 97 ≤ c ∧ c ≤ 122) : IsNm (⟨#[c]⟩ ++ tailS z) := by
  obtain ⟨h1, h2, h3⟩ := h
  have e : (⟨#[c]⟩ ++ tailS z : Str).cps.toList = c :: z.cps.toList.drop 1 := by rw [append_tl, sign_tl, tail_tl]; rfl
  refine ⟨fun x hx => ?_, ?_, ?_⟩
  · rw [e] at hx
    rcases List.mem_cons.mp hx with rfl | hx
    · exact hc
    · exact h1 x (List.mem_of_mem_drop hx)
  · rw [len_cps, e, List.length_cons]; omega
  · rw [len_cps, e, List.length_cons, List.length_drop, ← len_cps]; omega
theorem sign_inj {z : Str} {c d : Nat} (h : (⟨#[c]⟩ ++ tailS z : Str) = ⟨#[d]⟩ ++ tailS z) : c = d := by
  have := congrArg (fun z : Str => z.cps.toList) h
  simp only [append_tl, sign_tl, List.cons_append, List.cons.injEq] at this
  exact this.1
theorem ofL_nm {cs : List Nat} (h : ∀ c ∈ cs, 97 ≤ c ∧ c ≤ 122) (h1 : 1 ≤ cs.length) (h8 : cs.length ≤ 8) : IsNm (ofL cs) := ⟨by rw [ofL_tl]; exact h, by rw [ofL_len]; exact h1, by rw [ofL_len]; exact h8⟩
/-- as many unlike things as are in a list are not more than it has -/
theorem nodup_le {α : Type} [DecidableEq α] : ∀ {l f : List α}, l.Nodup → (∀ x ∈ l, x ∈ f) → l.length ≤ f.length
  | [], _, _, _ => Nat.zero_le _
  | x :: l, f, hn, h => by
    have hx := h x List.mem_cons_self
    have hn' := List.nodup_cons.mp hn
    have := nodup_le (l := l) (f := f.erase x) hn'.2 fun y hy => by
      have ne : y ≠ x := fun e => hn'.1 (e ▸ hy)
      exact (List.mem_erase_of_ne ne).mpr (h y (List.mem_cons_of_mem _ hy))
    rw [List.length_erase_of_mem hx] at this
    have := List.length_pos_of_mem hx
    rw [List.length_cons]
    omega
def lettersS : Str := "abcdefghijklmnopqrstuvwxyz"
def lettersL : List Nat := (List.range 26).map (97 + ·)
theorem letters_tl : lettersS.cps.toList = lettersL := by decide +kernel
theorem letters_mem {c : Nat} (h : c ∈ lettersL) : 97 ≤ c ∧ c ≤ 122 := by
  obtain ⟨k, hk, rfl⟩ := List.mem_map.mp h
  have := List.mem_range.mp hk
  omega
theorem letters_nodup : lettersL.Nodup := by decide +kernel
theorem letters_signs : signsD lettersS = lettersL.map fun c => .str ⟨#[c]⟩ := by
  unfold signsD
  rw [letters_tl]
theorem letters_items : itemsD (.str lettersS) = some (signsD lettersS) := by
  show (if lettersS.length ≤ sizeLine then some (lettersS.cps.toList.map fun c => D.str ⟨#[c]⟩) else none) = _
  rw [if_pos (by rw [len_cps, letters_tl]; decide)]
  rfl
/-- the candidates for a name that is not yet found -/
def candS (w : Str) : List Str := w :: lettersL.map fun c => ⟨#[c]⟩ ++ tailS w
theorem cand_nm {w z : Str} (h : IsNm w) (hz : z ∈ candS w) : IsNm z := by
  rcases List.mem_cons.mp hz with rfl | hz
  · exact h
  · obtain ⟨c, hc, rfl⟩ := List.mem_map.mp hz
    exact nm_sign h (letters_mem hc)
theorem cand_new {w : Str} {found : List Str} (hf : found.length < 26) : (candS w).filter (fun z => !found.contains z) ≠ [] := by
  intro e
  have all : ∀ z ∈ candS w, z ∈ found := fun z hz => by
    have := List.filter_eq_nil_iff.mp e z hz
    simpa using this
  have := nodup_le (l := lettersL.map fun c => (⟨#[c]⟩ ++ tailS w : Str)) (f := found) (by
    refine List.pairwise_map.mpr (letters_nodup.imp ?_)
    exact fun ne z => ne (sign_inj z)) fun z hz => all z (List.mem_cons_of_mem _ hz)
  rw [List.length_map] at this
  have l26 : lettersL.length = 26 := by decide
  omega
end Vd
end
section
set_option Elab.async false
set_option linter.all false
set_option maxRecDepth 100000
set_option autoImplicit false
/-! Lists of texts held against the empty list. -/
namespace Vd
open PySem L2 PySem.Spec Vb
open PyProof.Rows hiding St
theorem toPys_strs : ∀ xs : List Str, toPys (xs.map .str) = some (xs.map .str)
  | [] => by simp [toPys]
  | x :: xs => by simp [toPys, toPy, toPys_strs xs]
theorem depth_strs : ∀ xs : List Str, PyData.depthAll (xs.map .str) = 0
  | [] => by simp [PyData.depthAll]
  | x :: xs => by simp [PyData.depthAll, PyData.depth, depth_strs xs]
theorem lay_strs : ∀ {xs : List Str}, (∀ z ∈ xs, PyData.strOk z = true) → PyData.canLayAll0 (xs.map .str) = true
  | [], _ => by simp [PyData.canLayAll0]
  | x :: xs, h => by
    rw [List.map_cons, PyData.canLayAll0, PyData.canLay0, h x List.mem_cons_self, lay_strs fun z hz => h z (List.mem_cons_of_mem _ hz)]
    rfl
theorem shaped_strs {xs : List Str} (h : ∀ z ∈ xs, PyData.strOk z = true) : SeqAt.shaped (.list (xs.map .str)) = true := by
  unfold SeqAt.shaped
  rw [PyData.canLay0, lay_strs h, PyData.depth, depth_strs]
  rfl
theorem eqv_nil (xs : List Str) : PyData.eqv (.list (xs.map .str)) (.list []) = xs.isEmpty := by
  rw [PyData.eqv]
  cases xs with
  | nil => rw [List.map_nil, PyData.eqvAll]; rfl
  | cons x xs => rw [List.map_cons, PyData.eqvAll]; rfl
theorem fNeD_nil {xs : List Str} (h : ∀ z ∈ xs, PyData.strOk z = true) : fNeD (.lst (xs.map .str)) (.lst []) = some (.bl (!xs.isEmpty)) := by
  unfold fNeD
  rw [toPy, toPys_strs, toPy, toPys, Option.map_some, Option.map_some, Option.bind_some, Option.bind_some, if_pos ⟨shaped_strs h, shaped_strs (xs := []) fun _ z => nomatch z⟩, eqv_nil]
theorem fEqD_nil {xs : List Str} (h : ∀ z ∈ xs, PyData.strOk z = true) : fEqD (.lst (xs.map .str)) (.lst []) = some (.bl xs.isEmpty) := by
  unfold fEqD
  rw [toPy, toPys_strs, toPy, toPys, Option.map_some, Option.map_some, Option.bind_some, Option.bind_some, if_pos ⟨shaped_strs h, shaped_strs (xs := []) fun _ z => nomatch z⟩, eqv_nil]
theorem nm_ok {z : Str} (h : IsNm z) : PyData.strOk z = true := by
  unfold PyData.strOk
  rw [← Array.all_toList, List.all_eq_true]
  intro c hc
  have := h.1 c hc
  exact decide_eq_true (by omega)
/-- a draw -/
theorem take_step {u : Int} {m : Nat} {R : D → Nat → Prop} (h0 : 0 < u) (h1 : u < 1073741824) (hm : 1 ≤ m) (r : ∀ (d n : Nat), (d : Int) < u → m = n + 1 → R (.int (d : Int)) n) : fTake [.pot, .int u] m R := by
  obtain ⟨n, rfl⟩ : ∃ n, m = n + 1 := ⟨m - 1, by omega⟩
  refine ⟨u, n, rfl, rfl, h0, h1, fun d d0 d1 => ?_⟩
  obtain ⟨k, rfl⟩ : ∃ k : Nat, d = (k : Int) := ⟨d.toNat, by omega⟩
  exact r k n d1 rfl
theorem of_step {s : D} {xs : List D} {m : Nat} {R : D → Nat → Prop} (hi : itemsD s = some xs) (h0 : 0 < xs.length) (h1 : xs.length < 1073741824) (hm : 1 ≤ m) (r : ∀ d ∈ xs, ∀ n, m = n + 1 → R d n) : fOf [.pot, s] m R := by
  obtain ⟨n, rfl⟩ : ∃ n, m = n + 1 := ⟨m - 1, by omega⟩
  exact ⟨s, xs, n, rfl, hi, h0, h1, rfl, fun d hd => r d hd n rfl⟩
/-- one of a list of texts -/
theorem of_strs {xs : List Str} {m : Nat} {R : D → Nat → Prop} (h0 : xs ≠ []) (h1 : xs.length ≤ 1000) (hm : 1 ≤ m) (r : ∀ z ∈ xs, ∀ n, m = n + 1 → R (.str z) n) : fOf [.pot, .lst (xs.map .str)] m R := by
  refine of_step rfl ?_ (by rw [List.length_map]; omega) hm fun d hd n e => ?_
  · rw [List.length_map]
    exact List.length_pos_iff.mpr h0
  · obtain ⟨z, hz, rfl⟩ := List.mem_map.mp hd
    exact r z hz n e
/-- if c: return ..; rest -/
theorem seq_ret {c : TDT} {r rest : TSD} {D : Ed} {ρ : Rho} {m : Nat} (b : Bool) (h : ∀ Q : Bool → Nat → Prop, Q b m → c ρ m Q) (t1 : b = true → r { D with nx := rest D } ρ m) (t : b = false → rest D ρ m) : sSeq (sIf c r sNil) rest D ρ m := by
  unfold sSeq sIf
  refine h _ ?_
  cases b
  · exact t rfl
  · exact t1 rfl
end Vd
end
section
set_option Elab.async false
set_option linter.all false
set_option maxRecDepth 100000
set_option autoImplicit false
/-! Stores side by side, with no tuple between. -/
namespace Vd
open PySem L2 PySem.Spec Vb
open PyProof.Rows hiding St
section
variable {X : Cx} {x y z : Str} {px py pz pt' pt2 pos : Pos} {a b c : Expr} {kt k2 : Nat} {t : TDA} {i j l : Nat}
def sPar (i j : Nat) (t : TDA) : TSD := fun D ρ m => t ρ m fun ds m1 => ∃ u v, ds = [u, v] ∧ D.nx ((ρ.set i (some (.d u))).set j (some (.d v))) m1
def sPar3 (i j l : Nat) (t : TDA) : TSD := fun D ρ m => t ρ m fun ds m1 => ∃ u v w, ds = [u, v, w] ∧ D.nx (((ρ.set i (some (.d u))).set j (some (.d v))).set l (some (.d w))) m1
theorem ds_par (hc : X.calm = true) (hN : X.N.Nodup) (ha : DA X [a, b] t) (hi : X.N[i]? = some x := by rfl) (hj : X.N[j]? = some y := by rfl) (hij : i ≠ j := by decide) (hx : X.env.scope.names.lookup x = some .local := by rfl) (hy : X.env.scope.names.lookup y = some .local := by rfl)
    (hw : swappedStores [.Tuple [.Name x px, .Name y py] kt pt'] (.Tuple [a, b] k2 pt2) X.env = pure (some [x, y]) := by rfl) :
    DS X (.Assign [.Tuple [.Name x px, .Name y py] kt pt'] (.Tuple [a, b] k2 pt2) pos) (sPar i j t) := by
  refine ⟨ps_wk' (ps_par hc hN hi hj hij hx hy ha.pa hw) ?_, fun _ _ ρ m l q => ha.mn _ _ _ _ (fun ds n ⟨u, v, h1, h2⟩ => ⟨u, v, h1, l.nx _ _ h2⟩) q⟩
  rintro D σ H ⟨pt, S0, H0, S, ρ, m, E, h⟩
  refine ⟨pt, S0, H0, S, ρ, m, E, ha.mn _ _ _ _ (fun ds m1 h1 vs H1 e1 E1 x1 => ?_) h⟩
  obtain ⟨u, v, rfl, h1⟩ := h1
  obtain ⟨p, q, rfl, d1, d2⟩ := x1.two
  exact ⟨p, q, rfl, h1 _ _ _ ((E1.set d1).set d2) (E.wo e1)⟩
theorem ds_par3 (hc : X.calm = true) (hN : X.N.Nodup) (ha : DA X [a, b, c] t) (hi : X.N[i]? = some x := by rfl) (hj : X.N[j]? = some y := by rfl) (hl : X.N[l]? = some z := by rfl) (hij : i ≠ j := by decide) (hil : i ≠ l := by decide) (hjl : j ≠ l := by decide)
    (hx : X.env.scope.names.lookup x = some .local := by rfl) (hy : X.env.scope.names.lookup y = some .local := by rfl) (hz : X.env.scope.names.lookup z = some .local := by rfl)
    (hw : swappedStores [.Tuple [.Name x px, .Name y py, .Name z pz] kt pt'] (.Tuple [a, b, c] k2 pt2) X.env = pure (some [x, y, z]) := by rfl) :
    DS X (.Assign [.Tuple [.Name x px, .Name y py, .Name z pz] kt pt'] (.Tuple [a, b, c] k2 pt2) pos) (sPar3 i j l t) := by
  refine ⟨ps_wk' (ps_par3 hc hN hi hj hl hij hil hjl hx hy hz ha.pa hw) ?_, fun _ _ ρ m l q => ha.mn _ _ _ _ (fun ds n ⟨u, v, w, h1, h2⟩ => ⟨u, v, w, h1, l.nx _ _ h2⟩) q⟩
  rintro D σ H ⟨pt, S0, H0, S, ρ, m, E, h⟩
  refine ⟨pt, S0, H0, S, ρ, m, E, ha.mn _ _ _ _ (fun ds m1 h1 vs H1 e1 E1 x1 => ?_) h⟩
  obtain ⟨u, v, w, rfl, h1⟩ := h1
  cases x1 with
  | cons d1 r =>
    obtain ⟨p, q, rfl, d2, d3⟩ := r.two
    exact ⟨_, p, q, rfl, h1 _ _ _ (((E1.set d1).set d2).set d3) (E.wo e1)⟩
/-- x, y = list(e), [] with no tuple between -/
theorem ds_parL {e : Expr} {te : TD} {p cp pl : Pos} (hc : X.calm = true) (hN : X.N.Nodup) (hg : Gl X "list") (hm : X.mg "list" = none) (he : DE X e te) (hi : X.N[i]? = some x := by rfl) (hj : X.N[j]? = some y := by rfl) (hij : i ≠ j := by decide) (hx : X.env.scope.names.lookup x = some .local := by rfl) (hy : X.env.scope.names.lookup y = some .local := by rfl)
    (hw : swappedStores [.Tuple [.Name x px, .Name y py] kt pt'] (.Tuple [.Call (.Name "list" p) [e] [] cp, .List [] pl] k2 pt2) X.env = pure (some [x, y]) := by rfl)
    (s1 : starEach [.Call (.Name "list" p) [e] [] cp, .List [] pl] X.env = (false, eval (.Call (.Name "list" p) [e] [] cp) X.env) :: starEach [.List [] pl] X.env := by rfl) (s2 : starEach [.List [] pl] X.env = (false, eval (.List [] pl) X.env) :: starEach [] X.env := by rfl)
    (s3 : starEach [e] X.env = (false, eval e X.env) :: starEach [] X.env := by rfl) (hpl : (backTo cp (starEach [] X.env)).any (·.1) = false := by rfl) :
    DS X (.Assign [.Tuple [.Name x px, .Name y py] kt pt'] (.Tuple [.Call (.Name "list" p) [e] [] cp, .List [] pl] k2 pt2) pos) (sOwnL i j te) := by
  refine ⟨ps_wk' (ps_par hc hN hi hj hij hx hy (pa_cons (pe_callTy call_list_of hg hm (by decide +kernel) (pa_cons he.pe pa_nil s3) (by decide) (by decide) s3 hpl) (pa_cons (pe_lst pa_nil) pa_nil s2) s1) hw) ?_, fun a b ρ m l q => he.mn _ _ _ _ (fun d n ⟨ds, h1, h2, h3, h4, h5⟩ => ⟨ds, h1, h2, h3, h4, fun a b z => l.nx _ _ (h5 a b z)⟩) q⟩
  rintro D σ H ⟨pt, S0, H0, S, ρ, m, E, h⟩
  refine ⟨pt, S0, H0, S, ρ, m, E, he.mn _ _ _ _ (fun d m1 h1 v H1 e1 E1 x1 => ?_) h⟩
  obtain ⟨ds, rfl, li, lj, nij, h1⟩ := h1
  cases x1 with
  | lst hv x1 =>
    rename_i a0 vs
    refine ⟨a0, vs, rfl, .inl (SqL.of (Wo.sub _ _ _ _ hv)), fun p hp => ?_⟩
    obtain ⟨E2, h0, hpt, hn, nS, wo⟩ := E1.newO (o := .lst vs) hp
    refine ⟨by decide, fun r hr => ?_⟩
    obtain ⟨E3, g0, hrt, gn, gS, wo3⟩ := E2.newO (o := .lst []) hr
    have hp2 : upd H1 p (.lst vs) p = some (.lst vs) := upd_same
    have npr : p ≠ r := ne_of_none hp2 hr
    have hp3 : upd (upd H1 p (.lst vs)) r (.lst []) p = some (.lst vs) := by rw [upd_ne npr]; exact hp2
    have E5 := E3.ownAt (i := i) (List.mem_cons_of_mem _ List.mem_cons_self) h0 hpt hn hp3 ((x1.mono wo).mono wo3) li
    have E6 := E5.ownAt (i := j) (vs := []) (ds := []) List.mem_cons_self g0 hrt (fun k es z => by
      by_cases e : i = k
      · subst e
        rw [List.getElem?_set_self li] at z
        cases z
        exact npr rfl
      · rw [List.getElem?_set_ne e] at z
        exact gn k es z) upd_same .nil (by rw [List.length_set]; exact lj)
    exact ⟨_, _, rfl, h1 p r hn _ _ _ E6 ((E.wo e1).trans (wo.trans wo3))⟩
end
end Vd
end
section
set_option Elab.async false
set_option linter.all false
set_option maxRecDepth 100000
set_option autoImplicit false
/-! A dict {"room", "boxes", "rows"} of one's own: made, its rows exchanged, returned. -/
namespace Vd
open PySem L2 PySem.Spec Vb
open PyProof.Rows hiding St
mutual
/-- no dict, no instance in it -/
def noDk : D → Bool
  | .non | .bl _ | .int _ | .str _ | .pot | .op _ => true
  | .lst xs => noDks xs
  | .tup xs => noDks xs
  | .dk _ | .ins _ _ => false
def noDks : List D → Bool
  | [] => true
  | d :: ds => noDk d && noDks ds
end
theorem noDks_all : ∀ {ds : List D}, noDks ds = ds.all noDk
  | [] => by rw [noDks]; rfl
  | d :: ds => by rw [noDks, List.all_cons, noDks_all]
section
variable {K : PySem.W.Frag} {pt : Option Addr} {S : List Addr} {H : Hp} {a : Addr} {hs : List (Key × V)}
theorem wo_hide (hk : H a = some (.dK hs)) {b : Addr} {o : HO} (h : Wo S H b = some o) (n : ∀ kv, o ≠ .dK kv) : Wo (a :: S) H b = some o := by
  obtain ⟨nb, h⟩ := Wo.some h
  have e : b ≠ a := fun e => by
    rw [e, hk] at h
    cases h
    exact n _ rfl
  rw [Wo.out (by simp only [List.mem_cons, not_or]; exact ⟨e, nb⟩)]
  exact h
theorem sqT_hide (hk : H a = some (.dK hs)) {b : Addr} {xs : List V} (h : SqT K (Wo S H) b xs) : SqT K (Wo (a :: S) H) b xs := by
  rcases h with (h | ⟨o, h⟩) | h
  · exact .inl (.inl (wo_hide hk h fun _ z => nomatch z))
  · exact .inl (.inr ⟨o, wo_hide hk h fun _ z => nomatch z⟩)
  · exact .inr h
mutual
/-- what has no dict in it does not hang on a dict -/
theorem Dn.hide (hk : H a = some (.dK hs)) : ∀ {v : V} {d : D}, Dn K pt (Wo S H) v d → noDk d = true → Dn K pt (Wo (a :: S) H) v d
  | _, _, .non, _ => .non
  | _, _, .bl b, _ => .bl b
  | _, _, .int i, _ => .int i
  | _, _, .str z, _ => .str z
  | _, _, .lst h r, n => by
    rw [noDk] at n
    exact .lst (wo_hide hk h fun _ z => nomatch z) (DnAll.hide hk r n)
  | _, _, .tup h r, n => by
    rw [noDk] at n
    exact .tup (sqT_hide hk h) (DnAll.hide hk r n)
  | _, _, .dk _ _ _, n => by rw [noDk] at n; cases n
  | _, _, .ins _ _ _, n => by rw [noDk] at n; cases n
  | _, _, .pot h, _ => .pot h
  | _, _, .op v, _ => .op v
theorem DnAll.hide (hk : H a = some (.dK hs)) : ∀ {vs : List V} {ds : List D}, DnAll K pt (Wo S H) vs ds → noDks ds = true → DnAll K pt (Wo (a :: S) H) vs ds
  | _, _, .nil, _ => .nil
  | _, _, .cons h r, n => by
    rw [noDks, Bool.and_eq_true] at n
    exact .cons (Dn.hide hk h n.1) (DnAll.hide hk r n.2)
end
end
abbrev kR : Key := .inr "room"
abbrev kB : Key := .inr "boxes"
abbrev kW : Key := .inr "rows"
def own3 (d1 d2 d3 : D) : List (Key × D) := [(kR, d1), (kB, d2), (kW, d3)]
/-- the dict at a is one's own, slot i stands for it; all else does not hang on it -/
structure OSt (K : PySem.W.Frag) (pt : Option Addr) (S0 : List Addr) (H0 : Hp) (S : List Addr) (i : Nat) (a : Addr) (σ : St) (H : Hp) (ρ : Rho) (m : Nat) (d1 d2 d3 : D) : Prop where
  ev : Ev K pt S0 H0 (a :: S) σ H ρ m
  nS : a ∉ S
  sl : σ[i]? = some (some (.ref a))
  h0 : H0 a = none
  hp : pt ≠ some a
  no : ∀ (j : Nat) (ds : List D), ρ[j]? ≠ some (some (.own a ds))
  rn : ρ[i]? = some none
  ct : ∃ v1 v2 v3, H a = some (.dK [(kR, v1), (kB, v2), (kW, v3)]) ∧ Dn K pt (Wo (a :: S) H) v1 d1 ∧ Dn K pt (Wo (a :: S) H) v2 d2 ∧ Dn K pt (Wo (a :: S) H) v3 d3
section
variable {K : PySem.W.Frag} {pt : Option Addr} {S0 S : List Addr} {H0 H H1 : Hp} {σ : St} {ρ : Rho} {m m1 : Nat} {d1 d2 d3 d : D} {i j : Nat} {a : Addr}
theorem Ev.know (E : Ev K pt S0 H0 S σ H ρ m) {v : V} (hv : σ[i]? = some (some v)) (h : Dn K pt (Wo S H) v d) : Ev K pt S0 H0 S σ H (ρ.set i (some (.d d))) m := by
  have e : σ.set i (some v) = σ := by
    apply List.ext_getElem?
    intro k
    by_cases z : i = k
    · subst z
      rw [List.getElem?_set_self (List.getElem?_eq_some_iff.mp hv).1, hv]
    · rw [List.getElem?_set_ne z]
  have := E.set (i := i) h
  rwa [e] at this
theorem OSt.vis (O : OSt K pt S0 H0 S i a σ H ρ m d1 d2 d3) : Ev K pt S0 H0 S σ H (ρ.set i (some (.d (.dk (own3 d1 d2 d3))))) m := by
  obtain ⟨v1, v2, v3, h, r1, r2, r3⟩ := O.ct
  have w : Same (Wo (a :: S) H) (Wo S H) := Wo.less fun b hb => List.mem_cons_of_mem _ hb
  exact (O.ev.dropO O.nS O.no O.h0).know O.sl (.dk (hs := [(kR, v1), (kB, v2), (kW, v3)]) (by rw [Wo.out O.nS]; exact h) rfl (.cons (Dn.mono w r1) (.cons (Dn.mono w r2) (.cons (Dn.mono w r3) .nil))))
theorem OSt.step (O : OSt K pt S0 H0 S i a σ H ρ m d1 d2 d3) (e : SameX pt H H1) (p : PotX pt H1 m1) : OSt K pt S0 H0 S i a σ H1 ρ m1 d1 d2 d3 := by
  obtain ⟨v1, v2, v3, h, r1, r2, r3⟩ := O.ct
  have w := O.ev.wo e
  exact ⟨O.ev.step e p, O.nS, O.sl, O.h0, O.hp, O.no, O.rn, v1, v2, v3, e _ _ O.hp h, Dn.mono w r1, Dn.mono w r2, Dn.mono w r3⟩
theorem OSt.hide (O : OSt K pt S0 H0 S i a σ H ρ m d1 d2 d3) {v : V} (r : Dn K pt (Wo S H) v d) (n : noDk d = true) : Dn K pt (Wo (a :: S) H) v d := by
  obtain ⟨v1, v2, v3, h, _⟩ := O.ct
  exact Dn.hide h r n
/-- a local name gets a datum -/
theorem OSt.set (O : OSt K pt S0 H0 S i a σ H ρ m d1 d2 d3) {v : V} (nij : i ≠ j) (r : Dn K pt (Wo (a :: S) H) v d) : OSt K pt S0 H0 S i a (σ.set j (some v)) H (ρ.set j (some (.d d))) m d1 d2 d3 := by
  refine ⟨O.ev.set r, O.nS, by rw [List.getElem?_set_ne (fun z => nij z.symm)]; exact O.sl, O.h0, O.hp, fun k ds => ?_, by rw [List.getElem?_set_ne (fun z => nij z.symm)]; exact O.rn, O.ct⟩
  by_cases e : j = k
  · subst e
    by_cases l : j < ρ.length
    · rw [List.getElem?_set_self l]
      exact fun z => nomatch z
    · rw [List.getElem?_eq_none (by rw [List.length_set]; omega)]
      exact fun z => nomatch z
  · rw [List.getElem?_set_ne e]
    exact O.no k ds
/-- own["rows"] = v -/
theorem OSt.put (O : OSt K pt S0 H0 S i a σ H ρ m d1 d2 d3) {v v1 v2 v3 : V} (h : H a = some (.dK [(kR, v1), (kB, v2), (kW, v3)])) (r : Dn K pt (Wo (a :: S) H) v d) : OSt K pt S0 H0 S i a σ (upd H a (.dK [(kR, v1), (kB, v2), (kW, v)])) ρ m d1 d2 d := by
  obtain ⟨u1, u2, u3, h', r1, r2, r3⟩ := O.ct
  rw [h] at h'
  cases h'
  have w : Same (Wo (a :: S) H) (Wo (a :: S) (upd H a (.dK [(kR, v1), (kB, v2), (kW, v)]))) := fun b o q => by
    obtain ⟨n, q⟩ := Wo.some q
    have nb : b ≠ a := fun e => n (by rw [e]; exact List.mem_cons_self)
    rw [Wo.out n, upd_ne nb]
    exact q
  exact ⟨O.ev.updO List.mem_cons_self O.h0 O.hp O.no, O.nS, O.sl, O.h0, O.hp, O.no, O.rn, v1, v2, v, upd_same, Dn.mono w r1, Dn.mono w r2, Dn.mono w r⟩
end
abbrev TSO := D → Rho → Nat → (D → Rho → Nat → Prop) → (D → Nat → Prop) → Prop
def lfOwn (K : PySem.W.Frag) (i : Nat) (d1 d2 : D) (t : TSO) : TS := fun D σ H => ∃ pt S0 H0 S a ρ m d3, OSt K pt S0 H0 S i a σ H ρ m d1 d2 d3 ∧
  t d3 ρ m (fun d' ρ' m' => ∀ σ' H' S', OSt K pt S0 H0 S' i a σ' H' ρ' m' d1 d2 d' → D.nx σ' H') fun d m' => ∀ v H', SameX pt H0 H' → PotX pt H' m' → Dn K pt (Wo S0 H') v d → D.rt v H'
def MnO (t : TSO) : Prop := ∀ d ρ m (N N' : D → Rho → Nat → Prop) (R R' : D → Nat → Prop), (∀ d ρ m, N d ρ m → N' d ρ m) → (∀ d m, R d m → R' d m) → t d ρ m N R → t d ρ m N' R'
structure OS (X : Cx) (i : Nat) (d1 d2 : D) (st : List Stmt) (t : TSO) : Prop where
  pss : PSs X st (lfOwn X.K i d1 d2 t)
  mn : MnO t
section
variable {X : Cx} {i j : Nat} {d1 d2 : D} {rest a b : List Stmt} {t u r : TSO} {c e ix : Expr} {pos pos' : Pos} {te ti : TD} {tc : TDT} {x : Str} {o : Expr}
def visR (i : Nat) (d1 d2 d3 : D) (ρ : Rho) : Rho := ρ.set i (some (.d (.dk (own3 d1 d2 d3))))
def oNil : TSO := fun d ρ m N _ => N d ρ m
theorem o_nil : OS X i d1 d2 [] oNil := by
  refine ⟨pss_wk' pss_nil ?_, fun d ρ m N N' R R' w _ q => w _ _ _ q⟩
  rintro D σ H ⟨pt, S0, H0, S, a, ρ, m, d3, O, q⟩
  exact q _ _ _ O
def oIf (i : Nat) (d1 d2 : D) (tc : TDT) (t u r : TSO) : TSO := fun d ρ m N R => tc (visR i d1 d2 d ρ) m fun b m1 => if b = true then t d ρ m1 (fun d ρ m => r d ρ m N R) R else u d ρ m1 (fun d ρ m => r d ρ m N R) R
theorem o_if (hc : DT X c tc) (ha : OS X i d1 d2 a t) (hb : OS X i d1 d2 b u) (hr : OS X i d1 d2 rest r) : OS X i d1 d2 (.If c a b pos :: rest) (oIf i d1 d2 tc t u r) := by
  refine ⟨pss_wk' (pss_cons (ps_if hc.pt ha.pss hb.pss) hr.pss) ?_, fun d ρ m N N' R R' w w' q => hc.mn _ _ _ _ (fun k n q => by
    cases k
    · exact hb.mn _ _ _ _ _ _ _ (fun d ρ m q => hr.mn _ _ _ _ _ _ _ w w' q) w' q
    · exact ha.mn _ _ _ _ _ _ _ (fun d ρ m q => hr.mn _ _ _ _ _ _ _ w w' q) w' q) q⟩
  rintro D σ H ⟨pt, S0, H0, S, a, ρ, m, d3, O, q⟩
  refine ⟨pt, S0, H0, S, _, m, O.vis, hc.mn _ _ _ _ (fun k m1 h1 H1 e1 E1 => ?_) q⟩
  have O1 := O.step e1 E1.pot
  cases k
  · exact ⟨pt, S0, H0, S, a, ρ, m1, d3, O1, hb.mn _ _ _ _ _ _ _ (fun d ρ m z σ' H' S' O' => ⟨pt, S0, H0, S', a, ρ, m, d, O', z⟩) (fun _ _ z => z) h1⟩
  · exact ⟨pt, S0, H0, S, a, ρ, m1, d3, O1, ha.mn _ _ _ _ _ _ _ (fun d ρ m z σ' H' S' O' => ⟨pt, S0, H0, S', a, ρ, m, d, O', z⟩) (fun _ _ z => z) h1⟩
def oSet (i : Nat) (d1 d2 : D) (j : Nat) (te : TD) (r : TSO) : TSO := fun d ρ m N R => te (visR i d1 d2 d ρ) m fun x m1 => noDk x = true ∧ i ≠ j ∧ r d (ρ.set j (some (.d x))) m1 N R
theorem o_set (hN : X.N.Nodup) (hi : X.N[j]? = some x) (hx : Loc X.env.scope x) (he : DE X e te) (hr : OS X i d1 d2 rest r) (hs : swapsWith e (some (.Name x pos')) pos.line X.env = pure false := by rfl) (hf : X.fn x = true ∨ X.env.scope.names.lookup x = some .local := by first | exact .inl rfl | exact .inr rfl | assumption) :
    OS X i d1 d2 (.Assign [.Name x pos'] e pos :: rest) (oSet i d1 d2 j te r) := by
  refine ⟨pss_wk' (pss_cons (ps_set hN hi hx he.pe hs hf) hr.pss) ?_, fun d ρ m N N' R R' w w' q => he.mn _ _ _ _ (fun y n ⟨h1, h2, q⟩ => ⟨h1, h2, hr.mn _ _ _ _ _ _ _ w w' q⟩) q⟩
  rintro D σ H ⟨pt, S0, H0, S, a, ρ, m, d3, O, q⟩
  refine ⟨pt, S0, H0, S, _, m, O.vis, he.mn _ _ _ _ (fun y m1 h1 v H1 e1 E1 x1 => ?_) q⟩
  obtain ⟨h1, h2, h3⟩ := h1
  have O1 := O.step e1 E1.pot
  exact ⟨pt, S0, H0, S, a, _, m1, d3, O1.set h2 (O1.hide x1 h1), h3⟩
def oPut (i : Nat) (d1 d2 : D) (te : TD) (r : TSO) : TSO := fun d ρ m N R => te (visR i d1 d2 d ρ) m fun x m1 => noDk x = true ∧ r x ρ m1 N R
theorem o_put {jj : Nat} {p1 : Pos} (hu : X.A.units + 1 < cLine) (hv : PE X o (tVar i)) (he : DE X e te) (hr : OS X i d1 d2 rest r) (pg : PG X (.Subscript o (.Constant (.str "rows") jj p1) pos') (gSub (tVar i) (tC (.str "rows")) rSetD)) (hs : swapsWithSole [.Subscript o (.Constant (.str "rows") jj p1) pos'] e pos.line X.env = pure false := by rfl) (hw : swappedStores [.Subscript o (.Constant (.str "rows") jj p1) pos'] e X.env = pure none := by rfl)
    (h1 : (assignEach [.Subscript o (.Constant (.str "rows") jj p1) pos'] X.env).map (·.2) = [assign (.Subscript o (.Constant (.str "rows") jj p1) pos') X.env] := by rfl) :
    OS X i d1 d2 (.Assign [.Subscript o (.Constant (.str "rows") jj p1) pos'] e pos :: rest) (oPut i d1 d2 te r) := by
  refine ⟨pss_wk' (pss_cons (ps_asg he.pe pg hs hw h1) hr.pss) ?_, fun d ρ m N N' R R' w w' q => he.mn _ _ _ _ (fun y n ⟨h1, q⟩ => ⟨h1, hr.mn _ _ _ _ _ _ _ w w' q⟩) q⟩
  rintro D σ H ⟨pt, S0, H0, S, a, ρ, m, d3, O, q⟩
  refine ⟨pt, S0, H0, S, _, m, O.vis, he.mn _ _ _ _ (fun y m1 h1 v H1 e1 E1 x1 => ?_) q⟩
  obtain ⟨h1, h3⟩ := h1
  have O1 := O.step e1 E1.pot
  obtain ⟨v1, v2, v3, hd, _⟩ := O1.ct
  exact ⟨_, O1.sl, a, _, rfl, DPut.k (k := kW) hd (by show 3 < sizeLine; decide), pt, S0, H0, S, a, ρ, m1, y, O1.put hd (O1.hide x1 h1), h3⟩
def oRet (d1 d2 : D) : TSO := fun d _ m _ R => R (.dk (own3 d1 d2 d)) m
theorem o_ret (hv : PE X o (tVar i)) : OS X i d1 d2 [.Return (some o) pos] (oRet d1 d2) := by
  refine ⟨pss_wk' (pss_one (ps_ret hv)) ?_, fun d ρ m N N' R R' _ w q => w _ _ q⟩
  rintro D σ H ⟨pt, S0, H0, S, a, ρ, m, d3, O, q⟩
  obtain ⟨v1, v2, v3, h, r1, r2, r3⟩ := O.ct
  have w : Same (Wo (a :: S) H) (Wo S0 H) := (Wo.less fun b hb => List.mem_cons_of_mem _ hb).trans (Wo.less fun b hb => by
    have := O.ev.inc b hb
    rcases List.mem_cons.mp this with z | z
    · exact absurd (z ▸ O.h0) (O.ev.dom0 b hb)
    · exact z)
  refine ⟨_, O.sl, q _ H O.ev.frm O.ev.pot (.dk (hs := [(kR, v1), (kB, v2), (kW, v3)]) ?_ rfl (.cons (Dn.mono w r1) (.cons (Dn.mono w r2) (.cons (Dn.mono w r3) .nil))))⟩
  exact h |> fun h => by rw [Wo.out fun z => O.ev.dom0 a z O.h0]; exact h
end
end Vd
end
section
set_option Elab.async false
set_option linter.all false
set_option maxRecDepth 100000
set_option autoImplicit false
set_option maxHeartbeats 1000000
/-! The dict of one's own: made; a fresh list put into it, one of its items exchanged. -/
namespace Vd
open PySem L2 PySem.Spec Vb
open PyProof.Rows hiding St
/-- what gives a new list: nothing hangs on it but what it is given to -/
def lfF (K : PySem.W.Frag) (t : TD) : TE := fun σ H Q => ∃ pt S0 H0 S ρ m, Ev K pt S0 H0 S σ H ρ m ∧ t ρ m fun d m' => ∀ p vs H', H p = none → pt ≠ some p → SameX pt H H' → Ev K pt S0 H0 S σ H' ρ m' → H' p = some (.lst vs) → (∃ fs, d = .lst fs ∧ DnAll K pt (Wo (p :: S) H') vs fs) → Q (.ref p) H'
theorem lf_lcF {K : PySem.W.Frag} {wi : TI} {ti : TDA} {g : TG} {f : TgD} {tt : TDT} {te : TD} {vs ws : List Nat} {tT : TT} (iz : IS K wi ti) (gs : GS K g f ws) (hw : ∀ i ∈ ws, i ∈ vs) (mt : MnT tt) (me : MnE te) (htT : ∀ σ H Q, lfT K tt σ H Q → tT σ H Q) :
    ∀ σ H Q, lfF K (dLc ti f tt te vs) σ H Q → tLc wi g tT (lfE K te) vs σ H Q := by
  rintro σ H Q ⟨pt, S0, H0, S, ρ, m, E, h⟩
  refine iz.2 _ _ _ ⟨pt, S0, H0, S, ρ, m, E, iz.1 _ _ _ _ (fun ds m1 h1 H1 J e1 E1 it => ?_) h⟩
  intro D hD
  obtain ⟨ED, h0, hp, hn, nS, wo⟩ := E1.newO (o := .lst []) hD
  refine ⟨fun i n H' => n = ds.length - i ∧ i ≤ ds.length ∧ ∃ accv accd m', Ev K pt S0 H0 (D :: S) σ H' ρ m' ∧ SameX pt H1 H' ∧ H' D = some (.lst accv) ∧ DnAll K pt (Wo (D :: S) H') accv accd ∧ lcD f tt te vs ρ (ds.drop i) accd m' fun acc m2 => ∀ p vs H'', H p = none → pt ≠ some p → SameX pt H H'' → Ev K pt S0 H0 S σ H'' ρ m2 → H'' p = some (.lst vs) → (∃ fs, Vd.D.lst acc = .lst fs ∧ DnAll K pt (Wo (p :: S) H'') vs fs) → Q (.ref p) H'', ?_, ?_⟩
  · exact ⟨_, rfl, Nat.zero_le _, [], [], m1, ED, .of (Same.new hD), upd_same, .nil, h1⟩
  · rintro i n H' ⟨rfl, hi, accv, accd, m', E', s1, hA, dA, hl⟩
    have ssm : Same (Wo S H1) (Wo (D :: S) H') := fun b o q => by
      obtain ⟨nb, q⟩ := Wo.some q
      have nbD : b ≠ D := ne_of_none q hD
      rw [Wo.out (by simp only [List.mem_cons, not_or]; exact ⟨nbD, nb⟩)]
      exact s1 b o (fun z => nb (E1.pS b z)) q
    obtain ⟨go, stop⟩ := it i (D :: S) H' ssm E'.dom
    by_cases hlt : i < ds.length
    · obtain ⟨g1, g2⟩ := go ds[i] (List.getElem?_eq_getElem hlt)
      rw [List.drop_eq_getElem_cons hlt] at hl
      obtain ⟨ρ', e', hl⟩ := hl
      refine .inr ⟨g1, fun H'' => ∃ accv accd m', Ev K pt S0 H0 (D :: S) σ H'' ρ m' ∧ SameX pt H1 H'' ∧ H'' D = some (.lst accv) ∧ DnAll K pt (Wo (D :: S) H'') accv accd ∧ lcD f tt te vs ρ (ds.drop (i + 1)) accd m' fun acc m2 => ∀ p vs H'', H p = none → pt ≠ some p → SameX pt H H'' → Ev K pt S0 H0 S σ H'' ρ m2 → H'' p = some (.lst vs) → (∃ fs, Vd.D.lst acc = .lst fs ∧ DnAll K pt (Wo (p :: S) H'') vs fs) → Q (.ref p) H'', fun H'' q => ⟨_, Nat.sub_lt_sub_left hlt (Nat.lt_succ_self i), rfl, hlt, q⟩, fun x H2 hy => ?_⟩
      obtain ⟨sm2, dx⟩ := g2 x H2 hy
      have E2 := E'.same sm2
      refine gs pt S0 (D :: S) H0 H2 _ _ ρ' m' x _ _ (E2.wipe vs) dx e' fun σ2 E3 ag => ⟨(Agree.wipe (ag.more hw)).trans (wipe_wipe vs σ), htT _ _ _ ⟨pt, S0, H0, D :: S, ρ', m', E3, mt _ _ _ _ (fun b m3 h3 H3 e3 E4 => ?_) hl⟩⟩
      · have back : ∀ {H4 : Hp} {m4 : Nat}, Ev K pt S0 H0 (D :: S) σ2 H4 ρ' m4 → SameX pt H2 H4 → Ev K pt S0 H0 (D :: S) σ H4 ρ m4 := fun {H4 m4} E4 s => E2.step s E4.pot
        cases b
        · exact ⟨accv, accd, m3, back E4 e3, s1.trans ((SameX.of sm2).trans e3), e3 _ _ hp (sm2 _ _ hA), dA.mono ((Wo.same sm2).trans (E2.wo e3)), h3⟩
        · refine ⟨pt, S0, H0, D :: S, ρ', m3, E4, me _ _ _ _ (fun y m4 h4 v H4 e4 E5 dy => ?_) h3⟩
          obtain ⟨l, h4⟩ := h4
          have hA4 : H4 D = some (.lst accv) := e4 _ _ hp (e3 _ _ hp (sm2 _ _ hA))
          have dA4 := dA.mono ((Wo.same sm2).trans ((E2.wo e3).trans (E4.wo e4)))
          have wo5 : Same (Wo (D :: S) H4) (Wo (D :: S) (upd H4 D (.lst (accv ++ [v])))) := fun b o q => by
            obtain ⟨nb, q⟩ := Wo.some q
            rw [Wo.out nb, upd_ne fun z => nb (by rw [z]; exact List.mem_cons_self)]
            exact q
          have nO : ∀ (i : Nat) (ds : List Vd.D), ρ[i]? ≠ some (some (.own D ds)) := hn
          refine ⟨accv, hA4, by rw [dA.length]; exact l, accv ++ [v], accd ++ [y], m4, (back E5 (e3.trans e4)).updO List.mem_cons_self h0 hp nO, fun b o nb q => ?_, upd_same, (dA4.mono wo5).append (.cons (dy.mono wo5) .nil), h4⟩
          rw [upd_ne (ne_of_none q hD)]
          exact e4 b o nb (e3 b o nb (sm2 b o (s1 b o nb q)))
    · have e : i = ds.length := by omega
      subst e
      rw [List.drop_length] at hl
      have E6 := E'.dropO nS hn h0
      exact .inl ⟨stop rfl, hl D accv H' (by
        cases z : H D with
        | none => rfl
        | some o => rw [e1 D o hp z] at hD; cases hD) hp (e1.trans s1) E6 hA ⟨accd, rfl, dA⟩⟩

section
variable {X : Cx} {i j : Nat} {d1 d2 : D} {rest : List Stmt} {r : D → D → TSO} {c e ix lc : Expr} {pos pos' spos : Pos} {te ti tl : TD} {tc : TDT} {x : Str} {o : Expr} {keys : List (Option Expr)} {values : List Expr} {t : TDA}
def sStart (i : Nat) (t : TDA) (r : D → D → TSO) : TSD := fun D ρ m => t ρ m fun ds m1 => ∃ d1 d2 d3, ds = [d1, d2, d3] ∧ i < ρ.length ∧ r d1 d2 d3 (ρ.set i none) m1 (fun _ _ _ => False) D.rt
theorem o_start (hN : X.N.Nodup) (hi : X.N[i]? = some x) (hx : Loc X.env.scope x) (h : DPs X pos keys values [kR, kB, kW] t) (h0 : keys ≠ []) (hr : ∀ d1 d2, OS X i d1 d2 rest (r d1 d2)) (hs : swapsWith (.Dict keys values pos) (some (.Name x pos')) spos.line X.env = pure false := by rfl) (hf : X.fn x = true ∨ X.env.scope.names.lookup x = some .local := by first | exact .inl rfl | exact .inr rfl | assumption) :
    DSs X (.Assign [.Name x pos'] (.Dict keys values pos) spos :: rest) (sStart i t r) := by
  obtain ⟨trs, h1, h2, h3, h4, h5⟩ := h.ex
  have all : PSs X rest (fun D σ H => ∃ d1 d2, lfOwn X.K i d1 d2 (r d1 d2) D σ H) := ⟨fun pins s σ H D I ⟨d1, d2, q⟩ => (hr d1 d2).pss.run pins s σ H D I q⟩
  refine ⟨pss_wk' (pss_cons (ps_set hN hi hx (pe_disp h1 h2 h3 h0 (by rw [h4]; decide)) hs hf) all) ?_, fun a b ρ m l q => h.mn _ _ _ _ (fun ds n ⟨d1, d2, d3, g1, g2, g3⟩ => ⟨d1, d2, d3, g1, g2, (hr d1 d2).mn _ _ _ _ _ _ _ (fun _ _ _ z => z) l.rt g3⟩) q⟩
  rintro D σ H ⟨pt, S0, H0, S, ρ, m, E, hq⟩ p hp
  obtain ⟨E1, hz0, hpt, hno, nS, wo⟩ := E.newO (o := .dK []) hp
  refine h5 _ _ _ ⟨pt, S0, H0, p :: S, ρ, m, E1, h.mn _ _ _ _ (fun ds m1 q vs H1 e1 E2 x1 => ?_) hq⟩
  obtain ⟨d1, d2, d3, rfl, li, q⟩ := q
  have hH : H1 p = some (.dK []) := e1 _ _ hpt upd_same
  obtain ⟨v1, vr, rfl, a1, ar⟩ : ∃ v r, vs = v :: r ∧ Dn X.K pt (Wo (p :: S) H1) v d1 ∧ DnAll X.K pt (Wo (p :: S) H1) r [d2, d3] := by
    cases x1 with
    | cons a b => exact ⟨_, _, rfl, a, b⟩
  obtain ⟨v2, v3, rfl, a2, a3⟩ := ar.two
  have w : Same (Wo (p :: S) H1) (Wo (p :: S) (upd H1 p (.dK [(kR, v1), (kB, v2), (kW, v3)]))) := fun b o' q => by
    obtain ⟨n, q⟩ := Wo.some q
    have nb : b ≠ p := fun e => n (by rw [e]; exact List.mem_cons_self)
    rw [Wo.out n, upd_ne nb]
    exact q
  have E3 : Ev X.K pt S0 H0 (p :: S) (σ.set i (some (.ref p))) (upd H1 p (.dK [(kR, v1), (kB, v2), (kW, v3)])) (ρ.set i none) m1 := (E2.updO List.mem_cons_self hz0 hpt hno).forget
  refine ⟨hH, [(kR, v1), (kB, v2), (kW, v3)], rfl, (by show 3 ≤ 15; decide), ?_⟩
  have em : mergeK [] [(kR, v1), (kB, v2), (kW, v3)] = [(kR, v1), (kB, v2), (kW, v3)] := mergeK_new (by
    show ([kR, kB, kW] : List Key).Nodup
    decide)
  rw [em]
  refine ⟨d1, d2, pt, S0, H0, S, p, _, m1, d3, ⟨E3, nS, List.getElem?_set_self (by rw [E.len]; exact li), hz0, hpt, fun k fs z => ?_, List.getElem?_set_self li, v1, v2, v3, upd_same, Dn.mono w a1, Dn.mono w a2, Dn.mono w a3⟩, (hr d1 d2).mn _ _ _ _ _ _ _ (fun _ _ _ z => z.elim) (fun _ _ z => z) q⟩
  by_cases e : i = k
  · subst e
    rw [List.getElem?_set_self li] at z
    cases z
  · rw [List.getElem?_set_ne e] at z
    exact hno k fs z
theorem DnAll.setAt {K : PySem.W.Frag} {pt : Option Addr} {B : Hp} {v : V} {d : D} (h : Dn K pt B v d) : ∀ {vs : List V} {ds : List D}, DnAll K pt B vs ds → ∀ n, DnAll K pt B (vs.set n v) (ds.set n d)
  | _, _, .nil, _ => by simpa using DnAll.nil
  | _, _, .cons _ r, 0 => .cons h r
  | _, _, .cons q r, n + 1 => .cons q (DnAll.setAt h r n)
/-- own["rows"] = [.. for ..]; if c: own["rows"][ix] = e; return own -/
def oLast (i : Nat) (d1 d2 : D) (tl : TD) (tc : TDT) (ti te : TD) : TSO := fun d ρ m _ R => tl (visR i d1 d2 d ρ) m fun x m1 => ∃ rows, x = .lst rows ∧ noDks rows = true ∧ tc ρ m1 fun b m2 => if b = true then te ρ m2 fun y m3 => noDk y = true ∧ ti ρ m3 fun k m4 => ∃ n : Nat, k = .int (n : Int) ∧ n < rows.length ∧ R (.dk (own3 d1 d2 (.lst (rows.set n y)))) m4 else R (.dk (own3 d1 d2 (.lst rows))) m2
structure FL (X : Cx) (e : Expr) (t : TD) : Prop where
  ex : ∃ g, PE X e g ∧ ∀ σ H Q, lfF X.K t σ H Q → g σ H Q
  mn : MnE t
theorem fl_comp {elt tg iter : Expr} {ifs : List Expr} {scope : Scope} {own : List (Str × Nat)} {pos : Pos} {wi : TI} {ti : TDA} {g : TG} {f : TgD} {ws : List Nat} {tt : TDT} {tT : TT} {te : TD} (hc : X.calm = true) (hN : X.N.Nodup) (hi : DI X tg iter wi ti) (ok : BlkOk X.N X.env.scope scope own)
    (gs : GS X.K g f ws) (hw : ∀ i ∈ ws, i ∈ own.map (·.2))
    (hg : ∀ (s : Shared) (H : Hp) (C : Addr) (cl : List (Str × Addr)) (fp : List Addr), PG (X.blk s H scope (compEnvC scope cl C X.env) fp) tg g)
    (ht : ∀ (s : Shared) (H : Hp) (C : Addr) (cl : List (Str × Addr)) (fp : List Addr), DTs (X.blk s H scope (compEnvC scope cl C X.env) fp) ifs tt tT)
    (he : ∀ (s : Shared) (H : Hp) (C : Addr) (cl : List (Str × Addr)) (fp : List Addr), DE (X.blk s H scope (compEnvC scope cl C X.env) fp) elt te) (hs : ∀ x, foldedSetIterable iter X.env x = pure x := by intro _; rfl) :
    FL X (.ListComp elt [⟨tg, iter, ifs, 0⟩] scope pos) (dLc ti f tt te (own.map (·.2))) :=
  ⟨⟨_, pe_lc hc hN hi.pi ok hg (fun s H C cl fp => (ht s H C cl fp).pts) (fun s H C cl fp => (he s H C cl fp).pe) hs, lf_lcF hi.iz gs hw (ht {} (fun _ => none) 0 [] []).mn (he {} (fun _ => none) 0 [] []).mn (ht {} (fun _ => none) 0 [] []).snd⟩, fun ρ m Q Q' w q => hi.iz.1 _ _ _ _ (fun ds m1 q => lcD_mono (ht {} (fun _ => none) 0 [] []).mn (he {} (fun _ => none) 0 [] []).mn (fun _ _ q => w _ _ q) q) q⟩
theorem o_last {jj j2 : Nat} {p1 p2 pp ps1 ps2 ps3 : Pos} (hu : X.A.units + 1 < cLine) (hv : ∀ {q : Pos}, PE X (.Name x q) (tVar i)) (fl : FL X lc tl) (hc : DT X c tc) (he : DE X e te) (hi : DE X ix ti) {q1 q2 q3 : Pos}
    (pg : PG X (.Subscript (.Name x q1) (.Constant (.str "rows") jj p1) pos') (gSub (tVar i) (tC (.str "rows")) rSetD))
    (pg2 : PG X (.Subscript (.Subscript (.Name x q2) (.Constant (.str "rows") j2 p2) pp) ix ps1) (gSub (tDGet (tVar i) (tC (.str "rows"))) (lfE X.K ti) rSetL))
    (hs : swapsWithSole [.Subscript (.Name x q1) (.Constant (.str "rows") jj p1) pos'] lc pos.line X.env = pure false := by rfl) (hw : swappedStores [.Subscript (.Name x q1) (.Constant (.str "rows") jj p1) pos'] lc X.env = pure none := by rfl)
    (h1 : (assignEach [.Subscript (.Name x q1) (.Constant (.str "rows") jj p1) pos'] X.env).map (·.2) = [assign (.Subscript (.Name x q1) (.Constant (.str "rows") jj p1) pos') X.env] := by rfl)
    (hs2 : swapsWithSole [.Subscript (.Subscript (.Name x q2) (.Constant (.str "rows") j2 p2) pp) ix ps1] e ps2.line X.env = pure false := by rfl) (hw2 : swappedStores [.Subscript (.Subscript (.Name x q2) (.Constant (.str "rows") j2 p2) pp) ix ps1] e X.env = pure none := by rfl)
    (h2 : (assignEach [.Subscript (.Subscript (.Name x q2) (.Constant (.str "rows") j2 p2) pp) ix ps1] X.env).map (·.2) = [assign (.Subscript (.Subscript (.Name x q2) (.Constant (.str "rows") j2 p2) pp) ix ps1) X.env] := by rfl) :
    OS X i d1 d2 [.Assign [.Subscript (.Name x q1) (.Constant (.str "rows") jj p1) pos'] lc pos, .If c [.Assign [.Subscript (.Subscript (.Name x q2) (.Constant (.str "rows") j2 p2) pp) ix ps1] e ps2] [] ps3, .Return (some (.Name x q3)) spos] (oLast i d1 d2 tl tc ti te) := by
  obtain ⟨gl, hl, hgl⟩ := fl.ex
  have ml := fl.mn
  refine ⟨pss_wk' (pss_cons (ps_asg hl pg hs hw h1) (pss_cons (ps_if hc.pt (pss_one (ps_asg he.pe pg2 hs2 hw2 h2)) pss_nil) (pss_one (ps_ret hv)))) ?_, fun d ρ m N N' R R' _ w q => ml _ _ _ _ (fun y n ⟨rows, e1, e2, q⟩ => ⟨rows, e1, e2, hc.mn _ _ _ _ (fun b n q => by
    cases b
    · exact w _ _ q
    · exact he.mn _ _ _ _ (fun y n ⟨e3, q⟩ => ⟨e3, hi.mn _ _ _ _ (fun k n ⟨g, e4, e5, q⟩ => ⟨g, e4, e5, w _ _ q⟩) q⟩) q) q⟩) q⟩
  rintro D σ H ⟨pt, S0, H0, S, a, ρ, m, d3, O, q⟩
  refine hgl _ _ _ ⟨pt, S0, H0, S, _, m, O.vis, ml _ _ _ _ (fun y m1 h1 b vs H1 hb hpb e1 E1 hb1 r1 => ?_) q⟩
  obtain ⟨rows, rfl, nd, h1⟩ := h1
  obtain ⟨fs, er, r1⟩ := r1
  cases er
  obtain ⟨v1, v2, v3, hd0, a1, a2, a3⟩ := O.ct
  have O1 := O.step e1 E1.pot
  have hd : H1 a = some (.dK [(kR, v1), (kB, v2), (kW, v3)]) := e1 _ _ O.hp hd0
  have nba : b ≠ a := fun z => by rw [z, hd0] at hb; cases hb
  have nbS : b ∉ S := fun z => O.ev.dom b (List.mem_cons_of_mem _ z) hb
  have hb0 : H0 b = none := by
    cases z : H0 b with
    | none => rfl
    | some o => rw [O.ev.frm b o hpb z] at hb; cases hb
  -- the dict holds the new list, which is hidden from here on
  have hn : ∀ (k : Nat) (es : List Vd.D), ρ[k]? ≠ some (some (.own b es)) := fun k es z => by
    obtain ⟨_, z2, _⟩ := O.ev.at_own z
    rcases List.mem_cons.mp z2 with z2 | z2
    · exact nba z2
    · exact nbS z2
  have EB : Ev X.K pt S0 H0 (b :: a :: S) σ H1 ρ m1 := ((O.ev.newO (o := .lst vs) hb).1).step (fun x o n z => by
    by_cases e : x = b
    · rw [e, upd_same] at z
      rw [e, hb1]
      exact z
    · rw [upd_ne e] at z
      exact e1 x o n z) E1.pot
  have inS : a ∈ b :: a :: S := List.mem_cons_of_mem _ List.mem_cons_self
  have wA : Same (Wo (a :: S) H) (Wo (b :: a :: S) H1) := fun x o z => by
    obtain ⟨n, z⟩ := Wo.some z
    have nb : x ≠ b := ne_of_none z hb
    rw [Wo.out (by simp only [List.mem_cons, not_or] at n ⊢; exact ⟨nb, n⟩)]
    exact e1 x o (fun y => n (List.mem_cons_of_mem _ (O.vis.pS x y))) z
  have w2 : Same (Wo (b :: a :: S) H1) (Wo (b :: a :: S) (upd H1 a (.dK [(kR, v1), (kB, v2), (kW, .ref b)]))) := fun x o z => by
    obtain ⟨n, z⟩ := Wo.some z
    have na : x ≠ a := fun e => n (by rw [e]; exact inS)
    rw [Wo.out n, upd_ne na]
    exact z
  have E2 := EB.updO (o := .dK [(kR, v1), (kB, v2), (kW, .ref b)]) inS O.h0 O.hp O.no
  have rB : DnAll X.K pt (Wo (b :: a :: S) H1) vs rows := (DnAll.hide hd r1 nd).mono (Wo.less fun x hx => by
    simp only [List.mem_cons] at hx ⊢
    rcases hx with h | h | h
    · exact .inr (.inl h)
    · exact .inl h
    · exact .inr (.inr h))
  -- how it ends
  have fin : ∀ (H' : Hp) (m' : Nat) (us : List V) (ds : List Vd.D), SameX pt H0 H' → PotX pt H' m' → H' a = some (.dK [(kR, v1), (kB, v2), (kW, .ref b)]) → H' b = some (.lst us) → Same (Wo (b :: a :: S) H1) (Wo (b :: a :: S) H') → DnAll X.K pt (Wo (b :: a :: S) H') us ds →
      (∀ v H', SameX pt H0 H' → PotX pt H' m' → Dn X.K pt (Wo S0 H') v (.dk (own3 d1 d2 (.lst ds))) → D.rt v H') → tSeq tNext (tRet (tVar i)) D σ H' := by
    intro H' m' us ds g1 g2 g3 g4 g5 g6 g7
    have w0 : Same (Wo (b :: a :: S) H') (Wo S0 H') := Wo.less fun x hx => by
      rcases List.mem_cons.mp (O.ev.inc x hx) with z | z
      · exact absurd (z ▸ O.h0) (O.ev.dom0 x hx)
      · exact List.mem_cons_of_mem _ (List.mem_cons_of_mem _ z)
    refine ⟨_, O.sl, g7 _ H' g1 g2 (.dk (hs := [(kR, v1), (kB, v2), (kW, .ref b)]) ?_ rfl (.cons (Dn.mono w0 (Dn.mono g5 (Dn.mono wA a1))) (.cons (Dn.mono w0 (Dn.mono g5 (Dn.mono wA a2))) (.cons (.lst ?_ (g6.mono w0)) .nil))))⟩
    · rw [Wo.out fun z => O.ev.dom0 a z O.h0]
      exact g3
    · rw [Wo.out fun z => O.ev.dom0 b z hb0]
      exact g4
  refine ⟨_, O.sl, a, _, rfl, DPut.k (k := kW) hd (by show 3 < sizeLine; decide), ?_⟩
  refine ⟨pt, S0, H0, b :: a :: S, ρ, m1, E2, hc.mn _ _ _ _ (fun k m2 h2 H3 e3 E3 => ?_) h1⟩
  have h3a : H3 a = some (.dK [(kR, v1), (kB, v2), (kW, .ref b)]) := e3 _ _ O.hp upd_same
  have h3b : H3 b = some (.lst vs) := e3 _ _ hpb (by rw [upd_ne nba]; exact hb1)
  have w3 := w2.trans (E2.wo e3)
  cases k
  · exact fin H3 m2 vs rows E3.frm E3.pot h3a h3b w3 (rB.mono w3) h2
  · refine ⟨pt, S0, H0, b :: a :: S, ρ, m2, E3, he.mn _ _ _ _ (fun y m3 h3 v H4 e4 E4 y4 => ?_) h2⟩
    obtain ⟨ny, h3⟩ := h3
    have h4a := e4 _ _ O.hp h3a
    refine ⟨_, O.sl, a, .ref b, rfl, DGet.k (k := kW) h4a, ?_⟩
    refine ⟨pt, S0, H0, b :: a :: S, ρ, m3, E4, hi.mn _ _ _ _ (fun k m4 h4 u H5 e5 E5 k5 => ?_) h3⟩
    obtain ⟨n, rfl, ln, h4⟩ := h4
    cases k5
    have h5b := e5 _ _ hpb (e4 _ _ hpb h3b)
    have w5 := w3.trans ((E3.wo e4).trans (E4.wo e5))
    have lv : n < vs.length := by rw [rB.length]; exact ln
    refine ⟨b, vs, _, n, rfl, rfl, h5b, ?_, ?_⟩
    · unfold ixN
      rw [if_pos (by omega), if_pos (by omega)]
      rfl
    · have w6 : Same (Wo (b :: a :: S) H5) (Wo (b :: a :: S) (upd H5 b (.lst (vs.set n v)))) := fun x o z => by
        obtain ⟨nx, z⟩ := Wo.some z
        have nb : x ≠ b := fun e => nx (by rw [e]; exact List.mem_cons_self)
        rw [Wo.out nx, upd_ne nb]
        exact z
      refine fin _ m4 (vs.set n v) (rows.set n y) (fun x o nx z => ?_) (fun p e => ?_) (by rw [upd_ne nba.symm]; exact e5 _ _ O.hp h4a) upd_same (w5.trans w6) ((DnAll.setAt (Dn.mono (E4.wo e5) y4) (rB.mono w5) n).mono w6) h4
      · rw [upd_ne (ne_of_none z hb0)]
        exact E5.frm x o nx z
      · obtain ⟨c1, c2, c3, c4, c5⟩ := E5.pot p e
        exact ⟨c1, c2, c3, by rw [upd_ne fun z => hpb (by rw [← z]; exact e)]; exact c4, c5⟩
end
end Vd
end
section
set_option Elab.async false
set_option linter.all false
set_option maxRecDepth 100000
set_option autoImplicit false
set_option maxHeartbeats 1000000
/-! Own lists beside the dict of one's own. -/
namespace Vd
open PySem L2 PySem.Spec Vb
open PyProof.Rows hiding St
theorem Wo.ext {S S' : List Addr} {H : Hp} (h : ∀ b, b ∈ S ↔ b ∈ S') : Wo S H = Wo S' H := by
  funext b
  by_cases e : b ∈ S
  · rw [Wo.none e, Wo.none ((h b).mp e)]
  · rw [Wo.out e, Wo.out fun z => e ((h b).mpr z)]
theorem Ev.perm {K : PySem.W.Frag} {pt : Option Addr} {S0 S S' : List Addr} {H0 H : Hp} {σ : St} {ρ : Rho} {m : Nat} (E : Ev K pt S0 H0 S σ H ρ m) (h : ∀ b, b ∈ S ↔ b ∈ S') : Ev K pt S0 H0 S' σ H ρ m := by
  refine ⟨E.dom0, fun b hb => E.dom b ((h b).mpr hb), fun b hb => E.sub b ((h b).mpr hb), fun b hb => (h b).mp (E.inc b hb), E.frm, E.ptS, E.pot, E.len, fun i c q => ?_, E.dis⟩
  obtain ⟨v, hv, r⟩ := E.var i c q
  refine ⟨v, hv, ?_⟩
  cases c with
  | d x =>
    show Dn K pt (Wo S' H) v x
    rw [← Wo.ext h]
    exact r
  | own a ds =>
    obtain ⟨r1, r2, r3, r4, vs, r5, r6⟩ := r
    exact ⟨r1, (h a).mp r2, r3, r4, vs, r5, by rw [← Wo.ext h]; exact r6⟩
section
variable {X : Cx} {i j : Nat} {d1 d2 : D} {rest : List Stmt} {r : TSO} {e : Expr} {es : List Expr} {pos pos' pl : Pos} {te : TD} {t : TDA} {x : Str} {o : Expr}
def oOwn (i : Nat) (d1 d2 : D) (j : Nat) (t : TDA) (r : TSO) : TSO := fun d ρ m N R => t (visR i d1 d2 d ρ) m fun ds m1 => ds.length ≤ sizeLine ∧ noDks ds = true ∧ j < ρ.length ∧ i ≠ j ∧ ∀ a, (∀ (j : Nat) (es : List Vd.D), ρ[j]? ≠ some (some (.own a es))) → r d (ρ.set j (some (.own a ds))) m1 N R
theorem o_own (hN : X.N.Nodup) (hj : X.N[j]? = some x) (hx : Loc X.env.scope x) (ha : DA X es t) (hr : OS X i d1 d2 rest r) (hs : swapsWith (.List es pl) (some (.Name x pos')) pos.line X.env = pure false := by rfl) (hf : X.fn x = true ∨ X.env.scope.names.lookup x = some .local := by first | exact .inl rfl | exact .inr rfl | assumption) :
    OS X i d1 d2 (.Assign [.Name x pos'] (.List es pl) pos :: rest) (oOwn i d1 d2 j t r) := by
  refine ⟨pss_wk' (pss_cons (ps_set hN hj hx (pe_lst ha.pa) hs hf) hr.pss) ?_, fun d ρ m N N' R R' w w' q => ha.mn _ _ _ _ (fun ds n ⟨h1, h2, h3, h4, h5⟩ => ⟨h1, h2, h3, h4, fun a z => hr.mn _ _ _ _ _ _ _ w w' (h5 a z)⟩) q⟩
  rintro D σ H ⟨pt, S0, H0, S, a, ρ, m, d3, O, q⟩
  refine ⟨pt, S0, H0, S, _, m, O.vis, ha.mn _ _ _ _ (fun ds m1 h1 vs H1 e1 E1 x1 => ?_) q⟩
  obtain ⟨l, nd, lj, nij, h1⟩ := h1
  refine ⟨by rw [x1.length]; exact l, fun p hp => ?_⟩
  have O1 := O.step e1 E1.pot
  obtain ⟨v1, v2, v3, hd, a1, a2, a3⟩ := O1.ct
  have x2 : DnAll X.K pt (Wo (a :: S) H1) vs ds := DnAll.hide hd x1 nd
  obtain ⟨E2, h0, hpt, hn, nS, wo⟩ := O1.ev.newO (o := .lst vs) hp
  have pa : a ≠ p := fun z => nS (by rw [← z]; exact List.mem_cons_self)
  have sw : ∀ b, b ∈ p :: a :: S ↔ b ∈ a :: p :: S := fun b => by
    simp only [List.mem_cons]
    constructor <;> (rintro (h | h | h)) <;> first | exact .inl h | exact .inr (.inl h) | exact .inr (.inr h)
  have E3 := E2.ownAt (i := j) List.mem_cons_self h0 hpt hn upd_same (x2.mono wo) lj
  have E4 := E3.perm sw
  have w4 : Same (Wo (a :: S) H1) (Wo (a :: p :: S) (upd H1 p (.lst vs))) := by
    rw [← Wo.ext sw]
    exact wo
  refine ⟨pt, S0, H0, p :: S, a, _, m1, d3, ⟨E4, fun z => ?_, by rw [List.getElem?_set_ne (fun z => nij z.symm)]; exact O1.sl, O1.h0, O1.hp, fun k fs z => ?_, by rw [List.getElem?_set_ne (fun z => nij z.symm)]; exact O1.rn, v1, v2, v3, by rw [upd_ne pa]; exact hd, Dn.mono w4 a1, Dn.mono w4 a2, Dn.mono w4 a3⟩, h1 p hn⟩
  · rcases List.mem_cons.mp z with z | z
    · exact pa z
    · exact O1.nS z
  · by_cases e : j = k
    · subst e
      rw [List.getElem?_set_self lj] at z
      cases z
      exact pa rfl
    · rw [List.getElem?_set_ne e] at z
      exact O1.no k fs z
def oExt (i : Nat) (d1 d2 : D) (j : Nat) (te : TD) (r : TSO) : TSO := fun d ρ m N R => ∃ a ds, ρ[j]? = some (some (.own a ds)) ∧ te (visR i d1 d2 d ρ) m fun y m1 => ∃ es, y = .lst es ∧ noDks es = true ∧ ds.length + es.length ≤ sizeLine ∧ r d (ρ.set j (some (.own a (ds ++ es)))) m1 N R
theorem o_ext {apos cpos : Pos} (hv : PE X o (tVar j)) (he : DE X e te) (hr : OS X i d1 d2 rest r) (hs : swapsWith (.Call (.Attribute o "extend" apos) [e] [] cpos) none pos.line X.env = pure false := by rfl)
    (hbase : attributeBase o "extend" X.env (eval o X.env) = eval o X.env := by rfl)
    (hfew : ((backTo cpos (starEach [e] X.env)).all (fun x => !x.1) && (backToKw cpos (keywordEach [] X.env)).all (fun x => x.1.isSome)
      && decide ([e].length + ([] : List Keyword).length + (if ([] : List Keyword).isEmpty then 0 else 1) < 30)) = true := by rfl)
    (hline : (apos.endLine == cpos.line) = true := by rfl) (hse : starEach [e] X.env = (false, eval e X.env) :: starEach [] X.env := by rfl) (hplain : (backTo cpos (starEach [] X.env)).any (·.1) = false := by rfl) :
    OS X i d1 d2 (.Expr (.Call (.Attribute o "extend" apos) [e] [] cpos) pos :: rest) (oExt i d1 d2 j te r) := by
  refine ⟨pss_wk' (pss_cons (ps_expr (pe_bm PySem.F.plainAttrs_list PySem.F.slot_list_extend PySem.F.type_list_extend mt_extend hv (pa_cons he.pe pa_nil hse) hbase hfew hline hse hplain) hs) hr.pss) ?_, fun d ρ m N N' R R' w w' ⟨a, ds, h1, q⟩ => ⟨a, ds, h1, he.mn _ _ _ _ (fun y n ⟨es, h2, h3, h4, h5⟩ => ⟨es, h2, h3, h4, hr.mn _ _ _ _ _ _ _ w w' h5⟩) q⟩⟩
  rintro D σ H ⟨pt, S0, H0, S, a, ρ, m, d3, O, b, ds, hj, q⟩
  obtain ⟨sj, hS, h0, hp, vs, hH, hv⟩ := O.ev.at_own hj
  refine ⟨_, sj, .inl ⟨rfl, vs, SqL.of hH⟩, pt, S0, H0, S, _, m, O.vis, he.mn _ _ _ _ (fun y m1 h1 v H1 e1 E1 x1 => ?_) q⟩
  obtain ⟨es, rfl, nd, hl, h1⟩ := h1
  have O1 := O.step e1 E1.pot
  obtain ⟨v1, v2, v3, hd, a1, a2, a3⟩ := O1.ct
  have hv1 := hv.mono (O.ev.wo e1)
  have hH1 := e1 _ _ hp hH
  cases x1 with
  | lst hb xb =>
    have xb := DnAll.hide hd xb nd
    refine ⟨_, _, _, _, rfl, rfl, hH1, Wo.sub _ _ _ _ hb, by rw [hv.length, xb.length]; exact hl, ?_⟩
    obtain ⟨E2, s⟩ := O1.ev.grow hj (hv1.append xb)
    have nba : b ≠ a := fun z => by rw [z] at hH1; rw [hd] at hH1; cases hH1
    have nij : i ≠ j := fun z => by rw [← z, O.rn] at hj; cases hj
    have lj : j < ρ.length := (List.getElem?_eq_some_iff.mp hj).1
    refine ⟨pt, S0, H0, S, a, _, m1, d3, ⟨E2, O1.nS, O1.sl, O1.h0, O1.hp, fun k fs z => ?_, by rw [List.getElem?_set_ne (fun z => nij z.symm)]; exact O1.rn, v1, v2, v3, by rw [upd_ne nba.symm]; exact hd, Dn.mono s a1, Dn.mono s a2, Dn.mono s a3⟩, h1⟩
    by_cases e : j = k
    · subst e
      rw [List.getElem?_set_self lj] at z
      cases z
      exact nba rfl
    · rw [List.getElem?_set_ne e] at z
      exact O1.no k fs z
def oFrz (j : Nat) (r : TSO) : TSO := fun d ρ m N R => ∃ a ds, ρ[j]? = some (some (.own a ds)) ∧ r d (ρ.set j (some (.d (.lst ds)))) m N R
theorem o_frz (j : Nat) (hr : OS X i d1 d2 rest r) : OS X i d1 d2 rest (oFrz j r) := by
  refine ⟨pss_wk' hr.pss ?_, fun d ρ m N N' R R' w w' ⟨a, ds, h1, q⟩ => ⟨a, ds, h1, hr.mn _ _ _ _ _ _ _ w w' q⟩⟩
  rintro D σ H ⟨pt, S0, H0, S, a, ρ, m, d3, O, b, ds, hj, q⟩
  obtain ⟨sj, hS, h0, hp, vs, hH, hv⟩ := O.ev.at_own hj
  obtain ⟨v1, v2, v3, hd, a1, a2, a3⟩ := O.ct
  have nba : b ≠ a := fun z => by rw [z] at hH; rw [hd] at hH; cases hH
  have nij : i ≠ j := fun z => by rw [← z, O.rn] at hj; cases hj
  have lj : j < ρ.length := (List.getElem?_eq_some_iff.mp hj).1
  obtain ⟨E2, s⟩ := O.ev.freeze hj
  have sw : ∀ x, x ∈ (a :: S).filter (fun x => decide (x ≠ b)) ↔ x ∈ a :: S.filter (fun x => decide (x ≠ b)) := fun x => by
    simp only [List.mem_filter, List.mem_cons, decide_eq_true_eq]
    constructor
    · rintro ⟨h | h, n⟩
      · exact .inl h
      · exact .inr ⟨h, n⟩
    · rintro (h | ⟨h, n⟩)
      · exact ⟨.inl h, fun z => nba (by rw [← z, h])⟩
      · exact ⟨.inr h, n⟩
  have s2 : Same (Wo (a :: S) H) (Wo (a :: S.filter (fun x => decide (x ≠ b))) H) := by
    rw [← Wo.ext sw]
    exact s
  refine ⟨pt, S0, H0, _, a, _, m, d3, ⟨E2.perm sw, fun z => O.nS (List.mem_filter.mp z).1, O.sl, O.h0, O.hp, fun k fs z => ?_, by rw [List.getElem?_set_ne (fun z => nij z.symm)]; exact O.rn, v1, v2, v3, hd, Dn.mono s2 a1, Dn.mono s2 a2, Dn.mono s2 a3⟩, q⟩
  by_cases e : j = k
  · subst e
    rw [List.getElem?_set_self lj] at z
    cases z
  · rw [List.getElem?_set_ne e] at z
    exact O.no k fs z
end
end Vd
end
section
set_option Elab.async false
set_option linter.all false
set_option autoImplicit false
namespace Vd
open PySem L2 PySem.Spec Vb
open PyProof.Rows hiding St
section
variable {X : Cx} {C f : Addr} {fd : FuncData} {ps : List Str} {k : Nat} {F : FD} {a b : Expr} {pos : Pos} {ta tb : TD}
theorem de_eqK {K : PySem.W.Frag} (eK : X.K = K) (mf : MnF F) (c : CmpC X.K C f) (Fn : FnOk X.prog X.w X.K X.mg X.base CX0 k f fd ps (spD X.K F)) (hb : L2.Binds X.K fd ps []) (hr : Room k X.A) (ha : DE X a ta) (hb' : DE X b tb) (hm : behindInMarks .Eq b = false) : DE X (.Compare a [.Eq] [b] pos) (dEqO K C false F ta tb) := by
  subst eK
  exact de_eqO mf c Fn hb hr ha hb' hm
theorem de_neK {K : PySem.W.Frag} (eK : X.K = K) (mf : MnF F) (c : CmpC X.K C f) (Fn : FnOk X.prog X.w X.K X.mg X.base CX0 k f fd ps (spD X.K F)) (hb : L2.Binds X.K fd ps []) (hr : Room (k + 1) X.A) (ha : DE X a ta) (hb' : DE X b tb) (hm : behindInMarks .NotEq b = false) : DE X (.Compare a [.NotEq] [b] pos) (dEqO K C true F ta tb) := by
  subst eK
  exact de_neO mf c Fn hb hr ha hb' hm
end
end Vd
end
section
set_option Elab.async false
set_option linter.all false
set_option maxRecDepth 100000
/-! set(xs) of a tuple of texts that are all unlike. -/
namespace Vs
open PySem PySem.Spec PyProof.Rows SS
/-- the texts at the first j places are in the set at a, and they alone -/
def Has (P : Program) (w : World) (a : Addr) (all : List Str) (j : Nat) (h : Heap) : Prop := h.SetOf (PySem.strKind P w) a (fun z => (all.take j).contains z) j
theorem has_same {P : Program} {w : World} {a : Addr} {all : List Str} {j : Nat} {h h' : Heap} (q : Has P w a all j h) (keep : ∀ o, h.get? a = some o → h'.get? a = some o) : Has P w a all j h' :=
  let ⟨o, es, ep, t, ho, more⟩ := q
  ⟨o, es, ep, t, keep o ho, more⟩
theorem new_at {all : List Str} (nd : all.Nodup) {j : Nat} {z : Str} (hz : all[j]? = some z) : (all.take j).contains z = false := by
  refine Bool.eq_false_iff.mpr fun y => ?_
  obtain ⟨i, hi⟩ := List.mem_iff_getElem?.mp (List.contains_iff_mem.mp y)
  have lt : i < j := by
    have := (List.getElem?_eq_some_iff.mp hi).1
    rw [List.length_take] at this
    omega
  rw [List.getElem?_take_of_lt lt] at hi
  exact Nat.ne_of_lt lt ((List.getElem?_inj (List.getElem?_eq_some_iff.mp hi).1 nd).mp (hi.trans hz.symm))
theorem one_more {all : List Str} {j : Nat} {z : Str} (hz : all[j]? = some z) (k : Str) : ((all.take j).contains k || decide (k = z)) = (all.take (j + 1)).contains k := by
  rw [List.take_add_one, hz]
  simp [Bool.beq_eq_decide_eq]
section
variable {P : Program} {w : World} {A : Around} {R : Result → Shared → Prop} {it a : Addr} {fp wr : List Addr} {G : Array GenState → Array GenState → Prop} {n : Nat} {V : Nat → Value → Prop} {St : Nat → Shared → Prop} {all : List Str}
theorem fill (W : WalksS P w A.in1 it fp wr G n V St) (na : a ∉ fp) (len : all.length = n) (nd : all.Nodup) (few : n ≤ 60) (val : ∀ i v, V i v → ∃ t, v = .str (all.getD i Str.empty) t) (j : Nat) (s : Shared) (le : j ≤ n) (st : St j s) (q : Has P w a all j s.heap)
    (last : ∀ s', Moved (a :: wr) G s s' → Has P w a all n s'.heap → R (.ok (.ret .none)) s') : codeAny (model P w) A (.builtin "set.update.loop" ⟨[.ref a, .ref it], []⟩) R s := by
  have nw : a ∉ wr := fun z => na (W.sub a z)
  refine codeAny_builtin F.entry_set_update_loop (show _ from ?_)
  rw [Around.under_plainId (F.plain_set_update_loop)]
  by_cases more : j < n
  · have hz : all[j]? = some (all.getD j Str.empty) := by
      rw [List.getD_eq_getElem?_getD, List.getElem?_eq_getElem (len ▸ more)]
      rfl
    show wpAny (model P w) A.in1 (pyNext (.ref it) >>= _) _ _ s
    refine wpAny_bind (W.item j s _ _ more st fun v s1 hv st1 m1 => ?_)
    obtain ⟨t, rfl⟩ := val j v hv
    generalize all.getD j Str.empty = z at hz
    have q1 := has_same (h' := s1.heap) q fun o e => m1.heap a _ nw e
    show wpAny (model P w) A.in1 (holding [Value.str z t] (setAdd a (.str z t)) >>= _) _ _ s1
    unfold setAdd
    refine wpAny_bind (wpAny_holding (wpAny_holding (wpAny_bind ((PySem.strKind P w).pyHash (k := z) (strKind_is _ _ _ _) ?_))))
    refine wpAny_setAddHashed_of (knd := PySem.strKind P w) (s := { s1 with toks := s1.toks + 1 }) (strKind_is _ _ _ _) rfl q1 (by unfold scanBound; omega) fun h2 h2b q2 => ?_
    have mv : ∀ b, b ≠ a → h2.get? b = s1.heap.get? b := fun b nb => h2b.2 b nb
    have q3 : Has P w a all (j + 1) h2 := SetOf_congr q2 (one_more hz) (by rw [new_at nd hz]; rfl)
    refine wpAny_pure ⟨plainId_quiet F.plain_set_update_loop _, fill W na len nd few val (j + 1) _ more (W.frame _ s1 _ _ st1 (Nat.le_succ _) fun b hb o e => ?_) q3 fun s2 m2 h => last s2 (Moved.trans W.gtrans (Moved.then_heap (m1.mono fun b hb => List.mem_cons_of_mem a hb) (Nat.le_succ _) fun b o hb e => ?_) m2) h⟩
    · exact (mv b fun z => na (by rw [← z]; exact hb)).trans e
    · exact (mv b fun z => hb (by rw [z]; exact List.mem_cons_self)).trans e
  · obtain rfl : j = n := by omega
    show wpAny (model P w) A.in1 (pyNext (.ref it) >>= _) _ _ s
    refine wpAny_bind (W.done s _ _ st fun s1 m1 => wpAny_pure (last s1 (m1.mono fun b hb => List.mem_cons_of_mem a hb) (has_same q fun o e => m1.heap a _ nw e)))
termination_by n - j
end

/-- T(args): made by T.__new__, begun by T.__init__, whatever holds its arguments to their places -/
theorem by_init {P : Program} {w : World} {A : Around} {E : Value → Shared → Prop} {s : Shared} {T nid iid : String} {us : List Value} {Q Q1 : Value → Shared → Prop} (ft : TypeCalled T nid iid) (ok : checkTypeCall T ⟨us, []⟩ = pure ()) (new : codeAny (model P w) A.in1 (.call (.builtin nid) ⟨.type T :: us, []⟩) (wants Q1 E) s)
    (init : ∀ o t, Q1 o t → t.TypeIs o T ∧ codeAny (model P w) A.in1 (.call (.builtin iid) ⟨o :: us, []⟩) (wants (fun r t2 => r = .none ∧ Q o t2) E) t) : wpAny (model P w) A (call (.type T) us) Q E s := by
  obtain ⟨cl, rest, way⟩ := ft.mro
  have f1 := ft.made
  have f2 := ft.sub
  have f3 := ft.notType
  have f4 := ft.canCreate
  refine wpAny_call (codeAny_of_tree (show wpAny _ _ (callAny (.type T) _) _ _ _ from wpAny_pure ⟨Code.quiet_builtin _ (by decide +kernel), codeAny_builtin PySem.F.entry_type_call ?_⟩))
  rw [Around.under_plain (weight_type_call_type T us []) rfl]
  repeat any_goals first | assumption | wp_step
  refine codeAny_mono new fun r t z => ?_
  match r, z with
  | .ok (.ret o), z =>
    obtain ⟨isT, go⟩ := init o t z
    have g1 := ft.init.lookup
    have g2 := ft.init.bind o
    repeat any_goals first | assumption | wp_step
    refine codeAny_mono go fun r2 t2 z2 => ?_
    match r2, z2 with
    | .ok (.ret u), z2 =>
      obtain ⟨rfl, z2⟩ := z2
      repeat any_goals first | assumption | wp_step
    | .error e, z2 => exact z2
  | .error e, z => exact z
/-- a set that has just been laid -/
abbrev bare (led : Bool) : Obj := { cls := .type "set", dict := none, data := .set #[] 0 (.fresh 0 0 led) }
set_option maxHeartbeats 3200000 in
theorem set_texts {P : Program} {w : World} {A : Around} {E : Value → Shared → Prop} {s : Shared} {l : Addr} {items : Array Value} {all : List Str} {Q : Value → Shared → Prop} (calm : A.handled = none) (tup : s.heap.IsTuple l items) (rel : StrsAre items.toList all) (nd : all.Nodup) (few : all.length ≤ 60)
    (q : ∀ h' tk, Has P w s.heap.objs.size all items.size h' → (∀ b o, s.heap.get? b = some o → h'.get? b = some o) → Q (.ref s.heap.objs.size) { s with heap := h', toks := tk }) : wpAny (model P w) A (call (.type "set") [.ref l]) Q E s := by
  refine by_init (T := "set") (Q1 := fun r t => ∃ led, r = .ref s.heap.objs.size ∧ t = { s with heap := s.heap.push (bare led) }) PySem.F.called_set (PySem.F.typeCall_set_1 _) (code_set_new_1 _ fun led => ⟨led, rfl, rfl⟩) ?_
  rintro _ _ ⟨led, rfl, rfl⟩
  have old : ∀ {b : Addr} {o : Obj}, s.heap.get? b = some o → (s.heap.push (bare led)).get? b = some o := fun e => Heap.get?_push_of_some _ e
  have me : (s.heap.push (bare led)).get? s.heap.objs.size = some (bare led) := Heap.get?_push_size _ rfl
  have isT : Shared.TypeIs { s with heap := s.heap.push (bare led) } (.ref s.heap.objs.size) "set" := ⟨_, me, rfl⟩
  refine ⟨isT, codeAny_call_builtin PySem.F.called_set.init.plain PySem.F.entry_set_init (check_set_init_1 isT ?_)⟩
  obtain ⟨⟨oc, od, oa, os⟩, hol, hc, nl, hd⟩ := tup
  dsimp only at hc hd
  subst hc
  subst hd
  have lS : l < s.heap.objs.size := Heap.lt_size hol
  have hT := old hol
  have hT1 : (s.heap.push (bare led)).IsTuple l items := ⟨_, hT, rfl, nl, rfl⟩
  have n1 := PySem.F.sub_tuple_set
  have n2 := PySem.F.sub_tuple_frozenset
  have n3 : ((Value.type "tuple") == (Value.type "dict")) = false := by decide
  unfold Builtin.«set.__init__» noKeywords Builtin.Frozenset.updateFrom
  generalize hPI : pyIter = PI
  wp_walk
  subst hPI
  refine wpAny_pyIter_tuple hT1 (wpAny_bind (wpAny_runValue ?_))
  have len : all.length = items.size := by rw [← rel.len_eq, Array.length_toList]
  have top : (s.heap.push (bare led)).objs.size = s.heap.objs.size + 1 := by rw [Heap.size_push]
  have far : l ≠ (s.heap.push (bare led)).objs.size := fun z => Nat.lt_irrefl l (Nat.lt_trans lS (by rw [z, top]; exact Nat.lt_succ_self _))
  have out : s.heap.objs.size ∉ [(s.heap.push (bare led)).objs.size, l] := by
    rw [top]
    intro z
    rcases List.mem_cons.mp z with z | z
    · exact Nat.ne_of_lt (Nat.lt_succ_self _) z
    · rw [List.mem_singleton.mp z] at lS
      exact Nat.lt_irrefl _ lS
  have still : A.in1.in1.in1.handled = none := by simp [calm]
  refine fill ((Walks.tuple still _ l far items).toS) out len nd (len ▸ few) (fun i v hv => strs_at rel i v (by rw [Array.getElem?_toList]; exact hv)) 0 _ (Nat.zero_le _) ⟨⟨_, Heap.get?_push_size _ rfl, rfl, rfl⟩, hT1.push _⟩ ?_ fun s2 mv h2 => ?_
  · exact SetOf_congr ((setObjOf_fresh (knd := PySem.strKind P w) led).setOf (Heap.get?_push_of_some _ me) (by unfold scanBound; omega)) (fun _ => rfl) rfl
  · obtain ⟨h', g', d', t', o'⟩ := s2
    obtain rfl : g' = s.gens := mv.gens
    obtain rfl : d' = s.drawn := mv.drawn
    obtain rfl : o' = s.os := mv.os
    refine wpAny_pure (show wpAny _ _ (ret Value.none) _ _ _ from wpAny_pure ⟨rfl, q h' t' h2 fun b o e => ?_⟩)
    have lb := Heap.lt_size e
    refine mv.heap b o ?_ (Heap.get?_push_of_some _ (old e))
    rw [top]
    intro z
    rcases List.mem_cons.mp z with z | z
    · exact Nat.ne_of_lt lb z
    · exact Nat.ne_of_lt (Nat.lt_succ_of_lt lb) (List.mem_singleton.mp z)
end Vs
end
section
set_option Elab.async false
set_option linter.all false
set_option maxRecDepth 100000
set_option autoImplicit false
namespace Vd
open PySem L2 PySem.Spec Vb
open PyProof.Rows hiding St
section
variable {X : Cx} {a : Expr} {ta : TE} {t : TD} {p p2 q pos : Pos}
/-- len(set(xs)) of a tuple of unlike texts -/
def tLenTexts (K : PySem.W.Frag) (ta : TE) : TE := fun σ H Q => ta σ H fun x H1 => ∃ l, ∃ zs : List Str, x = .ref l ∧ SqT K H1 l (zs.map V.str) ∧ zs.Nodup ∧ zs.length ≤ 60 ∧ Q (.int zs.length) H1
theorem pe_lenTexts (calm : X.calm = true) (hg : Gl X "len") (hm : X.mg "len" = none) (hg2 : Gl X "set") (hm2 : X.mg "set" = none) (ha : PE X a ta) (na : starEach [a] X.env = (false, eval a X.env) :: starEach [] X.env := by rfl) : PE X (.Call (.Name "len" p) [.Call (.Name "set" p2) [a] [] q] [] pos) (tLenTexts X.K ta) := by
  refine ⟨fun pins s σ H Q I h => Call_ (ld_blt I hg hm PySem.boot_len (callWith_builtin1 (args_cons (Call_ (ld_blt I hg2 hm2 boot_set (callWith_type1 (args_cons (thn (ha.run pins s σ H _ I h) fun v t ⟨x, H1, I1, r1, g⟩ => args_nil ?_) na) na rfl))) rfl) rfl rfl))⟩
  obtain ⟨l, zs, rfl, sq, nd, few, g⟩ := g
  cases r1
  obtain ⟨its, rv, pl, hz⟩ := I1.tuple sq
  have n : its.toArray.size = zs.length := by rw [List.size_toArray, ← rv.length, List.length_map]
  refine Vs.set_texts (I1.ok.hd calm) pl (by simpa using strsAre_of rv) nd few fun h' tk own old => args_nil ?_
  rw [n] at own
  obtain ⟨o, es, ep, tb, ho, hex, hd, _, _, _, hf, hn⟩ := own
  have I2 : Inv X pins σ H1 { t with heap := h', toks := tk } := I1.kept old
  exact call_len_set ho hex hd hf (by rw [hn] <;> omega) ⟨.int zs.length, H1, I2.tok _, ⟨_, by rw [hn]⟩, g⟩
def dLenTexts (t : TD) : TD := fun ρ m Q => t ρ m fun d m1 => ∃ zs : List Str, d = .tup (zs.map .str) ∧ zs.Nodup ∧ zs.length ≤ 60 ∧ Q (.int ((zs.length : Nat) : Int)) m1
theorem de_lenTexts (calm : X.calm = true) (hg : Gl X "len") (hm : X.mg "len" = none) (hg2 : Gl X "set") (hm2 : X.mg "set" = none) (ha : DE X a t) (na : starEach [a] X.env = (false, eval a X.env) :: starEach [] X.env := by rfl) : DE X (.Call (.Name "len" p) [.Call (.Name "set" p2) [a] [] q] [] pos) (dLenTexts t) := by
  refine ⟨pe_wk' (pe_lenTexts calm hg hm hg2 hm2 ha.pe na) ?_, fun ρ m Q Q' w z => ha.mn _ _ _ _ (fun d n ⟨zs, e, h1, h2, z⟩ => ⟨zs, e, h1, h2, w _ _ z⟩) z⟩
  rintro σ H Q ⟨pt, S0, H0, S, ρ, m, E, h⟩
  refine ⟨pt, S0, H0, S, ρ, m, E, ha.mn _ _ _ _ (fun d m1 h1 v H1 e1 E1 x1 => ?_) h⟩
  obtain ⟨zs, rfl, nd, few, h1⟩ := h1
  cases x1 with
  | tup sq r =>
    have e := r.strs
    subst e
    exact ⟨_, zs, rfl, sqT_same (Wo.sub _ _) sq, nd, few, h1 _ H1 e1 E1 (.int _)⟩
end
end Vd
end
section
set_option Elab.async false
set_option linter.all false
set_option maxRecDepth 100000
set_option autoImplicit false
/-! What is shown of plain data is short enough. -/
namespace Vd
open PySem L2 PySem.Spec Vb
open PyProof.Rows hiding St
def RpW (d : D) (w k : Nat) : Prop := ∃ p, toPy d = some p ∧ p.showable = true ∧ p.hasDict = false ∧ p.depth ≤ k ∧ p.leavesShort 10 = true ∧ p.weight ≤ w
def RpWs (ds : List D) (w k : Nat) : Prop := ∃ ps, toPys ds = some ps ∧ PyData.showableAll ps = true ∧ PyData.hasDictAll ps = false ∧ PyData.depthAll ps ≤ k ∧ PyData.leavesShortAll 10 ps = true ∧ PyData.weightAll ps ≤ w
theorem RpW.rp {d : D} {w k : Nat} (h : RpW d w k) : Rp d (12 * w + 10) k := by
  obtain ⟨p, h1, h2, h3, h4, h5, h6⟩ := h
  refine ⟨p, h1, h2, h3, h4, ?_⟩
  have := PyData.shown_le 10 (by decide) p h5
  have := Nat.mul_le_mul_left 12 h6
  omega
theorem rp_str {z : Str} (h : ∀ c ∈ z.cps.toList, c < 1114112) : RpW (.str z) z.length 0 := by
  refine ⟨.str z, by rw [toPy], by rw [PyData.showable], by rw [PyData.hasDict], by rw [PyData.depth]; exact Nat.le_refl _, ?_, by rw [PyData.weight]; exact Nat.le_refl _⟩
  rw [PyData.leavesShort, List.all_eq_true]
  intro c hc
  have := h c hc
  exact decide_eq_true (by omega)
theorem rp_bl {b : Bool} : RpW (.bl b) 0 0 := ⟨.bool b, by rw [toPy], by rw [PyData.showable], by rw [PyData.hasDict], by rw [PyData.depth]; exact Nat.le_refl _, by rw [PyData.leavesShort], by rw [PyData.weight]; exact Nat.le_refl _⟩
theorem rp_num {n : Nat} (h : n < 1000000000) : RpW (.int (n : Int)) 31 0 := by
  refine ⟨.int (n : Int), by rw [toPy], ?_, by rw [PyData.hasDict], by rw [PyData.depth]; exact Nat.le_refl _, ?_, ?_⟩
  · rw [PyData.showable]
    refine decide_eq_true ?_
    rw [Int.natAbs_natCast]
    by_cases z : n = 0
    · subst z
      decide
    · exact (Nat.log2_lt z (k := 1920)).mpr (Nat.lt_of_lt_of_le h (by decide +kernel))
  · rw [PyData.leavesShort]
    have := num_len h
    exact decide_eq_true (Nat.le_trans this (by decide))
  · rw [PyData.weight, Int.natAbs_natCast]
    split
    · omega
    · rename_i h0
      have : n ≠ 0 := fun z => h0 (by rw [z]; rfl)
      have := (Nat.log2_lt this (k := 30)).mpr (Nat.lt_trans h (by decide))
      omega
theorem rp_nil {k : Nat} : RpWs [] 0 k := ⟨[], by rw [toPys], by rw [PyData.showableAll], by rw [PyData.hasDictAll], by rw [PyData.depthAll]; exact Nat.zero_le _, by rw [PyData.leavesShortAll], by rw [PyData.weightAll]; exact Nat.le_refl _⟩
theorem rp_cons {d : D} {ds : List D} {w1 w2 k : Nat} (h : RpW d w1 k) (r : RpWs ds w2 k) : RpWs (d :: ds) (w1 + 1 + w2) k := by
  obtain ⟨p, h1, h2, h3, h4, h5, h6⟩ := h
  obtain ⟨ps, r1, r2, r3, r4, r5, r6⟩ := r
  refine ⟨p :: ps, by rw [toPys, h1, r1]; rfl, by rw [PyData.showableAll, h2, r2]; rfl, by rw [PyData.hasDictAll, h3, r3]; rfl, by rw [PyData.depthAll]; exact Nat.max_le.mpr ⟨h4, r4⟩, by rw [PyData.leavesShortAll, h5, r5]; rfl, by rw [PyData.weightAll]; omega⟩
theorem rp_tup {ds : List D} {w k : Nat} (r : RpWs ds w k) : RpW (.tup ds) w (k + 1) := by
  obtain ⟨ps, r1, r2, r3, r4, r5, r6⟩ := r
  exact ⟨.tuple ps, by rw [toPy, r1]; rfl, by rw [PyData.showable]; exact r2, by rw [PyData.hasDict]; exact r3, by rw [PyData.depth]; omega, by rw [PyData.leavesShort]; exact r5, by rw [PyData.weight]; exact r6⟩
theorem rp_lst {ds : List D} {w k : Nat} (r : RpWs ds w k) : RpW (.lst ds) w (k + 1) := by
  obtain ⟨ps, r1, r2, r3, r4, r5, r6⟩ := r
  exact ⟨.list ps, by rw [toPy, r1]; rfl, by rw [PyData.showable]; exact r2, by rw [PyData.hasDict]; exact r3, by rw [PyData.depth]; omega, by rw [PyData.leavesShort]; exact r5, by rw [PyData.weight]; exact r6⟩
theorem RpW.mono {d : D} {w w' k k' : Nat} (h : RpW d w k) (hw : w ≤ w') (hk : k ≤ k') : RpW d w' k' := by
  obtain ⟨p, h1, h2, h3, h4, h5, h6⟩ := h
  exact ⟨p, h1, h2, h3, Nat.le_trans h4 hk, h5, Nat.le_trans h6 hw⟩
theorem rp_all {w k : Nat} : ∀ {ds : List D}, (∀ d ∈ ds, RpW d w k) → RpWs ds (ds.length * (w + 1)) k
  | [], _ => by simpa using rp_nil
  | d :: ds, h => by
    have := rp_cons (h d List.mem_cons_self) (rp_all fun x hx => h x (List.mem_cons_of_mem _ hx))
    rw [List.length_cons, Nat.succ_mul]
    obtain ⟨ps, r1, r2, r3, r4, r5, r6⟩ := this
    exact ⟨ps, r1, r2, r3, r4, r5, by omega⟩
/-- repr of it -/
theorem RpW.repr {d : D} {w k : Nat} (h : RpW d w k) (hw : w ≤ 1000000) (hk : k ≤ 60) : ∃ z, fRepr [d] = some (.str z) := by
  obtain ⟨z, e, _⟩ := h.rp.repr (by omega) hk
  exact ⟨z, e⟩
end Vd
end
section
set_option Elab.async false
set_option linter.all false
set_option maxRecDepth 100000
set_option autoImplicit false
/-! More rules: not in a dict, methods of texts with one text. -/
namespace Vd
open PySem L2 PySem.Spec Vb
open PyProof.Rows hiding St
def fDNotIn : D → D → Option D
  | k, .dk kvs => (keyD k).map fun k => .bl (!(lookD kvs k).isSome)
  | _, _ => none
def rDNotIn : R2 := fun y x H Q => ∃ a o, x = .ref a ∧ DGet H a y o ∧ Q (.bl (!o.isSome)) H
theorem s_dnotin {K : PySem.W.Frag} : S2 K rDNotIn fDNotIn := by
  intro pt S H x y a b d Q hd hx hy e q
  cases hy with
  | @dk a' hs kvs h1 h2 h3 =>
    obtain ⟨k, hk, rfl⟩ := Option.map_eq_some_iff.mp e
    refine ⟨_, valV hs k, rfl, ?_, ?_⟩
    · rw [keyD_of hx hk]
      exact DGet.k (Wo.sub _ _ _ _ h1)
    · rcases (DkAll.of h2 h3).look (k := k) with ⟨z1, z2⟩ | ⟨d', v, z1, z2, z3⟩
      · rw [z2]
        rw [z1] at q
        exact q _ _ (.refl _) (.bl _)
      · rw [z2]
        rw [z1] at q
        exact q _ _ (.refl _) (.bl _)
  | _ => cases e
section
variable {X : Cx} {o i : Expr} {to ti : TD} {pos : Pos}
theorem de_dnotin (hu : X.A.units + 1 < cLine) (hi : DE X i ti) (ho : DE X o to) (h1 : behindInMarks .NotIn o = false := by first | exact nobehind _ (by decide) (by decide) | rfl) : DE X (.Compare i [.NotIn] [o] pos) (dOp2 fDNotIn ti to) :=
  ⟨pe_wk' (pe_cmp (pc_dnotin hu hi.pe ho.pe) h1) fun σ H Q h => lf_op2 (r := rDNotIn) s_dnotin hi.mn ho.mn σ H Q h, mn_op2 hi.mn ho.mn⟩
theorem dt_dnotin (hu : X.A.units + 1 < cLine) (hi : DE X i ti) (ho : DE X o to) (h1 : behindInMarks .NotIn o = false := by first | exact nobehind _ (by decide) (by decide) | rfl) : DT X (.Compare i [.NotIn] [o] pos) (dTst (dOp2 fDNotIn ti to)) :=
  ⟨pt_wk' (pt_cmp (pc_dnotin hu hi.pe ho.pe) h1) fun σ H Q h => lf_op2 (r := rDNotIn) s_dnotin hi.mn ho.mn σ H _ (lf_tst (mn_op2 hi.mn ho.mn) σ H Q h), mn_tst (mn_op2 hi.mn ho.mn)⟩
end
def fMt1B (f : Str → Str → Bool) : D → List D → Option D
  | .str a, [.str b] => some (.bl (f a b))
  | _, _ => none
theorem s_mt1B {K : PySem.W.Frag} {f : Str → Str → Bool} : SM K "str" (fun x xs H Q => ∃ a b, x = .str a ∧ xs = [.str b] ∧ Q (.bl (f a b)) H) (fMt1B f) := by
  intro pt S H x xs a as d Q hd hx ha e q
  match a, as, e with
  | .str z, [.str b], e =>
    cases e
    obtain ⟨v, rfl, hv⟩ := ha.one
    cases hv
    cases hx
    exact ⟨z, b, rfl, rfl, q _ _ (.refl _) (.bl _)⟩
end Vd
end
section
set_option Elab.async false
set_option linter.all false
set_option maxRecDepth 100000
set_option autoImplicit false
set_option maxHeartbeats 1000000
/-! Readings with things that change, lent from caller to callee, and with exceptions. -/
namespace Ve
open PySem L2 PySem.Spec Vb Vd
open PyProof.Rows hiding St
/-- what changes -/
inductive MO where
  | pot (n : Nat) | lst (ds : List D) | dk (kvs : List (Key × D))
/-- a thing that changes: where it is, whether it was made here -/
structure Cl where
  a : Addr
  own : Bool
  o : MO
abbrev Mu := List Cl
abbrev XC := Addr → D → Mu → Prop
section
variable (K : PySem.W.Frag)
def MoAt (B H : Hp) (a : Addr) : MO → Prop
  | .pot n => PotAt H a n
  | .lst ds => ∃ vs, H a = some (.lst vs) ∧ DnAll K none B vs ds
  | .dk kvs => ∃ hs, H a = some (.dK hs) ∧ DkAll K none B hs kvs
end
theorem MoAt.mono {K : PySem.W.Frag} {B B' H H' : Hp} {a : Addr} {o : MO} (e : Same B B') (h : H' a = H a) (m : MoAt K B H a o) : MoAt K B' H' a o := by
  cases o with
  | pot n => obtain ⟨x, y, z, q, r⟩ := m; exact ⟨x, y, z, by rw [h]; exact q, r⟩
  | lst ds => obtain ⟨vs, q, r⟩ := m; exact ⟨vs, by rw [h]; exact q, r.mono e⟩
  | dk kvs => obtain ⟨hs, q, r⟩ := m; exact ⟨hs, by rw [h]; exact q, r.mono e⟩
theorem MoAt.ne {K : PySem.W.Frag} {B H : Hp} {a : Addr} {o : MO} (m : MoAt K B H a o) : H a ≠ none := by
  cases o with
  | pot n => obtain ⟨x, y, z, q, r⟩ := m; rw [q]; exact fun z => nomatch z
  | lst ds => obtain ⟨vs, q, r⟩ := m; rw [q]; exact fun z => nomatch z
  | dk kvs => obtain ⟨hs, q, r⟩ := m; rw [q]; exact fun z => nomatch z
/-- where a def began: what it was lent, what was hidden, the heap -/
structure Fr where
  M0 : List Addr
  S0 : List Addr
  H0 : Hp
abbrev Step (S : List Addr) (H : Hp) (S' : List Addr) (H' : Hp) : Prop := Same (Wo S H) (Wo S' H')
theorem Step.refl {S : List Addr} {H : Hp} : Step S H S H := Same.refl _
/-- where one stands -/
structure At (K : PySem.W.Frag) (F : Fr) (S : List Addr) (σ : St) (H : Hp) (ρ : Rho) (μ : Mu) : Prop where
  dom : ∀ b ∈ S, H b ≠ none
  sub : ∀ b ∈ S, b ∈ F.S0 ∨ F.H0 b = none
  inc : ∀ b ∈ F.S0, b ∈ S
  dom0 : ∀ b ∈ F.S0, F.H0 b ≠ none
  frm : ∀ b o, b ∉ F.M0 → F.H0 b = some o → H b = some o
  mS : ∀ b ∈ F.M0, b ∈ F.S0
  mu : ∀ c ∈ μ, c.a ∈ S ∧ (c.own = true → F.H0 c.a = none) ∧ (c.own = false → c.a ∈ F.M0) ∧ MoAt K (Wo S H) H c.a c.o
  nd : (μ.map (·.a)).Nodup
  pre : (μ.map (·.a)).take F.M0.length = F.M0
  len : σ.length = ρ.length
  var : ∀ (i : Nat) (d : D), ρ[i]? = some (some (.d d)) → ∃ v, σ[i]? = some (some v) ∧ Dn K none (Wo S H) v d
  no : NoOwn ρ
section
variable {K : PySem.W.Frag} {F : Fr} {S S' : List Addr} {σ σ' : St} {H H' : Hp} {ρ ρ' : Rho} {μ μ' : Mu}
theorem At.ev (A : At K F S σ H ρ μ) : Ev K none S H S σ H ρ 0 :=
  ⟨A.dom, A.dom, fun b hb => .inl hb, fun b hb => hb, .refl _ _, fun p e => (nomatch e), fun p e => (nomatch e), A.len, fun i c h => by
    cases c with
    | d x => exact A.var i x h
    | own a ds => exact absurd h (A.no i a ds), fun i j a ds es n h => absurd h (A.no i a ds)⟩
theorem At.m0 (A : At K F S σ H ρ μ) {b : Addr} (h : b ∈ F.M0) : b ∈ S := A.inc b (A.mS b h)
/-- a heap with more in it -/
theorem At.same (A : At K F S σ H ρ μ) (e : Same H H') : At K F S σ H' ρ μ := by
  have keep : ∀ b, H b ≠ none → H' b = H b := fun b h => by
    cases q : H b with
    | none => exact absurd q h
    | some o => exact e b o q
  refine ⟨fun b hb => by rw [keep b (A.dom b hb)]; exact A.dom b hb, A.sub, A.inc, A.dom0, fun b o n h => e b o (A.frm b o n h), A.mS, fun c hc => ?_, A.nd, A.pre, A.len, fun i d h => ?_, A.no⟩
  · obtain ⟨h1, h2, h3, h4⟩ := A.mu c hc
    exact ⟨h1, h2, h3, h4.mono (Wo.same e) (keep _ (A.dom _ h1))⟩
  · obtain ⟨v, q, r⟩ := A.var i d h
    exact ⟨v, q, r.mono (Wo.same e)⟩
/-- other slots -/
theorem At.slots (A : At K F S σ H ρ μ) (E : Ev K none S H S σ' H ρ' 0) : At K F S σ' H ρ' μ := by
  refine ⟨A.dom, A.sub, A.inc, A.dom0, A.frm, A.mS, A.mu, A.nd, A.pre, E.len, fun i d h => E.var i _ h, fun i a ds h => ?_⟩
  obtain ⟨v, q, r⟩ := E.var i _ h
  obtain ⟨_, h1, h2, _⟩ := r
  exact A.dom a h1 h2
theorem At.forget (A : At K F S σ H ρ μ) {i : Nat} : At K F S σ H (ρ.set i none) μ := by
  have out : ∀ {j : Nat} {c : C}, (ρ.set i none)[j]? = some (some c) → ρ[j]? = some (some c) := fun {j c} h => by
    by_cases e : i = j
    · subst e
      by_cases l : i < ρ.length
      · rw [List.getElem?_set_self l] at h
        cases h
      · rw [List.getElem?_eq_none (by rw [List.length_set]; omega)] at h
        cases h
    · rwa [List.getElem?_set_ne e] at h
  exact ⟨A.dom, A.sub, A.inc, A.dom0, A.frm, A.mS, A.mu, A.nd, A.pre, by rw [List.length_set]; exact A.len, fun j d h => A.var j d (out h), fun j a ds h => A.no j a ds (out h)⟩
end
abbrev TD := Rho → Mu → XC → (D → Mu → Prop) → Prop
abbrev TA := Rho → Mu → XC → (List D → Mu → Prop) → Prop
abbrev TT := Rho → Mu → XC → (Bool → Mu → Prop) → Prop
def MnX {α : Type} (t : Rho → Mu → XC → (α → Mu → Prop) → Prop) : Prop := ∀ ρ μ (X X' : XC) (Q Q' : α → Mu → Prop), (∀ C x n, X C x n → X' C x n) → (∀ d n, Q d n → Q' d n) → t ρ μ X Q → t ρ μ X' Q'
/-- the wish W is granted wherever xc is -/
def XOk (K : PySem.W.Frag) (F : Fr) (W : WX) (S : List Addr) (H : Hp) (ρ : Rho) (σ : St) (xc : XC) : Prop := ∀ (C : Addr) (x : D) (μ' : Mu) (S' : List Addr) (H' : Hp) (dA : Addr) (v : V), xc C x μ' → Step S H S' H' → At K F S' σ H' ρ μ' →
  H' dA = some (.xd [("value", v)]) → Dn K none (Wo S' H') v x → W (.ref C) (some dA) σ H'
theorem XOk.step {K : PySem.W.Frag} {F : Fr} {W : WX} {S S1 : List Addr} {H H1 : Hp} {ρ : Rho} {σ : St} {xc : XC} (h : XOk K F W S H ρ σ xc) (s : Step S H S1 H1) : XOk K F W S1 H1 ρ σ xc :=
  fun C x μ' S' H' dA v q s' A hd hv => h C x μ' S' H' dA v q (s.trans s') A hd hv
def lfE (X : Cx) (t : TD) : L2.TE := fun σ H Q => ∃ F S ρ μ W xc, Takes X W ∧ At X.K F S σ H ρ μ ∧ XOk X.K F W S H ρ σ xc ∧ t ρ μ xc fun d μ' => ∀ v H' S', Step S H S' H' → At X.K F S' σ H' ρ μ' → Dn X.K none (Wo S' H') v d → Q v H'
def lfA (X : Cx) (t : TA) : L2.TA := fun σ H Q => ∃ F S ρ μ W xc, Takes X W ∧ At X.K F S σ H ρ μ ∧ XOk X.K F W S H ρ σ xc ∧ t ρ μ xc fun ds μ' => ∀ vs H' S', Step S H S' H' → At X.K F S' σ H' ρ μ' → DnAll X.K none (Wo S' H') vs ds → Q vs H'
def lfT (X : Cx) (t : TT) : L2.TT := fun σ H Q => ∃ F S ρ μ W xc, Takes X W ∧ At X.K F S σ H ρ μ ∧ XOk X.K F W S H ρ σ xc ∧ t ρ μ xc fun b μ' => ∀ H' S', Step S H S' H' → At X.K F S' σ H' ρ μ' → Q b H'
structure EE (X : Cx) (e : Expr) (t : TD) : Prop where
  pe : PE X e (lfE X t)
  mn : MnX t
structure EA (X : Cx) (es : List Expr) (t : TA) : Prop where
  pa : PA X es (lfA X t)
  mn : MnX t
structure ET (X : Cx) (e : Expr) (t : TT) : Prop where
  pt : PT X e (lfT X t)
  mn : MnX t
/-! ### what changes nothing -/
section
variable {X : Cx} {e a b : Expr} {es : List Expr} {pos : Pos} {te ta tb : TD} {t : TA} {tt : TT}
def eD (t : Vd.TD) : TD := fun ρ μ _ Q => t ρ 0 fun d _ => Q d μ
def aD (t : Vd.TDA) : TA := fun ρ μ _ Q => t ρ 0 fun d _ => Q d μ
def tD (t : Vd.TDT) : TT := fun ρ μ _ Q => t ρ 0 fun d _ => Q d μ
theorem ee_d {t : Vd.TD} (h : DE X e t) : EE X e (eD t) := by
  refine ⟨pe_wk' h.pe ?_, fun ρ μ Y Y' Q Q' _ w q => h.mn _ _ _ _ (fun d _ q => w d μ q) q⟩
  rintro σ H Q ⟨F, S, ρ, μ, W, xc, tk, A, ok, q⟩
  exact ⟨none, S, H, S, ρ, 0, A.ev, h.mn _ _ _ _ (fun d _ q v H' e1 E1 x1 => q v H' S (A.ev.wo e1) (A.same fun b o => e1 b o fun z => nomatch z) x1) q⟩
theorem ea_d {t : Vd.TDA} (h : DA X es t) : EA X es (aD t) := by
  refine ⟨pa_wk' h.pa ?_, fun ρ μ Y Y' Q Q' _ w q => h.mn _ _ _ _ (fun d _ q => w d μ q) q⟩
  rintro σ H Q ⟨F, S, ρ, μ, W, xc, tk, A, ok, q⟩
  exact ⟨none, S, H, S, ρ, 0, A.ev, h.mn _ _ _ _ (fun d _ q v H' e1 E1 x1 => q v H' S (A.ev.wo e1) (A.same fun b o => e1 b o fun z => nomatch z) x1) q⟩
theorem et_d {t : Vd.TDT} (h : DT X e t) : ET X e (tD t) := by
  refine ⟨pt_wk' h.pt ?_, fun ρ μ Y Y' Q Q' _ w q => h.mn _ _ _ _ (fun d _ q => w d μ q) q⟩
  rintro σ H Q ⟨F, S, ρ, μ, W, xc, tk, A, ok, q⟩
  exact ⟨none, S, H, S, ρ, 0, A.ev, h.mn _ _ _ _ (fun d _ q H' e1 E1 => q H' S (A.ev.wo e1) (A.same fun b o => e1 b o fun z => nomatch z)) q⟩
/-! ### one behind the other -/
def aNil : TA := fun _ μ _ Q => Q [] μ
def aCons (ta : TD) (tr : TA) : TA := fun ρ μ X Q => ta ρ μ X fun x μ1 => tr ρ μ1 X fun xs μ2 => Q (x :: xs) μ2
theorem ea_nil : EA X [] aNil := by
  refine ⟨pa_wk' pa_nil ?_, fun ρ μ Y Y' Q Q' _ w q => w _ _ q⟩
  rintro σ H Q ⟨F, S, ρ, μ, W, xc, tk, A, ok, q⟩
  exact q [] H S .refl A .nil
theorem mn_cons (ma : MnX te) (mr : MnX t) : MnX (aCons te t) := fun ρ μ Y Y' Q Q' wx w h => ma _ _ _ _ _ _ wx (fun x m1 h1 => mr _ _ _ _ _ _ wx (fun y m2 h2 => w _ _ h2) h1) h
theorem ea_cons (ha : EE X e te) (hr : EA X es t) (hs : starEach (e :: es) X.env = (false, eval e X.env) :: starEach es X.env := by rfl) : EA X (e :: es) (aCons te t) := by
  refine ⟨pa_wk' (pa_cons ha.pe hr.pa hs) ?_, mn_cons ha.mn hr.mn⟩
  rintro σ H Q ⟨F, S, ρ, μ, W, xc, tk, A, ok, q⟩
  refine ⟨F, S, ρ, μ, W, xc, tk, A, ok, ha.mn _ _ _ _ _ _ (fun _ _ _ z => z) (fun x μ1 h1 v H1 S1 s1 A1 x1 => ?_) q⟩
  refine ⟨F, S1, ρ, μ1, W, xc, tk, A1, ok.step s1, hr.mn _ _ _ _ _ _ (fun _ _ _ z => z) (fun ys μ2 h2 us H2 S2 s2 A2 y2 => ?_) h1⟩
  exact h2 (v :: us) H2 S2 (s1.trans s2) A2 (.cons (x1.mono s2) y2)
def eTup (t : TA) : TD := fun ρ μ X Q => t ρ μ X fun ds μ1 => ds.length ≤ sizeLine ∧ Q (.tup ds) μ1
def eLst (t : TA) : TD := fun ρ μ X Q => t ρ μ X fun ds μ1 => ds.length ≤ sizeLine ∧ Q (.lst ds) μ1
theorem ee_tup {x1} (h : EA X es t) : EE X (.Tuple es x1 pos) (eTup t) := by
  refine ⟨pe_wk' (pe_tup h.pa) ?_, fun ρ μ Y Y' Q Q' wx w q => h.mn _ _ _ _ _ _ wx (fun d n ⟨l, q⟩ => ⟨l, w _ _ q⟩) q⟩
  rintro σ H Q ⟨F, S, ρ, μ, W, xc, tk, A, ok, q⟩
  refine ⟨F, S, ρ, μ, W, xc, tk, A, ok, h.mn _ _ _ _ _ _ (fun _ _ _ z => z) (fun xs μ1 h1 vs H1 S1 s1 A1 x1 => ?_) q⟩
  obtain ⟨l, h1⟩ := h1
  exact ⟨by rw [x1.length]; exact l, fun p hp => h1 _ _ S1 (s1.trans (Wo.same (Same.new hp))) (A1.same (Same.new hp)) (.tup (.of (wo_new A1.dom hp)) (x1.mono (Wo.same (Same.new hp))))⟩
theorem ee_lst (h : EA X es t) : EE X (.List es pos) (eLst t) := by
  refine ⟨pe_wk' (pe_lst h.pa) ?_, fun ρ μ Y Y' Q Q' wx w q => h.mn _ _ _ _ _ _ wx (fun d n ⟨l, q⟩ => ⟨l, w _ _ q⟩) q⟩
  rintro σ H Q ⟨F, S, ρ, μ, W, xc, tk, A, ok, q⟩
  refine ⟨F, S, ρ, μ, W, xc, tk, A, ok, h.mn _ _ _ _ _ _ (fun _ _ _ z => z) (fun xs μ1 h1 vs H1 S1 s1 A1 x1 => ?_) q⟩
  obtain ⟨l, h1⟩ := h1
  exact ⟨by rw [x1.length]; exact l, fun p hp => h1 _ _ S1 (s1.trans (Wo.same (Same.new hp))) (A1.same (Same.new hp)) (.lst (wo_new A1.dom hp) (x1.mono (Wo.same (Same.new hp))))⟩
def eOp2 (f : D → D → Option D) (ta tb : TD) : TD := fun ρ μ X Q => ta ρ μ X fun x μ1 => tb ρ μ1 X fun y μ2 => ∃ d, f x y = some d ∧ Q d μ2
theorem mn_op2 {f : D → D → Option D} (ma : MnX ta) (mb : MnX tb) : MnX (eOp2 f ta tb) := fun ρ μ Y Y' Q Q' wx w h => ma _ _ _ _ _ _ wx (fun x m1 h1 => mb _ _ _ _ _ _ wx (fun y m2 ⟨d, q, h2⟩ => ⟨d, q, w _ _ h2⟩) h1) h
theorem lf_op2 {r : R2} {f : D → D → Option D} (s : S2 X.K r f) (ma : MnX ta) (mb : MnX tb) : ∀ σ H Q, lfE X (eOp2 f ta tb) σ H Q → tOp r (lfE X ta) (lfE X tb) σ H Q := by
  rintro σ H Q ⟨F, S, ρ, μ, W, xc, tk, A, ok, q⟩
  refine ⟨F, S, ρ, μ, W, xc, tk, A, ok, ma _ _ _ _ _ _ (fun _ _ _ z => z) (fun x μ1 h1 v H1 S1 s1 A1 x1 => ?_) q⟩
  refine ⟨F, S1, ρ, μ1, W, xc, tk, A1, ok.step s1, mb _ _ _ _ _ _ (fun _ _ _ z => z) (fun y μ2 h2 u H2 S2 s2 A2 y2 => ?_) h1⟩
  obtain ⟨d, q, h2⟩ := h2
  exact s none S2 H2 v u x y d Q A2.dom (x1.mono s2) y2 q fun v' H' e' r' => h2 v' H' S2 ((s1.trans s2).trans (Wo.same e')) (A2.same e') r'
theorem ee_op {op : Operator} {r : R2} {f : D → D → Option D} (ho : OpR X (binaryOp op) r) (s : S2 X.K r f) (ha : EE X a ta) (hb : EE X b tb) : EE X (.BinOp a op b pos) (eOp2 f ta tb) :=
  ⟨pe_wk' (pe_op ho ha.pe hb.pe) (lf_op2 s ha.mn hb.mn), mn_op2 ha.mn hb.mn⟩
theorem ee_cmp {op : CmpOp} {r : R2} {f : D → D → Option D} (ho : OpR X (compareOp op) r) (s : S2 X.K r f) (ha : EE X a ta) (hb : EE X b tb) (hm : behindInMarks op b = false) : EE X (.Compare a [op] [b] pos) (eOp2 f ta tb) :=
  ⟨pe_wk' (pe_cmpR ho ha.pe hb.pe hm) (lf_op2 s ha.mn hb.mn), mn_op2 ha.mn hb.mn⟩
def eCall (f : List D → Option D) (t : TA) : TD := fun ρ μ X Q => t ρ μ X fun ds μ1 => ∃ d, f ds = some d ∧ Q d μ1
theorem mn_call {f : List D → Option D} (ha : MnX t) : MnX (eCall f t) := fun ρ μ Y Y' Q Q' wx w h => ha _ _ _ _ _ _ wx (fun x m1 ⟨d, q, h2⟩ => ⟨d, q, w _ _ h2⟩) h
theorem lf_call {r : List V → Hp → VK → Prop} {f : List D → Option D} (s : SC X.K r f) (ma : MnX t) : ∀ σ H Q, lfE X (eCall f t) σ H Q → lfA X t σ H fun vs H1 => r vs H1 Q := by
  rintro σ H Q ⟨F, S, ρ, μ, W, xc, tk, A, ok, q⟩
  refine ⟨F, S, ρ, μ, W, xc, tk, A, ok, ma _ _ _ _ _ _ (fun _ _ _ z => z) (fun xs μ1 h1 vs H1 S1 s1 A1 x1 => ?_) q⟩
  obtain ⟨d, q, h2⟩ := h1
  exact s none S1 H1 vs xs d Q A1.dom x1 q fun v' H' e' r' => h2 v' H' S1 (s1.trans (Wo.same e')) (A1.same e') r'
theorem ee_callB {id : String} {x : Str} {p : Pos} {r : List V → Hp → VK → Prop} {f : List D → Option D} (hc : CallR X (.builtin id) r) (s : SC X.K r f) (hg : Gl X x) (hm : X.mg x = none) (hv : bootBuiltins x = some (.builtin id)) (ha : EA X (e :: es) t) (hn : x ≠ "__name__" := by decide) (hdb : (x == ("__debug__" : Str)) = false := by decide)
    (he : starEach (e :: es) X.env = (false, eval e X.env) :: starEach es X.env := by rfl) (hpl : (backTo pos (starEach es X.env)).any (·.1) = false := by rfl) : EE X (.Call (.Name x p) (e :: es) [] pos) (eCall f t) :=
  ⟨pe_wk' (pe_callB hc hg hm hv ha.pa hn hdb he hpl) (lf_call s ha.mn), mn_call ha.mn⟩
theorem ee_callTy {T : String} {x : Str} {p : Pos} {r : List V → Hp → VK → Prop} {f : List D → Option D} (hc : CallR X (.type T) r) (s : SC X.K r f) (hg : Gl X x) (hm : X.mg x = none) (hv : bootBuiltins x = some (.type T)) (ha : EA X (e :: es) t) (hn : x ≠ "__name__" := by decide) (hdb : (x == ("__debug__" : Str)) = false := by decide)
    (he : starEach (e :: es) X.env = (false, eval e X.env) :: starEach es X.env := by rfl) (hpl : (backTo pos (starEach es X.env)).any (·.1) = false := by rfl) : EE X (.Call (.Name x p) (e :: es) [] pos) (eCall f t) :=
  ⟨pe_wk' (pe_callTy hc hg hm hv ha.pa hn hdb he hpl) (lf_call s ha.mn), mn_call ha.mn⟩
/-! ### tests -/
def eTst (te : TD) : TT := fun ρ μ X Q => te ρ μ X fun d μ1 => ∃ b, d = .bl b ∧ Q b μ1
theorem mn_tst (h : MnX te) : MnX (eTst te) := fun ρ μ Y Y' Q Q' wx w q => h _ _ _ _ _ _ wx (fun d n ⟨b, e, q⟩ => ⟨b, e, w _ _ q⟩) q
theorem et_val (h : EE X e te) (he : ∀ whole, isTrue e X.env whole = (do let v ← whole; standAt e.pos; holding [v] (truthy v)) := by intro _; rfl) : ET X e (eTst te) := by
  refine ⟨pt_wk' (pt_val h.pe he) ?_, mn_tst h.mn⟩
  rintro σ H Q ⟨F, S, ρ, μ, W, xc, tk, A, ok, q⟩
  refine ⟨F, S, ρ, μ, W, xc, tk, A, ok, h.mn _ _ _ _ _ _ (fun _ _ _ z => z) (fun x μ1 h1 v H1 S1 s1 A1 x1 => ?_) q⟩
  obtain ⟨b, rfl, h1⟩ := h1
  cases x1
  exact ⟨b, rfl, h1 H1 S1 s1 A1⟩
def tNot (t : TT) : TT := fun ρ μ X Q => t ρ μ X fun b μ1 => Q (!b) μ1
theorem et_not (h : ET X a tt) : ET X (.UnaryOp .Not a pos) (tNot tt) := by
  refine ⟨pt_wk' (pt_not h.pt) ?_, fun ρ μ Y Y' Q Q' wx w q => h.mn _ _ _ _ _ _ wx (fun d n q => w _ _ q) q⟩
  rintro σ H Q ⟨F, S, ρ, μ, W, xc, tk, A, ok, q⟩
  exact ⟨F, S, ρ, μ, W, xc, tk, A, ok, h.mn _ _ _ _ _ _ (fun _ _ _ z => z) (fun b μ1 h1 H1 S1 s1 A1 => h1 H1 S1 s1 A1) q⟩
end
end Ve
end
section
set_option Elab.async false
set_option linter.all false
set_option maxRecDepth 100000
set_option autoImplicit false
set_option maxHeartbeats 1000000
namespace Ve
open PySem L2 PySem.Spec Vb Vd
open PyProof.Rows hiding St
/-! ### what is lent to a callee, and comes back -/
def putO : Mu → Nat → MO → Mu
  | [], _, _ => []
  | c :: r, 0, o => ⟨c.a, c.own, o⟩ :: r
  | c :: r, n + 1, o => c :: putO r n o
def sel (μ : Mu) : List Nat → Option Mu
  | [] => some []
  | i :: is => (μ[i]?).bind fun c => (sel μ is).map fun r => ⟨c.a, false, c.o⟩ :: r
def backL : List Nat → Mu → Mu → Mu
  | [] => fun μ ν => μ ++ ν
  | i :: is => fun μ ν => match ν with
    | [] => μ
    | c :: r => backL is (putO μ i c.o) r
abbrev back (μ : Mu) (is : List Nat) (ν : Mu) : Mu := backL is μ ν
theorem putO_as : ∀ {μ : Mu} {i : Nat} {o : MO}, (putO μ i o).map (·.a) = μ.map (·.a)
  | [], _, _ => rfl
  | _ :: _, 0, _ => rfl
  | c :: r, n + 1, o => by
    show c.a :: (putO r n o).map (·.a) = _
    rw [putO_as]
    rfl
theorem putO_get : ∀ {μ : Mu} {i j : Nat} {o : MO} {c : Cl}, (putO μ i o)[j]? = some c → (i = j ∧ ∃ d, μ[j]? = some d ∧ c = ⟨d.a, d.own, o⟩) ∨ (i ≠ j ∧ μ[j]? = some c)
  | [], _, _, _, _, h => by simp [putO] at h
  | d :: r, 0, 0, o, c, h => by
    have h : some (⟨d.a, d.own, o⟩ : Cl) = some c := h
    cases h
    exact .inl ⟨rfl, d, rfl, rfl⟩
  | d :: r, 0, j + 1, o, c, h => .inr ⟨by omega, h⟩
  | d :: r, i + 1, 0, o, c, h => .inr ⟨by omega, h⟩
  | d :: r, i + 1, j + 1, o, c, h => by
    have h : (putO r i o)[j]? = some c := h
    rcases putO_get h with ⟨e, q⟩ | ⟨e, q⟩
    · exact .inl ⟨by omega, q⟩
    · exact .inr ⟨by omega, q⟩
theorem nodup_at : ∀ {μ : Mu}, (μ.map (·.a)).Nodup → ∀ {i j : Nat} {c d : Cl}, μ[i]? = some c → μ[j]? = some d → c.a = d.a → i = j
  | [], _, _, _, _, _, h, _, _ => by simp at h
  | x :: μ, nd, 0, 0, _, _, _, _, _ => rfl
  | x :: μ, nd, 0, j + 1, c, d, h1, h2, e => by
    have h1 : some x = some c := h1
    cases h1
    have h2 : μ[j]? = some d := h2
    exact absurd (List.mem_map.mpr ⟨d, List.mem_of_getElem? h2, e.symm⟩) (List.nodup_cons.mp nd).1
  | x :: μ, nd, i + 1, 0, c, d, h1, h2, e => by
    have h2 : some x = some d := h2
    cases h2
    have h1 : μ[i]? = some c := h1
    exact absurd (List.mem_map.mpr ⟨c, List.mem_of_getElem? h1, e⟩) (List.nodup_cons.mp nd).1
  | x :: μ, nd, i + 1, j + 1, c, d, h1, h2, e => by
    have h1 : μ[i]? = some c := h1
    have h2 : μ[j]? = some d := h2
    rw [nodup_at (List.nodup_cons.mp nd).2 h1 h2 e]
theorem sel_len {μ : Mu} : ∀ {is : List Nat} {l : Mu}, sel μ is = some l → l.length = is.length
  | [], _, h => by cases h; rfl
  | i :: is, l, h => by
    obtain ⟨c, _, h⟩ := Option.bind_eq_some_iff.mp h
    obtain ⟨r, hr, rfl⟩ := Option.map_eq_some_iff.mp h
    rw [List.length_cons, List.length_cons, sel_len hr]
theorem sel_mem {μ : Mu} : ∀ {is : List Nat} {l : Mu} {c : Cl}, sel μ is = some l → c ∈ l → ∃ i ∈ is, ∃ d, μ[i]? = some d ∧ c = ⟨d.a, false, d.o⟩
  | [], _, _, h, hc => by cases h; exact nomatch hc
  | i :: is, l, c, h, hc => by
    obtain ⟨d, hd, h⟩ := Option.bind_eq_some_iff.mp h
    obtain ⟨r, hr, rfl⟩ := Option.map_eq_some_iff.mp h
    rcases List.mem_cons.mp hc with rfl | hc
    · exact ⟨i, List.mem_cons_self, d, hd, rfl⟩
    · obtain ⟨j, hj, q⟩ := sel_mem hr hc
      exact ⟨j, List.mem_cons_of_mem _ hj, q⟩
theorem back_as : ∀ {is : List Nat} {μ ν : Mu}, is.length ≤ ν.length → (back μ is ν).map (·.a) = μ.map (·.a) ++ (ν.drop is.length).map (·.a)
  | [], μ, ν, _ => by
    show (μ ++ ν).map (·.a) = _
    rw [List.map_append]
    rfl
  | i :: is, μ, [], h => by simp at h
  | i :: is, μ, c :: ν, h => by
    show (back (putO μ i c.o) is ν).map (·.a) = _
    rw [back_as (by simpa using h), putO_as]
    rfl
/-- each thing behind the call: as it was, or as the callee left it, or new -/
theorem back_mem : ∀ {is : List Nat} {μ ν : Mu} {P : Cl → Prop}, is.length ≤ ν.length → (∀ (j : Nat) (c : Cl), μ[j]? = some c → j ∉ is → P c) → (∀ (k i : Nat) (c d : Cl), is[k]? = some i → ν[k]? = some c → μ[i]? = some d → P ⟨d.a, d.own, c.o⟩) → is.Nodup → (∀ c ∈ ν.drop is.length, P c) →
    ∀ c ∈ back μ is ν, P c
  | [], μ, ν, P, _, h1, _, _, h3, c, hc => by
    rcases List.mem_append.mp (show c ∈ μ ++ ν from hc) with h | h
    · obtain ⟨j, hj⟩ := List.mem_iff_getElem?.mp h
      exact h1 j c hj List.not_mem_nil
    · exact h3 c h
  | i :: is, μ, [], P, hl, _, _, _, _, _, _ => by simp at hl
  | i :: is, μ, c0 :: ν, P, hl, h1, h2, nd, h3, c, hc => by
    have nd' := List.nodup_cons.mp nd
    refine back_mem (μ := putO μ i c0.o) (is := is) (ν := ν) (by simpa using hl) (fun j d hj nj => ?_) (fun k i' c d hk hc hd => ?_) nd'.2 (by simpa using h3) c hc
    · rcases putO_get hj with ⟨rfl, e, he, rfl⟩ | ⟨ne, he⟩
      · exact h2 0 i c0 e rfl rfl he
      · exact h1 j d he (by simp only [List.mem_cons, not_or]; exact ⟨fun z => ne z.symm, nj⟩)
    · have ni : i ≠ i' := fun z => nd'.1 (z ▸ List.mem_of_getElem? hk)
      rcases putO_get hd with ⟨e, _⟩ | ⟨_, he⟩
      · exact absurd e ni
      · exact h2 (k + 1) i' c d hk hc he
/-- how a call ends -/
structure Out (K : PySem.W.Frag) (S : List Addr) (H : Hp) (μ : Mu) (S' : List Addr) (H' : Hp) (ν : Mu) : Prop where
  frm : ∀ b o, b ∉ μ.map (·.a) → H b = some o → H' b = some o
  inc : ∀ b ∈ S, b ∈ S'
  sub : ∀ b ∈ S', b ∈ S ∨ H b = none
  dom : ∀ b ∈ S', H' b ≠ none
  pre : (ν.map (·.a)).take μ.length = μ.map (·.a)
  mu : ∀ c ∈ ν, c.a ∈ S' ∧ MoAt K (Wo S' H') H' c.a c.o
  new : ∀ c ∈ ν.drop μ.length, c.own = true ∧ H c.a = none
  nd : (ν.map (·.a)).Nodup
structure Ent (K : PySem.W.Frag) (S : List Addr) (H : Hp) (μ : Mu) : Prop where
  dom : ∀ b ∈ S, H b ≠ none
  mu : ∀ c ∈ μ, c.a ∈ S ∧ c.own = false ∧ MoAt K (Wo S H) H c.a c.o
  nd : (μ.map (·.a)).Nodup
section
variable {K : PySem.W.Frag} {F : Fr} {S S' : List Addr} {σ : St} {H H' : Hp} {ρ : Rho} {μ l ν : Mu} {is : List Nat}
theorem At.lent (A : At K F S σ H ρ μ) (hs : sel μ is = some l) (nd : is.Nodup) : Ent K S H l := by
  refine ⟨A.dom, fun c hc => ?_, ?_⟩
  · obtain ⟨i, _, d, hd, rfl⟩ := sel_mem hs hc
    obtain ⟨h1, _, _, h4⟩ := A.mu d (List.mem_of_getElem? hd)
    exact ⟨h1, rfl, h4⟩
  · have : ∀ {is : List Nat} {l : Mu}, sel μ is = some l → is.Nodup → (l.map (·.a)).Nodup := by
      intro is
      induction is with
      | nil => intro l h _; cases h; exact List.nodup_nil
      | cons i is ih =>
        intro l h nd
        obtain ⟨c, hc, h⟩ := Option.bind_eq_some_iff.mp h
        obtain ⟨r, hr, rfl⟩ := Option.map_eq_some_iff.mp h
        obtain ⟨n1, n2⟩ := List.nodup_cons.mp nd
        refine List.nodup_cons.mpr ⟨fun z => ?_, ih hr n2⟩
        obtain ⟨e, he, z⟩ := List.mem_map.mp z
        obtain ⟨j, hj, d, hd, rfl⟩ := sel_mem hr he
        exact n1 (nodup_at A.nd hd hc z ▸ hj)
    exact this hs nd
theorem At.backed (A : At K F S σ H ρ μ) (hs : sel μ is = some l) (nd : is.Nodup) (O : Out K S H l S' H' ν) : Step S H S' H' ∧ At K F S' σ H' ρ (back μ is ν) := by
  have inS : ∀ {b : Addr}, b ∈ l.map (·.a) → b ∈ S := fun {b} h => by
    obtain ⟨c, hc, rfl⟩ := List.mem_map.mp h
    obtain ⟨i, _, d, hd, rfl⟩ := sel_mem hs hc
    exact (A.mu d (List.mem_of_getElem? hd)).1
  have h0 : ∀ {b : Addr}, H b = none → F.H0 b = none := fun {b} h => by
    cases q : F.H0 b with
    | none => rfl
    | some o =>
      by_cases m : b ∈ F.M0
      · exact absurd h (A.dom b (A.m0 m))
      · rw [A.frm b o m q] at h
        cases h
  have st : Step S H S' H' := fun b o q => by
    obtain ⟨n, q⟩ := Wo.some q
    rw [Wo.out fun z => (O.sub b z).elim n fun z => by rw [z] at q; cases q]
    exact O.frm b o (fun z => n (inS z)) q
  have ll : l.length = is.length := sel_len hs
  have lv : is.length ≤ ν.length := by
    have := congrArg List.length O.pre
    rw [List.length_take, List.length_map, List.length_map] at this
    omega
  refine ⟨st, O.dom, fun b hb => ?_, fun b hb => O.inc b (A.inc b hb), A.dom0, fun b o n q => ?_, A.mS, ?_, ?_, ?_, A.len, fun i d h => ?_, A.no⟩
  · rcases O.sub b hb with h | h
    · exact A.sub b h
    · exact .inr (h0 h)
  · refine O.frm b o (fun z => ?_) (A.frm b o n q)
    obtain ⟨c, hc, e⟩ := List.mem_map.mp z
    obtain ⟨i, _, d, hd, rfl⟩ := sel_mem hs hc
    obtain ⟨_, h2, h3, _⟩ := A.mu d (List.mem_of_getElem? hd)
    have e : d.a = b := e
    cases ho : d.own with
    | true => rw [← e, h2 ho] at q; cases q
    | false => exact n (e ▸ h3 ho)
  · refine back_mem (P := fun c => c.a ∈ S' ∧ (c.own = true → F.H0 c.a = none) ∧ (c.own = false → c.a ∈ F.M0) ∧ MoAt K (Wo S' H') H' c.a c.o) lv (fun j c hj nj => ?_) (fun k i c d hk hc hd => ?_) nd fun c hc => ?_
    · obtain ⟨h1, h2, h3, h4⟩ := A.mu c (List.mem_of_getElem? hj)
      refine ⟨O.inc _ h1, h2, h3, h4.mono st ?_⟩
      cases q : H c.a with
      | none => exact absurd q (A.dom _ h1)
      | some o =>
        refine O.frm _ _ (fun z => ?_) q
        obtain ⟨e, he, z⟩ := List.mem_map.mp z
        obtain ⟨i, hi, d, hd, rfl⟩ := sel_mem hs he
        exact nj (nodup_at A.nd hd hj z ▸ hi)
    · obtain ⟨h1, h2, h3, _⟩ := A.mu d (List.mem_of_getElem? hd)
      -- the callee's thing at k stands where d does
      have ea : c.a = d.a := by
        have e1 : (ν.map (·.a))[k]? = some c.a := by rw [List.getElem?_map, hc]; rfl
        have kl : k < is.length := (List.getElem?_eq_some_iff.mp hk).1
        have e2 : ((ν.map (·.a)).take l.length)[k]? = some c.a := by rw [List.getElem?_take, if_pos (by omega)]; exact e1
        rw [O.pre, List.getElem?_map] at e2
        obtain ⟨e, he, e3⟩ := Option.map_eq_some_iff.mp e2
        have : ∀ {is : List Nat} {l : Mu} {k i : Nat} {e d : Cl}, sel μ is = some l → is[k]? = some i → l[k]? = some e → μ[i]? = some d → e.a = d.a := by
          intro is
          induction is with
          | nil => intro l k i e d _ h; simp at h
          | cons i' is ih =>
            intro l k i e d h hk he hd
            obtain ⟨c', hc', h⟩ := Option.bind_eq_some_iff.mp h
            obtain ⟨r, hr, rfl⟩ := Option.map_eq_some_iff.mp h
            cases k with
            | zero =>
              cases hk
              cases he
              rw [hc'] at hd
              cases hd
              rfl
            | succ k => exact ih hr hk he hd
        rw [← e3]
        exact this hs hk he hd
      have m := (O.mu c (List.mem_of_getElem? hc)).2
      rw [ea] at m
      exact ⟨O.inc _ h1, h2, h3, m⟩
    · obtain ⟨h1, h2⟩ := O.mu c (List.mem_of_mem_drop hc)
      obtain ⟨n1, n2⟩ := O.new c (by rw [ll]; exact hc)
      exact ⟨h1, fun _ => h0 n2, fun z => by rw [n1] at z; (cases z), h2⟩
  · rw [back_as lv]
    refine List.nodup_append.mpr ⟨A.nd, (O.nd.sublist (List.Sublist.map _ (List.drop_sublist _ _))), fun x hx y hy e => ?_⟩
    obtain ⟨c, hc, rfl⟩ := List.mem_map.mp hx
    obtain ⟨d, hd, rfl⟩ := List.mem_map.mp hy
    have n := (O.new d (by rw [ll]; exact hd)).2
    exact A.dom _ (A.mu c hc).1 (by rw [e]; exact n)
  · rw [back_as lv]
    have le : F.M0.length ≤ (μ.map (·.a)).length := by
      have := congrArg List.length A.pre
      rw [List.length_take] at this
      omega
    rw [List.take_append_of_le_length le]
    exact A.pre
  · obtain ⟨v, q, r⟩ := A.var i d h
    exact ⟨v, q, r.mono st⟩
end
/-! ### promises -/
abbrev FE := List D → Mu → XC → (D → Mu → Prop) → Prop
def MnF (F : FE) : Prop := ∀ ds μ (X X' : XC) (Q Q' : D → Mu → Prop), (∀ C x n, X C x n → X' C x n) → (∀ d n, Q d n → Q' d n) → F ds μ X Q → F ds μ X' Q'
def spE (K : PySem.W.Frag) (F : FE) : Sp := fun vs H Q E => ∃ S ds μ, Ent K S H μ ∧ DnAll K none (Wo S H) vs ds ∧
  F ds μ (fun C x ν => ∀ dA v H' S', Out K S H μ S' H' ν → H' dA = some (.xd [("value", v)]) → Dn K none (Wo S' H') v x → E (.ref C) (some dA) H') fun d ν => ∀ v H' S', Out K S H μ S' H' ν → Dn K none (Wo S' H') v d → Q v H'
/-- a def that may raise; one that is called only where no container is being shown -/
structure CalE (P : Program) (w : World) (K : PySem.W.Frag) (mg : Str → Option Value) (base : Heap) (k : Nat) (x : Str) (F : FE) : Prop where
  ex : ∃ (f : Addr) (fd : FuncData) (ps : List Str), FnOk P w K mg base (L2.CX P w) k f fd ps (spE K F) ∧ mg x = some (.ref f) ∧ PySem.W.keepIn K (.ref f) = true ∧ Binds K fd ps []
structure CalF (P : Program) (w : World) (K : PySem.W.Frag) (mg : Str → Option Value) (base : Heap) (k : Nat) (x : Str) (F : FE) : Prop where
  ex : ∃ (f : Addr) (fd : FuncData) (ps : List Str), FnG P w K mg base (L2.CX P w) k f fd ps (spE K F) ∧ mg x = some (.ref f) ∧ PySem.W.keepIn K (.ref f) = true ∧ Binds K fd ps []
def eCal (F : FE) (t : TA) : TD := fun ρ μ X Q => t ρ μ X fun ds μ1 => ∃ is l, sel μ1 is = some l ∧ is.Nodup ∧ F ds l (fun C x ν => X C x (back μ1 is ν)) fun d ν => Q d (back μ1 is ν)
theorem mn_cal {F : FE} {t : TA} (mf : MnF F) (ma : MnX t) : MnX (eCal F t) := fun ρ μ Y Y' Q Q' wx w h => ma _ _ _ _ _ _ wx (fun ds n ⟨is, l, h1, h2, q⟩ => ⟨is, l, h1, h2, mf _ _ _ _ _ _ (fun C x ν z => wx _ _ _ z) (fun d ν z => w _ _ z) q⟩) h
section
variable {X : Cx} {x : Str} {e : Expr} {es : List Expr} {p pos : Pos} {k j : Nat} {F : FE} {t : TA} {sp : Sp}
/-- a callee that may raise -/
theorem run_x {W : WX} {f : Addr} {fd : FuncData} {ps : List Str} (tk : Takes X W) (len : ∀ vs H Q E, sp vs H Q E → vs.length = ps.length) (hb : Binds X.K fd ps [])
    {pins : List (Addr × Obj)} {s : Shared} {σ : St} {H : Hp} {Q : VK} {us : List Value} {vs : List V} (I : Inv X pins σ H s) (r : Vals vs us) (h : sp vs H Q fun cls d H' => W cls d σ H')
    (run : BindsTo s fd ⟨us, []⟩ (ps.zip us) → codeAny (model X.prog X.w) X.A (.call (.ref f) ⟨us, []⟩) (CR (L2.CX X.prog X.w) X.stack X.prog X.w H s Q fun cls d H' => W cls d σ H') s) :
    wpAny (model X.prog X.w) X.A (call (.ref f) us) (EP X pins σ Q) X.xe s := by
  have hl : us.length = ps.length := r.length.symm.trans (len _ _ _ _ h)
  have hb := hb s us I.kIn (by simpa using hl)
  rw [List.append_nil] at hb
  refine wpAny_call (codeAny_mono (run hb) fun r s' hq => ?_)
  match r, hq with
  | .error e, hq => exact tk _ _ (XE.of_call I (fun _ _ _ z => z) hq)
  | .ok (.ret u), hq => exact I.after hq
  | .ok .next, hq => exact False.elim hq
  | .ok .brk, hq => exact False.elim hq
  | .ok .cont, hq => exact False.elim hq
theorem lf_x (mf : MnF F) {W : WX} {Fr : Fr} {S : List Addr} {ρ : Rho} {μ : Mu} {xc : XC} {σ : St} {H : Hp} {Q : VK} (ma : MnX t) (tk : Takes X W) (A : At X.K Fr S σ H ρ μ) (ok : XOk X.K Fr W S H ρ σ xc)
    (q : eCal F t ρ μ xc fun d μ' => ∀ v H' S', Step S H S' H' → At X.K Fr S' σ H' ρ μ' → Dn X.K none (Wo S' H') v d → Q v H') : lfA X t σ H fun vs H1 => spE X.K F vs H1 Q fun cls d H' => W cls d σ H' := by
  refine ⟨Fr, S, ρ, μ, W, xc, tk, A, ok, ma _ _ _ _ _ _ (fun _ _ _ z => z) (fun ds μ1 h1 vs H1 S1 s1 A1 x1 => ?_) q⟩
  obtain ⟨is, l, h2, h3, h1⟩ := h1
  refine ⟨S1, ds, l, A1.lent h2 h3, x1, mf _ _ _ _ _ _ (fun C x ν z dA v H' S' O hd hv => ?_) (fun d ν z v H' S' O hv => ?_) h1⟩
  · obtain ⟨s2, A2⟩ := A1.backed h2 h3 O
    exact ok C x _ S' H' dA v z (s1.trans s2) A2 hd hv
  · obtain ⟨s2, A2⟩ := A1.backed h2 h3 O
    exact z v H' S' (s1.trans s2) A2 hv
theorem ee_c (mf : MnF F) (cl : CalE X.prog X.w X.K X.mg X.base k x F) (hr : Room j X.A) (hk : k ≤ j) (hg : Gl X x) (ha : EA X (e :: es) t)
    (hdb : (x == ("__debug__" : Str)) = false := by decide) (he : starEach (e :: es) X.env = (false, eval e X.env) :: starEach es X.env := by rfl) (hpl : (backTo pos (starEach es X.env)).any (·.1) = false := by rfl) :
    EE X (.Call (.Name x p) (e :: es) [] pos) (eCal F t) := by
  obtain ⟨f, fd, ps, Fn, hm, kp, b⟩ := cl.ex
  refine ⟨⟨fun pins s σ H Q I h => ?_⟩, mn_cal mf ha.mn⟩
  obtain ⟨Fr, S, ρ, μ, W, xc, tk, A, ok, q⟩ := h
  refine wpAny_Call_Name_kw (ld_glob I hg hm ?_ hdb)
  refine PySem.W.callWith_K (h₀ := X.base) I.ok.mod.kin kp (thn (ha.pa.run pos pins s σ H _ I (lf_x mf ha.mn tk A ok q)) fun us s1 ⟨vs, H1, I1, r, q⟩ => ⟨I1.kIn, ?_⟩) he hpl
  exact run_x tk Fn.len b I1 r q fun hb => Fn.run X.A X.stack s1 H1 _ us vs Q _ (hr.mono hk) I1.env0 hb r q
theorem ee_g (mf : MnF F) (g : X.A.guards = some []) (cl : CalF X.prog X.w X.K X.mg X.base k x F) (hr : Room j X.A) (hk : k ≤ j) (hg : Gl X x) (ha : EA X (e :: es) t)
    (hdb : (x == ("__debug__" : Str)) = false := by decide) (he : starEach (e :: es) X.env = (false, eval e X.env) :: starEach es X.env := by rfl) (hpl : (backTo pos (starEach es X.env)).any (·.1) = false := by rfl) :
    EE X (.Call (.Name x p) (e :: es) [] pos) (eCal F t) := by
  obtain ⟨f, fd, ps, Fn, hm, kp, b⟩ := cl.ex
  refine ⟨⟨fun pins s σ H Q I h => ?_⟩, mn_cal mf ha.mn⟩
  obtain ⟨Fr, S, ρ, μ, W, xc, tk, A, ok, q⟩ := h
  refine wpAny_Call_Name_kw (ld_glob I hg hm ?_ hdb)
  refine PySem.W.callWith_K (h₀ := X.base) I.ok.mod.kin kp (thn (ha.pa.run pos pins s σ H _ I (lf_x mf ha.mn tk A ok q)) fun us s1 ⟨vs, H1, I1, r, q⟩ => ⟨I1.kIn, ?_⟩) he hpl
  exact run_x tk Fn.len b I1 r q fun hb => Fn.run X.A X.stack s1 H1 _ us vs Q _ g (hr.mono hk) I1.env0 hb r q
/-- a promise of the plain layer: nothing is lent; a pot, given first, may be -/
def eCalV (F : Vd.FD) (t : TA) : TD := fun ρ μ X Q => t ρ μ X fun ds μ1 => F ds 0 fun d _ => Q d μ1
theorem ee_v {F : Vd.FD} (mf : Vd.MnF F) (cl : Cal X.prog X.w X.K X.mg X.base k x (spD X.K F)) (hr : Room j X.A) (hk : k ≤ j) (hg : Gl X x) (ha : EA X (e :: es) t)
    (hdb : (x == ("__debug__" : Str)) = false := by decide) (he : starEach (e :: es) X.env = (false, eval e X.env) :: starEach es X.env := by rfl) (hpl : (backTo pos (starEach es X.env)).any (·.1) = false := by rfl) :
    EE X (.Call (.Name x p) (e :: es) [] pos) (eCalV F t) := by
  refine ⟨pe_wk' (pe_c cl hr hk hg ha.pa hdb he hpl) ?_, fun ρ μ Y Y' Q Q' wx w h => ha.mn _ _ _ _ _ _ wx (fun ds n q => mf _ _ _ _ (fun d _ z => w _ _ z) q) h⟩
  rintro σ H Q ⟨Fr, S, ρ, μ, W, xc, tk, A, ok, q⟩
  refine ⟨Fr, S, ρ, μ, W, xc, tk, A, ok, ha.mn _ _ _ _ _ _ (fun _ _ _ z => z) (fun ds μ1 h1 vs H1 S1 s1 A1 x1 => ?_) q⟩
  exact ⟨none, S1, ds, 0, A1.dom, fun p z => (nomatch z), fun p z => (nomatch z), x1, mf _ _ _ _ (fun d m2 h2 v H2 e2 p2 x2 => h2 v H2 S1 (s1.trans (A1.ev.wo e2)) (A1.same fun b o => e2 b o fun z => nomatch z) x2) h1⟩
end
end Ve
end
section
set_option Elab.async false
set_option linter.all false
set_option maxRecDepth 100000
set_option autoImplicit false
set_option maxHeartbeats 1000000
namespace Ve
open PySem L2 PySem.Spec Vb Vd
open PyProof.Rows hiding St
/-! ### statements -/
structure Ed where
  nx : Rho → Mu → Prop
  rt : D → Mu → Prop
  xc : Addr → D → Rho → Mu → Prop
  bk : Rho → Mu → Prop := fun _ _ => False
  ct : Rho → Mu → Prop := fun _ _ => False
abbrev TSD := Ed → Rho → Mu → Prop
structure Ed.Le (a b : Ed) : Prop where
  nx : ∀ ρ m, a.nx ρ m → b.nx ρ m
  rt : ∀ d m, a.rt d m → b.rt d m
  xc : ∀ C x ρ m, a.xc C x ρ m → b.xc C x ρ m
  bk : ∀ ρ m, a.bk ρ m → b.bk ρ m
  ct : ∀ ρ m, a.ct ρ m → b.ct ρ m
def MnS (t : TSD) : Prop := ∀ (a b : Ed) ρ m, a.Le b → t a ρ m → t b ρ m
abbrev Ed.x (D : Ed) (ρ : Rho) : XC := fun C x μ => D.xc C x ρ μ
def lfEd (K : PySem.W.Frag) (F : Fr) (S : List Addr) (H : Hp) (W : WX) (D : Ends) : Ed where
  nx := fun ρ' μ' => ∀ σ' H' S', Step S H S' H' → At K F S' σ' H' ρ' μ' → D.nx σ' H'
  bk := fun ρ' μ' => ∀ σ' H' S', Step S H S' H' → At K F S' σ' H' ρ' μ' → D.bk σ' H'
  ct := fun ρ' μ' => ∀ σ' H' S', Step S H S' H' → At K F S' σ' H' ρ' μ' → D.ct σ' H'
  rt := fun d μ' => ∀ v σ' H' S' ρ', Step S H S' H' → At K F S' σ' H' ρ' μ' → Dn K none (Wo S' H') v d → D.rt v H'
  xc := fun C x ρ' μ' => ∀ σ' H' S' dA v, Step S H S' H' → At K F S' σ' H' ρ' μ' → H' dA = some (.xd [("value", v)]) → Dn K none (Wo S' H') v x → W (.ref C) (some dA) σ' H'
def lfS (X : Cx) (t : TSD) : TS := fun D σ H => ∃ F S ρ μ W, Takes X W ∧ At X.K F S σ H ρ μ ∧ t (lfEd X.K F S H W D) ρ μ
theorem lfEd_le {K : PySem.W.Frag} {F : Fr} {S S1 : List Addr} {H H1 : Hp} {W : WX} {D : Ends} (s : Step S H S1 H1) : (lfEd K F S H W D).Le (lfEd K F S1 H1 W D) :=
  ⟨fun _ _ q σ' H' S' s' => q σ' H' S' (s.trans s'), fun _ _ q v σ' H' S' ρ' s' => q v σ' H' S' ρ' (s.trans s'), fun _ _ _ _ q σ' H' S' dA v s' => q σ' H' S' dA v (s.trans s'), fun _ _ q σ' H' S' s' => q σ' H' S' (s.trans s'), fun _ _ q σ' H' S' s' => q σ' H' S' (s.trans s')⟩
theorem lfEd_ok {K : PySem.W.Frag} {F : Fr} {S : List Addr} {H : Hp} {W : WX} {D : Ends} {ρ : Rho} {σ : St} : XOk K F W S H ρ σ ((lfEd K F S H W D).x ρ) := fun C x μ' S' H' dA v q s A hd hv => q σ H' S' dA v s A hd hv
theorem Ed.Le.x {a b : Ed} (l : a.Le b) (ρ : Rho) : ∀ C y n, a.x ρ C y n → b.x ρ C y n := fun C y n z => l.xc C y ρ n z
structure ES (X : Cx) (st : Stmt) (t : TSD) : Prop where
  ps : PS X st (lfS X t)
  mn : MnS t
structure ESs (X : Cx) (st : List Stmt) (t : TSD) : Prop where
  pss : PSs X st (lfS X t)
  mn : MnS t
section
variable {X : Cx} {st : Stmt} {rest a b : List Stmt} {t u : TSD} {c e : Expr} {pos : Pos} {te : TD} {tt : TT}
def sSeq (t u : TSD) : TSD := fun D ρ m => t { D with nx := u D } ρ m
def sNil : TSD := fun D ρ m => D.nx ρ m
theorem ess_nil : ESs X [] sNil := by
  refine ⟨pss_wk' pss_nil ?_, fun a b ρ m l q => l.nx _ _ q⟩
  rintro D σ H ⟨F, S, ρ, μ, W, tk, A, q⟩
  exact q σ H S .refl A
theorem ess_cons (h1 : ES X st t) (h2 : ESs X rest u) : ESs X (st :: rest) (sSeq t u) := by
  refine ⟨pss_wk' (pss_cons h1.ps h2.pss) ?_, fun a b ρ m l q => h1.mn { a with nx := u a } { b with nx := u b } ρ m ⟨fun ρ m q => h2.mn _ _ _ _ l q, l.rt, l.xc, l.bk, l.ct⟩ q⟩
  rintro D σ H ⟨F, S, ρ, μ, W, tk, A, q⟩
  refine ⟨F, S, ρ, μ, W, tk, A, h1.mn { lfEd X.K F S H W D with nx := u (lfEd X.K F S H W D) } _ _ _ ⟨fun ρ1 μ1 z σ1 H1 S1 s1 A1 => ?_, fun _ _ z => z, fun _ _ _ _ z => z, fun _ _ z => z, fun _ _ z => z⟩ q⟩
  exact ⟨F, S1, ρ1, μ1, W, tk, A1, h2.mn _ _ _ _ (lfEd_le s1) z⟩
theorem ess_one (h1 : ES X st t) : ESs X [st] t := ⟨pss_one h1.ps, h1.mn⟩
def sIf (tt : TT) (t u : TSD) : TSD := fun D ρ m => tt ρ m (D.x ρ) fun b m1 => if b = true then t D ρ m1 else u D ρ m1
theorem es_if (hc : ET X c tt) (ha : ESs X a t) (hb : ESs X b u) : ES X (.If c a b pos) (sIf tt t u) := by
  refine ⟨ps_wk' (ps_if hc.pt ha.pss hb.pss) ?_, fun a b ρ m l q => hc.mn _ _ _ _ _ _ (l.x ρ) (fun k n q => by
    cases k
    · exact hb.mn _ _ _ _ l q
    · exact ha.mn _ _ _ _ l q) q⟩
  rintro D σ H ⟨F, S, ρ, μ, W, tk, A, q⟩
  refine ⟨F, S, ρ, μ, W, _, tk, A, lfEd_ok, hc.mn _ _ _ _ _ _ (fun _ _ _ z => z) (fun k μ1 h1 H1 S1 s1 A1 => ?_) q⟩
  cases k
  · exact ⟨F, S1, ρ, μ1, W, tk, A1, hb.mn _ _ _ _ (lfEd_le s1) h1⟩
  · exact ⟨F, S1, ρ, μ1, W, tk, A1, ha.mn _ _ _ _ (lfEd_le s1) h1⟩
def sRet (te : TD) : TSD := fun D ρ m => te ρ m (D.x ρ) D.rt
theorem es_ret (he : EE X e te) : ES X (.Return (some e) pos) (sRet te) := by
  refine ⟨ps_wk' (ps_ret he.pe) ?_, fun a b ρ m l q => he.mn _ _ _ _ _ _ (l.x ρ) l.rt q⟩
  rintro D σ H ⟨F, S, ρ, μ, W, tk, A, q⟩
  exact ⟨F, S, ρ, μ, W, _, tk, A, lfEd_ok, he.mn _ _ _ _ _ _ (fun _ _ _ z => z) (fun d μ1 h1 v H1 S1 s1 A1 x1 => h1 v σ H1 S1 ρ s1 A1 x1) q⟩
def sDrop (te : TD) : TSD := fun D ρ m => te ρ m (D.x ρ) fun _ m1 => D.nx ρ m1
theorem es_expr (he : EE X e te) (hs : swapsWith e none pos.line X.env = pure false := by rfl) : ES X (.Expr e pos) (sDrop te) := by
  refine ⟨ps_wk' (ps_expr he.pe hs) ?_, fun a b ρ m l q => he.mn _ _ _ _ _ _ (l.x ρ) (fun _ _ z => l.nx _ _ z) q⟩
  rintro D σ H ⟨F, S, ρ, μ, W, tk, A, q⟩
  exact ⟨F, S, ρ, μ, W, _, tk, A, lfEd_ok, he.mn _ _ _ _ _ _ (fun _ _ _ z => z) (fun d μ1 h1 v H1 S1 s1 A1 x1 => h1 σ H1 S1 s1 A1) q⟩
def sAsg (te : TD) (f : TgD) : TSD := fun D ρ m => te ρ m (D.x ρ) fun d m1 => ∃ ρ', f d ρ = some ρ' ∧ D.nx ρ' m1
theorem mn_asg {f : TgD} (me : MnX te) : MnS (sAsg te f) := fun a b ρ m l q => me _ _ _ _ _ _ (l.x ρ) (fun _ _ ⟨ρ', e, q⟩ => ⟨ρ', e, l.nx _ _ q⟩) q
theorem lf_asg {g : TG} {f : TgD} {vs : List Nat} (gs : GS X.K g f vs) (me : MnX te) : ∀ D σ H, lfS X (sAsg te f) D σ H → tAsg (lfE X te) g D σ H := by
  rintro D σ H ⟨F, S, ρ, μ, W, tk, A, q⟩
  refine ⟨F, S, ρ, μ, W, _, tk, A, lfEd_ok, me _ _ _ _ _ _ (fun _ _ _ z => z) (fun d μ1 h1 v H1 S1 s1 A1 x1 => ?_) q⟩
  obtain ⟨ρ', e, h1⟩ := h1
  exact gs none S1 S1 H1 H1 σ ρ ρ' 0 v d _ A1.ev x1 e fun σ' E' ag => h1 σ' H1 S1 s1 (A1.slots E')
theorem es_set {i : Nat} {x : Str} {pos' : Pos} (hN : X.N.Nodup) (hi : X.N[i]? = some x) (hx : Loc X.env.scope x) (he : EE X e te) (hs : swapsWith e (some (.Name x pos')) pos.line X.env = pure false := by rfl) (hf : X.fn x = true ∨ X.env.scope.names.lookup x = some .local := by first | exact .inl rfl | exact .inr rfl | assumption) :
    ES X (.Assign [.Name x pos'] e pos) (sAsg te (fName i)) := ⟨ps_wk' (ps_set hN hi hx he.pe hs hf) (lf_asg gs_name he.mn), mn_asg he.mn⟩
theorem es_asg {tg : Expr} {g : TG} {f : TgD} {vs : List Nat} (he : EE X e te) (hg : PG X tg g) (gs : GS X.K g f vs) (hs : swapsWithSole [tg] e pos.line X.env = pure false := by rfl) (hw : swappedStores [tg] e X.env = pure none := by rfl)
    (h1 : (assignEach [tg] X.env).map (·.2) = [assign tg X.env] := by rfl) : ES X (.Assign [tg] e pos) (sAsg te f) := ⟨ps_wk' (ps_asg he.pe hg hs hw h1) (lf_asg gs he.mn), mn_asg he.mn⟩
/-! plain statements -/
def sD (t : Vd.TSD) : TSD := fun D ρ m => t { nx := fun ρ' _ => NoOwn ρ' ∧ D.nx ρ' m, rt := fun d _ => D.rt d m, bk := fun ρ' _ => NoOwn ρ' ∧ D.bk ρ' m, ct := fun ρ' _ => NoOwn ρ' ∧ D.ct ρ' m } ρ 0
theorem At.later {K : PySem.W.Frag} {F : Fr} {S S' : List Addr} {σ σ' : St} {H H' : Hp} {ρ ρ' : Rho} {μ : Mu} {m : Nat} (A : At K F S σ H ρ μ) (E : Ev K none S H S' σ' H' ρ' m) (no : NoOwn ρ') : At K F S' σ' H' ρ' μ := by
  have fr : Same H H' := fun b o => E.frm b o fun z => nomatch z
  have st : Step S H S' H' := E.hid
  have h0 : ∀ {b : Addr}, H b = none → F.H0 b = none := fun {b} h => by
    cases q : F.H0 b with
    | none => rfl
    | some o =>
      by_cases m : b ∈ F.M0
      · exact absurd h (A.dom b (A.m0 m))
      · rw [A.frm b o m q] at h
        cases h
  refine ⟨E.dom, fun b hb => (E.sub b hb).elim (A.sub b) fun z => .inr (h0 z), fun b hb => E.inc b (A.inc b hb), A.dom0, fun b o n h => fr b o (A.frm b o n h), A.mS, fun c hc => ?_, A.nd, A.pre, E.len, fun i d h => ?_, no⟩
  · obtain ⟨h1, h2, h3, h4⟩ := A.mu c hc
    refine ⟨E.inc _ h1, h2, h3, h4.mono st ?_⟩
    cases q : H c.a with
    | none => exact absurd q (A.dom _ h1)
    | some o => exact fr _ _ q
  · exact E.var i _ h
theorem es_d {t : Vd.TSD} (h : DS X st t) : ES X st (sD t) := by
  refine ⟨ps_wk' h.ps ?_, fun a b ρ m l q => h.mn { nx := fun ρ' _ => NoOwn ρ' ∧ a.nx ρ' m, rt := fun d _ => a.rt d m, bk := fun ρ' _ => NoOwn ρ' ∧ a.bk ρ' m, ct := fun ρ' _ => NoOwn ρ' ∧ a.ct ρ' m } _ _ _ ⟨fun _ _ z => ⟨z.1, l.nx _ _ z.2⟩, fun _ _ z => l.rt _ _ z, fun _ _ z => ⟨z.1, l.bk _ _ z.2⟩, fun _ _ z => ⟨z.1, l.ct _ _ z.2⟩⟩ q⟩
  rintro D σ H ⟨F, S, ρ, μ, W, tk, A, q⟩
  refine ⟨none, S, H, S, ρ, 0, A.ev, h.mn { nx := fun ρ' _ => NoOwn ρ' ∧ (lfEd X.K F S H W D).nx ρ' μ, rt := fun d _ => (lfEd X.K F S H W D).rt d μ, bk := fun ρ' _ => NoOwn ρ' ∧ (lfEd X.K F S H W D).bk ρ' μ, ct := fun ρ' _ => NoOwn ρ' ∧ (lfEd X.K F S H W D).ct ρ' μ } _ _ _ ⟨fun ρ' m z σ' H' S' E s => ?_, fun d m z v H' e po x => ?_, fun ρ' m z σ' H' S' E s => ?_, fun ρ' m z σ' H' S' E s => ?_⟩ q⟩
  · exact z.2 σ' H' S' s (A.later E z.1)
  · exact z v σ H' S ρ (A.ev.wo e) (A.same fun b o => e b o fun z => nomatch z) x
  · exact z.2 σ' H' S' s (A.later E z.1)
  · exact z.2 σ' H' S' s (A.later E z.1)
theorem ess_d {t : Vd.TSD} {l : List Stmt} (h : DSs X l t) : ESs X l (sD t) := by
  refine ⟨pss_wk' h.pss ?_, fun a b ρ m l q => h.mn { nx := fun ρ' _ => NoOwn ρ' ∧ a.nx ρ' m, rt := fun d _ => a.rt d m, bk := fun ρ' _ => NoOwn ρ' ∧ a.bk ρ' m, ct := fun ρ' _ => NoOwn ρ' ∧ a.ct ρ' m } _ _ _ ⟨fun _ _ z => ⟨z.1, l.nx _ _ z.2⟩, fun _ _ z => l.rt _ _ z, fun _ _ z => ⟨z.1, l.bk _ _ z.2⟩, fun _ _ z => ⟨z.1, l.ct _ _ z.2⟩⟩ q⟩
  rintro D σ H ⟨F, S, ρ, μ, W, tk, A, q⟩
  refine ⟨none, S, H, S, ρ, 0, A.ev, h.mn { nx := fun ρ' _ => NoOwn ρ' ∧ (lfEd X.K F S H W D).nx ρ' μ, rt := fun d _ => (lfEd X.K F S H W D).rt d μ, bk := fun ρ' _ => NoOwn ρ' ∧ (lfEd X.K F S H W D).bk ρ' μ, ct := fun ρ' _ => NoOwn ρ' ∧ (lfEd X.K F S H W D).ct ρ' μ } _ _ _ ⟨fun ρ' m z σ' H' S' E s => ?_, fun d m z v H' e po x => ?_, fun ρ' m z σ' H' S' E s => ?_, fun ρ' m z σ' H' S' E s => ?_⟩ q⟩
  · exact z.2 σ' H' S' s (A.later E z.1)
  · exact z v σ H' S ρ (A.ev.wo e) (A.same fun b o => e b o fun z => nomatch z) x
  · exact z.2 σ' H' S' s (A.later E z.1)
  · exact z.2 σ' H' S' s (A.later E z.1)
/-! loops over data -/
def flE (f : TgD) (tb : TSD) (D : Ed) : List Vd.D → Rho → Mu → Prop
  | [], ρ, m => D.nx ρ m
  | x :: xs, ρ, m => ∃ ρ', f x ρ = some ρ' ∧ tb { nx := flE f tb D xs, ct := flE f tb D xs, bk := D.nx, rt := D.rt, xc := D.xc } ρ' m
def sFor (ti : Vd.TDA) (f : TgD) (tb : TSD) : TSD := fun D ρ m => ti ρ 0 fun ds _ => flE f tb D ds ρ m
theorem flE_mono {f : TgD} {tb : TSD} (mb : MnS tb) {a b : Ed} (l : a.Le b) : ∀ {xs : List D} {ρ : Rho} {m : Mu}, flE f tb a xs ρ m → flE f tb b xs ρ m
  | [], _, _, h => l.nx _ _ h
  | x :: xs, _, _, ⟨ρ', e, h⟩ => ⟨ρ', e, mb { nx := flE f tb a xs, ct := flE f tb a xs, bk := a.nx, rt := a.rt, xc := a.xc } _ _ _ ⟨fun _ _ q => flE_mono mb l q, l.rt, l.xc, l.nx, fun _ _ q => flE_mono mb l q⟩ h⟩
theorem es_for {tg iter : Expr} {body : List Stmt} {wi : TI} {ti : Vd.TDA} {g : TG} {f : TgD} {vs : List Nat} {tb : TSD} (hp : PassesOwn (model X.prog X.w) X.A X.env X.xe) (hc : X.calm = true) (hi : DI X tg iter wi ti) (hg : PG X tg g) (gs : GS X.K g f vs) (hb : ESs X body tb)
    (hs : ∀ x, foldedSetIterable iter X.env x = pure x := by intro _; rfl) : ES X (.For tg iter body [] pos) (sFor ti f tb) := by
  refine ⟨ps_wk' (ps_for hp hc hi.pi hg hb.pss hs) ?_, fun a b ρ m l q => hi.iz.1 _ _ _ _ (fun _ _ q => flE_mono hb.mn l q) q⟩
  rintro D σ H ⟨F, S, ρ, μ, W, tk, A, q⟩
  refine hi.iz.2 _ _ _ ⟨none, S, H, S, ρ, 0, A.ev, hi.iz.1 _ _ _ _ (fun ds m1 h1 H1 J e1 E1 it => ?_) q⟩
  have same1 : Same H H1 := fun b o => e1 b o fun z => nomatch z
  refine ⟨fun i n σ' H' => n = ds.length - i ∧ i ≤ ds.length ∧ ∃ S' ρ' μ', At X.K F S' σ' H' ρ' μ' ∧ Step S H1 S' H' ∧ flE f tb (lfEd X.K F S H1 W D) (ds.drop i) ρ' μ', ?_, ?_⟩
  · exact ⟨_, rfl, Nat.zero_le _, S, ρ, μ, A.same same1, .refl, flE_mono hb.mn (lfEd_le (Wo.same same1)) h1⟩
  · rintro i n σ' H' ⟨rfl, hi', S', ρ', μ', A', sm, hl⟩
    obtain ⟨go, stop⟩ := it i S' H' sm A'.dom
    by_cases hlt : i < ds.length
    · obtain ⟨g1, g2⟩ := go ds[i] (List.getElem?_eq_getElem hlt)
      rw [List.drop_eq_getElem_cons hlt] at hl
      obtain ⟨ρ2, e2, hl⟩ := hl
      refine .inr ⟨g1, fun σ'' H'' => ∃ S' ρ' μ', At X.K F S' σ'' H'' ρ' μ' ∧ Step S H1 S' H'' ∧ flE f tb (lfEd X.K F S H1 W D) (ds.drop (i + 1)) ρ' μ', fun σ'' H'' q => ⟨_, Nat.sub_lt_sub_left hlt (Nat.lt_succ_self i), rfl, hlt, q⟩, fun x H2 hy => ?_⟩
      obtain ⟨sm2, dx⟩ := g2 x H2 hy
      have A2 := A'.same sm2
      refine gs none S' S' H2 H2 σ' ρ' ρ2 0 x _ _ A2.ev dx e2 fun σ2 E2 ag => ?_
      refine ⟨F, S', ρ2, μ', W, tk, A2.slots E2, hb.mn { nx := flE f tb (lfEd X.K F S H1 W D) (ds.drop (i + 1)), ct := flE f tb (lfEd X.K F S H1 W D) (ds.drop (i + 1)), bk := (lfEd X.K F S H1 W D).nx, rt := (lfEd X.K F S H1 W D).rt, xc := (lfEd X.K F S H1 W D).xc } _ _ _ ⟨fun ρ3 μ3 z σ3 H3 S3 s3 A3 => ?_, fun d m z v σ3 H3 S3 ρ3 s3 A3 x3 => ?_, fun C y ρ3 m z σ3 H3 S3 dA v s3 A3 h1 h2 => ?_, fun ρ3 m z σ3 H3 S3 s3 A3 => ?_, fun ρ3 m z σ3 H3 S3 s3 A3 => ?_⟩ hl⟩
      · exact ⟨S3, ρ3, μ3, A3, sm.trans ((Wo.same sm2).trans s3), z⟩
      · exact z v σ3 H3 S3 ρ3 (sm.trans ((Wo.same sm2).trans s3)) A3 x3
      · exact z σ3 H3 S3 dA v (sm.trans ((Wo.same sm2).trans s3)) A3 h1 h2
      · exact z σ3 H3 S3 (sm.trans ((Wo.same sm2).trans s3)) A3
      · exact ⟨S3, ρ3, m, A3, sm.trans ((Wo.same sm2).trans s3), z⟩
    · have e : i = ds.length := by omega
      subst e
      rw [List.drop_length] at hl
      exact .inl ⟨stop rfl, hl σ' H' S' sm A'⟩
end
/-! ### a def -/
section
variable {P : Program} {w : World} {K : PySem.W.Frag} {mg : Str → Option Value} {base : Heap} {x qual : Str} {st : Stmt} {f : Addr} {fd : FuncData} {N ps : List Str} {k : Nat} {sp : Sp}
theorem okGX (F : Fun K x qual st f fd) (S : FnScope N ps (defScope st)) (len : ∀ vs H Q E, sp vs H Q E → vs.length = ps.length)
    (body : ∀ (cdv : Value) (A : Around) (outer : List Env) (s : Shared) (H : Hp) (vs : List V) (Q : VK) (E : XK), A.guards = some [] → Room k (A.deeper (envOfC qual (defScope st) s.heap.objs.size f cdv)) → sp vs H Q E →
      ∃ t, PSs (cxOf (L2.CX P w) P w K mg base N qual (defScope st) f cdv A outer s H E) (defBody st) t ∧ t { nx := fun _ H' => Q .non H', rt := Q } (start N vs) H) : FnG P w K mg base (L2.CX P w) (k + 1) f fd ps sp := by
  obtain ⟨oc, od, kV, doc, pm, an, cdv, ct, osl, rfl, lk, hcd⟩ := F.ex
  refine ⟨len, fun A outer s H args us vs Q E hg hr e0 hb r hsp => ?_⟩
  have KX : K.In s.heap := e0.mod.kin.keeps fun b o e => (e0.bs b o e).1
  have kinds : ∀ y ∈ ps.zip us, (defScope st).names.lookup y.1 = some .local ∨ ((defScope st).names.lookup y.1 = some .cell ∧ ((cellsFrom (s.heap.objs.size + 1) (defScope st).names []).lookup y.1).isSome = true) := by
    rintro ⟨n, v⟩ hy
    exact (S.par n (List.of_mem_zip hy).1).imp (fun q => q) fun q => ⟨q, PySem.W.cellsFrom_some _ _ _ (.inl q)⟩
  refine codeAny_call_function hr.depth (KX _ _ lk) rfl S.co S.gen rfl (PySem.W.codeRec_of KX hcd) (hb _ _ _ _ (wpAny_newFunctionEnv_cells S.kind kinds fun env he s1 x => ?_))
  subst he
  refine ⟨(e0.mod.nolimit.keeps fun b o e => (e0.bs b o e).1).keeps x.toInCall.keep, codeAny_func ?_⟩
  obtain ⟨t, ht, hq⟩ := body cdv A outer s H vs Q E hg (hr.deeper _) hsp
  refine wpAny_mono (ht.run [] s1 (start N vs) H _ (inv_start S hr.hd e0 (len _ _ _ _ hsp) r x) hq) (fun fl s' hs => ?_) fun e s' hs => hs
  cases fl with
  | ret u => obtain ⟨v, σ', H', J, rv, q⟩ := hs; exact ⟨v, H', J.os, J.bare, J.base, J.hok, rv, q⟩
  | next => obtain ⟨σ', H', J, q⟩ := hs; exact ⟨.non, H', J.os, J.bare, J.base, J.hok, rfl, q⟩
  | brk => obtain ⟨_, _, _, q⟩ := hs; exact q.elim
  | cont => obtain ⟨_, _, _, q⟩ := hs; exact q.elim
theorem start_at {K : PySem.W.Frag} {S : List Addr} {H : Hp} {vs : List V} {ds : List D} {μ : Mu} {N : List Str} (E : Ent K S H μ) (ha : DnAll K none (Wo S H) vs ds) : At K ⟨μ.map (·.a), S, H⟩ S (start N vs) H (startR N ds) μ := by
  have V := start_ev (pt := none) (N := N) (m := 0) E.dom (fun p z => nomatch z) (fun p z => nomatch z) ha
  refine ⟨E.dom, fun b hb => .inl hb, fun b hb => hb, E.dom, fun b o _ h => h, fun b hb => ?_, fun c hc => ?_, E.nd, ?_, V.len, fun i d h => V.var i _ h, fun i a ds' h => ?_⟩
  · obtain ⟨c, hc, rfl⟩ := List.mem_map.mp hb
    exact (E.mu c hc).1
  · obtain ⟨h1, h2, h3⟩ := E.mu c hc
    exact ⟨h1, fun z => by rw [h2] at z; (cases z), fun _ => List.mem_map_of_mem hc, h3⟩
  · rw [List.take_length]
  · obtain ⟨v, _, r⟩ := V.var i _ h
    exact E.dom a r.2.1 r.2.2.1
theorem At.out {K : PySem.W.Frag} {S S' : List Addr} {σ : St} {H H' : Hp} {ρ : Rho} {μ ν : Mu} (A : At K ⟨μ.map (·.a), S, H⟩ S' σ H' ρ ν) : Out K S H μ S' H' ν := by
  refine ⟨A.frm, A.inc, A.sub, A.dom, ?_, fun c hc => ⟨(A.mu c hc).1, (A.mu c hc).2.2.2⟩, fun c hc => ?_, A.nd⟩
  · have := A.pre
    rwa [show (μ.map (·.a)).length = μ.length from List.length_map _] at this
  · obtain ⟨h1, h2, h3, h4⟩ := A.mu c (List.mem_of_mem_drop hc)
    cases q : c.own with
    | true => exact ⟨rfl, h2 q⟩
    | false =>
      have m : c.a ∈ μ.map (·.a) := h3 q
      have p := A.pre
      rw [show ((⟨μ.map (·.a), S, H⟩ : Fr).M0).length = μ.length from List.length_map _] at p
      have nd := A.nd
      rw [← List.take_append_drop μ.length (ν.map (·.a))] at nd
      have d := (List.nodup_append.mp nd).2.2 c.a (by rw [p]; exact m) c.a (by rw [← List.map_drop]; exact List.mem_map_of_mem hc)
      exact absurd rfl d
/-- a def keeps the promise F -/
theorem body_at {t : TSD} {F : FE} {X : Cx} {vs : List V} {H : Hp} {Q : VK} {E : XK} {N : List Str} {b : List Stmt} (hK : X.K = K) (tk : Takes X fun cls d _ H => E cls d H) (B : ESs X b t) (h : ∀ ds μ X Q, F ds μ X Q → t { nx := fun _ ν => Q .non ν, rt := Q, xc := fun C y _ ν => X C y ν } (startR N ds) μ)
    (q : spE K F vs H Q E) : ∃ t, PSs X b t ∧ t { nx := fun _ H' => Q .non H', rt := Q } (start N vs) H := by
  subst hK
  obtain ⟨S, ds, μ, En, ha, q⟩ := q
  refine ⟨_, B.pss, (Fr.mk (List.map (fun c : Cl => c.a) μ) S H), S, startR N ds, μ, fun cls d _ H' => E cls d H', tk, start_at En ha, B.mn { nx := fun _ ν => (fun d ν => ∀ v H' S', Out X.K S H μ S' H' ν → Dn X.K none (Wo S' H') v d → Q v H') .non ν, rt := fun d ν => ∀ v H' S', Out X.K S H μ S' H' ν → Dn X.K none (Wo S' H') v d → Q v H', xc := fun C y _ ν => ∀ dA v H' S', Out X.K S H μ S' H' ν → H' dA = some (.xd [("value", v)]) → Dn X.K none (Wo S' H') v y → E (.ref C) (some dA) H' } _ _ _ ⟨fun ρ ν z σ' H' S' _ A' => ?_, fun d ν z v σ' H' S' ρ' _ A' x => ?_, fun C y ρ ν z σ' H' S' dA v _ A' h1 h2 => ?_, fun _ _ z => z.elim, fun _ _ z => z.elim⟩ (h _ _ _ _ q)⟩
  · exact z .non H' S' A'.out .non
  · exact z v H' S' A'.out x
  · exact z dA v H' S' A'.out h1 h2
theorem spE_len {F : FE} (len : ∀ ds μ X Q, F ds μ X Q → ds.length = ps.length) : ∀ vs H Q E, spE K F vs H Q E → vs.length = ps.length := fun vs H Q E q => by
  obtain ⟨S, ds, μ, _, ha, q⟩ := q
  rw [ha.length]
  exact len _ _ _ _ q
theorem okE {t : TSD} {F : FE} (Fu : Fun K x qual st f fd) (Sc : FnScope N ps (defScope st)) (len : ∀ ds μ X Q, F ds μ X Q → ds.length = ps.length)
    (hbody : ∀ (cdv : Value) (A : Around) (outer : List Env) (s : Shared) (H : Hp) (E : XK), Room k (A.deeper (envOfC qual (defScope st) s.heap.objs.size f cdv)) → ESs (cxOf (L2.CX P w) P w K mg base N qual (defScope st) f cdv A outer s H E) (defBody st) t)
    (h : ∀ ds μ X Q, F ds μ X Q → t { nx := fun _ ν => Q .non ν, rt := Q, xc := fun C y _ ν => X C y ν } (startR N ds) μ) : FnOk P w K mg base (L2.CX P w) (k + 1) f fd ps (spE K F) :=
  Fun.okX Fu Sc (spE_len len) fun cdv A outer s H vs Q E hr q => body_at (N := N) (X := cxOf (L2.CX P w) P w K mg base N qual (defScope st) f cdv A outer s H E) rfl (takes_of rfl rfl rfl rfl) (hbody cdv A outer s H E hr) h q
theorem okF {t : TSD} {F : FE} (Fu : Fun K x qual st f fd) (Sc : FnScope N ps (defScope st)) (len : ∀ ds μ X Q, F ds μ X Q → ds.length = ps.length)
    (hbody : ∀ (cdv : Value) (A : Around) (outer : List Env) (s : Shared) (H : Hp) (E : XK), A.guards = some [] → Room k (A.deeper (envOfC qual (defScope st) s.heap.objs.size f cdv)) → ESs (cxOf (L2.CX P w) P w K mg base N qual (defScope st) f cdv A outer s H E) (defBody st) t)
    (h : ∀ ds μ X Q, F ds μ X Q → t { nx := fun _ ν => Q .non ν, rt := Q, xc := fun C y _ ν => X C y ν } (startR N ds) μ) : FnG P w K mg base (L2.CX P w) (k + 1) f fd ps (spE K F) :=
  okGX Fu Sc (spE_len len) fun cdv A outer s H vs Q E hg hr q => body_at (N := N) (X := cxOf (L2.CX P w) P w K mg base N qual (defScope st) f cdv A outer s H E) rfl (takes_of rfl rfl rfl rfl) (hbody cdv A outer s H E hg hr) h q
theorem _root_.Vb.Df.calE {F : FE} (ps : List Str) (D : Df K mg x st) (ok : ∀ f fd, Fun K x x st f fd → FnOk P w K mg base (L2.CX P w) k f fd ps (spE K F))
    (b : ∀ (kV doc pm : Value) (an : Option Addr) (cdv ct : Value) (us : List Value), us.length = ps.length → bindArgs (PySem.W.fnOf x x (defArgs st) (defBody st) (defScope st) .none kV doc pm an cdv ct) ⟨us, []⟩ = pure (ps.zip us)) : CalE P w K mg base k x F := by
  obtain ⟨f, fd, Fu, m⟩ := D.ex
  exact ⟨f, fd, ps, ok f fd Fu, m, Fu.kp, Fu.binds b⟩
theorem _root_.Vb.Df.calF {F : FE} (ps : List Str) (D : Df K mg x st) (ok : ∀ f fd, Fun K x x st f fd → FnG P w K mg base (L2.CX P w) k f fd ps (spE K F))
    (b : ∀ (kV doc pm : Value) (an : Option Addr) (cdv ct : Value) (us : List Value), us.length = ps.length → bindArgs (PySem.W.fnOf x x (defArgs st) (defBody st) (defScope st) .none kV doc pm an cdv ct) ⟨us, []⟩ = pure (ps.zip us)) : CalF P w K mg base k x F := by
  obtain ⟨f, fd, Fu, m⟩ := D.ex
  exact ⟨f, fd, ps, ok f fd Fu, m, Fu.kp, Fu.binds b⟩
end
end Ve
end
section
set_option Elab.async false
set_option linter.all false
set_option maxRecDepth 100000
set_option autoImplicit false
set_option maxHeartbeats 1000000
namespace Ve
open PySem L2 PySem.Spec Vb Vd
open PyProof.Rows hiding St
/-! ### raise -/
section
variable {X : Cx} {x : Str} {e : Expr} {te : TD} {p pos pos2 : Pos} {C fI : Addr} {k : Nat}
def sRaise (C : Addr) (te : TD) : TSD := fun D ρ μ => te ρ μ (D.x ρ) fun d μ1 => D.xc C d ρ μ1
theorem es_raise (hc : X.calm = true) (T : ErrC X.K fI C) (GI : InitE X.prog X.w X.K X.mg X.base fI) (hr : Room k X.A) (hk : 2 ≤ k) (hg : Gl X x) (hm : X.mg x = some (.ref C)) (he : EE X e te)
    (hdb : (x == ("__debug__" : Str)) = false := by decide) (hs : starEach [e] X.env = (false, eval e X.env) :: starEach [] X.env := by rfl) (hl : (backTo pos2 (starEach [] X.env)).any (·.1) = false := by rfl) : ES X (.Raise (some (.Call (.Name x p) [e] [] pos2)) none pos) (sRaise C te) := by
  obtain ⟨fd, Fn, b, tI⟩ := GI.ex
  refine ⟨⟨fun pins s σ H D I h => ?_⟩, fun a b ρ m l q => he.mn _ _ _ _ _ _ (l.x ρ) (fun d n z => l.xc _ _ _ _ z) q⟩
  obtain ⟨F, S, ρ, μ, W, tk, A, q⟩ := h
  refine (ps_raise hc tk (pmk_oex (dvs := []) (ds := []) T.ox T.init tI Fn (hr.mono hk) b .nil pass0 hg hm (pa_cons he.pe pa_nil hs) hdb hs hl)).run pins s σ H D I ?_
  refine ⟨F, S, ρ, μ, W, _, tk, A, lfEd_ok, he.mn _ _ _ _ _ _ (fun _ _ _ z => z) (fun d μ1 z v H1 S1 s1 A1 x1 => ?_) q⟩
  refine ⟨by show 1 ≤ 1000; decide, fun a na => ⟨a, C, v, rfl, T.ox, T.nv, upd_same, fun dx m ne => ⟨rfl, dx, [("value", v)], upd_same, by rw [upd_ne ne, upd_same], ?_, ?_⟩⟩⟩
  · rwa [upd_ne ne] at m
  · have m0 : H1 dx = none := by rwa [upd_ne ne] at m
    have eq : upd (del (upd (upd (upd H1 a (exo a C none)) dx (exd dx [("value", v)])) a (exo a C (some dx))) a) dx (.xd [("value", v)]) = upd H1 dx (.xd [("value", v)]) := by
      funext b
      by_cases h1 : b = dx
      · rw [h1, upd_same, upd_same]
      · rw [upd_ne h1, upd_ne h1]
        by_cases h2 : b = a
        · rw [h2, del_same, na]
        · rw [del_ne h2, upd_ne h2, upd_ne h1, upd_ne h2]
    rw [eq]
    exact z σ _ S1 dx v (s1.trans (Wo.same (Same.new m0))) (A1.same (Same.new m0)) upd_same (x1.mono (Wo.same (Same.new m0)))
end
/-! ### things of one's own -/
section
variable {K : PySem.W.Frag} {F : Fr} {S : List Addr} {σ : St} {H : Hp} {ρ : Rho} {μ : Mu}
theorem At.none0 (A : At K F S σ H ρ μ) {b : Addr} (h : H b = none) : F.H0 b = none := by
  cases q : F.H0 b with
  | none => rfl
  | some o =>
    by_cases m : b ∈ F.M0
    · exact absurd h (A.dom b (A.m0 m))
    · rw [A.frm b o m q] at h
      cases h
theorem At.new (A : At K F S σ H ρ μ) {a : Addr} {u : HO} {o : MO} (ha : H a = none) (hm : MoAt K (Wo (a :: S) (upd H a u)) (upd H a u) a o) : Step S H (a :: S) (upd H a u) ∧ (∀ c ∈ μ, c.a ≠ a) ∧ At K F (a :: S) σ (upd H a u) ρ (μ ++ [⟨a, true, o⟩]) := by
  have nS : a ∉ S := fun z => A.dom a z ha
  have st : Step S H (a :: S) (upd H a u) := fun b o q => by
    obtain ⟨n, q⟩ := Wo.some q
    have ne : b ≠ a := ne_of_none q ha
    rw [Wo.out (by simp only [List.mem_cons, not_or]; exact ⟨ne, n⟩), upd_ne ne]
    exact q
  have ne : ∀ c ∈ μ, c.a ≠ a := fun c hc z => nS (z ▸ (A.mu c hc).1)
  refine ⟨st, ne, fun b hb => ?_, fun b hb => ?_, fun b hb => List.mem_cons_of_mem _ (A.inc b hb), A.dom0, fun b o n q => ?_, A.mS, fun c hc => ?_, ?_, ?_, A.len, fun i d h => ?_, A.no⟩
  · by_cases z : b = a
    · rw [z, upd_same]
      exact fun z => nomatch z
    · rw [upd_ne z]
      exact A.dom b ((List.mem_cons.mp hb).resolve_left z)
  · rcases List.mem_cons.mp hb with rfl | hb
    · exact .inr (A.none0 ha)
    · exact A.sub b hb
  · have q1 := A.frm b o n q
    rw [upd_ne (ne_of_none q1 ha)]
    exact q1
  · rcases List.mem_append.mp hc with hc | hc
    · obtain ⟨h1, h2, h3, h4⟩ := A.mu c hc
      exact ⟨List.mem_cons_of_mem _ h1, h2, h3, h4.mono st (upd_ne (ne c hc))⟩
    · rw [List.mem_singleton.mp hc]
      exact ⟨List.mem_cons_self, fun _ => A.none0 ha, fun z => (nomatch z), hm⟩
  · rw [List.map_append]
    refine List.nodup_append.mpr ⟨A.nd, by simp, fun x hx y hy e => ?_⟩
    obtain ⟨c, hc, rfl⟩ := List.mem_map.mp hx
    rw [List.map_singleton, List.mem_singleton] at hy
    exact ne c hc (e.trans hy)
  · rw [List.map_append]
    have le : F.M0.length ≤ (μ.map (·.a)).length := by
      have := congrArg List.length A.pre
      rw [List.length_take] at this
      omega
    rw [List.take_append_of_le_length le]
    exact A.pre
  · obtain ⟨v, q, r⟩ := A.var i d h
    exact ⟨v, q, r.mono st⟩
theorem At.put (A : At K F S σ H ρ μ) {k : Nat} {c : Cl} {u : HO} {o : MO} (hk : μ[k]? = some c) (hm : MoAt K (Wo S (upd H c.a u)) (upd H c.a u) c.a o) : Step S H S (upd H c.a u) ∧ At K F S σ (upd H c.a u) ρ (putO μ k o) := by
  obtain ⟨k1, k2, k3, k4⟩ := A.mu c (List.mem_of_getElem? hk)
  have st : Step S H S (upd H c.a u) := fun b o q => by
    obtain ⟨n, q⟩ := Wo.some q
    rw [Wo.out n, upd_ne fun z => n (by rw [z]; exact k1)]
    exact q
  refine ⟨st, fun b hb => ?_, A.sub, A.inc, A.dom0, fun b o n q => ?_, A.mS, fun d hd => ?_, by rw [putO_as]; exact A.nd, by rw [putO_as]; exact A.pre, A.len, fun i d h => ?_, A.no⟩
  · by_cases z : b = c.a
    · rw [z, upd_same]
      exact fun z => nomatch z
    · rw [upd_ne z]
      exact A.dom b hb
  · rw [upd_ne fun z => ?_]
    · exact A.frm b o n q
    · cases ho : c.own with
      | true => rw [z, k2 ho] at q; cases q
      | false => exact n (z ▸ k3 ho)
  · obtain ⟨j, hj⟩ := List.mem_iff_getElem?.mp hd
    rcases putO_get hj with ⟨rfl, e, he, rfl⟩ | ⟨ne, he⟩
    · rw [hk] at he
      cases he
      exact ⟨k1, k2, k3, hm⟩
    · obtain ⟨h1, h2, h3, h4⟩ := A.mu d (List.mem_of_getElem? he)
      exact ⟨h1, h2, h3, h4.mono st (upd_ne fun z => ne (nodup_at A.nd hk he z.symm))⟩
  · obtain ⟨v, q, r⟩ := A.var i d h
    exact ⟨v, q, r.mono st⟩
theorem At.setv (A : At K F S σ H ρ μ) {i : Nat} {v : V} {d : D} (h : Dn K none (Wo S H) v d) : At K F S (σ.set i (some v)) H (ρ.set i (some (.d d))) μ := A.slots (A.ev.set h)
/-- a thing of one's own stays as it is from here on -/
def frzD : MO → Option D
  | .lst ds => some (.lst ds)
  | .dk kvs => some (.dk kvs)
  | _ => none
theorem At.frz (A : At K F S σ H ρ μ) {k i : Nat} {a : Addr} {o : MO} {d : D} (hk : μ[k]? = some ⟨a, true, o⟩) (hi : ρ[i]? = some (some (.d (.op (.ref a))))) (hf : frzD o = some d) :
    Step S H (S.filter fun b => decide (b ≠ a)) H ∧ At K F (S.filter fun b => decide (b ≠ a)) σ H (ρ.set i (some (.d d))) (μ.eraseIdx k) := by
  obtain ⟨k1, k2, k3, k4⟩ := A.mu _ (List.mem_of_getElem? hk)
  have h0 : F.H0 a = none := k2 rfl
  have mem : ∀ b, b ∈ S.filter (fun b => decide (b ≠ a)) ↔ b ∈ S ∧ b ≠ a := fun b => by rw [List.mem_filter, decide_eq_true_eq]
  have st : Step S H (S.filter fun b => decide (b ≠ a)) H := Wo.less fun b hb => ((mem b).mp hb).1
  have kl : k < μ.length := (List.getElem?_eq_some_iff.mp hk).1
  have le : F.M0.length ≤ k := by
    refine Nat.le_of_not_lt fun z => ?_
    have e : (μ.map (·.a))[k]? = some a := by rw [List.getElem?_map, hk]; rfl
    have : ((μ.map (·.a)).take F.M0.length)[k]? = some a := by rw [List.getElem?_take, if_pos z]; exact e
    rw [A.pre] at this
    exact A.dom0 a (A.mS a (List.mem_of_getElem? this)) h0
  have er : ∀ {c : Cl}, c ∈ μ.eraseIdx k → c ∈ μ ∧ c.a ≠ a := fun {c} hc => by
    obtain ⟨j, hj, nj⟩ := List.mem_eraseIdx_iff_getElem?.mp hc
    exact ⟨List.mem_of_getElem? nj, fun z => hj (nodup_at A.nd nj hk z)⟩
  have li : i < ρ.length := (List.getElem?_eq_some_iff.mp hi).1
  have out : ∀ {j : Nat} {c : C}, (ρ.set i (some (.d d)))[j]? = some (some c) → (j = i ∧ c = .d d) ∨ ρ[j]? = some (some c) := fun {j c} q => by
    by_cases e : i = j
    · subst e
      rw [List.getElem?_set_self li] at q
      cases q
      exact .inl ⟨rfl, rfl⟩
    · rw [List.getElem?_set_ne e] at q
      exact .inr q
  have dn : Dn K none (Wo (S.filter fun b => decide (b ≠ a)) H) (.ref a) d := by
    have na : a ∉ S.filter (fun b => decide (b ≠ a)) := fun z => ((mem a).mp z).2 rfl
    cases o with
    | pot n => cases hf
    | lst ds =>
      cases hf
      obtain ⟨vs, h1, h2⟩ := k4
      exact .lst (by rw [Wo.out na]; exact h1) (h2.mono st)
    | dk kvs =>
      cases hf
      obtain ⟨hs, h1, h2⟩ := k4
      exact .dk' (by rw [Wo.out na]; exact h1) (h2.mono st)
  refine ⟨st, fun b hb => A.dom b ((mem b).mp hb).1, fun b hb => A.sub b ((mem b).mp hb).1, fun b hb => (mem b).mpr ⟨A.inc b hb, fun z => A.dom0 b hb (by rw [z]; exact h0)⟩, A.dom0, A.frm, A.mS, fun c hc => ?_, ?_, ?_, by rw [List.length_set]; exact A.len, fun j e q => ?_, fun j b ds q => ?_⟩
  · obtain ⟨h1, h2⟩ := er hc
    obtain ⟨g1, g2, g3, g4⟩ := A.mu c h1
    exact ⟨(mem _).mpr ⟨g1, h2⟩, g2, g3, g4.mono st rfl⟩
  · exact A.nd.sublist (List.Sublist.map _ (List.eraseIdx_sublist _ _))
  · have : (μ.eraseIdx k).map (·.a) = (μ.map (·.a)).eraseIdx k := by rw [List.eraseIdx_eq_take_drop_succ, List.eraseIdx_eq_take_drop_succ, List.map_append, List.map_take, List.map_drop]
    rw [this, List.eraseIdx_eq_take_drop_succ, List.take_append_of_le_length (by rw [List.length_take, List.length_map]; omega), List.take_take, Nat.min_eq_left le]
    exact A.pre
  · rcases out q with ⟨rfl, z⟩ | q
    · cases z
      obtain ⟨v, h1, h2⟩ := A.var j _ hi
      cases h2
      exact ⟨.ref a, h1, dn⟩
    · obtain ⟨v, h1, h2⟩ := A.var j e q
      exact ⟨v, h1, h2.mono st⟩
  · rcases out q with ⟨_, z⟩ | q
    · cases z
    · exact A.no j b ds q
end
section
variable {X : Cx} {e : Expr} {es : List Expr} {rest : List Stmt} {u : TSD} {te : TD} {t : TA} {pos : Pos}
def sFrz (k i : Nat) (u : TSD) : TSD := fun D ρ μ => ∃ a o d, μ[k]? = some ⟨a, true, o⟩ ∧ ρ[i]? = some (some (.d (.op (.ref a)))) ∧ frzD o = some d ∧ u D (ρ.set i (some (.d d))) (μ.eraseIdx k)
theorem ess_frz (k i : Nat) (h : ESs X rest u) : ESs X rest (sFrz k i u) := by
  refine ⟨pss_wk' h.pss ?_, fun a b ρ m l ⟨x, o, d, h1, h2, h3, q⟩ => ⟨x, o, d, h1, h2, h3, h.mn _ _ _ _ l q⟩⟩
  rintro D σ H ⟨F, S, ρ, μ, W, tk, A, a, o, d, h1, h2, h3, q⟩
  obtain ⟨s, A'⟩ := A.frz h1 h2 h3
  exact ⟨F, _, _, _, W, tk, A', h.mn _ _ _ _ (lfEd_le s) q⟩
/-- name = [..], {} -/
def sNewL (i : Nat) (t : TA) : TSD := fun D ρ μ => t ρ μ (D.x ρ) fun ds μ1 => ds.length ≤ sizeLine ∧ i < ρ.length ∧ ∀ a, (∀ c ∈ μ1, c.a ≠ a) → D.nx (ρ.set i (some (.d (.op (.ref a))))) (μ1 ++ [⟨a, true, .lst ds⟩])
def sNewD (i : Nat) : TSD := fun D ρ μ => i < ρ.length ∧ ∀ a, (∀ c ∈ μ, c.a ≠ a) → D.nx (ρ.set i (some (.d (.op (.ref a))))) (μ ++ [⟨a, true, .dk []⟩])
theorem es_newL {i : Nat} {x : Str} {pos' pl : Pos} (hN : X.N.Nodup) (hi : X.N[i]? = some x) (hx : Loc X.env.scope x) (ha : EA X es t) (hs : swapsWith (.List es pl) (some (.Name x pos')) pos.line X.env = pure false := by rfl) (hf : X.fn x = true ∨ X.env.scope.names.lookup x = some .local := by first | exact .inl rfl | exact .inr rfl | assumption) :
    ES X (.Assign [.Name x pos'] (.List es pl) pos) (sNewL i t) := by
  refine ⟨ps_wk' (ps_set hN hi hx (pe_lst ha.pa) hs hf) ?_, fun a b ρ m l q => ha.mn _ _ _ _ _ _ (l.x ρ) (fun ds n ⟨h1, h2, h3⟩ => ⟨h1, h2, fun a z => l.nx _ _ (h3 a z)⟩) q⟩
  rintro D σ H ⟨F, S, ρ, μ, W, tk, A, q⟩
  refine ⟨F, S, ρ, μ, W, _, tk, A, lfEd_ok, ha.mn _ _ _ _ _ _ (fun _ _ _ z => z) (fun ds μ1 h1 vs H1 S1 s1 A1 x1 => ?_) q⟩
  obtain ⟨l, li, h1⟩ := h1
  refine ⟨by rw [x1.length]; exact l, fun p hp => ?_⟩
  obtain ⟨st, ne, A2⟩ := A1.new (u := .lst vs) (o := .lst ds) hp ⟨vs, upd_same, x1.mono (fun b o z => by
    obtain ⟨n, z⟩ := Wo.some z
    have nb : b ≠ p := ne_of_none z hp
    rw [Wo.out (by simp only [List.mem_cons, not_or]; exact ⟨nb, n⟩), upd_ne nb]
    exact z)⟩
  exact h1 p ne _ _ (p :: S1) (s1.trans st) (A2.setv (.op _))
theorem es_newD {i : Nat} {x : Str} {pos' pl : Pos} (hN : X.N.Nodup) (hi : X.N[i]? = some x) (hx : Loc X.env.scope x) (hs : swapsWith (.Dict [] [] pl) (some (.Name x pos')) pos.line X.env = pure false := by rfl) (hf : X.fn x = true ∨ X.env.scope.names.lookup x = some .local := by first | exact .inl rfl | exact .inr rfl | assumption) :
    ES X (.Assign [.Name x pos'] (.Dict [] [] pl) pos) (sNewD i) := by
  refine ⟨ps_wk' (ps_set hN hi hx pe_dnewK hs hf) ?_, fun a b ρ m l ⟨h2, h3⟩ => ⟨h2, fun a z => l.nx _ _ (h3 a z)⟩⟩
  rintro D σ H ⟨F, S, ρ, μ, W, tk, A, li, q⟩ p hp
  obtain ⟨st, ne, A2⟩ := A.new (u := .dK []) (o := .dk []) hp ⟨[], upd_same, .nil⟩
  exact q p ne _ _ (p :: S) st (A2.setv (.op _))
/-- name.append(e) -/
def sApp (i : Nat) (te : TD) : TSD := fun D ρ μ => ∃ k a b ds, ρ[i]? = some (some (.d (.op (.ref a)))) ∧ μ[k]? = some ⟨a, b, .lst ds⟩ ∧ te ρ μ (D.x ρ) fun d μ1 => ∃ c es, μ1[k]? = some ⟨a, c, .lst es⟩ ∧ es.length < sizeLine ∧ D.nx ρ (putO μ1 k (.lst (es ++ [d])))
theorem es_app {i : Nat} {apos cpos : Pos} {y : Str} {py : Pos} (hv : PE X (.Name y py) (tVar i)) (he : EE X e te) (hs : swapsWith (.Call (.Attribute (.Name y py) "append" apos) [e] [] cpos) none pos.line X.env = pure false := by rfl)
    (hbase : attributeBase (.Name y py) "append" X.env (eval (.Name y py) X.env) = eval (.Name y py) X.env := by rfl)
    (hfew : ((backTo cpos (starEach [e] X.env)).all (fun x => !x.1) && (backToKw cpos (keywordEach [] X.env)).all (fun x => x.1.isSome)
      && decide ([e].length + ([] : List Keyword).length + (if ([] : List Keyword).isEmpty then 0 else 1) < 30)) = true := by rfl)
    (hline : (apos.endLine == cpos.line) = true := by rfl) (hse : starEach [e] X.env = (false, eval e X.env) :: starEach [] X.env := by rfl) (hplain : (backTo cpos (starEach [] X.env)).any (·.1) = false := by rfl) :
    ES X (.Expr (.Call (.Attribute (.Name y py) "append" apos) [e] [] cpos) pos) (sApp i te) := by
  refine ⟨ps_wk' (ps_expr (pe_bm PySem.F.plainAttrs_list PySem.F.slot_list_append PySem.F.type_list_append mt_append hv (pa_cons he.pe pa_nil hse) hbase hfew hline hse hplain) hs) ?_, fun a b ρ m l ⟨k, c, d, ds, h1, h2, q⟩ => ⟨k, c, d, ds, h1, h2, he.mn _ _ _ _ _ _ (l.x ρ) (fun d n ⟨c, es, h3, h4, q⟩ => ⟨c, es, h3, h4, l.nx _ _ q⟩) q⟩⟩
  rintro D σ H ⟨F, S, ρ, μ, W, tk, A, k, a, b, ds, hi, hk, q⟩
  obtain ⟨v0, hv0, r0⟩ := A.var i _ hi
  cases r0
  obtain ⟨vs, hH, hvs⟩ := (A.mu _ (List.mem_of_getElem? hk)).2.2.2
  refine ⟨_, hv0, .inl ⟨rfl, vs, SqL.of hH⟩, F, S, ρ, μ, W, _, tk, A, lfEd_ok, he.mn _ _ _ _ _ _ (fun _ _ _ z => z) (fun d μ1 h1 v H1 S1 s1 A1 x1 => ?_) q⟩
  obtain ⟨b', ds', hk', l, h1⟩ := h1
  obtain ⟨us, hH1, hus⟩ := (A1.mu _ (List.mem_of_getElem? hk')).2.2.2
  refine ⟨_, _, _, rfl, rfl, hH1, by rw [hus.length]; exact l, ?_⟩
  have w : Same (Wo S1 H1) (Wo S1 (upd H1 a (.lst (us ++ [v])))) := fun c o z => by
    obtain ⟨n, z⟩ := Wo.some z
    rw [Wo.out n, upd_ne fun y => n (by rw [y]; exact (A1.mu _ (List.mem_of_getElem? hk')).1)]
    exact z
  obtain ⟨st, A2⟩ := A1.put (u := .lst (us ++ [v])) (o := .lst (ds' ++ [d])) hk' ⟨_, upd_same, (hus.mono w).append (.cons (x1.mono w) .nil)⟩
  exact h1 σ _ S1 (s1.trans st) A2
end
end Ve
end
section
set_option Elab.async false
set_option linter.all false
set_option maxRecDepth 100000
set_option autoImplicit false
set_option maxHeartbeats 1000000
namespace Ve
open PySem L2 PySem.Spec Vb Vd
open PyProof.Rows hiding St
/-! ### an own object whose __init__ may raise -/
def spMkE (K : PySem.W.Frag) (C : Addr) (F : FE) : Sp := fun vs H Q E => ∃ x dx us S ds, vs = .ref x :: us ∧ H x = some (.ins C dx []) ∧ H dx = some (.own x) ∧ dx ≠ x ∧ x ∉ S ∧ dx ∉ S ∧ (∀ b ∈ S, H b ≠ none) ∧ DnAll K none (Wo (x :: dx :: S) H) us ds ∧
  F ds [] (fun B y _ => ∀ dA v H' S', (∀ b o, H b = some o → H' b = some o) → (∀ b ∈ S, b ∈ S') → (∀ b ∈ S', b ∈ x :: dx :: S ∨ H b = none) → (∀ b ∈ S', H' b ≠ none) → H' dA = some (.xd [("value", v)]) → Dn K none (Wo S' H') v y → E (.ref B) (some dA) H')
    fun d _ => ∀ H', (∀ b o, b ≠ x → b ≠ dx → H b = some o → H' b = some o) → Dn K none (Wo S H') (.ref x) d → Q .non H'
section
variable {X : Cx} {x : Str} {e : Expr} {es : List Expr} {p pos : Pos} {k j : Nat} {F : FE} {t : TA} {C f : Addr} {fd : FuncData} {ps : List Str}
def eMake (F : FE) (t : TA) : TD := fun ρ μ X Q => t ρ μ X fun ds μ1 => F ds [] (fun C y _ => X C y μ1) fun d _ => Q d μ1
theorem mn_make (mf : MnF F) (ma : MnX t) : MnX (eMake F t) := fun ρ μ Y Y' Q Q' wx w h => ma _ _ _ _ _ _ wx (fun ds n q => mf _ _ _ _ _ _ (fun C x ν z => wx _ _ _ z) (fun d ν z => w _ _ z) q) h
theorem run_mk {W : WX} {sp : Sp} (tk : Takes X W) (M : Mk X.K C f) (Fn : FnOk X.prog X.w X.K X.mg X.base (L2.CX X.prog X.w) k f fd ps sp) (hr : Room (k + 1) X.A) (hb : Binds X.K fd ps [])
    {pins : List (Addr × Obj)} {s : Shared} {σ : St} {H : Hp} {Q : VK} {us : List Value} {vs : List V} (I : Inv X pins σ H s) (r : Vals vs us)
    (h : ∀ x dx, H x = none → H dx = none → dx ≠ x → sp (.ref x :: vs) (upd (upd H dx (.own x)) x (.ins C dx [])) (fun v H2 => v = .non ∧ Q (.ref x) H2) fun cls d H' => W cls d σ H') :
    wpAny (model X.prog X.w) X.A (call (.ref C) us) (EP X pins σ Q) X.xe s := by
  have J := Inv.made (C := C) I
  have q := h _ _ (I.hok.fresh (Nat.le_succ _)) (I.hok.fresh (Nat.le_refl s.heap.objs.size)) (Nat.ne_of_lt (Nat.lt_succ_self _))
  have rr : Vals (V.ref (s.heap.objs.size + 1) :: vs) (Value.ref (s.heap.objs.size + 1) :: us) := .cons (show L2.RelV (V.ref (s.heap.objs.size + 1)) (Value.ref (s.heap.objs.size + 1)) from rfl) r
  have bb := hb _ (Value.ref (s.heap.objs.size + 1) :: us) J.kIn (by simpa using rr.length.symm.trans (Fn.len _ _ _ _ q))
  rw [List.append_nil] at bb
  refine wpAny_call (make_map (f := f) I.kIn M.makes M.init (beq_iff_eq.mp M.fn) (codeAny_mono (Fn.run _ X.stack _ _ _ _ _ _ _ (hr.make C us []) (J.env0.make C us []) bb rr q) fun y s' hy => ?_))
  match y, hy with
  | .error e, hy => exact tk _ _ (XE.of_call J (fun _ _ _ z => z) hy)
  | .ok (.ret u), hy =>
    obtain ⟨v, H', I3, rv, ev, q3⟩ := J.after hy
    subst ev
    exact ⟨rv, (V.ref (s.heap.objs.size + 1)), H', I3, rfl, q3⟩
  | .ok .next, hy => exact False.elim hy
  | .ok .brk, hy => exact False.elim hy
  | .ok .cont, hy => exact False.elim hy
/-- from what the arguments are to what __init__ is promised -/
theorem mk_atE {Fr : Fr} {S : List Addr} {σ : St} {H : Hp} {ρ : Rho} {μ : Mu} {W : WX} {xc : XC} {vs : List V} {ds : List D} {Q : VK} {K : PySem.W.Frag} (mf : MnF F) (A : At K Fr S σ H ρ μ) (ok : XOk K Fr W S H ρ σ xc) (x1 : DnAll K none (Wo S H) vs ds)
    (h : F ds [] (fun C y _ => xc C y μ) fun d _ => ∀ v H' S', Step S H S' H' → At K Fr S' σ H' ρ μ → Dn K none (Wo S' H') v d → Q v H') (x dx : Addr) (hx : H x = none) (hd : H dx = none) (nd : dx ≠ x) :
    spMkE K C F (.ref x :: vs) (upd (upd H dx (.own x)) x (.ins C dx [])) (fun v H2 => v = .non ∧ Q (.ref x) H2) fun cls d H' => W cls d σ H' := by
  have new : Same H (upd (upd H dx (.own x)) x (.ins C dx [])) := (Same.new hd).trans (Same.new (by rw [upd_ne nd.symm]; exact hx))
  have nS : ∀ {b : Addr}, H b = none → b ∉ S := fun {b} h z => A.dom b z h
  refine ⟨x, dx, vs, S, ds, rfl, upd_same, by rw [upd_ne nd]; exact upd_same, nd, nS hx, nS hd, (A.same new).dom, x1.mono fun b o q => ?_, mf _ _ _ _ _ _ (fun B y _ z dA v H' S' sm inc sub dom hA hv => ?_) (fun d _ q H' s dn => ⟨rfl, ?_⟩) h⟩
  · obtain ⟨n, q⟩ := Wo.some q
    have n1 : b ≠ x := ne_of_none q hx
    have n2 : b ≠ dx := ne_of_none q hd
    rw [Wo.out (by simp only [List.mem_cons, not_or]; exact ⟨n1, n2, n⟩)]
    exact new b o q
  · have sH : Same H H' := new.trans sm
    have A1 := A.same sH
    have hn : ∀ b ∈ S', b ∈ S ∨ H b = none := fun b hb => by
      rcases sub b hb with h | h
      · rcases List.mem_cons.mp h with rfl | h
        · exact .inr hx
        · rcases List.mem_cons.mp h with rfl | h
          · exact .inr hd
          · exact .inl h
      · refine .inr ?_
        cases q : H b with
        | none => rfl
        | some o => rw [new b o q] at h; cases h
    have st : Step S H S' H' := fun b o q => by
      obtain ⟨n, q⟩ := Wo.some q
      rw [Wo.out fun z => (hn b z).elim n fun z => by rw [z] at q; cases q]
      exact sH b o q
    have A2 : At K Fr S' σ H' ρ μ := by
      refine ⟨dom, fun b hb => (hn b hb).elim (A.sub b) fun z => .inr (A.none0 z), fun b hb => inc b (A.inc b hb), A.dom0, A1.frm, A.mS, fun c hc => ?_, A.nd, A.pre, A.len, fun i d h => ?_, A.no⟩
      · obtain ⟨h1, h2, h3, h4⟩ := A.mu c hc
        refine ⟨inc _ h1, h2, h3, h4.mono st ?_⟩
        cases q : H c.a with
        | none => exact absurd q (A.dom _ h1)
        | some o => exact sH _ _ q
      · obtain ⟨u, q, r⟩ := A.var i d h
        exact ⟨u, q, r.mono st⟩
    exact ok B y μ S' H' dA v z st A2 hA hv
  · have sx : Same H H' := fun b o q => s b o (ne_of_none q hx) (ne_of_none q hd) (new b o q)
    exact q _ H' S (Wo.same sx) (A.same sx) dn
theorem ee_make (mf : MnF F) (M : Mk X.K C f) (Fn : FnOk X.prog X.w X.K X.mg X.base (L2.CX X.prog X.w) k f fd ps (spMkE X.K C F)) (hr : Room (k + 1) X.A) (hg : Gl X x) (hm : X.mg x = some (.ref C)) (hb : Binds X.K fd ps []) (ha : EA X (e :: es) t)
    (hdb : (x == ("__debug__" : Str)) = false := by decide) (he : starEach (e :: es) X.env = (false, eval e X.env) :: starEach es X.env := by rfl) (hpl : (backTo pos (starEach es X.env)).any (·.1) = false := by rfl) :
    EE X (.Call (.Name x p) (e :: es) [] pos) (eMake F t) := by
  refine ⟨⟨fun pins s σ H Q I h => ?_⟩, mn_make mf ha.mn⟩
  obtain ⟨Fr, S, ρ, μ, W, xc, tk, A, ok, q⟩ := h
  refine wpAny_Call_Name_kw (ld_glob I hg hm ?_ hdb)
  refine PySem.W.callWith_K (h₀ := X.base) I.ok.mod.kin M.kp (thn (ha.pa.run pos pins s σ H (fun vs H1 => ∀ x dx, H1 x = none → H1 dx = none → dx ≠ x → spMkE X.K C F (.ref x :: vs) (upd (upd H1 dx (.own x)) x (.ins C dx [])) (fun v H2 => v = .non ∧ Q (.ref x) H2) fun cls d H' => W cls d σ H') I ?_) fun us s1 ⟨vs, H1, I1, r, q⟩ => ⟨I1.kIn, run_mk tk M Fn hr hb I1 r q⟩) he hpl
  refine ⟨Fr, S, ρ, μ, W, xc, tk, A, ok, ha.mn _ _ _ _ _ _ (fun _ _ _ z => z) (fun ds μ1 h1 vs H1 S1 s1 A1 x1 x dx hx hd nd => ?_) q⟩
  exact mk_atE mf A1 (ok.step s1) x1 (mf _ _ _ _ _ _ (fun _ _ _ z => z) (fun d _ z v H' S' s2 A2 dn => z v H' S' (s1.trans s2) A2 dn) h1) x dx hx hd nd
end
/-- an own __init__ whose first statement may raise keeps F -/
theorem okIE {P : Program} {w : World} {K : PySem.W.Frag} {mg : Str → Option Value} {base : Heap} {x qual : Str} {st st1 : Stmt} {rest : List Stmt} {f C : Addr} {fd : FuncData} {N ps : List Str} {k : Nat} {F : FE} {t1 : TSD} {t2 : Addr → TSI} (Fu : Fun K x qual st f fd) (Sc : FnScope N ps (defScope st)) (hst : defBody st = st1 :: rest) (len : ∀ ds μ X Q, F ds μ X Q → ds.length + 1 = ps.length)
    (h1 : ∀ (cdv : Value) (A : Around) (outer : List Env) (s : Shared) (H : Hp) (E : XK), Room k (A.deeper (envOfC qual (defScope st) s.heap.objs.size f cdv)) → ES (cxOf (L2.CX P w) P w K mg base N qual (defScope st) f cdv A outer s H E) st1 t1)
    (h2 : ∀ (cdv : Value) (A : Around) (outer : List Env) (s : Shared) (H : Hp) (E : XK), Room k (A.deeper (envOfC qual (defScope st) s.heap.objs.size f cdv)) → InitS (cxOf (L2.CX P w) P w K mg base N qual (defScope st) f cdv A outer s H E).nox C rest t2)
    (h : ∀ a ds X Q, F ds [] X Q → t1 { nx := fun ρ _ => t2 a [] ρ 0 fun d _ => Q d [], rt := fun _ _ => False, xc := fun B y _ _ => X B y [] } (startR N (.op (.ref a) :: ds)) []) : FnOk P w K mg base (L2.CX P w) (k + 1) f fd ps (spMkE K C F) := by
  refine Fun.okX Fu Sc (fun vs H Q E q => ?_) fun cdv A outer s H vs Q E hr q => ?_
  · obtain ⟨x, dx, us, S, ds, rfl, _, _, _, _, _, _, ha, q⟩ := q
    rw [List.length_cons, ha.length]
    exact len _ _ _ _ q
  · obtain ⟨x, dx, us, S, ds, rfl, hx, hd, nd, n1, n2, dm, ha, q⟩ := q
    have B1 := h1 cdv A outer s H E hr
    have B2 := h2 cdv A outer s H E hr
    have B := pss_cons B1.ps B2.pss.nox
    rw [← hst] at B
    have En : Ent K (x :: dx :: S) H [] := ⟨fun b hb => by
      rcases List.mem_cons.mp hb with rfl | hb
      · rw [hx]; exact fun z => nomatch z
      · rcases List.mem_cons.mp hb with rfl | hb
        · rw [hd]; exact fun z => nomatch z
        · exact dm b hb, fun c hc => (nomatch hc), List.nodup_nil⟩
    have st0 := start_at (ds := .op (.ref x) :: ds) (vs := .ref x :: us) (N := N) En (.cons (.op _) ha)
    refine ⟨_, B, ⟨[], x :: dx :: S, H⟩, x :: dx :: S, _, [], fun cls d _ H' => E cls d H', takes_of rfl rfl rfl rfl, st0, B1.mn { nx := fun ρ _ => t2 x [] ρ 0 fun d _ => ∀ H', (∀ b o, b ≠ x → b ≠ dx → H b = some o → H' b = some o) → Dn K none (Wo S H') (.ref x) d → Q .non H', rt := fun _ _ => False, xc := fun B y _ _ => ∀ dA v H' S', (∀ b o, H b = some o → H' b = some o) → (∀ b ∈ S, b ∈ S') → (∀ b ∈ S', b ∈ x :: dx :: S ∨ H b = none) → (∀ b ∈ S', H' b ≠ none) → H' dA = some (.xd [("value", v)]) → Dn K none (Wo S' H') v y → E (.ref B) (some dA) H' } _ _ _ ⟨fun ρ ν z σ' H' S' _ A' => ?_, fun d m z => z.elim, fun B y ρ ν z σ' H' S' dA v _ A' g1 g2 => ?_, fun _ _ z => z.elim, fun _ _ z => z.elim⟩ (h x ds _ _ q)⟩
    · have hx' : H' x = some (.ins C dx []) := A'.frm x _ (fun z => nomatch z) hx
      refine ⟨none, S', H', S', ρ, 0, x, dx, [], [], A'.ev, A'.inc x List.mem_cons_self, fun z => (nomatch z), hx', rfl, .nil, B2.mn _ _ _ _ _ _ (fun d m' z σ2 H2 dn => ?_) z⟩
      obtain ⟨g1, g2, hs, fs, rfl, e2, e3, e4⟩ := dn
      refine z H2 (fun b o b1 b2 hb => g1 b o (fun z => nomatch z) b1 (A'.frm b o (fun z => nomatch z) hb)) (.ins (dx := dx) (by rw [Wo.out n1]; exact e2) e3 (e4.mono (Wo.less fun b hb => A'.inc b (List.mem_cons_of_mem _ (List.mem_cons_of_mem _ hb)))))
    · exact z dA v H' S' (fun b o hb => A'.frm b o (fun z => nomatch z) hb) (fun b hb => A'.inc b (List.mem_cons_of_mem _ (List.mem_cons_of_mem _ hb))) (fun b hb => A'.sub b hb) A'.dom g1 g2
/-! ### from the plain layer: where nothing is raised -/
mutual
def noPot : D → Bool
  | .pot => false
  | .lst xs => noPots xs
  | .tup xs => noPots xs
  | .dk kvs => noPotK kvs
  | .ins _ fs => noPotF fs
  | _ => true
def noPots : List D → Bool
  | [] => true
  | d :: ds => noPot d && noPots ds
def noPotK : List (Key × D) → Bool
  | [] => true
  | (_, d) :: ds => noPot d && noPotK ds
def noPotF : List (Str × D) → Bool
  | [] => true
  | (_, d) :: ds => noPot d && noPotF ds
end
theorem noPotK_eq : ∀ {kvs : List (Key × D)}, noPotK kvs = noPots (kvs.map (·.2))
  | [] => by rw [noPotK, List.map_nil, noPots]
  | (k, d) :: kvs => by rw [noPotK, List.map_cons, noPots, noPotK_eq]
theorem noPotF_eq : ∀ {kvs : List (Str × D)}, noPotF kvs = noPots (kvs.map (·.2))
  | [] => by rw [noPotF, List.map_nil, noPots]
  | (k, d) :: kvs => by rw [noPotF, List.map_cons, noPots, noPotF_eq]
section
variable {K : PySem.W.Frag} {pt : Option Addr} {B : Hp}
mutual
theorem dn_to : ∀ {v : V} {d : D}, Dn K none B v d → Dn K pt B v d
  | _, _, .non => .non
  | _, _, .bl b => .bl b
  | _, _, .int i => .int i
  | _, _, .str z => .str z
  | _, _, .lst h r => .lst h (dns_to r)
  | _, _, .tup h r => .tup h (dns_to r)
  | _, _, .dk h k r => .dk h k (dns_to r)
  | _, _, .ins h k r => .ins h k (dns_to r)
  | _, _, .pot h => nomatch h
  | _, _, .op v => .op v
theorem dns_to : ∀ {vs : List V} {ds : List D}, DnAll K none B vs ds → DnAll K pt B vs ds
  | _, _, .nil => .nil
  | _, _, .cons h r => .cons (dn_to h) (dns_to r)
end
mutual
theorem dn_no : ∀ {v : V} {d : D}, noPot d = true → Dn K pt B v d → Dn K none B v d
  | _, _, _, .non => .non
  | _, _, _, .bl b => .bl b
  | _, _, _, .int i => .int i
  | _, _, _, .str z => .str z
  | _, _, n, .lst h r => .lst h (dns_no (by rw [noPot] at n; exact n) r)
  | _, _, n, .tup h r => .tup h (dns_no (by rw [noPot] at n; exact n) r)
  | _, _, n, .dk h k r => .dk h k (dns_no (by rw [noPot, noPotK_eq] at n; exact n) r)
  | _, _, n, .ins h k r => .ins h k (dns_no (by rw [noPot, noPotF_eq] at n; exact n) r)
  | _, _, n, .pot h => by rw [noPot] at n; cases n
  | _, _, _, .op v => .op v
theorem dns_no : ∀ {vs : List V} {ds : List D}, noPots ds = true → DnAll K pt B vs ds → DnAll K none B vs ds
  | _, _, _, .nil => .nil
  | _, _, n, .cons h r => by
    rw [noPots, Bool.and_eq_true] at n
    exact .cons (dn_no n.1 h) (dns_no n.2 r)
end
end
def plainF (F : FE) : Vd.FD := fun ds m Q => noPots ds = true ∧ F ds [] (fun _ _ _ => False) fun d _ => Q d m
theorem mn_plain {F : FE} (mf : MnF F) : Vd.MnF (plainF F) := fun ds m Q Q' w ⟨n, q⟩ => ⟨n, mf _ _ _ _ _ _ (fun _ _ _ z => z) (fun d _ z => w _ _ z) q⟩
section
variable {X : Cx} {x : Str} {e : Expr} {es : List Expr} {p pos : Pos} {k j : Nat} {F : FE} {t : Vd.TDA} {te : Vd.TD} {C f : Addr} {fd : FuncData} {ps : List Str}
theorem plain_of {K : PySem.W.Frag} (mf : MnF F) {vs : List V} {H : Hp} {Q : VK} (q : spD K (plainF F) vs H Q E0) : spE K F vs H Q E0 := by
  obtain ⟨pt, S, ds, m, dm, pS, po, ha, n, q⟩ := q
  refine ⟨S, ds, [], ⟨dm, fun c hc => (nomatch hc), List.nodup_nil⟩, dns_no n ha, mf _ _ _ _ _ _ (fun _ _ _ z => z.elim) (fun d _ z v H' S' O dn => ?_) q⟩
  have sm : Same H H' := fun b o hb => O.frm b o (fun z => nomatch z) hb
  exact z v H' (.of sm) (po.same sm) (dn_to (dn.mono (Wo.less fun b hb => O.inc b hb)))
/-- f(e, ..), f's promise one of things that may be raised; here nothing is -/
theorem de_x (mf : MnF F) (cl : CalE X.prog X.w X.K X.mg X.base k x F) (hr : Room j X.A) (hk : k ≤ j) (hg : Gl X x) (ha : DA X (e :: es) t)
    (hdb : (x == ("__debug__" : Str)) = false := by decide) (he : starEach (e :: es) X.env = (false, eval e X.env) :: starEach es X.env := by rfl) (hpl : (backTo pos (starEach es X.env)).any (·.1) = false := by rfl) :
    DE X (.Call (.Name x p) (e :: es) [] pos) (dCal (plainF F) t) := by
  obtain ⟨f, fd, ps, Fn, hm, kp, b⟩ := cl.ex
  refine ⟨pe_wk' (pe_call (p := p) (dvs := []) Fn (hr.mono hk) hg hm kp b .nil passL ha.pa hdb he hpl) fun σ H Q q => ?_, Vd.mn_cal (mn_plain mf) ha.mn⟩
  have z := Vd.lf_cal (E' := E0) (mn_plain mf) ha.mn σ H Q q
  obtain ⟨pt, S0, H0, S, ρ, m, E, z⟩ := z
  exact ⟨pt, S0, H0, S, ρ, m, E, ha.mn _ _ _ _ (fun ds m1 y vs H1 e1 E1 x1 => by
    show spE X.K F (vs ++ []) H1 Q E0
    rw [List.append_nil]
    exact plain_of mf (y vs H1 e1 E1 x1)) z⟩
/-- C(e, ..) likewise -/
theorem de_mk {K : PySem.W.Frag} {pt : Option Addr} {S0 S : List Addr} {H0 H H1 : Hp} {σ : St} {ρ : Rho} {m : Nat} {vs : List V} {ds : List D} {Q : VK} (mf : MnF F) (e1 : SameX pt H H1) (Ev1 : Ev K pt S0 H0 S σ H1 ρ m) (x1 : DnAll K pt (Wo S H1) vs ds)
    (h : plainF F ds m fun d m' => ∀ v H', SameX pt H H' → Ev K pt S0 H0 S σ H' ρ m' → Dn K pt (Wo S H') v d → Q v H') (x dx : Addr) (hx : H1 x = none) (hd : H1 dx = none) (nd : dx ≠ x) :
    spMkE K C F (.ref x :: vs) (upd (upd H1 dx (.own x)) x (.ins C dx [])) (fun v H2 => v = .non ∧ Q (.ref x) H2) E0 := by
  obtain ⟨n, h⟩ := h
  have new : Same H1 (upd (upd H1 dx (.own x)) x (.ins C dx [])) := (Same.new hd).trans (Same.new (by rw [upd_ne nd.symm]; exact hx))
  have nS : ∀ {b : Addr}, H1 b = none → b ∉ S := fun {b} h z => Ev1.dom b z h
  refine ⟨x, dx, vs, S, ds, rfl, upd_same, by rw [upd_ne nd]; exact upd_same, nd, nS hx, nS hd, (Ev1.same new).dom, (dns_no n x1).mono fun b o q => ?_, mf _ _ _ _ _ _ (fun _ _ _ z => z.elim) (fun d _ z H' s dn => ⟨rfl, ?_⟩) h⟩
  · obtain ⟨n, q⟩ := Wo.some q
    have n1 : b ≠ x := ne_of_none q hx
    have n2 : b ≠ dx := ne_of_none q hd
    rw [Wo.out (by simp only [List.mem_cons, not_or]; exact ⟨n1, n2, n⟩)]
    exact new b o q
  · have sx : Same H1 H' := fun b o q => s b o (ne_of_none q hx) (ne_of_none q hd) (new b o q)
    exact z _ H' (e1.trans (.of sx)) (Ev1.same sx) (dn_to dn)
theorem de_makeX (mf : MnF F) (M : Mk X.K C f) (Fn : FnOk X.prog X.w X.K X.mg X.base (L2.CX X.prog X.w) k f fd ps (spMkE X.K C F)) (hr : Room (k + 1) X.A) (hg : Gl X x) (hm : X.mg x = some (.ref C)) (hb : Binds X.K fd ps []) (ha : DA X (e :: es) t)
    (hdb : (x == ("__debug__" : Str)) = false := by decide) (he : starEach (e :: es) X.env = (false, eval e X.env) :: starEach es X.env := by rfl) (hpl : (backTo pos (starEach es X.env)).any (·.1) = false := by rfl) :
    DE X (.Call (.Name x p) (e :: es) [] pos) (dCal (plainF F) t) := by
  refine ⟨pe_wk' (pe_make M Fn hr hg hm hb .nil passL ha.pa hdb he hpl) ?_, Vd.mn_cal (mn_plain mf) ha.mn⟩
  rintro σ H Q ⟨pt, S0, H0, S, ρ, m, E, h⟩
  refine ⟨pt, S0, H0, S, ρ, m, E, ha.mn _ _ _ _ (fun ds m1 h1 vs H1 e1 E1 x1 x dx hx hd nd => ?_) h⟩
  rw [List.append_nil]
  exact de_mk mf e1 E1 x1 h1 x dx hx hd nd
theorem de_makeKX {nm : Str} {kpos : Pos} (mf : MnF F) (M : Mk X.K C f) (Fn : FnOk X.prog X.w X.K X.mg X.base (L2.CX X.prog X.w) k f fd ps (spMkE X.K C F)) (hr : Room (k + 1) X.A) (hg : Gl X x) (hm : X.mg x = some (.ref C))
    (hb : KBn X.K fd ps 1 [nm] (fun a b => a ++ b) fun a b => a ++ b) (he : DE X e te)
    (hall : (backToKw pos (keywordEach [⟨some nm, e, kpos⟩] X.env)).all (·.1.isSome) = true := by rfl) (hks : (backToKw pos (keywordEach [⟨some nm, e, kpos⟩] X.env)).filterMap (·.1) = [nm] := by rfl) (hdb : (x == ("__debug__" : Str)) = false := by decide)
    (hpl : ((backTo pos (starEach [] X.env)).any (·.1) || (backToKw pos (keywordEach [⟨some nm, e, kpos⟩] X.env)).any (·.1.isNone)) = false := by rfl) :
    DE X (.Call (.Name x p) [] [⟨some nm, e, kpos⟩] pos) (dCal (plainF F) (Vd.aCons te Vd.aNil)) := by
  refine ⟨pe_wk' (pe_makeK0 M Fn hr hg hm hb passL (pk_cons he.pe pk_nil) hall hks hdb hpl) ?_, Vd.mn_cal (mn_plain mf) fun ρ m Q Q' w h => he.mn _ _ _ _ (fun x m1 h1 => w _ _ h1) h⟩
  rintro σ H Q ⟨pt, S0, H0, S, ρ, m, E, h⟩
  refine ⟨pt, S0, H0, S, ρ, m, E, he.mn _ _ _ _ (fun d m1 h1 v H1 e1 E1 x1 => ⟨rfl, rfl, fun x dx hx hd nd => ?_⟩) h⟩
  exact de_mk mf e1 E1 (.cons x1 .nil) h1 x dx hx hd nd
end
end Ve
end
section
set_option Elab.async false
set_option linter.all false
set_option maxRecDepth 100000
set_option autoImplicit false
set_option maxHeartbeats 1000000
namespace Ve
open PySem L2 PySem.Spec Vb Vd
open PyProof.Rows hiding St
/-! ### try: .. except c as n: .. -/
def lfU (K : PySem.W.Frag) (i : Nat) (a C dA : Addr) (u : Addr → D → TSD) : TS := fun D σ H => ∃ F S ρ μ y v, At K F S σ H ρ μ ∧ ρ[i]? = some (some (.d (.op (.ref a)))) ∧ H dA = some (.xd [("value", v)]) ∧ Dn K none (Wo S H) v y ∧ u C y (lfEd K F S H (fun _ _ _ _ => False) D) ρ μ
structure SU (X : Cx) (i : Nat) (l : List Stmt) (u : Addr → D → TSD) : Prop where
  run : ∀ (a : Addr) (oe : Obj) (C dA : Addr) (pn : List (Addr × Obj)), Zc (.ref C) (some dA) oe → (∃ vs, oe.data = .fields vs) → PSs (X.suite a ((a, oe) :: pn)) l (lfU X.K i a C dA u)
  mn : ∀ C y, MnS (u C y)
def sE (i : Nat) (a : Ed) : Ed where
  nx := fun ρ2 ν2 => a.nx (ρ2.set i none) ν2
  rt := a.rt
  xc := fun _ _ _ _ => False
  bk := fun ρ2 ν2 => a.bk (ρ2.set i none) ν2
  ct := fun ρ2 ν2 => a.ct (ρ2.set i none) ν2
theorem sE_le {i : Nat} {a b : Ed} (l : a.Le b) : (sE i a).Le (sE i b) := ⟨fun _ _ z => l.nx _ _ z, l.rt, fun _ _ _ _ z => z, fun _ _ z => l.bk _ _ z, fun _ _ z => l.ct _ _ z⟩
def xT (K : PySem.W.Frag) (c : Value) (i : Nat) (u : Addr → D → TSD) (a : Ed) : Addr → Vd.D → Rho → Mu → Prop := fun C y ρ' ν => i < ρ'.length ∧ PySem.W.exmOne K (.ref C) c = some true ∧ ∀ ex, u C y (sE i a) (ρ'.set i (some (.d (.op (.ref ex))))) ν
def sTry (K : PySem.W.Frag) (c : Value) (i : Nat) (t : TSD) (u : Addr → D → TSD) : TSD := fun D ρ μ => t { D with xc := xT K c i u D } ρ μ
theorem At.wipe1 {K : PySem.W.Frag} {F : Fr} {S : List Addr} {σ : St} {H : Hp} {ρ : Rho} {μ : Mu} (A : At K F S σ H ρ μ) (i : Nat) : At K F S (σ.set i none) H (ρ.set i none) μ := by
  have B := A.forget (i := i)
  refine ⟨B.dom, B.sub, B.inc, B.dom0, B.frm, B.mS, B.mu, B.nd, B.pre, by rw [List.length_set, List.length_set]; exact A.len, fun j d h => ?_, B.no⟩
  obtain ⟨v, q, r⟩ := B.var j d h
  refine ⟨v, ?_, r⟩
  rw [List.getElem?_set_ne fun z => ?_]
  · exact q
  · subst z
    by_cases l : i < ρ.length
    · rw [List.getElem?_set_self l] at h
      cases h
    · rw [List.getElem?_eq_none (by rw [List.length_set]; omega)] at h
      cases h
section
variable {X : Cx} {x n : Str} {c : Value} {i : Nat} {body suite : List Stmt} {b₀ : Stmt} {np pos pos' : Pos} {t : TSD} {u : Addr → D → TSD}
theorem es_tryAs (hs : X.stack = X.env :: X.outer) (hf : X.env.frame = some X.env.locals) (hN : X.N.Nodup) (hi : X.N[i]? = some n) (hln : X.env.kindOf n = some .local) (hc : Names X x c)
    (hb : ∀ (pn : List (Addr × Obj)) (xe : Value → Shared → Prop), ESs (X.tr pn xe) body t) (hu : SU X i (b₀ :: suite) u) : ES X (.Try body [.ExceptHandler (some (.Name x np)) (some n) (b₀ :: suite) pos'] [] [] pos) (sTry X.K c i t u) := by
  have mb := (hb [] fun _ _ => False).mn
  refine ⟨ps_wk' (ps_try_as (tb := fun W D σ H => ∃ F S ρ μ, At X.K F S σ H ρ μ ∧ t (lfEd X.K F S H W D) ρ μ) (ts := fun a cls d D σ H => ∃ C dA, cls = .ref C ∧ d = some dA ∧ lfU X.K i a C dA u D σ H) (Wout := fun _ _ _ _ => False) hs hf hN hi hln hc takes0 (fun W pn xe tk _ => pss_wk' (hb pn xe).pss fun D σ H ⟨F, S, ρ, μ, A, q⟩ => ⟨F, S, ρ, μ, W, tk, A, q⟩) fun a oe cls d pn hz hf => ⟨fun pins s σ H D I ⟨C, dA, e1, e2, q⟩ => by
      subst e1 e2
      exact (hu.run a oe C dA pn hz hf).run pins s σ H D I q⟩) ?_, fun a b ρ m l q => mb { a with xc := xT X.K c i u a } { b with xc := xT X.K c i u b } _ _ ⟨l.nx, l.rt, fun C y ρ' ν ⟨h0, h1, h2⟩ => ⟨h0, h1, fun d => hu.mn _ _ _ _ _ _ (sE_le l) (h2 d)⟩, l.bk, l.ct⟩ q⟩
  rintro D σ H ⟨F, S, ρ, μ, W, tk, A, q⟩
  refine ⟨F, S, ρ, μ, A, mb { lfEd X.K F S H W D with xc := xT X.K c i u (lfEd X.K F S H W D) } _ _ _ ⟨fun _ _ z => z, fun _ _ z => z, fun C y ρ' ν z σ' H' S' dA v s' A' hd hv => ?_, fun _ _ z => z, fun _ _ z => z⟩ q⟩
  obtain ⟨h0, h1, h2⟩ := z
  refine ⟨true, h1, fun _ a ha => ⟨C, dA, rfl, rfl, F, S', _, ν, y, v, A'.setv (.op _), ?_, hd, hv, hu.mn _ _ (sE i (lfEd X.K F S H W D)) _ _ _ ⟨fun ρ2 ν2 z σ2 H2 S2 s2 A2 => ?_, fun d ν2 z w σ2 H2 S2 ρ2 s2 A2 dn => ?_, fun _ _ _ _ z => z.elim, fun ρ2 ν2 z σ2 H2 S2 s2 A2 => ?_, fun ρ2 ν2 z σ2 H2 S2 s2 A2 => ?_⟩ (h2 a)⟩, fun z => nomatch z⟩
  · exact List.getElem?_set_self h0
  · exact z _ H2 S2 (s'.trans s2) (A2.wipe1 i)
  · exact z w σ2 H2 S2 ρ2 (s'.trans s2) A2 dn
  · exact z _ H2 S2 (s'.trans s2) (A2.wipe1 i)
  · exact z _ H2 S2 (s'.trans s2) (A2.wipe1 i)
/-! the handler that tells an error's value if it is of one class -/
def rIsS (K : PySem.W.Frag) (D a dA : Addr) : List V → Hp → VK → Prop := fun xs H Q => ∃ (c : V) (cv : Value) (b : Bool) (fs : List (Str × V)), xs = [.ref a, c] ∧ (∀ u, RelV c u → u = cv) ∧ H dA = some (.xd fs) ∧ PySem.W.kitOne K (.ref D) cv = some b ∧ Q (.bl b) H
theorem call_isS {a D dA : Addr} {oe : Obj} {pn : List (Addr × Obj)} (T : ExcC X.K D) (hz : Zc (.ref D) (some dA) oe) (hf : ∃ vs, oe.data = .fields vs) : CallR (X.suite a ((a, oe) :: pn)) (.builtin "isinstance") (rIsS X.K D a dA) := by
  rintro pins s σ H xs us Q I r ⟨c, cv, b, fs, rfl, hcv, hd, e, q⟩
  obtain ⟨u, u', rfl, ru, rc⟩ := vals2 r
  cases ru
  cases hcv _ rc
  obtain ⟨ha, _⟩ := I.pin (a, oe) (List.mem_append_left _ List.mem_cons_self)
  obtain ⟨vs, hv⟩ := hf
  obtain ⟨mA, hns, hr⟩ := (show ObjOk X.prog X.w H s.heap dA (.xd fs) from I.hok dA _ hd)
  obtain ⟨od, ho, hl⟩ := lookIn_ns hns
  have J : PySem.W.InstAt s.heap a oe D (some od) := ⟨ha, hz.1, by unfold PySem.W.notCls; rw [hv] <;> rfl, by rw [hz.2]; exact ho⟩
  exact PySem.W.kia_one (kit_ex T) I.kIn J e (fun z => nomatch z) fun tk => ⟨.bl b, H, I.kept (t' := tk) fun _ _ z => z, rfl, q⟩
end
end Ve
end
section
set_option Elab.async false
set_option linter.all false
set_option maxRecDepth 100000
set_option autoImplicit false
set_option maxHeartbeats 1000000
/-! A text some times over; the items of a module's dict; a dict comprehension of one's own; d.update(e). -/
namespace Vd
open PySem L2 PySem.Spec Vb
open PyProof.Rows hiding St
def repS (x : Str) (n : Int) : Str := ⟨(List.replicate n.toNat x.cps).foldl (· ++ ·) #[]⟩
theorem rep_size (x : Array Nat) : ∀ (k : Nat) (acc : Array Nat), ((List.replicate k x).foldl (· ++ ·) acc).size = acc.size + k * x.size
  | 0, acc => by simp
  | k + 1, acc => by
    rw [List.replicate_succ, List.foldl_cons, rep_size x k, Array.size_append, Nat.succ_mul]
    omega
theorem repS_len (x : Str) (n : Int) : (repS x n).length = n.toNat * x.length := by
  show ((List.replicate n.toNat x.cps).foldl (· ++ ·) #[]).size = _
  rw [rep_size]
  exact Nat.zero_add _
def rRepS : V → V → Hp → VK → Prop := fun x y H Q => ∃ (z : Str) (n : Int), x = .str z ∧ y = .int n ∧ n ≤ 100000 ∧ -100000 ≤ n ∧ z.length ≤ 10 ∧ Q (.str (repS z n)) H
theorem op_repS {X : Cx} : OpR X (binaryOp .Mult) rRepS := by
  rintro pins s σ H x y v u Q I rx ry ⟨z, n, rfl, rfl, h1, h2, h3, q⟩
  obtain ⟨t, rfl⟩ := rx
  obtain ⟨t', rfl⟩ := ry
  have hz := sizeLine_eq
  have fin : ∀ (tk tk' : Nat), EP X pins σ Q (.str (repS z n) tk) { s with toks := tk' } := fun tk tk' => ⟨.str (repS z n), H, I.tok _, ⟨_, rfl⟩, q⟩
  have np : ¬ n < 1 → z.length * n.toNat ≤ 1000000 := fun _ => Nat.le_trans (Nat.mul_le_mul h3 (show n.toNat ≤ 100000 by omega)) (by decide)
  refine P.mul_str ?_ (fun h _ => ?_) (fun h _ => ?_) ?_
  · rw [Bool.or_eq_false_iff, decide_eq_false_iff_not, decide_eq_false_iff_not]
    omega
  · have m : (z.length : Int) * n ≤ 10 * 100000 := Int.mul_le_mul (by omega) h1 (by omega) (by decide)
    have := Int.le_ediv_of_mul_le (a := (z.length : Int)) (b := (2 : Int) ^ 63 - 1) (show (0 : Int) < n by omega) (Int.le_trans m (by decide))
    omega
  · have := np h
    refine decide_eq_false fun y => ?_
    omega
  · by_cases c1 : n < 1
    · rw [if_pos c1]
      have e : repS z n = Str.empty := by
        unfold repS
        rw [show n.toNat = 0 by omega]
        rfl
      rw [← e]
      exact ⟨by rw [repS_len, show n.toNat = 0 by omega, Nat.zero_mul]; exact Nat.zero_le _, fin _ _⟩
    · rw [if_neg c1]
      by_cases c2 : (n == 1 || z.length == 0) = true
      · rw [if_pos c2]
        have e : repS z n = z := by
          unfold repS
          rcases Bool.or_eq_true _ _ ▸ c2 with c | c
          · rw [eq_of_beq c]
            show (⟨#[] ++ z.cps⟩ : Str) = z
            rw [Array.empty_append]
          · have hc : z.cps = #[] := Array.eq_empty_of_size_eq_zero (eq_of_beq c)
            have : ∀ k : Nat, (List.replicate k (#[] : Array Nat)).foldl (· ++ ·) #[] = #[] := fun k => by
              induction k with
              | zero => rfl
              | succ k ih => rw [List.replicate_succ, List.foldl_cons, Array.append_empty, ih]
            obtain ⟨c⟩ := z
            cases hc
            rw [this]
        have f := fin t s.toks
        rw [e] at f
        exact f
      · rw [if_neg c2]
        exact ⟨by have := np c1; have l := repS_len z n; rw [Nat.mul_comm] at l; rw [show (⟨(List.replicate n.toNat z.cps).foldl (fun x1 x2 => x1 ++ x2) #[]⟩ : Str) = repS z n from rfl, l]; omega, fin _ _⟩
def fRepS : D → D → Option D
  | .str z, .int n => if n ≤ 100000 ∧ -100000 ≤ n ∧ z.length ≤ 10 then some (.str (repS z n)) else none
  | _, _ => none
theorem s_repS {K : PySem.W.Frag} : S2 K rRepS fRepS := by
  intro pt S H x y a b d Q hd hx hy e q
  match a, b, e with
  | .str z, .int n, e =>
    obtain ⟨⟨h1, h2, h3⟩, rfl⟩ := ite_some e
    cases hx
    cases hy
    exact ⟨z, n, rfl, rfl, h1, h2, h3, q _ _ (.refl _) (.str _)⟩
/-! the items of a dict of a module's top -/
theorem KDic.whole {K : PySem.W.Frag} {w : World} {a : Addr} {kvs : List (Key × V)} (d : KDic K w a kvs) (P : Program) : ∃ (n : Nat) (vs : List (Key × Value)), KV kvs vs ∧ ∀ h, K.In h → h.DictAt (mixKind P w) a vs n := by
  obtain ⟨es, n, h1, h2, h3⟩ := d.ex
  obtain ⟨vs, r, p⟩ := rowsOf_pairs (P := P) (w := w) h3
  have kd : (vs.map (·.1)).Nodup := r.keys ▸ d.nd
  exact ⟨n, vs, r, fun h kin => ⟨_, es, kin _ _ h1, ⟨rfl, rfl, rfl⟩, rfl, fun e he => let ⟨x, t, e1, e2⟩ := h2.all e (Array.mem_toList_iff.mpr he); ⟨.inr x, by rw [e1]; exact keyIs_str x t, e2⟩, p, kd⟩⟩
def ItG (kvs : List (Key × V)) : It :=
  ⟨fun i _ => i < kvs.length, fun i H x H' => ∃ T k v, kvs[i]? = some (k, v) ∧ x = .ref T ∧ H T = none ∧ H' = upd H T (.tup [kV k, v]), fun i _ => kvs.length ≤ i⟩
theorem turn_itemsG {P : Program} {w : World} {K : PySem.W.Frag} {d : Addr} {kvs : List (Key × V)} {vs : List (Key × Value)} {n : Nat} {elts : List Expr} {kk : Nat} {tpos : Pos} (rel : KV kvs vs) (hm : ∀ h, K.In h → h.DictAt (mixKind P w) d vs n) (it : Addr) :
    Turn P w K (.Tuple elts kk tpos) (ItG kvs) [it] it (fun i h => ∃ x y, IsItemIter h it d i vs.length n x y) := by
  have len : kvs.length = vs.length := Paired.length rel
  refine ⟨List.mem_singleton.mpr rfl, fun i h st b hb => ?_, fun i h h' st k => ?_, ?_, ?_, fun A i s Q E st h => ?_⟩
  · obtain ⟨x, y, e⟩ := st
    cases List.mem_singleton.mp hb
    exact ⟨_, e, fun v z => nomatch z⟩
  · obtain ⟨x, y, e⟩ := st
    exact ⟨x, y, k it (List.mem_singleton.mpr rfl) _ e⟩
  · rintro X rfl rfl rfl hc i pins s σ H E I hf ⟨x, y, st⟩ hg
    have hg : i < kvs.length := hg
    have lt : it < s.heap.objs.size := Heap.lt_size st
    cases hk : kvs[i] with
    | mk k v =>
      have hkv : kvs[i]? = some (k, v) := by rw [List.getElem?_eq_getElem hg, hk]
      obtain ⟨u, hu, ru⟩ := kv_get rel hkv
      refine wpAny_pyNext_items_item st (hm _ I.kIn) hu fun key h1 hkey out tup hz keep => ⟨_, rfl, wpAny_letOwnedTupleGo_items (s := { s with heap := h1 }) out fun h2 back sb => ?_⟩
      have tup2 := (sb.2 s.heap.objs.size (Nat.ne_of_gt lt)).trans tup
      refine ⟨.ref s.heap.objs.size, upd H s.heap.objs.size (.tup [kV k, v]), I.turnedNew (t' := s.toks) (ch := [it]) (fun b ob hb e => ?_) hf (Nat.le_refl _) ⟨show 2 ≤ sizeLine by decide, [key, u], .cons (relV_key hkey) (.cons ru .nil), _, tup2, rfl, _, rfl⟩, rfl, ⟨_, k, v, hkv, rfl, I.hok.fresh (Nat.le_refl _), rfl⟩, ⟨_, _, back⟩, fun b hb => ?_⟩
      · have nb : b ≠ it := fun z => hb (List.mem_singleton.mpr z)
        exact (sb.2 b nb).trans (keep b ob nb e)
      · cases List.mem_singleton.mp hb
        rw [upd_ne (Nat.ne_of_lt lt)]
        exact (hf it (List.mem_singleton.mpr rfl)).1
  · rintro X rfl rfl rfl hc i pins s σ H E I hf ⟨x, y, st⟩ hg
    have hg : kvs.length ≤ i := hg
    obtain ⟨f0, f1, f2, f3, f4, f5⟩ := hf it (List.mem_singleton.mpr rfl)
    exact wpAny_pyNext_items_end (I.ok.hd hc) st (hm _ I.kIn) (List.getElem?_eq_none (by omega)) fun h1 keep => ⟨rfl, I.turned (t' := s.toks) keep f0 f1 f3 f4 f5⟩
  · obtain ⟨x, y, e⟩ := st
    exact PySem.W.kcp_self e h
def iItemsG (K : PySem.W.Frag) (w : World) (td : TE) : TI := fun σ H R => td σ H fun x H1 => ∃ d kvs, x = .ref d ∧ KDic K w d kvs ∧ R (ItG kvs) H1
theorem pi_itemsG {X : Cx} {e : Expr} {td : TE} {apos cpos tpos : Pos} {elts : List Expr} {kk : Nat} (he : PE X e td) (hbase : attributeBase e "items" X.env (eval e X.env) = eval e X.env := by rfl) (hline : (apos.endLine == cpos.line) = true := by rfl) :
    PI X (.Tuple elts kk tpos) (.Call (.Attribute e "items" apos) [] [] cpos) (iItemsG X.K X.w td) := by
  refine ⟨fun pins s σ H R I h => wpAny_Call_method (id := "dict.items") hbase rfl hline F.plainAttrs_dict F.slot_dict_items F.type_dict_items (thn (he.run pins s σ H _ I h) fun u s1 z => ?_)⟩
  obtain ⟨x, H1, I1, rx, d, kvs, rfl, kd, q⟩ := z
  cases rx
  obtain ⟨n, vs, rel, hm⟩ := kd.whole X.prog
  have here := hm _ I1.kIn
  refine ⟨here.dictOf.typeIs, here.dictOf.mapOf.noDict, ?_⟩
  refine method_meetsIn F.slot_dict_items F.entry_dict_items rfl (PySem.evalArgs_none ⟨rfl, here.dictOf.typeIs, F.args_dict_items_1 _, _, meets_dict_items (mixKind X.prog X.w) d kd.low, ⟨vs, here.dictOf⟩, ?_⟩)
  have I2 := I1.kept (t' := s1.toks) (h' := s1.heap.push { cls := .type "dict_items", data := .fields #[.ref d] }) fun b ob z => Heap.get?_push_of_some _ z
  exact wpAny_pyIter_items (knd := mixKind X.prog X.w) ⟨_, Heap.get?_push_size _ rfl, rfl, rfl⟩ (hm _ I2.kIn) (pi_one I2 _ (turn_itemsG rel hm _) ⟨.none, .none, Heap.get?_push_size _ rfl⟩ q)
def keyOf : Key → D
  | .inl i => .int i
  | .inr z => .str z
theorem keyOf_d {K : PySem.W.Frag} {pt : Option Addr} {B : Hp} : ∀ k : Key, Dn K pt B (kV k) (keyOf k)
  | .inl _ => .int _
  | .inr _ => .str _
/-- the items of a module's dict, of ints and texts -/
def itemsG (kvs : List (Key × V)) : List D := kvs.map fun p => .tup [keyOf p.1, plainV p.2]
def dItemsG (a : Addr) (kvs : List (Key × V)) (td : TD) : TDA := fun ρ m Q => td ρ m fun d m1 => d = .op (.ref a) ∧ Q (itemsG kvs) m1
theorem is_itemsG {K : PySem.W.Frag} {w : World} {a : Addr} {kvs : List (Key × V)} {td : TD} (kd : KDic K w a kvs) (md : MnE td) : IS K (iItemsG K w (lfE K td)) (dItemsG a kvs td) := by
  refine ⟨fun ρ m Q Q' w q => md _ _ _ _ (fun d n ⟨e, q⟩ => ⟨e, w _ _ q⟩) q, ?_⟩
  rintro σ H R ⟨pt, S0, H0, S, ρ, m, E, h⟩
  refine ⟨pt, S0, H0, S, ρ, m, E, md _ _ _ _ (fun d m1 h1 v H1 e1 E1 x1 => ?_) h⟩
  obtain ⟨rfl, h1⟩ := h1
  cases x1
  refine ⟨a, kvs, rfl, kd, h1 H1 _ e1 E1 fun i S' H' sm dm => ⟨fun d hd => ?_, fun hl => ?_⟩⟩
  · unfold itemsG at hd
    rw [List.getElem?_map] at hd
    obtain ⟨p, hp, rfl⟩ := Option.map_eq_some_iff.mp hd
    refine ⟨(List.getElem?_eq_some_iff.mp hp).1, fun v H2 hy => ?_⟩
    obtain ⟨T, k, u, hk, rfl, hT, rfl⟩ := hy
    rw [hk] at hp
    cases hp
    exact ⟨Same.new hT, .tup (.of (wo_new dm hT)) (.cons (keyOf_d k) (.cons (plainV_dn u) .nil))⟩
  · unfold itemsG at hl
    rw [List.length_map] at hl
    exact Nat.le_of_eq hl
theorem di_itemsG {X : Cx} {e : Expr} {te : TD} {a : Addr} {kvs : List (Key × V)} {apos cpos tpos : Pos} {elts : List Expr} {kk : Nat} (kd : KDic X.K X.w a kvs) (he : DE X e te) (hbase : attributeBase e "items" X.env (eval e X.env) = eval e X.env := by rfl) (hline : (apos.endLine == cpos.line) = true := by rfl) :
    DI X (.Tuple elts kk tpos) (.Call (.Attribute e "items" apos) [] [] cpos) (iItemsG X.K X.w (lfE X.K te)) (dItemsG a kvs te) := ⟨pi_itemsG he.pe hbase hline, is_itemsG kd he.mn⟩
/-! d.update(e) of two dicts -/
def rUpd : V → List V → Hp → VK → Prop := fun x vs H Q => ∃ a b kvs more, x = .ref a ∧ vs = [.ref b] ∧ a ≠ b ∧ H a = some (.dK kvs) ∧ H b = some (.dK more) ∧ kvs.length + more.length ≤ sizeLine ∧ Q .non (upd H a (.dK (mergeK kvs more)))
theorem mt_update {X : Cx} : MtR X "dict.update" rUpd := by
  rintro pins s σ H x vs v us Q I rx rv ⟨a, b, kvs, more, rfl, rfl, ne, ha, hb, hl, q⟩
  cases rx
  obtain ⟨u, rfl, ru⟩ := rv.one
  cases ru
  obtain ⟨_, la, va, ra, da⟩ := dk_of I.hok ha
  obtain ⟨_, lb, vb, rb, db⟩ := dk_of I.hok hb
  have hl2 : (mergeK kvs more).length ≤ sizeLine := Nat.le_trans (length_mergeK more kvs) hl
  refine call_meetsIn PySem.F.slot_dict_update da.typeIs PySem.F.entry_dict_update (PySem.F.args_dict_update_2 _ _) (meets_dict_update (mixKind X.prog X.w) a b ne lb)
    ⟨va, vb, da, db, by rw [← ra.length, ← rb.length]; exact hl, fun h' da' db' hs => ⟨.non, _, d_write I (by rw [ha]; exact True.intro) hs (let ⟨q, _, _, hq, _⟩ := da'; ⟨q, hq⟩) (dk_new hl2 la (KV.merge rb ra) da'), rfl, q⟩⟩
def mergeD (kvs more : List (Key × D)) : List (Key × D) := more.foldl (fun acc kv => putD acc kv.1 kv.2) kvs
theorem dk_merge {K : PySem.W.Frag} {pt : Option Addr} {B : Hp} : ∀ {more : List (Key × V)} {ds : List (Key × D)} {kvs : List (Key × V)} {es : List (Key × D)}, DkAll K pt B more ds → DkAll K pt B kvs es → DkAll K pt B (mergeK kvs more) (mergeD es ds)
  | _, _, _, _, .nil, h => h
  | (k, _) :: _, _, _, _, .cons h r, h2 => by
    have z := dk_merge r (h2.put (k := k) h)
    exact z
end Vd
namespace Ve
open PySem L2 PySem.Spec Vb Vd
open PyProof.Rows hiding St
section
variable {K : PySem.W.Frag} {F : Fr} {S S' : List Addr} {σ σ' : St} {H H' : Hp} {ρ ρ' : Rho} {μ : Mu}
/-- what was made here is one's own from here on -/
theorem At.take {D : Addr} {o : MO} (A : At K F S σ H ρ μ) (hD : D ∈ S) (h0 : F.H0 D = none) (ne : ∀ c ∈ μ, c.a ≠ D) (hm : MoAt K (Wo S H) H D o) : At K F S σ H ρ (μ ++ [⟨D, true, o⟩]) := by
  refine ⟨A.dom, A.sub, A.inc, A.dom0, A.frm, A.mS, fun c hc => ?_, ?_, ?_, A.len, A.var, A.no⟩
  · rcases List.mem_append.mp hc with hc | hc
    · exact A.mu c hc
    · cases List.mem_singleton.mp hc
      exact ⟨hD, fun _ => h0, fun z => (nomatch z), hm⟩
  · rw [List.map_append]
    refine List.nodup_append.mpr ⟨A.nd, by simp, fun x hx y hy e => ?_⟩
    obtain ⟨c, hc, rfl⟩ := List.mem_map.mp hx
    rw [List.map_singleton, List.mem_singleton] at hy
    exact ne c hc (e.trans hy)
  · have le : F.M0.length ≤ (μ.map (·.a)).length := by
      have := congrArg List.length A.pre
      rw [List.length_take] at this
      omega
    rw [List.map_append, List.take_append_of_le_length le]
    exact A.pre
/-- a dict comprehension, the new dict told -/
theorem lf_dcN {wi : TI} {ti : TDA} {g : TG} {f : TgD} {tt : TDT} {tk tv : Vd.TD} {vs ws : List Nat} {tT : L2.TT} (iz : IS K wi ti) (gs : GS K g f ws) (hw : ∀ i ∈ ws, i ∈ vs) (mt : MnT tt) (mk : MnE tk) (mv : MnE tv) (htT : ∀ σ H Q, Vd.lfT K tt σ H Q → tT σ H Q) {S : List Addr} {σ : St} {H : Hp} {Q : VK}
    (E : Ev K none S H S σ H ρ 0)
    (h : ti ρ 0 fun ds m1 => dcD f tt tk tv vs ρ ds [] m1 fun acc m2 => ∀ D accv H'', Same H H'' → H D = none → Ev K none S H (D :: S) σ H'' ρ m2 → H'' D = some (.dK accv) → DkAll K none (Wo (D :: S) H'') accv acc → Q (.ref D) H'') : tDc wi g tT (Vd.lfE K tk) (Vd.lfE K tv) vs σ H Q := by
  refine iz.2 _ _ _ ⟨none, S, H, S, ρ, 0, E, iz.1 _ _ _ _ (fun ds m1 h1 H1 J e1 E1 it => ?_) h⟩
  have sX : ∀ {a b : Hp}, SameX none a b → Same a b := fun s b o => s b o fun z => nomatch z
  intro D hD
  obtain ⟨ED, h0, hp, hn, nS, wo⟩ := E1.newO (o := .dK []) hD
  let G := fun (acc : List (Key × Vd.D)) (m2 : Nat) => ∀ D accv H'', Same H H'' → H D = none → Ev K none S H (D :: S) σ H'' ρ m2 → H'' D = some (.dK accv) → DkAll K none (Wo (D :: S) H'') accv acc → Q (.ref D) H''
  have h1 : dcD f tt tk tv vs ρ ds [] m1 G := h1
  refine ⟨fun i n H' => n = ds.length - i ∧ i ≤ ds.length ∧ ∃ accv accd m', Ev K none S H (D :: S) σ H' ρ m' ∧ Same H1 H' ∧ H' D = some (.dK accv) ∧ DkAll K none (Wo (D :: S) H') accv accd ∧ dcD f tt tk tv vs ρ (ds.drop i) accd m' G, ?_, ?_⟩
  · exact ⟨_, rfl, Nat.zero_le _, [], [], m1, ED, Same.new hD, upd_same, .nil, h1⟩
  · rintro i n H' ⟨rfl, hi, accv, accd, m', E', s1, hA, dA, hl⟩
    have ssm : Same (Wo S H1) (Wo (D :: S) H') := fun b o q => by
      obtain ⟨nb, q⟩ := Wo.some q
      have nbD : b ≠ D := ne_of_none q hD
      rw [Wo.out (by simp only [List.mem_cons, not_or]; exact ⟨nbD, nb⟩)]
      exact s1 b o q
    obtain ⟨go, stop⟩ := it i (D :: S) H' ssm E'.dom
    by_cases hlt : i < ds.length
    · obtain ⟨g1, g2⟩ := go ds[i] (List.getElem?_eq_getElem hlt)
      rw [List.drop_eq_getElem_cons hlt] at hl
      obtain ⟨ρ', e', hl⟩ := hl
      refine .inr ⟨g1, fun H'' => ∃ accv accd m', Ev K none S H (D :: S) σ H'' ρ m' ∧ Same H1 H'' ∧ H'' D = some (.dK accv) ∧ DkAll K none (Wo (D :: S) H'') accv accd ∧ dcD f tt tk tv vs ρ (ds.drop (i + 1)) accd m' G, fun H'' q => ⟨_, Nat.sub_lt_sub_left hlt (Nat.lt_succ_self i), rfl, hlt, q⟩, fun x H2 hy => ?_⟩
      obtain ⟨sm2, dx⟩ := g2 x H2 hy
      have E2 := E'.same sm2
      refine gs none S (D :: S) H H2 _ _ ρ' m' x _ _ (E2.wipe vs) dx e' fun σ2 E3 ag => ⟨(Agree.wipe (ag.more hw)).trans (wipe_wipe vs σ), htT _ _ _ ⟨none, S, H, D :: S, ρ', m', E3, mt _ _ _ _ (fun b m3 h3 H3 e3 E4 => ?_) hl⟩⟩
      have back : ∀ {H4 : Hp} {m4 : Nat}, Ev K none S H (D :: S) σ2 H4 ρ' m4 → SameX none H2 H4 → Ev K none S H (D :: S) σ H4 ρ m4 := fun {H4 m4} E4 s => E2.step s E4.pot
      cases b
      · exact ⟨accv, accd, m3, back E4 e3, s1.trans (sm2.trans (sX e3)), sX e3 _ _ (sm2 _ _ hA), dA.mono ((Wo.same sm2).trans (E2.wo e3)), h3⟩
      · refine ⟨none, S, H, D :: S, ρ', m3, E4, mk _ _ _ _ (fun y m4 h4 v H4 e4 E5 dy => ?_) h3⟩
        refine ⟨none, S, H, D :: S, ρ', m4, E5, mv _ _ _ _ (fun z m5 h5 u H5 e5 E6 dz => ?_) h4⟩
        obtain ⟨k, hk, l, h5⟩ := h5
        have hA4 : H5 D = some (.dK accv) := sX e5 _ _ (sX e4 _ _ (sX e3 _ _ (sm2 _ _ hA)))
        have dA4 := dA.mono ((Wo.same sm2).trans ((E2.wo e3).trans ((E4.wo e4).trans (E5.wo e5))))
        have wo5 : Same (Wo (D :: S) H5) (Wo (D :: S) (upd H5 D (.dK (putK accv k u)))) := fun b o q => by
          obtain ⟨nb, q⟩ := Wo.some q
          rw [Wo.out nb, upd_ne fun z => nb (by rw [z]; exact List.mem_cons_self)]
          exact q
        refine ⟨accv, k, keyD_of dy hk, hA4, by rw [dA.length]; exact l, putK accv k u, putD accd k z, m5, (back E6 (e3.trans (e4.trans e5))).updO List.mem_cons_self h0 hp hn, fun b o q => ?_, upd_same, (dA4.mono wo5).put (dz.mono wo5), h5⟩
        rw [upd_ne (ne_of_none q hD)]
        exact sX e5 b o (sX e4 b o (sX e3 b o (sm2 b o (s1 b o q))))
    · have e : i = ds.length := by omega
      subst e
      rw [List.drop_length] at hl
      exact .inl ⟨stop rfl, hl D accv H' ((sX e1).trans s1) h0 E' hA dA⟩
end
def sNewDc (i : Nat) (te : Vd.TD) : TSD := fun D ρ μ => te ρ 0 fun d _ => ∃ kvs, d = .dk kvs ∧ i < ρ.length ∧ ∀ a, (∀ c ∈ μ, c.a ≠ a) → D.nx (ρ.set i (some (.d (.op (.ref a))))) (μ ++ [⟨a, true, .dk kvs⟩])
/-- name = {k: v for ..}, the dict one's own -/
theorem es_dcompN {X : Cx} {i : Nat} {y : Str} {py : Pos} {kx vx tg iter : Expr} {ifs : List Expr} {scope : Scope} {own : List (Str × Nat)} {pos spos : Pos} {wi : TI} {ti : TDA} {g : TG} {f : TgD} {ws : List Nat} {tt : TDT} {tT : L2.TT} {tk tv : Vd.TD} (hc : X.calm = true) (hN : X.N.Nodup) (hy : X.N[i]? = some y) (hyl : X.env.scope.names.lookup y = some .local)
    (hsw : swapsWith (.DictComp kx vx [⟨tg, iter, ifs, 0⟩] scope pos) (some (.Name y py)) spos.line X.env = pure true) (hi : DI X tg iter wi ti) (ok : BlkOk X.N X.env.scope scope own)
    (gs : GS X.K g f ws) (hw : ∀ i ∈ ws, i ∈ own.map (·.2))
    (hg : ∀ (s : Shared) (H : Hp) (C : Addr) (cl : List (Str × Addr)) (fp : List Addr), PG (X.blk s H scope (compEnvC scope cl C X.env) fp) tg g)
    (ht : ∀ (s : Shared) (H : Hp) (C : Addr) (cl : List (Str × Addr)) (fp : List Addr), DTs (X.blk s H scope (compEnvC scope cl C X.env) fp) ifs tt tT)
    (hk : ∀ (s : Shared) (H : Hp) (C : Addr) (cl : List (Str × Addr)) (fp : List Addr), DE (X.blk s H scope (compEnvC scope cl C X.env) fp) kx tk)
    (he : ∀ (s : Shared) (H : Hp) (C : Addr) (cl : List (Str × Addr)) (fp : List Addr), DE (X.blk s H scope (compEnvC scope cl C X.env) fp) vx tv) (hs : ∀ x, foldedSetIterable iter X.env x = pure x := by intro _; rfl) :
    ES X (.Assign [.Name y py] (.DictComp kx vx [⟨tg, iter, ifs, 0⟩] scope pos) spos) (sNewDc i (dDc ti f tt tk tv (own.map (·.2)))) := by
  have m1 := (ht {} (fun _ => none) 0 [] []).mn
  have m2 := (hk {} (fun _ => none) 0 [] []).mn
  have m3 := (he {} (fun _ => none) 0 [] []).mn
  have mn : MnE (dDc ti f tt tk tv (own.map (·.2))) := fun ρ m Q Q' w q => hi.iz.1 _ _ _ _ (fun ds n q => dcD_mono m1 m2 m3 (fun _ _ q => w _ _ q) q) q
  refine ⟨ps_wk' (ps_setDc hc hN hy hyl hsw hi.pi ok hg (fun s H C cl fp => (ht s H C cl fp).pts) (tk := Vd.lfE X.K tk) (tv := Vd.lfE X.K tv) (fun s H C cl fp => (hk s H C cl fp).pe) (fun s H C cl fp => (he s H C cl fp).pe) hs) fun D σ H q => ?_, fun a b ρ m l q => mn _ _ _ _ (fun d _ ⟨kvs, e, li, z⟩ => ⟨kvs, e, li, fun p np => l.nx _ _ (z p np)⟩) q⟩
  obtain ⟨F, S, ρ, μ, W, tk', A, q⟩ := q
  refine lf_dcN hi.iz gs hw m1 m2 m3 (ht {} (fun _ => none) 0 [] []).snd A.ev (hi.iz.1 _ _ _ _ (fun ds n q => dcD_mono m1 m2 m3 (fun acc m2 q P accv H2 sm hP E hA dA => ?_) q) q)
  obtain ⟨kvs, e, li, z⟩ := q
  cases e
  have nS : P ∉ S := fun z => A.dom P z hP
  have ne : ∀ c ∈ μ, c.a ≠ P := fun c hc z => nS (z ▸ (A.mu c hc).1)
  have A2 : At X.K F (P :: S) σ H2 ρ (μ ++ [⟨P, true, .dk acc⟩]) := (A.later E A.no).take List.mem_cons_self (A.none0 hP) ne ⟨accv, hA, dA⟩
  exact z P ne _ H2 (P :: S) E.hid (A2.setv (.op _))
/-- name.update(e), the dict one's own, e a dict told -/
def sUpd (i : Nat) (te : TD) : TSD := fun D ρ μ => ∃ k a b kvs, ρ[i]? = some (some (.d (.op (.ref a)))) ∧ μ[k]? = some ⟨a, b, .dk kvs⟩ ∧ te ρ μ (D.x ρ) fun d μ1 => ∃ c es more, d = .dk more ∧ μ1[k]? = some ⟨a, c, .dk es⟩ ∧ es.length + more.length ≤ sizeLine ∧ D.nx ρ (putO μ1 k (.dk (mergeD es more)))
theorem es_upd {X : Cx} {e : Expr} {te : TD} {pos : Pos} {i : Nat} {apos cpos : Pos} {y : Str} {py : Pos} (hv : PE X (.Name y py) (tVar i)) (he : EE X e te) (hs : swapsWith (.Call (.Attribute (.Name y py) "update" apos) [e] [] cpos) none pos.line X.env = pure false := by rfl)
    (hbase : attributeBase (.Name y py) "update" X.env (eval (.Name y py) X.env) = eval (.Name y py) X.env := by rfl)
    (hfew : ((backTo cpos (starEach [e] X.env)).all (fun x => !x.1) && (backToKw cpos (keywordEach [] X.env)).all (fun x => x.1.isSome)
      && decide ([e].length + ([] : List Keyword).length + (if ([] : List Keyword).isEmpty then 0 else 1) < 30)) = true := by rfl)
    (hline : (apos.endLine == cpos.line) = true := by rfl) (hse : starEach [e] X.env = (false, eval e X.env) :: starEach [] X.env := by rfl) (hplain : (backTo cpos (starEach [] X.env)).any (·.1) = false := by rfl) :
    ES X (.Expr (.Call (.Attribute (.Name y py) "update" apos) [e] [] cpos) pos) (sUpd i te) := by
  refine ⟨ps_wk' (ps_expr (pe_bm PySem.F.plainAttrs_dict PySem.F.slot_dict_update PySem.F.type_dict_update mt_update hv (pa_cons he.pe pa_nil hse) hbase hfew hline hse hplain) hs) ?_, fun a b ρ m l ⟨k, c, d, ds, h1, h2, q⟩ => ⟨k, c, d, ds, h1, h2, he.mn _ _ _ _ _ _ (l.x ρ) (fun d n ⟨c, es, more, h3, h4, h5, q⟩ => ⟨c, es, more, h3, h4, h5, l.nx _ _ q⟩) q⟩⟩
  rintro D σ H ⟨F, S, ρ, μ, W, tk, A, k, a, b, kvs, hi, hk, q⟩
  obtain ⟨v0, hv0, r0⟩ := A.var i _ hi
  cases r0
  obtain ⟨hs0, hH, _⟩ := (A.mu _ (List.mem_of_getElem? hk)).2.2.2
  refine ⟨_, hv0, .inr (.inr (.inl ⟨rfl, .inl ⟨hs0, hH⟩⟩)), F, S, ρ, μ, W, _, tk, A, lfEd_ok, he.mn _ _ _ _ _ _ (fun _ _ _ z => z) (fun d μ1 h1 v H1 S1 s1 A1 x1 => ?_) q⟩
  obtain ⟨c, es, more, rfl, hk', l, h1⟩ := h1
  obtain ⟨us, hH1, hus⟩ := (A1.mu _ (List.mem_of_getElem? hk')).2.2.2
  have aS : a ∈ S1 := (A1.mu _ (List.mem_of_getElem? hk')).1
  cases x1 with
  | @dk b' ms kvs' g1 g2 g3 =>
    obtain ⟨nb, g1'⟩ := Wo.some g1
    have ne : a ≠ b' := fun z => nb (z ▸ aS)
    have hm := DkAll.of g2 g3
    refine ⟨a, b', us, ms, rfl, rfl, ne, hH1, g1', by rw [hus.length, hm.length]; exact l, ?_⟩
    have w : Same (Wo S1 H1) (Wo S1 (upd H1 a (.dK (mergeK us ms)))) := fun c o z => by
      obtain ⟨n, z⟩ := Wo.some z
      rw [Wo.out n, upd_ne fun y => n (by rw [y]; exact aS)]
      exact z
    obtain ⟨st, A2⟩ := A1.put (u := .dK (mergeK us ms)) (o := .dk (mergeD es more)) hk' ⟨_, upd_same, dk_merge (hm.mono w) (hus.mono w)⟩
    exact h1 σ _ S1 (s1.trans st) A2
end Ve
end
section
set_option autoImplicit false
set_option maxHeartbeats 1000000
set_option Elab.async false
set_option linter.all false
set_option maxRecDepth 100000
namespace L77
open PySem L2 Vb Vd
def topS (i : Nat) : Stmt := PySem.Challenge.pw_contraryrolls_k77_pile_readers_and_lines.main.body.getD i (.Pass ⟨0, 0, 0, 0⟩)
abbrev sIsName : Stmt := topS 3
abbrev sNumberIn : Stmt := topS 4
abbrev sReaderParts : Stmt := topS 16
abbrev sRoomLine : Stmt := topS 17
abbrev sBoxesLine : Stmt := topS 18
abbrev sRowLines : Stmt := topS 19
abbrev sRowLine : Stmt := topS 20
abbrev sLettersFor : Stmt := topS 21
abbrev sRowPart : Stmt := topS 22
abbrev sLawPot : Stmt := topS 27
abbrev sLawTake : Stmt := topS 28
abbrev sLawOf : Stmt := topS 29
abbrev sLawCells : Stmt := topS 30
abbrev sLawNames : Stmt := topS 31
abbrev sLawTestRow : Stmt := topS 32
abbrev sLawRow : Stmt := topS 33
abbrev sLawReaderText : Stmt := topS 34
abbrev sLawPileRow : Stmt := topS 35
abbrev sLawPileReader : Stmt := topS 36
abbrev sLawHeard : Stmt := topS 37
abbrev sLawBadRow : Stmt := topS 38
abbrev sLawSpoilt : Stmt := topS 39
abbrev sLawRight : Stmt := topS 40
abbrev sLaw : Stmt := topS 41
abbrev sReader : Stmt := topS 15
abbrev sPileReader : Stmt := topS 25
structure Bi (mg : Str → Option Value) : Prop where
  int : mg "int" = none
  abs : mg "abs" = none
  len : mg "len" = none
  sum : mg "sum" = none
  list : mg "list" = none
  range : mg "range" = none
  max : mg "max" = none
  min : mg "min" = none
  isinstance : mg "isinstance" = none
  str : mg "str" = none
  tuple : mg "tuple" = none
  all : mg "all" = none
  zip : mg "zip" = none
  enumerate : mg "enumerate" = none
  set : mg "set" = none
  dict : mg "dict" = none
  repr : mg "repr" = none
structure Gi (mg : Str → Option Value) : Prop where
  longest_name : ∃ t, mg "LONGEST_NAME" = some (.int 8 t)
  most_figures : ∃ t, mg "MOST_FIGURES" = some (.int 9 t)
  most_room : ∃ t, mg "MOST_ROOM" = some (.int 20 t)
  most_boxes : ∃ t, mg "MOST_BOXES" = some (.int 120 t)
  most_rows : ∃ t, mg "MOST_ROWS" = some (.int 40000 t)
  most_number : ∃ t, mg "MOST_NUMBER" = some (.int 999999999 t)
theorem scIsName : FnScope ["value"] ["value"] (defScope sIsName) := ⟨rfl, rfl, rfl, by decide +kernel, rfl, by decide +kernel, by decide +kernel⟩
def isName (z : Str) : Bool := decide (z.length ≤ 8) && (Txt.isascii z && (Txt.isalpha z && Txt.islower z))
theorem isName_of {z : Str} (h : IsNm z) : isName z = true := by
  unfold isName
  rw [nm_ascii h, nm_alpha h, nm_lower h, decide_eq_true h.2.2]
  rfl
def FIsName : FD := fun ds m Q => ∃ z, ds = [.str z] ∧ z.length ≤ sizeLine ∧ Q (.bl (isName z)) m
theorem mnIsName : MnF FIsName := fun ds m Q Q' w ⟨z, h1, h2, q⟩ => ⟨z, h1, h2, w _ _ q⟩
theorem calIsName {P : Program} {w : World} {K : PySem.W.Frag} {mg : Str → Option Value} {base : Heap} (D : Df K mg "is_name" sIsName) (T : Bi mg) (G : Gi mg) : Cal P w K mg base 1 "is_name" (spD K FIsName) :=
  D.cal ["value"] (fun f fd Fu => Fun.okD Fu scIsName (fun ds m Q h => by obtain ⟨z, rfl, _⟩ := h; rfl) (fun cdv A outer s H E hr =>
  dss_cons (ds_if (DW.dt (dw_or (dt_not (dt_val (de_callB call_isi s_isi (by rfl) T.isinstance (by decide +kernel) (da_cons (dv 0) (da_cons (de_ty (T := "str") (by rfl) T.str (by decide +kernel)) da_nil))))) (dw_or1 (dt_cmp op_gt s_gt (de_callB call_len s_len (by rfl) T.len (by decide +kernel) (da_cons (dv 0) da_nil)) (de_gint (by rfl) G.longest_name) (nomark _)))))
      (dss_one (ds_ret de_bl))
      (dss_nil))
    (dss_one (ds_ret (de_and (de_m0 PySem.F.plainAttrs_str PySem.F.slot_str_isascii PySem.F.type_str_isascii mt_isascii s_mtB (dv 0)) (de_and (de_m0 PySem.F.plainAttrs_str PySem.F.slot_str_isalpha PySem.F.type_str_isalpha mt_isalpha s_mtB (dv 0)) (de_one (de_m0 PySem.F.plainAttrs_str PySem.F.slot_str_islower PySem.F.type_str_islower mt_islower s_mtB (dv 0)))))))) (fun ds m Q h => by
    obtain ⟨z, rfl, hz, q⟩ := h
    unfold isName at q
    simp [sPar, sPar3, sSeq, sNil, sIf, sRet, sAsg, sDrop, sFrz, sApp, sExt, sOwn, dOr, dAnd, dNot, dTst, dTru, tru, dIf, dAndV, dOrV, dNotV, dChain, dCall, dOp2, dOp1, dMt, dMt0, dCal, dVar, dC, dTup, dLst, dSl, oNone, oSome, aCons, aNil, fName, fTup, fCons, fNil, startR, TyD, dBor, dBorE, dYes, fIsi, tyN, isTab, fMtB, fI, fI0, fIs, fIsnt, isN, fTupOf, fLstOf, fNeg, fEq_int, fEq_str, fNe_int, fNe_str, fLen_lst, fLen_tup, fAll_bls, fAdd_int, fInt_int, ixl0, ixl1, ixl2, sll1, sll2, fLen_str hz]
    by_cases h8 : z.length ≤ 8
    · refine .inl ⟨by omega, ?_⟩
      cases h1 : Txt.isascii z <;> cases h2 : Txt.isalpha z <;> simp_all
    · refine .inr ⟨by omega, ?_⟩
      simpa [h8] using q)) fun _ _ _ _ _ _ us hl => match us, hl with | [_], _ => rfl
theorem scNumberIn : FnScope ["word", "number"] ["word"] (defScope sNumberIn) := ⟨rfl, rfl, rfl, by decide +kernel, rfl, by decide +kernel, by decide +kernel⟩
/-- the number that a word tells, -1 where it tells none -/
inductive NumIn (w : Str) : Int → Prop
  | num {n : Nat} (h : w = numS n) (hn : n < 1000000000) : NumIn w n
  | not (h : 9 < w.length ∨ Txt.isascii w = false ∨ Txt.isdigit w = false) : NumIn w (-1)
  | odd {n : Nat} (h9 : w.length ≤ 9) (ha : Txt.isascii w = true) (hd : Txt.isdigit w = true) (ht : PySem.intText? w = some (n : Int)) (hn : n < 1000000000) (h : numS n ≠ w) : NumIn w (-1)
def FNumberIn : FD := fun ds m Q => ∃ (w : Str) (i : Int), ds = [.str w] ∧ w.length ≤ sizeLine ∧ NumIn w i ∧ Q (.int i) m
theorem mnNumberIn : MnF FNumberIn := fun ds m Q Q' w ⟨a, b, h1, h2, h3, q⟩ => ⟨a, b, h1, h2, h3, w _ _ q⟩
theorem calNumberIn {P : Program} {w : World} {K : PySem.W.Frag} {mg : Str → Option Value} {base : Heap} (D : Df K mg "number_in" sNumberIn) (T : Bi mg) (G : Gi mg) : Cal P w K mg base 1 "number_in" (spD K FNumberIn) :=
  D.cal ["word"] (fun f fd Fu => Fun.okD Fu scNumberIn (fun ds m Q h => by obtain ⟨_, _, rfl, _⟩ := h; rfl) (fun cdv A outer s H E hr =>
  dss_cons (ds_if (DW.dt (dw_or (dt_cmp op_gt s_gt (de_callB call_len s_len (by rfl) T.len (by decide +kernel) (da_cons (dv 0) da_nil)) (de_gint (by rfl) G.most_figures) (nomark _)) (dw_or1 (dt_not (DW.dt (dw_and (dt_val (de_m0 PySem.F.plainAttrs_str PySem.F.slot_str_isascii PySem.F.type_str_isascii mt_isascii s_mtB (dv 0))) (dw_and1 (dt_val (de_m0 PySem.F.plainAttrs_str PySem.F.slot_str_isdigit PySem.F.type_str_isdigit mt_isdigit s_mtB (dv 0))))))))))
      (dss_one (ds_ret (de_un un_neg s_neg de_int)))
      (dss_nil))
    (dss_cons (ds_set (i := 1) scNumberIn.nd rfl (by first | exact Or.inl rfl | exact Or.inr rfl) (de_callTy call_intA s_int (by rfl) T.int (by decide +kernel) (da_cons (dv 0) da_nil)))
    (dss_one (ds_ret (de_if (dt_cmp op_eq s_eq (de_callTy call_str_int s_str (by rfl) T.str (by decide +kernel) (da_cons (dv 1) da_nil)) (dv 0) (nomark _)) (dv 1) (de_un un_neg s_neg de_int)))))) (fun ds m Q h => by
    obtain ⟨w, i, rfl, hl, hw, q⟩ := h
    cases hw with
    | @num n h hn =>
      subst h
      have h1 := num_len hn
      have h4 : ¬ (9 : Int) < ((numS n).length : Nat) := by omega
      simp [sPar, sPar3, sSeq, sNil, sIf, sRet, sAsg, sDrop, sFrz, sApp, sExt, sOwn, dOr, dAnd, dNot, dTst, dTru, tru, dIf, dAndV, dOrV, dNotV, dChain, dCall, dOp2, dOp1, dMt, dMt0, dCal, dVar, dC, dTup, dLst, dSl, oNone, oSome, aCons, aNil, fName, fTup, fCons, fNil, startR, TyD, dBor, dBorE, dYes, fIsi, tyN, isTab, fMtB, fI, fI0, fIs, fIsnt, isN, fTupOf, fLstOf, fNeg, fEq_int, fEq_str, fNe_int, fNe_str, fLen_lst, fLen_tup, fAll_bls, fAdd_int, fInt_int, ixl0, ixl1, ixl2, sll1, sll2, fLen_str hl, h4, num_ascii, num_digit, fInt_num hn, fStr_num hn]
      exact q
    | not h =>
      by_cases h9 : 9 < w.length
      · have h4 : (9 : Int) < (w.length : Nat) := by omega
        simp [sPar, sPar3, sSeq, sNil, sIf, sRet, sAsg, sDrop, sFrz, sApp, sExt, sOwn, dOr, dAnd, dNot, dTst, dTru, tru, dIf, dAndV, dOrV, dNotV, dChain, dCall, dOp2, dOp1, dMt, dMt0, dCal, dVar, dC, dTup, dLst, dSl, oNone, oSome, aCons, aNil, fName, fTup, fCons, fNil, startR, TyD, dBor, dBorE, dYes, fIsi, tyN, isTab, fMtB, fI, fI0, fIs, fIsnt, isN, fTupOf, fLstOf, fNeg, fEq_int, fEq_str, fNe_int, fNe_str, fLen_lst, fLen_tup, fAll_bls, fAdd_int, fInt_int, ixl0, ixl1, ixl2, sll1, sll2, fLen_str hl, h4]
        exact q
      · have h4 : ¬ (9 : Int) < (w.length : Nat) := by omega
        have h := h.resolve_left h9
        by_cases ha : Txt.isascii w = true
        · have hd := h.resolve_left (by rw [ha]; exact Bool.noConfusion)
          simp [sPar, sPar3, sSeq, sNil, sIf, sRet, sAsg, sDrop, sFrz, sApp, sExt, sOwn, dOr, dAnd, dNot, dTst, dTru, tru, dIf, dAndV, dOrV, dNotV, dChain, dCall, dOp2, dOp1, dMt, dMt0, dCal, dVar, dC, dTup, dLst, dSl, oNone, oSome, aCons, aNil, fName, fTup, fCons, fNil, startR, TyD, dBor, dBorE, dYes, fIsi, tyN, isTab, fMtB, fI, fI0, fIs, fIsnt, isN, fTupOf, fLstOf, fNeg, fEq_int, fEq_str, fNe_int, fNe_str, fLen_lst, fLen_tup, fAll_bls, fAdd_int, fInt_int, ixl0, ixl1, ixl2, sll1, sll2, fLen_str hl, h4, ha, hd]
          exact q
        · rw [Bool.not_eq_true] at ha
          simp [sPar, sPar3, sSeq, sNil, sIf, sRet, sAsg, sDrop, sFrz, sApp, sExt, sOwn, dOr, dAnd, dNot, dTst, dTru, tru, dIf, dAndV, dOrV, dNotV, dChain, dCall, dOp2, dOp1, dMt, dMt0, dCal, dVar, dC, dTup, dLst, dSl, oNone, oSome, aCons, aNil, fName, fTup, fCons, fNil, startR, TyD, dBor, dBorE, dYes, fIsi, tyN, isTab, fMtB, fI, fI0, fIs, fIsnt, isN, fTupOf, fLstOf, fNeg, fEq_int, fEq_str, fNe_int, fNe_str, fLen_lst, fLen_tup, fAll_bls, fAdd_int, fInt_int, ixl0, ixl1, ixl2, sll1, sll2, fLen_str hl, h4, ha]
          exact q
    | @odd n h9 ha hd ht hn h =>
      have h4 : ¬ (9 : Int) < (w.length : Nat) := by omega
      have e : fInt [.str w] = some (.int (n : Int)) := by
        show (if w.length ≤ 640 then (PySem.intText? w).map fun n => Vd.D.int n else none) = _
        rw [if_pos (by omega), ht]
        rfl
      simp [sPar, sPar3, sSeq, sNil, sIf, sRet, sAsg, sDrop, sFrz, sApp, sExt, sOwn, dOr, dAnd, dNot, dTst, dTru, tru, dIf, dAndV, dOrV, dNotV, dChain, dCall, dOp2, dOp1, dMt, dMt0, dCal, dVar, dC, dTup, dLst, dSl, oNone, oSome, aCons, aNil, fName, fTup, fCons, fNil, startR, TyD, dBor, dBorE, dYes, fIsi, tyN, isTab, fMtB, fI, fI0, fIs, fIsnt, isN, fTupOf, fLstOf, fNeg, fEq_int, fEq_str, fNe_int, fNe_str, fLen_lst, fLen_tup, fAll_bls, fAdd_int, fInt_int, ixl0, ixl1, ixl2, sll1, sll2, fLen_str hl, h4, ha, hd, e, fStr_num hn, h]
      exact q)) fun _ _ _ _ _ _ us hl => match us, hl with | [_], _ => rfl
theorem scRoomLine : FnScope ["words", "room"] ["words"] (defScope sRoomLine) := ⟨rfl, rfl, rfl, by decide +kernel, rfl, by decide +kernel, by decide +kernel⟩
/-- what the first line tells -/
def RoomR (words : List Str) (r : D) : Prop := ((∀ w, words ≠ ([("room" : Str), w] : List Str)) ∧ r = .non) ∨ ∃ w i, words = ([("room" : Str), w] : List Str) ∧ NumIn w i ∧ r = (if 1 ≤ i ∧ i ≤ 20 then .int i else .non)
def FRoomLine : FD := fun ds m Q => ∃ (words : List Str) (r : D), ds = [.lst (words.map .str)] ∧ (∀ w ∈ words, w.length ≤ sizeLine) ∧ RoomR words r ∧ Q r m
theorem mnRoomLine : MnF FRoomLine := fun ds m Q Q' w ⟨a, b, h1, h2, h3, q⟩ => ⟨a, b, h1, h2, h3, w _ _ q⟩
theorem calRoomLine {P : Program} {w : World} {K : PySem.W.Frag} {mg : Str → Option Value} {base : Heap} (D : Df K mg "room_line" sRoomLine) (T : Bi mg) (G : Gi mg) (cN : Cal P w K mg base 1 "number_in" (spD K FNumberIn)) : Cal P w K mg base 2 "room_line" (spD K FRoomLine) :=
  D.cal ["words"] (fun f fd Fu => Fun.okD Fu scRoomLine (fun ds m Q h => by obtain ⟨_, _, rfl, _⟩ := h; rfl) (fun cdv A outer s H E hr =>
  dss_cons (ds_if (DW.dt (dw_or (dt_cmp op_ne s_ne (de_callB call_len s_len (by rfl) T.len (by decide +kernel) (da_cons (dv 0) da_nil)) de_int (nomark _)) (dw_or1 (dt_cmp op_ne s_ne (de_ix ix_seq s_ix (dv 0) de_int (fun _ _ => rfl)) de_str (nomark _)))))
      (dss_one (ds_ret de_non))
      (dss_nil))
    (dss_cons (ds_set (i := 1) scRoomLine.nd rfl (by first | exact Or.inl rfl | exact Or.inr rfl) (de_c mnNumberIn cN hr (by decide) rfl (da_cons (de_ix ix_seq s_ix (dv 0) de_int (fun _ _ => rfl)) da_nil)))
    (dss_one (ds_ret (de_if (dt_chain op_le op_le s_le s_le de_int (dv 1) (de_gint (by rfl) G.most_room)) (dv 1) de_non))))) (fun ds m Q h => by
    obtain ⟨words, r, rfl, hl, hw, q⟩ := h
    rcases hw with ⟨no, rfl⟩ | ⟨w, i, rfl, hi, rfl⟩
    · match words, no with
      | [], _ => simp [sPar, sPar3, sSeq, sNil, sIf, sRet, sAsg, sDrop, sFrz, sApp, sExt, sOwn, dOr, dAnd, dNot, dTst, dTru, tru, dIf, dAndV, dOrV, dNotV, dChain, dCall, dOp2, dOp1, dMt, dMt0, dCal, dVar, dC, dTup, dLst, dSl, oNone, oSome, aCons, aNil, fName, fTup, fCons, fNil, startR, TyD, dBor, dBorE, dYes, fIsi, tyN, isTab, fMtB, fI, fI0, fIs, fIsnt, isN, fTupOf, fLstOf, fNeg, fEq_int, fEq_str, fNe_int, fNe_str, fLen_lst, fLen_tup, fAll_bls, fAdd_int, fInt_int, ixl0, ixl1, ixl2, sll1, sll2, q]
      | [a], _ => simp [sPar, sPar3, sSeq, sNil, sIf, sRet, sAsg, sDrop, sFrz, sApp, sExt, sOwn, dOr, dAnd, dNot, dTst, dTru, tru, dIf, dAndV, dOrV, dNotV, dChain, dCall, dOp2, dOp1, dMt, dMt0, dCal, dVar, dC, dTup, dLst, dSl, oNone, oSome, aCons, aNil, fName, fTup, fCons, fNil, startR, TyD, dBor, dBorE, dYes, fIsi, tyN, isTab, fMtB, fI, fI0, fIs, fIsnt, isN, fTupOf, fLstOf, fNeg, fEq_int, fEq_str, fNe_int, fNe_str, fLen_lst, fLen_tup, fAll_bls, fAdd_int, fInt_int, ixl0, ixl1, ixl2, sll1, sll2, q]
      | [a, b], no =>
        have ne : a ≠ "room" := fun z => no b (by rw [z])
        simp [sPar, sPar3, sSeq, sNil, sIf, sRet, sAsg, sDrop, sFrz, sApp, sExt, sOwn, dOr, dAnd, dNot, dTst, dTru, tru, dIf, dAndV, dOrV, dNotV, dChain, dCall, dOp2, dOp1, dMt, dMt0, dCal, dVar, dC, dTup, dLst, dSl, oNone, oSome, aCons, aNil, fName, fTup, fCons, fNil, startR, TyD, dBor, dBorE, dYes, fIsi, tyN, isTab, fMtB, fI, fI0, fIs, fIsnt, isN, fTupOf, fLstOf, fNeg, fEq_int, fEq_str, fNe_int, fNe_str, fLen_lst, fLen_tup, fAll_bls, fAdd_int, fInt_int, ixl0, ixl1, ixl2, sll1, sll2, ne]
        exact q
      | a :: b :: c :: r, _ =>
        have ne : ¬ ((r.length : Int) + 1 + 1 + 1 = 2) := by omega
        simp [sPar, sPar3, sSeq, sNil, sIf, sRet, sAsg, sDrop, sFrz, sApp, sExt, sOwn, dOr, dAnd, dNot, dTst, dTru, tru, dIf, dAndV, dOrV, dNotV, dChain, dCall, dOp2, dOp1, dMt, dMt0, dCal, dVar, dC, dTup, dLst, dSl, oNone, oSome, aCons, aNil, fName, fTup, fCons, fNil, startR, TyD, dBor, dBorE, dYes, fIsi, tyN, isTab, fMtB, fI, fI0, fIs, fIsnt, isN, fTupOf, fLstOf, fNeg, fEq_int, fEq_str, fNe_int, fNe_str, fLen_lst, fLen_tup, fAll_bls, fAdd_int, fInt_int, ixl0, ixl1, ixl2, sll1, sll2, ne]
        exact q
    · have hlw : w.length ≤ sizeLine := hl w (by simp)
      simp [sPar, sPar3, sSeq, sNil, sIf, sRet, sAsg, sDrop, sFrz, sApp, sExt, sOwn, dOr, dAnd, dNot, dTst, dTru, tru, dIf, dAndV, dOrV, dNotV, dChain, dCall, dOp2, dOp1, dMt, dMt0, dCal, dVar, dC, dTup, dLst, dSl, oNone, oSome, aCons, aNil, fName, fTup, fCons, fNil, startR, TyD, dBor, dBorE, dYes, fIsi, tyN, isTab, fMtB, fI, fI0, fIs, fIsnt, isN, fTupOf, fLstOf, fNeg, fEq_int, fEq_str, fNe_int, fNe_str, fLen_lst, fLen_tup, fAll_bls, fAdd_int, fInt_int, ixl0, ixl1, ixl2, sll1, sll2, FNumberIn]
      refine ⟨hlw, i, hi, ?_⟩
      by_cases c1 : 1 ≤ i
      · by_cases c2 : i ≤ 20
        · rw [if_pos ⟨c1, c2⟩] at q
          exact .inr ⟨c1, .inr ⟨c2, q⟩⟩
        · rw [if_neg fun z => c2 z.2] at q
          exact .inr ⟨c1, .inl ⟨by omega, q⟩⟩
      · rw [if_neg fun z => c1 z.1] at q
        exact .inl ⟨by omega, q⟩)) fun _ _ _ _ _ _ us hl => match us, hl with | [_], _ => rfl
theorem scRowPart : FnScope ["letter", "word", "held", "greatest", "number"] ["letter", "word", "held", "greatest"] (defScope sRowPart) := ⟨rfl, rfl, rfl, by decide +kernel, rfl, by decide +kernel, by decide +kernel⟩
def heldD (boxes : List Str) : List (L2.Key × D) := boxes.map fun z => (Sum.inr z, .bl true)
def greatD (room last : Nat) : List (L2.Key × D) := [(Sum.inr "K", .int 999999999), (Sum.inr "Q", .int (room : Int)), (Sum.inr "L", .int (last : Int))]
theorem held_in {boxes : List Str} {z : Str} : (lookD (heldD boxes) (Sum.inr z)).isSome = decide (z ∈ boxes) := by
  unfold lookD heldD
  rw [Option.isSome_map]
  by_cases h : z ∈ boxes
  · rw [decide_eq_true h, List.find?_isSome]
    exact ⟨(Sum.inr z, .bl true), List.mem_map.mpr ⟨z, h, rfl⟩, decide_eq_true rfl⟩
  · rw [decide_eq_false h, Option.isSome_eq_false_iff, Option.isNone_iff_eq_none, List.find?_eq_none]
    intro p hp
    obtain ⟨y, hy, rfl⟩ := List.mem_map.mp hp
    rw [decide_eq_true_eq]
    exact fun e => h (Sum.inr.inj e ▸ hy)
theorem eB : (Str.ofString "B") = ⟨#[66]⟩ := by decide +kernel
theorem eN : (Str.ofString "N") = ⟨#[78]⟩ := by decide +kernel
theorem gK {room last : Nat} : lookD (greatD room last) (Sum.inr ⟨#[75]⟩) = some (.int 999999999) := rfl
theorem gQ {room last : Nat} : lookD (greatD room last) (Sum.inr ⟨#[81]⟩) = some (.int (room : Int)) := rfl
theorem gL {room last : Nat} : lookD (greatD room last) (Sum.inr ⟨#[76]⟩) = some (.int (last : Int)) := rfl
/-- what a word behind the first one of a row tells, by its letter -/
inductive PartR (boxes : List Str) (room last : Nat) (w : Str) : Nat → D → Prop
  | box (h : w ∈ boxes) : PartR boxes room last w 66 (.str w)
  | nobox (h : w ∉ boxes) : PartR boxes room last w 66 .non
  | name (h : isName w = true) : PartR boxes room last w 78 (.str w)
  | noname (h : isName w = false) : PartR boxes room last w 78 .non
  | num {c : Nat} {b i : Int} (hc : (c = 75 ∧ b = 999999999) ∨ (c = 81 ∧ b = room) ∨ (c = 76 ∧ b = last)) (h : NumIn w i) (h0 : 0 ≤ i) (h1 : i ≤ b) : PartR boxes room last w c (.int i)
  | nonum {c : Nat} {b i : Int} (hc : (c = 75 ∧ b = 999999999) ∨ (c = 81 ∧ b = room) ∨ (c = 76 ∧ b = last)) (h : NumIn w i) (h0 : i < 0 ∨ b < i) : PartR boxes room last w c .non
def FRowPart : FD := fun ds m Q => ∃ (c : Nat) (boxes : List Str) (room last : Nat) (w : Str) (r : D), ds = [.str ⟨#[c]⟩, .str w, .dk (heldD boxes), .dk (greatD room last)] ∧ w.length ≤ sizeLine ∧ PartR boxes room last w c r ∧ Q r m
theorem mnRowPart : MnF FRowPart := fun ds m Q Q' w ⟨a, b, c, d, e, f, h1, h2, h3, q⟩ => ⟨a, b, c, d, e, f, h1, h2, h3, w _ _ q⟩
theorem calRowPart {P : Program} {w : World} {K : PySem.W.Frag} {mg : Str → Option Value} {base : Heap} (D : Df K mg "row_part" sRowPart) (T : Bi mg) (G : Gi mg) (cN : Cal P w K mg base 1 "number_in" (spD K FNumberIn)) (cI : Cal P w K mg base 1 "is_name" (spD K FIsName)) : Cal P w K mg base 2 "row_part" (spD K FRowPart) :=
  D.cal ["letter", "word", "held", "greatest"] (fun f fd Fu => Fun.okD Fu scRowPart (fun ds m Q h => by obtain ⟨_, _, _, _, _, _, rfl, _⟩ := h; rfl) (fun cdv A outer s H E hr =>
  dss_cons (ds_if (dt_cmp op_eq s_eq (dv 0) de_str (nomark _))
      (dss_one (ds_ret (de_if (dt_din (hu_of hr) (dv 1) (dv 2)) (dv 1) de_non)))
      (dss_nil))
    (dss_cons (ds_if (dt_cmp op_eq s_eq (dv 0) de_str (nomark _))
      (dss_one (ds_ret (de_if (dt_val (de_c mnIsName cI hr (by decide) rfl (da_cons (dv 1) da_nil))) (dv 1) de_non)))
      (dss_nil))
    (dss_cons (ds_set (i := 4) scRowPart.nd rfl (by first | exact Or.inl rfl | exact Or.inr rfl) (de_c mnNumberIn cN hr (by decide) rfl (da_cons (dv 1) da_nil)))
    (dss_one (ds_ret (de_if (dt_chain op_le op_le s_le s_le de_int (dv 4) (de_dget (hu_of hr) (dv 3) (dv 0) (fun _ _ => rfl))) (dv 4) de_non)))))) (fun ds m Q h => by
    obtain ⟨c, boxes, room, last, w, r, rfl, hl, hp, q⟩ := h
    cases hp with
    | box h =>
      simp [sPar, sPar3, sSeq, sNil, sIf, sRet, sAsg, sDrop, sFrz, sApp, sExt, sOwn, dOr, dAnd, dNot, dTst, dTru, tru, dIf, dAndV, dOrV, dNotV, dChain, dCall, dOp2, dOp1, dMt, dMt0, dCal, dVar, dC, dTup, dLst, dSl, oNone, oSome, aCons, aNil, fName, fTup, fCons, fNil, startR, TyD, dBor, dBorE, dYes, fIsi, tyN, isTab, fMtB, fI, fI0, fIs, fIsnt, isN, fTupOf, fLstOf, fNeg, fEq_int, fEq_str, fNe_int, fNe_str, fLen_lst, fLen_tup, fAll_bls, fAdd_int, fInt_int, ixl0, ixl1, ixl2, sll1, sll2, fDIn, keyD, held_in, h, eB, eN, sign_eq]
      exact q
    | nobox h =>
      simp [sPar, sPar3, sSeq, sNil, sIf, sRet, sAsg, sDrop, sFrz, sApp, sExt, sOwn, dOr, dAnd, dNot, dTst, dTru, tru, dIf, dAndV, dOrV, dNotV, dChain, dCall, dOp2, dOp1, dMt, dMt0, dCal, dVar, dC, dTup, dLst, dSl, oNone, oSome, aCons, aNil, fName, fTup, fCons, fNil, startR, TyD, dBor, dBorE, dYes, fIsi, tyN, isTab, fMtB, fI, fI0, fIs, fIsnt, isN, fTupOf, fLstOf, fNeg, fEq_int, fEq_str, fNe_int, fNe_str, fLen_lst, fLen_tup, fAll_bls, fAdd_int, fInt_int, ixl0, ixl1, ixl2, sll1, sll2, fDIn, keyD, held_in, h, eB, eN, sign_eq]
      exact q
    | name h =>
      simp [sPar, sPar3, sSeq, sNil, sIf, sRet, sAsg, sDrop, sFrz, sApp, sExt, sOwn, dOr, dAnd, dNot, dTst, dTru, tru, dIf, dAndV, dOrV, dNotV, dChain, dCall, dOp2, dOp1, dMt, dMt0, dCal, dVar, dC, dTup, dLst, dSl, oNone, oSome, aCons, aNil, fName, fTup, fCons, fNil, startR, TyD, dBor, dBorE, dYes, fIsi, tyN, isTab, fMtB, fI, fI0, fIs, fIsnt, isN, fTupOf, fLstOf, fNeg, fEq_int, fEq_str, fNe_int, fNe_str, fLen_lst, fLen_tup, fAll_bls, fAdd_int, fInt_int, ixl0, ixl1, ixl2, sll1, sll2, FIsName, eB, eN, sign_eq, h]
      exact ⟨hl, q⟩
    | noname h =>
      simp [sPar, sPar3, sSeq, sNil, sIf, sRet, sAsg, sDrop, sFrz, sApp, sExt, sOwn, dOr, dAnd, dNot, dTst, dTru, tru, dIf, dAndV, dOrV, dNotV, dChain, dCall, dOp2, dOp1, dMt, dMt0, dCal, dVar, dC, dTup, dLst, dSl, oNone, oSome, aCons, aNil, fName, fTup, fCons, fNil, startR, TyD, dBor, dBorE, dYes, fIsi, tyN, isTab, fMtB, fI, fI0, fIs, fIsnt, isN, fTupOf, fLstOf, fNeg, fEq_int, fEq_str, fNe_int, fNe_str, fLen_lst, fLen_tup, fAll_bls, fAdd_int, fInt_int, ixl0, ixl1, ixl2, sll1, sll2, FIsName, eB, eN, sign_eq, h]
      exact ⟨hl, q⟩
    | @num c b i hc h h0 h1 =>
      rcases hc with ⟨rfl, rfl⟩ | ⟨rfl, rfl⟩ | ⟨rfl, rfl⟩
      · simp [sPar, sPar3, sSeq, sNil, sIf, sRet, sAsg, sDrop, sFrz, sApp, sExt, sOwn, dOr, dAnd, dNot, dTst, dTru, tru, dIf, dAndV, dOrV, dNotV, dChain, dCall, dOp2, dOp1, dMt, dMt0, dCal, dVar, dC, dTup, dLst, dSl, oNone, oSome, aCons, aNil, fName, fTup, fCons, fNil, startR, TyD, dBor, dBorE, dYes, fIsi, tyN, isTab, fMtB, fI, fI0, fIs, fIsnt, isN, fTupOf, fLstOf, fNeg, fEq_int, fEq_str, fNe_int, fNe_str, fLen_lst, fLen_tup, fAll_bls, fAdd_int, fInt_int, ixl0, ixl1, ixl2, sll1, sll2, FNumberIn, eB, eN, sign_eq, fDGet, keyD, gK, gQ, gL]
        exact ⟨hl, i, h, .inr ⟨h0, .inr ⟨h1, q⟩⟩⟩
      · simp [sPar, sPar3, sSeq, sNil, sIf, sRet, sAsg, sDrop, sFrz, sApp, sExt, sOwn, dOr, dAnd, dNot, dTst, dTru, tru, dIf, dAndV, dOrV, dNotV, dChain, dCall, dOp2, dOp1, dMt, dMt0, dCal, dVar, dC, dTup, dLst, dSl, oNone, oSome, aCons, aNil, fName, fTup, fCons, fNil, startR, TyD, dBor, dBorE, dYes, fIsi, tyN, isTab, fMtB, fI, fI0, fIs, fIsnt, isN, fTupOf, fLstOf, fNeg, fEq_int, fEq_str, fNe_int, fNe_str, fLen_lst, fLen_tup, fAll_bls, fAdd_int, fInt_int, ixl0, ixl1, ixl2, sll1, sll2, FNumberIn, eB, eN, sign_eq, fDGet, keyD, gK, gQ, gL]
        exact ⟨hl, i, h, .inr ⟨h0, .inr ⟨h1, q⟩⟩⟩
      · simp [sPar, sPar3, sSeq, sNil, sIf, sRet, sAsg, sDrop, sFrz, sApp, sExt, sOwn, dOr, dAnd, dNot, dTst, dTru, tru, dIf, dAndV, dOrV, dNotV, dChain, dCall, dOp2, dOp1, dMt, dMt0, dCal, dVar, dC, dTup, dLst, dSl, oNone, oSome, aCons, aNil, fName, fTup, fCons, fNil, startR, TyD, dBor, dBorE, dYes, fIsi, tyN, isTab, fMtB, fI, fI0, fIs, fIsnt, isN, fTupOf, fLstOf, fNeg, fEq_int, fEq_str, fNe_int, fNe_str, fLen_lst, fLen_tup, fAll_bls, fAdd_int, fInt_int, ixl0, ixl1, ixl2, sll1, sll2, FNumberIn, eB, eN, sign_eq, fDGet, keyD, gK, gQ, gL]
        exact ⟨hl, i, h, .inr ⟨h0, .inr ⟨h1, q⟩⟩⟩
    | @nonum c b i hc h h0 =>
      have go : ∀ {b : Int} {R : Prop}, i < 0 ∨ b < i → R → (i < 0 ∧ R) ∨ (0 ≤ i ∧ (b < i ∧ R)) := fun {b R} h0 q => by
        by_cases c0 : i < 0
        · exact .inl ⟨c0, q⟩
        · exact .inr ⟨by omega, h0.resolve_left c0, q⟩
      rcases hc with ⟨rfl, rfl⟩ | ⟨rfl, rfl⟩ | ⟨rfl, rfl⟩
      · simp [sPar, sPar3, sSeq, sNil, sIf, sRet, sAsg, sDrop, sFrz, sApp, sExt, sOwn, dOr, dAnd, dNot, dTst, dTru, tru, dIf, dAndV, dOrV, dNotV, dChain, dCall, dOp2, dOp1, dMt, dMt0, dCal, dVar, dC, dTup, dLst, dSl, oNone, oSome, aCons, aNil, fName, fTup, fCons, fNil, startR, TyD, dBor, dBorE, dYes, fIsi, tyN, isTab, fMtB, fI, fI0, fIs, fIsnt, isN, fTupOf, fLstOf, fNeg, fEq_int, fEq_str, fNe_int, fNe_str, fLen_lst, fLen_tup, fAll_bls, fAdd_int, fInt_int, ixl0, ixl1, ixl2, sll1, sll2, FNumberIn, eB, eN, sign_eq, fDGet, keyD, gK, gQ, gL]
        refine ⟨hl, i, h, ?_⟩
        rcases go h0 q with z | z
        · exact .inl z
        · exact .inr ⟨z.1, .inl z.2⟩
      · simp [sPar, sPar3, sSeq, sNil, sIf, sRet, sAsg, sDrop, sFrz, sApp, sExt, sOwn, dOr, dAnd, dNot, dTst, dTru, tru, dIf, dAndV, dOrV, dNotV, dChain, dCall, dOp2, dOp1, dMt, dMt0, dCal, dVar, dC, dTup, dLst, dSl, oNone, oSome, aCons, aNil, fName, fTup, fCons, fNil, startR, TyD, dBor, dBorE, dYes, fIsi, tyN, isTab, fMtB, fI, fI0, fIs, fIsnt, isN, fTupOf, fLstOf, fNeg, fEq_int, fEq_str, fNe_int, fNe_str, fLen_lst, fLen_tup, fAll_bls, fAdd_int, fInt_int, ixl0, ixl1, ixl2, sll1, sll2, FNumberIn, eB, eN, sign_eq, fDGet, keyD, gK, gQ, gL]
        refine ⟨hl, i, h, ?_⟩
        rcases go h0 q with z | z
        · exact .inl z
        · exact .inr ⟨z.1, .inl z.2⟩
      · simp [sPar, sPar3, sSeq, sNil, sIf, sRet, sAsg, sDrop, sFrz, sApp, sExt, sOwn, dOr, dAnd, dNot, dTst, dTru, tru, dIf, dAndV, dOrV, dNotV, dChain, dCall, dOp2, dOp1, dMt, dMt0, dCal, dVar, dC, dTup, dLst, dSl, oNone, oSome, aCons, aNil, fName, fTup, fCons, fNil, startR, TyD, dBor, dBorE, dYes, fIsi, tyN, isTab, fMtB, fI, fI0, fIs, fIsnt, isN, fTupOf, fLstOf, fNeg, fEq_int, fEq_str, fNe_int, fNe_str, fLen_lst, fLen_tup, fAll_bls, fAdd_int, fInt_int, ixl0, ixl1, ixl2, sll1, sll2, FNumberIn, eB, eN, sign_eq, fDGet, keyD, gK, gQ, gL]
        refine ⟨hl, i, h, ?_⟩
        rcases go h0 q with z | z
        · exact .inl z
        · exact .inr ⟨z.1, .inl z.2⟩)) fun _ _ _ _ _ _ us hl => match us, hl with | [_, _, _, _], _ => rfl
theorem scLettersFor : FnScope ["letters", "many"] ["letters", "many"] (defScope sLettersFor) := ⟨rfl, rfl, rfl, by decide +kernel, rfl, by decide +kernel, by decide +kernel⟩
/-- the letters of a form, one for each of so many parts if there can be as many -/
def lettS (L : Str) (n : Nat) : Str := if Txt.endswith L "M" = true then "L" ++ repS "B" ((n : Int) - 1) else L
def FLettersFor : FD := fun ds m Q => ∃ (L : Str) (n : Nat), ds = [.str L, .int (n : Int)] ∧ n ≤ 10000 ∧ (Txt.endswith L "M" = true → L = "LM") ∧ Q (.str (lettS L n)) m
theorem mnLettersFor : MnF FLettersFor := fun ds m Q Q' w ⟨a, b, h1, h2, h3, q⟩ => ⟨a, b, h1, h2, h3, w _ _ q⟩
theorem lm_l : ("LM" : Str).length = 2 := by decide +kernel
theorem lm_c : cutS "LM" none (some (-1)) = "L" := by decide +kernel
theorem fSl_str {z : Str} {lo hi : Option Int} (h : z.length ≤ sizeLine) : fSl (.str z) lo hi = some (.str (cutS z lo hi)) := if_pos h
theorem lm_cut : fSl (.str "LM") none (some (-1)) = some (.str "L") := by
  rw [fSl_str (by rw [lm_l]; decide), lm_c]
theorem lm_len : fLen [.str "LM"] = some (.int 2) := by
  rw [fLen_str (by rw [lm_l]; decide), lm_l]
  rfl
theorem lm_ends : Txt.endswith "LM" "M" = true := by decide +kernel
theorem one_len : ("L" : Str).length = 1 := by decide +kernel
theorem b_len : ("B" : Str).length = 1 := by decide +kernel
theorem calLettersFor {P : Program} {w : World} {K : PySem.W.Frag} {mg : Str → Option Value} {base : Heap} (D : Df K mg "letters_for" sLettersFor) (T : Bi mg) (G : Gi mg) : Cal P w K mg base 1 "letters_for" (spD K FLettersFor) :=
  D.cal ["letters", "many"] (fun f fd Fu => Fun.okD Fu scLettersFor (fun ds m Q h => by obtain ⟨_, _, rfl, _⟩ := h; rfl) (fun cdv A outer s H E hr =>
  dss_cons (ds_if (dt_not (dt_val (de_m PySem.F.plainAttrs_str PySem.F.slot_str_endswith PySem.F.type_str_endswith mt_endswith s_mt1B (dv 0) (da_cons de_str da_nil))))
      (dss_one (ds_ret (dv 0)))
      (dss_nil))
    (dss_one (ds_ret (de_op op_addA s_add (de_slice sl_all s_sl (dv 0) do_none (do_some (de_un un_neg s_neg de_int))) (de_op op_repS s_repS de_str (de_op op_sub s_sub (de_op op_addA s_add (dv 1) de_int) (de_callB call_len s_len (by rfl) T.len (by decide +kernel) (da_cons (dv 0) da_nil)))))))) (fun ds m Q h => by
    obtain ⟨L, n, rfl, hn, hL, q⟩ := h
    unfold lettS at q
    by_cases c : Txt.endswith L "M" = true
    · cases hL c
      rw [if_pos c] at q
      have e1 : (n : Int) + 1 - 2 = (n : Int) - 1 := by omega
      have e2 : fRepS (.str "B") (.int ((n : Int) - 1)) = some (.str (repS "B" ((n : Int) - 1))) := if_pos ⟨by omega, by omega, by rw [b_len]; decide⟩
      have e3 : fAdd (.str "L") (.str (repS "B" ((n : Int) - 1))) = some (.str ("L" ++ repS "B" ((n : Int) - 1))) := if_pos (by rw [repS_len, b_len, one_len, sizeLine_eq]; omega)
      simp [sPar, sPar3, sSeq, sNil, sIf, sRet, sAsg, sDrop, sFrz, sApp, sExt, sOwn, dOr, dAnd, dNot, dTst, dTru, tru, dIf, dAndV, dOrV, dNotV, dChain, dCall, dOp2, dOp1, dMt, dMt0, dCal, dVar, dC, dTup, dLst, dSl, oNone, oSome, aCons, aNil, fName, fTup, fCons, fNil, startR, TyD, dBor, dBorE, dYes, fIsi, tyN, isTab, fMtB, fI, fI0, fIs, fIsnt, isN, fTupOf, fLstOf, fNeg, fEq_int, fEq_str, fNe_int, fNe_str, fLen_lst, fLen_tup, fAll_bls, fAdd_int, fInt_int, ixl0, ixl1, ixl2, sll1, sll2, fMt1B, lm_ends, lm_cut, lm_len, e1, e2, e3]
      exact q
    · rw [if_neg c] at q
      rw [Bool.not_eq_true] at c
      simp [sPar, sPar3, sSeq, sNil, sIf, sRet, sAsg, sDrop, sFrz, sApp, sExt, sOwn, dOr, dAnd, dNot, dTst, dTru, tru, dIf, dAndV, dOrV, dNotV, dChain, dCall, dOp2, dOp1, dMt, dMt0, dCal, dVar, dC, dTup, dLst, dSl, oNone, oSome, aCons, aNil, fName, fTup, fCons, fNil, startR, TyD, dBor, dBorE, dYes, fIsi, tyN, isTab, fMtB, fI, fI0, fIs, fIsnt, isN, fTupOf, fLstOf, fNeg, fEq_int, fEq_str, fNe_int, fNe_str, fLen_lst, fLen_tup, fAll_bls, fAdd_int, fInt_int, ixl0, ixl1, ixl2, sll1, sll2, fMt1B, c]
      exact q)) fun _ _ _ _ _ _ us hl => match us, hl with | [_, _], _ => rfl
end L77
end
section
set_option Elab.async false
set_option linter.all false
set_option maxRecDepth 100000
set_option autoImplicit false
set_option maxHeartbeats 1000000
namespace L77
open PySem L2 Vb Vd
theorem scRowLine : FnScope ["words", "forms", "held", "greatest", "letters", "parts", "letter", "word"] ["words", "forms", "held", "greatest"] (defScope sRowLine) := ⟨rfl, rfl, rfl, by decide +kernel, rfl, by decide +kernel, by decide +kernel⟩
/-- forms: each word's letters -/
structure FmOk (fm : List (L2.Key × D)) : Prop where
  look : ∀ {z : Str} {d : D}, lookD fm (Sum.inr z) = some d → ∃ L, d = .str L ∧ L.length ≤ 4 ∧ (Txt.endswith L "M" = true → L = "LM")
/-- what the words behind the first one tell -/
inductive PartsR (boxes : List Str) (room last : Nat) : List Nat → List Str → List D → Prop
  | nil : PartsR boxes room last [] [] []
  | cons {c : Nat} {w : Str} {r : D} {cs : List Nat} {ws : List Str} {rs : List D} : PartR boxes room last w c r → PartsR boxes room last cs ws rs → PartsR boxes room last (c :: cs) (w :: ws) (r :: rs)
theorem PartR.flat {boxes : List Str} {room last : Nat} {w : Str} {c : Nat} {r : D} (h : PartR boxes room last w c r) : flatD r = true ∧ (eqF r .non = true ↔ r = .non) := by
  cases h <;> simp [flatD, eqF]
theorem PartsR.flat {boxes : List Str} {room last : Nat} {cs : List Nat} {ws : List Str} {rs : List D} (h : PartsR boxes room last cs ws rs) : rs.all flatD = true ∧ (D.non ∈ rs → (rs.any fun y => eqF y .non) = true) ∧ (D.non ∉ rs → (rs.any fun y => eqF y .non) = false) := by
  induction h with
  | nil => exact ⟨rfl, fun z => (nomatch z), fun _ => rfl⟩
  | cons h _ ih =>
    rw [List.all_cons, List.any_cons, ih.1, h.flat.1]
    refine ⟨rfl, fun z => ?_, fun z => ?_⟩
    · rcases List.mem_cons.mp z with z | z
      · rw [h.flat.2.mpr z.symm, Bool.true_or]
      · rw [ih.2.1 z, Bool.or_true]
    · rw [ih.2.2 fun y => z (List.mem_cons_of_mem _ y), Bool.eq_false_iff.mpr fun y => z (h.flat.2.mp y ▸ List.mem_cons_self)]
      rfl
theorem PartsR.len {boxes : List Str} {room last : Nat} {cs : List Nat} {ws : List Str} {rs : List D} (h : PartsR boxes room last cs ws rs) : cs.length = ws.length ∧ ws.length = rs.length := by
  induction h with
  | nil => exact ⟨rfl, rfl⟩
  | cons _ _ ih => simp [ih.1, ih.2]
/-- what a row's words tell -/
inductive RowR (fm : List (L2.Key × D)) (boxes : List Str) (room last : Nat) : List Str → D → Prop
  | noword {z : Str} {ws : List Str} (h : lookD fm (Sum.inr z) = none) : RowR fm boxes room last (z :: ws) .non
  | few {z L : Str} {ws : List Str} (h : lookD fm (Sum.inr z) = some (.str L)) (n : (lettS L ws.length).length ≠ ws.length) : RowR fm boxes room last (z :: ws) .non
  | bad {z L : Str} {ws : List Str} {rs : List D} (h : lookD fm (Sum.inr z) = some (.str L)) (n : (lettS L ws.length).length = ws.length) (p : PartsR boxes room last (lettS L ws.length).cps.toList ws rs) (b : D.non ∈ rs) : RowR fm boxes room last (z :: ws) .non
  | row {z L : Str} {ws : List Str} {rs : List D} (h : lookD fm (Sum.inr z) = some (.str L)) (n : (lettS L ws.length).length = ws.length) (p : PartsR boxes room last (lettS L ws.length).cps.toList ws rs) (b : D.non ∉ rs) : RowR fm boxes room last (z :: ws) (.tup (.str z :: rs))
def FRowLine : FD := fun ds m Q => ∃ (fm : List (L2.Key × D)) (boxes : List Str) (room last : Nat) (words : List Str) (r : D), ds = [.lst (words.map .str), .dk fm, .dk (heldD boxes), .dk (greatD room last)] ∧ FmOk fm ∧ words.length ≤ 100 ∧ (∀ w ∈ words, w.length ≤ sizeLine) ∧ RowR fm boxes room last words r ∧ Q r m
theorem mnRowLine : MnF FRowLine := fun ds m Q Q' w ⟨a, b, c, d, e, f, h1, h2, h3, h4, h5, q⟩ => ⟨a, b, c, d, e, f, h1, h2, h3, h4, h5, w _ _ q⟩
/-- the walk over the letters and the words -/
theorem row_walk {boxes : List Str} {room last : Nat} {ρ : Rho} (hr : ρ.length = 8) (e2 : ρ[2]? = some (some (.d (.dk (heldD boxes))))) (e3 : ρ[3]? = some (some (.d (.dk (greatD room last))))) {m : Nat} {Q : List D → Nat → Prop} {cs : List Nat} {ws : List Str} {rs : List D} (h : PartsR boxes room last cs ws rs) :
    ∀ (acc : List D), (∀ w ∈ ws, w.length ≤ sizeLine) → acc.length + rs.length < 200 → Q (acc ++ rs) m →
      lcD (fTup 2 (fCons (fName 6) (fCons (fName 7) fNil))) dYes (dCal FRowPart (aCons (dVar 6) (aCons (dVar 7) (aCons (dVar 2) (aCons (dVar 3) aNil))))) [6, 7] ρ ((cs.zip (ws.map D.str)).map fun p => D.tup [.str ⟨#[p.1]⟩, p.2]) acc m Q := by
  induction h with
  | nil =>
    intro acc _ _ q
    simpa [lcD] using q
  | @cons c w r cs ws rs hp _ ih =>
    intro acc hw hl q
    rw [List.map_cons, List.zip_cons_cons, List.map_cons]
    refine ⟨_, rfl, ?_⟩
    have w1 : (wipeR ρ [6, 7]).length = 8 := by simp [wipeR, hr]
    have w2 : (wipeR ρ [6, 7])[2]? = some (some (.d (.dk (heldD boxes)))) := by simpa [wipeR, List.getElem?_set] using e2
    have w3 : (wipeR ρ [6, 7])[3]? = some (some (.d (.dk (greatD room last)))) := by simpa [wipeR, List.getElem?_set] using e3
    refine ⟨.str ⟨#[c]⟩, by simp [List.getElem?_set, w1], .str w, by simp [List.getElem?_set, w1], _, by simpa [List.getElem?_set] using w2, _, by simpa [List.getElem?_set] using w3, c, boxes, room, last, w, r, rfl, hw w List.mem_cons_self, hp, ?_⟩
    refine ⟨Nat.lt_of_lt_of_le (show acc.length < 200 by simp at hl; omega) (by decide), ?_⟩
    exact ih (acc ++ [r]) (fun v hv => hw v (List.mem_cons_of_mem _ hv)) (by simp at hl ⊢; omega) (by simpa using q)
theorem calRowLine {P : Program} {w : World} {K : PySem.W.Frag} {mg : Str → Option Value} {base : Heap} (D : Df K mg "row_line" sRowLine) (T : Bi mg) (G : Gi mg) (cP : Cal P w K mg base 2 "row_part" (spD K FRowPart)) (cLf : Cal P w K mg base 1 "letters_for" (spD K FLettersFor)) : Cal P w K mg base 3 "row_line" (spD K FRowLine) :=
  D.cal ["words", "forms", "held", "greatest"] (fun f fd Fu => Fun.okD Fu scRowLine (fun ds m Q h => by obtain ⟨_, _, _, _, _, _, rfl, _⟩ := h; rfl) (fun cdv A outer s H E hr =>
  dss_cons (ds_if (dt_dnotin (hu_of hr) (de_ix ix_seq s_ix (dv 0) de_int (fun _ _ => rfl)) (dv 1))
      (dss_one (ds_ret de_non))
      (dss_nil))
    (dss_cons (ds_set (i := 4) scRowLine.nd rfl (by first | exact Or.inl rfl | exact Or.inr rfl) (de_c mnLettersFor cLf hr (by decide) rfl (da_cons (de_dget (hu_of hr) (dv 1) (de_ix ix_seq s_ix (dv 0) de_int (fun _ _ => rfl)) (fun _ _ => rfl)) (da_cons (de_op op_sub s_sub (de_callB call_len s_len (by rfl) T.len (by decide +kernel) (da_cons (dv 0) da_nil)) de_int) da_nil))))
    (dss_cons (ds_if (dt_cmp op_ne s_ne (de_callB call_len s_len (by rfl) T.len (by decide +kernel) (da_cons (dv 4) da_nil)) (de_op op_sub s_sub (de_callB call_len s_len (by rfl) T.len (by decide +kernel) (da_cons (dv 0) da_nil)) de_int) (nomark _))
      (dss_one (ds_ret de_non))
      (dss_nil))
    (dss_cons (ds_comp (i := 5) (own := [("letter", 6), ("word", 7)]) rfl scRowLine.nd rfl rfl (sw_true rfl rfl rfl (by decide +kernel)) (di_zipS (by rfl) T.zip (da_cons (dv 4) (da_cons (de_slice sl_all s_sl (dv 0) (do_some de_int) do_none) da_nil))) (blkOk_by (N := ["words", "forms", "held", "greatest", "letters", "parts", "letter", "word"]) (sc := defScope sRowLine) (by decide +kernel)) (gs_tup (n := 2) (gs_cons gs_name (gs_cons gs_name gs_nil))) (by decide) (fun _ _ _ _ _ => (pg_tup (n := 2) rfl (pgs_cons (pg_name (i := 6) scRowLine.nd rfl (by first | exact Or.inl rfl | exact Or.inr rfl)) (pgs_cons (pg_name (i := 7) scRowLine.nd rfl (by first | exact Or.inl rfl | exact Or.inr rfl)) pgs_nil)))) (fun _ _ _ _ _ => dts_nil) (fun _ _ _ _ _ => (de_c mnRowPart cP hr (by decide) rfl (da_cons (dv 6) (da_cons (dv 7) (da_cons (dv 2) (da_cons (dv 3) da_nil)))))))
    (dss_one (ds_ret (de_if (dt_cmp op_in_seq (s_in false) de_non (dv 5) (by rfl)) de_non (de_tup (da_cons (de_ix ix_seq s_ix (dv 0) de_int (fun _ _ => rfl)) (da_star (dv 5) da_nil)))))))))) (fun ds m Q h => by
    obtain ⟨fm, boxes, room, last, words, r, rfl, ok, hn, hw, hR, q⟩ := h
    have len2 : ∀ (n : Nat), ((n + 1 : Nat) : Int) - 1 = (n : Int) := fun n => by omega
    have lfl : ∀ {L : Str} {n : Nat}, L.length ≤ 4 → n ≤ 100 → (Txt.endswith L "M" = true → L = "LM") → (lettS L n).length ≤ sizeLine := fun {L n} h1 h2 h3 => by
      unfold lettS
      have := sizeLine_eq
      split
      · show (("L" : Str).cps ++ (repS "B" ((n : Int) - 1)).cps).size ≤ _
        rw [Array.size_append]
        have e1 : ("L" : Str).cps.size = 1 := one_len
        have e2 : (repS "B" ((n : Int) - 1)).cps.size = ((n : Int) - 1).toNat * 1 := by rw [← b_len]; exact repS_len _ _
        omega
      · omega
    cases hR with
    | @noword z ws h =>
      simp [sPar, sPar3, sSeq, sNil, sIf, sRet, sAsg, sDrop, sFrz, sApp, sExt, sOwn, dOr, dAnd, dNot, dTst, dTru, tru, dIf, dAndV, dOrV, dNotV, dChain, dCall, dOp2, dOp1, dMt, dMt0, dCal, dVar, dC, dTup, dLst, dSl, oNone, oSome, aCons, aNil, fName, fTup, fCons, fNil, startR, TyD, dBor, dBorE, dYes, fIsi, tyN, isTab, fMtB, fI, fI0, fIs, fIsnt, isN, fTupOf, fLstOf, fNeg, fEq_int, fEq_str, fNe_int, fNe_str, fLen_lst, fLen_tup, fAll_bls, fAdd_int, fInt_int, ixl0, ixl1, ixl2, sll1, sll2, fDNotIn, keyD, h]
      exact q
    | @few z L ws h n =>
      obtain ⟨L', e, h4, hM⟩ := ok.look h
      cases e
      have hn' : ws.length ≤ 100 := by simp at hn; omega
      have l2 := lfl (n := ws.length) h4 hn' hM
      have n' : ¬ (((lettS L ws.length).length : Int) = (ws.length : Int)) := by omega
      simp [sPar, sPar3, sSeq, sNil, sIf, sRet, sAsg, sDrop, sFrz, sApp, sExt, sOwn, dOr, dAnd, dNot, dTst, dTru, tru, dIf, dAndV, dOrV, dNotV, dChain, dCall, dOp2, dOp1, dMt, dMt0, dCal, dVar, dC, dTup, dLst, dSl, oNone, oSome, aCons, aNil, fName, fTup, fCons, fNil, startR, TyD, dBor, dBorE, dYes, fIsi, tyN, isTab, fMtB, fI, fI0, fIs, fIsnt, isN, fTupOf, fLstOf, fNeg, fEq_int, fEq_str, fNe_int, fNe_str, fLen_lst, fLen_tup, fAll_bls, fAdd_int, fInt_int, ixl0, ixl1, ixl2, sll1, sll2, fDNotIn, keyD, h, fDGet, FLettersFor]
      refine ⟨L, ws.length, ⟨rfl, rfl⟩, by omega, hM, ?_⟩
      simp [sPar, sPar3, sSeq, sNil, sIf, sRet, sAsg, sDrop, sFrz, sApp, sExt, sOwn, dOr, dAnd, dNot, dTst, dTru, tru, dIf, dAndV, dOrV, dNotV, dChain, dCall, dOp2, dOp1, dMt, dMt0, dCal, dVar, dC, dTup, dLst, dSl, oNone, oSome, aCons, aNil, fName, fTup, fCons, fNil, startR, TyD, dBor, dBorE, dYes, fIsi, tyN, isTab, fMtB, fI, fI0, fIs, fIsnt, isN, fTupOf, fLstOf, fNeg, fEq_int, fEq_str, fNe_int, fNe_str, fLen_lst, fLen_tup, fAll_bls, fAdd_int, fInt_int, ixl0, ixl1, ixl2, sll1, sll2, fLen_str l2, n']
      exact q
    | @bad z L ws rs h n p b =>
      obtain ⟨L', e, h4, hM⟩ := ok.look h
      cases e
      have hn' : ws.length ≤ 100 := by simp at hn; omega
      have l2 := lfl (n := ws.length) h4 hn' hM
      have n' : ((lettS L ws.length).length : Int) = (ws.length : Int) := by omega
      obtain ⟨hf, hY, hN⟩ := p.flat
      have hrl := p.len
      simp [sPar, sPar3, sSeq, sNil, sIf, sRet, sAsg, sDrop, sFrz, sApp, sExt, sOwn, dOr, dAnd, dNot, dTst, dTru, tru, dIf, dAndV, dOrV, dNotV, dChain, dCall, dOp2, dOp1, dMt, dMt0, dCal, dVar, dC, dTup, dLst, dSl, oNone, oSome, aCons, aNil, fName, fTup, fCons, fNil, startR, TyD, dBor, dBorE, dYes, fIsi, tyN, isTab, fMtB, fI, fI0, fIs, fIsnt, isN, fTupOf, fLstOf, fNeg, fEq_int, fEq_str, fNe_int, fNe_str, fLen_lst, fLen_tup, fAll_bls, fAdd_int, fInt_int, ixl0, ixl1, ixl2, sll1, sll2, fDNotIn, keyD, h, fDGet, FLettersFor]
      refine ⟨L, ws.length, ⟨rfl, rfl⟩, by omega, hM, ?_⟩
      simp [sPar, sPar3, sSeq, sNil, sIf, sRet, sAsg, sDrop, sFrz, sApp, sExt, sOwn, dOr, dAnd, dNot, dTst, dTru, tru, dIf, dAndV, dOrV, dNotV, dChain, dCall, dOp2, dOp1, dMt, dMt0, dCal, dVar, dC, dTup, dLst, dSl, oNone, oSome, aCons, aNil, fName, fTup, fCons, fNil, startR, TyD, dBor, dBorE, dYes, fIsi, tyN, isTab, fMtB, fI, fI0, fIs, fIsnt, isN, fTupOf, fLstOf, fNeg, fEq_int, fEq_str, fNe_int, fNe_str, fLen_lst, fLen_tup, fAll_bls, fAdd_int, fInt_int, ixl0, ixl1, ixl2, sll1, sll2, fLen_str l2, n']
      refine ⟨_, rfl, _, rfl, 1, rfl, _, sll1, lettS L ws.length, _, rfl, ?_⟩
      refine row_walk rfl rfl rfl p [] (fun w hw' => hw w (List.mem_cons_of_mem _ hw')) (by simp; omega) ?_
      exact ⟨_, fIn_lst rfl hf, .inr ⟨by rw [List.nil_append, hY b], q⟩⟩
    | @row z L ws rs h n p b =>
      obtain ⟨L', e, h4, hM⟩ := ok.look h
      cases e
      have hn' : ws.length ≤ 100 := by simp at hn; omega
      have l2 := lfl (n := ws.length) h4 hn' hM
      have n' : ((lettS L ws.length).length : Int) = (ws.length : Int) := by omega
      obtain ⟨hf, hY, hN⟩ := p.flat
      have hrl := p.len
      simp [sPar, sPar3, sSeq, sNil, sIf, sRet, sAsg, sDrop, sFrz, sApp, sExt, sOwn, dOr, dAnd, dNot, dTst, dTru, tru, dIf, dAndV, dOrV, dNotV, dChain, dCall, dOp2, dOp1, dMt, dMt0, dCal, dVar, dC, dTup, dLst, dSl, oNone, oSome, aCons, aNil, fName, fTup, fCons, fNil, startR, TyD, dBor, dBorE, dYes, fIsi, tyN, isTab, fMtB, fI, fI0, fIs, fIsnt, isN, fTupOf, fLstOf, fNeg, fEq_int, fEq_str, fNe_int, fNe_str, fLen_lst, fLen_tup, fAll_bls, fAdd_int, fInt_int, ixl0, ixl1, ixl2, sll1, sll2, fDNotIn, keyD, h, fDGet, FLettersFor]
      refine ⟨L, ws.length, ⟨rfl, rfl⟩, by omega, hM, ?_⟩
      simp [sPar, sPar3, sSeq, sNil, sIf, sRet, sAsg, sDrop, sFrz, sApp, sExt, sOwn, dOr, dAnd, dNot, dTst, dTru, tru, dIf, dAndV, dOrV, dNotV, dChain, dCall, dOp2, dOp1, dMt, dMt0, dCal, dVar, dC, dTup, dLst, dSl, oNone, oSome, aCons, aNil, fName, fTup, fCons, fNil, startR, TyD, dBor, dBorE, dYes, fIsi, tyN, isTab, fMtB, fI, fI0, fIs, fIsnt, isN, fTupOf, fLstOf, fNeg, fEq_int, fEq_str, fNe_int, fNe_str, fLen_lst, fLen_tup, fAll_bls, fAdd_int, fInt_int, ixl0, ixl1, ixl2, sll1, sll2, fLen_str l2, n']
      refine ⟨_, rfl, _, rfl, 1, rfl, _, sll1, lettS L ws.length, _, rfl, ?_⟩
      refine row_walk rfl rfl rfl p [] (fun w hw' => hw w (List.mem_cons_of_mem _ hw')) (by simp; omega) ?_
      exact ⟨_, fIn_lst rfl hf, .inl ⟨by rw [List.nil_append, hN b], _, rfl, rs, .inl rfl, by rw [List.append_nil]; exact Nat.le_trans (show rs.length + 1 ≤ 101 by omega) (by decide), by rw [List.append_nil]; exact q⟩⟩)) fun _ _ _ _ _ _ us hl => match us, hl with | [_, _, _, _], _ => rfl
end L77
end
section
set_option Elab.async false
set_option linter.all false
set_option maxRecDepth 100000
/-! set(xs) of a tuple of texts. -/
namespace Vs
open PySem PySem.Spec PyProof.Rows SS
/-- how many unlike ones stand at the first j places -/
def cnt (all : List Str) : Nat → Nat
  | 0 => 0
  | j + 1 => if (all.take j).contains (all.getD j Str.empty) = true then cnt all j else cnt all j + 1
theorem cnt_succ (all : List Str) (j : Nat) : cnt all (j + 1) = if (all.take j).contains (all.getD j Str.empty) = true then cnt all j else cnt all j + 1 := rfl
theorem cnt_le (all : List Str) : ∀ j, cnt all j ≤ j
  | 0 => Nat.le_refl _
  | j + 1 => by
    have := cnt_le all j
    unfold cnt
    split <;> omega
theorem cnt_nodup {all : List Str} (nd : all.Nodup) : ∀ {j : Nat}, j ≤ all.length → cnt all j = j
  | 0, _ => rfl
  | j + 1, h => by
    have hz : all[j]? = some (all.getD j Str.empty) := by
      rw [List.getD_eq_getElem?_getD, List.getElem?_eq_getElem h]
      rfl
    unfold cnt
    rw [new_at nd hz, if_neg Bool.false_ne_true, cnt_nodup nd (Nat.le_of_lt h)]
theorem cnt_dup {all : List Str} : ∀ {j : Nat}, j ≤ all.length → ¬ (all.take j).Nodup → cnt all j < j
  | 0, _, h => absurd (by simp) h
  | j + 1, hl, h => by
    have hz : all[j]? = some (all.getD j Str.empty) := by
      rw [List.getD_eq_getElem?_getD, List.getElem?_eq_getElem hl]
      rfl
    unfold cnt
    split
    · have := cnt_le all j
      omega
    · rename_i no
      have : ¬ (all.take j).Nodup := fun nd => h (by
        rw [List.take_add_one, hz]
        refine List.nodup_append.mpr ⟨nd, by simp, fun x hx y hy e => no ?_⟩
        rw [show y = all.getD j Str.empty by simpa using hy] at e
        exact List.contains_iff_mem.mpr (e ▸ hx))
      have := cnt_dup (Nat.le_of_lt hl) this
      omega
/-- the texts at the first j places are in the set at a, and they alone -/
def HasU (P : Program) (w : World) (a : Addr) (all : List Str) (j : Nat) (h : Heap) : Prop := h.SetOf (PySem.strKind P w) a (fun z => (all.take j).contains z) (cnt all j)
theorem hasU_same {P : Program} {w : World} {a : Addr} {all : List Str} {j : Nat} {h h' : Heap} (q : HasU P w a all j h) (keep : ∀ o, h.get? a = some o → h'.get? a = some o) : HasU P w a all j h' :=
  let ⟨o, es, ep, t, ho, more⟩ := q
  ⟨o, es, ep, t, keep o ho, more⟩
section
variable {P : Program} {w : World} {A : Around} {R : Result → Shared → Prop} {it a : Addr} {fp wr : List Addr} {G : Array GenState → Array GenState → Prop} {n : Nat} {V : Nat → Value → Prop} {St : Nat → Shared → Prop} {all : List Str}
theorem fillU (W : WalksS P w A.in1 it fp wr G n V St) (na : a ∉ fp) (len : all.length = n) (few : n ≤ 60) (val : ∀ i v, V i v → ∃ t, v = .str (all.getD i Str.empty) t) (j : Nat) (s : Shared) (le : j ≤ n) (st : St j s) (q : HasU P w a all j s.heap)
    (last : ∀ s', Moved (a :: wr) G s s' → HasU P w a all n s'.heap → R (.ok (.ret .none)) s') : codeAny (model P w) A (.builtin "set.update.loop" ⟨[.ref a, .ref it], []⟩) R s := by
  have nw : a ∉ wr := fun z => na (W.sub a z)
  refine codeAny_builtin F.entry_set_update_loop (show _ from ?_)
  rw [Around.under_plainId (F.plain_set_update_loop)]
  by_cases more : j < n
  · have hz : all[j]? = some (all.getD j Str.empty) := by
      rw [List.getD_eq_getElem?_getD, List.getElem?_eq_getElem (len ▸ more)]
      rfl
    show wpAny (model P w) A.in1 (pyNext (.ref it) >>= _) _ _ s
    refine wpAny_bind (W.item j s _ _ more st fun v s1 hv st1 m1 => ?_)
    obtain ⟨t, rfl⟩ := val j v hv
    generalize ez : all.getD j Str.empty = z at hz
    have q1 := hasU_same (h' := s1.heap) q fun o e => m1.heap a _ nw e
    show wpAny (model P w) A.in1 (holding [Value.str z t] (setAdd a (.str z t)) >>= _) _ _ s1
    unfold setAdd
    refine wpAny_bind (wpAny_holding (wpAny_holding (wpAny_bind ((PySem.strKind P w).pyHash (k := z) (strKind_is _ _ _ _) ?_))))
    refine wpAny_setAddHashed_of (knd := PySem.strKind P w) (s := { s1 with toks := s1.toks + 1 }) (strKind_is _ _ _ _) rfl q1 (by have := cnt_le all j; unfold scanBound; omega) fun h2 h2b q2 => ?_
    have mv : ∀ b, b ≠ a → h2.get? b = s1.heap.get? b := fun b nb => h2b.2 b nb
    have q3 : HasU P w a all (j + 1) h2 := SetOf_congr q2 (one_more hz) (by rw [cnt_succ, ez])
    refine wpAny_pure ⟨plainId_quiet F.plain_set_update_loop _, fillU W na len few val (j + 1) _ more (W.frame _ s1 _ _ st1 (Nat.le_succ _) fun b hb o e => ?_) q3 fun s2 m2 h => last s2 (Moved.trans W.gtrans (Moved.then_heap (m1.mono fun b hb => List.mem_cons_of_mem a hb) (Nat.le_succ _) fun b o hb e => ?_) m2) h⟩
    · exact (mv b fun z => na (by rw [← z]; exact hb)).trans e
    · exact (mv b fun z => hb (by rw [z]; exact List.mem_cons_self)).trans e
  · obtain rfl : j = n := by omega
    show wpAny (model P w) A.in1 (pyNext (.ref it) >>= _) _ _ s
    refine wpAny_bind (W.done s _ _ st fun s1 m1 => wpAny_pure (last s1 (m1.mono fun b hb => List.mem_cons_of_mem a hb) (hasU_same q fun o e => m1.heap a _ nw e)))
termination_by n - j
end

/-- a set that has just been laid -/
abbrev bareU (led : Bool) : Obj := { cls := .type "set", dict := none, data := .set #[] 0 (.fresh 0 0 led) }
set_option maxHeartbeats 3200000 in
theorem set_textsU {P : Program} {w : World} {A : Around} {E : Value → Shared → Prop} {s : Shared} {l : Addr} {items : Array Value} {all : List Str} {Q : Value → Shared → Prop} (calm : A.handled = none) (tup : s.heap.IsTuple l items) (rel : StrsAre items.toList all) (few : all.length ≤ 60)
    (q : ∀ h' tk, HasU P w s.heap.objs.size all items.size h' → (∀ b o, s.heap.get? b = some o → h'.get? b = some o) → Q (.ref s.heap.objs.size) { s with heap := h', toks := tk }) : wpAny (model P w) A (call (.type "set") [.ref l]) Q E s := by
  refine by_init (T := "set") (Q1 := fun r t => ∃ led, r = .ref s.heap.objs.size ∧ t = { s with heap := s.heap.push (bareU led) }) PySem.F.called_set (PySem.F.typeCall_set_1 _) (code_set_new_1 _ fun led => ⟨led, rfl, rfl⟩) ?_
  rintro _ _ ⟨led, rfl, rfl⟩
  have old : ∀ {b : Addr} {o : Obj}, s.heap.get? b = some o → (s.heap.push (bareU led)).get? b = some o := fun e => Heap.get?_push_of_some _ e
  have me : (s.heap.push (bareU led)).get? s.heap.objs.size = some (bareU led) := Heap.get?_push_size _ rfl
  have isT : Shared.TypeIs { s with heap := s.heap.push (bareU led) } (.ref s.heap.objs.size) "set" := ⟨_, me, rfl⟩
  refine ⟨isT, codeAny_call_builtin PySem.F.called_set.init.plain PySem.F.entry_set_init (check_set_init_1 isT ?_)⟩
  obtain ⟨⟨oc, od, oa, os⟩, hol, hc, nl, hd⟩ := tup
  dsimp only at hc hd
  subst hc
  subst hd
  have lS : l < s.heap.objs.size := Heap.lt_size hol
  have hT := old hol
  have hT1 : (s.heap.push (bareU led)).IsTuple l items := ⟨_, hT, rfl, nl, rfl⟩
  have n1 := PySem.F.sub_tuple_set
  have n2 := PySem.F.sub_tuple_frozenset
  have n3 : ((Value.type "tuple") == (Value.type "dict")) = false := by decide
  unfold Builtin.«set.__init__» noKeywords Builtin.Frozenset.updateFrom
  generalize hPI : pyIter = PI
  wp_walk
  subst hPI
  refine wpAny_pyIter_tuple hT1 (wpAny_bind (wpAny_runValue ?_))
  have len : all.length = items.size := by rw [← rel.len_eq, Array.length_toList]
  have top : (s.heap.push (bareU led)).objs.size = s.heap.objs.size + 1 := by rw [Heap.size_push]
  have far : l ≠ (s.heap.push (bareU led)).objs.size := fun z => Nat.lt_irrefl l (Nat.lt_trans lS (by rw [z, top]; exact Nat.lt_succ_self _))
  have out : s.heap.objs.size ∉ [(s.heap.push (bareU led)).objs.size, l] := by
    rw [top]
    intro z
    rcases List.mem_cons.mp z with z | z
    · exact Nat.ne_of_lt (Nat.lt_succ_self _) z
    · rw [List.mem_singleton.mp z] at lS
      exact Nat.lt_irrefl _ lS
  have still : A.in1.in1.in1.handled = none := by simp [calm]
  refine fillU ((Walks.tuple still _ l far items).toS) out len (len ▸ few) (fun i v hv => strs_at rel i v (by rw [Array.getElem?_toList]; exact hv)) 0 _ (Nat.zero_le _) ⟨⟨_, Heap.get?_push_size _ rfl, rfl, rfl⟩, hT1.push _⟩ ?_ fun s2 mv h2 => ?_
  · exact SetOf_congr ((setObjOf_fresh (knd := PySem.strKind P w) led).setOf (Heap.get?_push_of_some _ me) (by unfold scanBound; omega)) (fun _ => rfl) rfl
  · obtain ⟨h', g', d', t', o'⟩ := s2
    obtain rfl : g' = s.gens := mv.gens
    obtain rfl : d' = s.drawn := mv.drawn
    obtain rfl : o' = s.os := mv.os
    refine wpAny_pure (show wpAny _ _ (ret Value.none) _ _ _ from wpAny_pure ⟨rfl, q h' t' h2 fun b o e => ?_⟩)
    have lb := Heap.lt_size e
    refine mv.heap b o ?_ (Heap.get?_push_of_some _ (old e))
    rw [top]
    intro z
    rcases List.mem_cons.mp z with z | z
    · exact Nat.ne_of_lt lb z
    · exact Nat.ne_of_lt (Nat.lt_succ_of_lt lb) (List.mem_singleton.mp z)
end Vs
end
section
set_option Elab.async false
set_option linter.all false
set_option maxRecDepth 100000
set_option autoImplicit false
namespace Vd
open PySem L2 PySem.Spec Vb
open PyProof.Rows hiding St
section
variable {X : Cx} {a : Expr} {ta : TE} {t : TD} {p p2 q pos : Pos}
/-- len(set(xs)) of a tuple of texts -/
def tLenTextsU (K : PySem.W.Frag) (ta : TE) : TE := fun σ H Q => ta σ H fun x H1 => ∃ l, ∃ zs : List Str, x = .ref l ∧ SqT K H1 l (zs.map V.str) ∧ zs.length ≤ 60 ∧ Q (.int (Vs.cnt zs zs.length : Nat)) H1
theorem pe_lenTextsU (calm : X.calm = true) (hg : Gl X "len") (hm : X.mg "len" = none) (hg2 : Gl X "set") (hm2 : X.mg "set" = none) (ha : PE X a ta) (na : starEach [a] X.env = (false, eval a X.env) :: starEach [] X.env := by rfl) : PE X (.Call (.Name "len" p) [.Call (.Name "set" p2) [a] [] q] [] pos) (tLenTextsU X.K ta) := by
  refine ⟨fun pins s σ H Q I h => Call_ (ld_blt I hg hm PySem.boot_len (callWith_builtin1 (args_cons (Call_ (ld_blt I hg2 hm2 boot_set (callWith_type1 (args_cons (thn (ha.run pins s σ H _ I h) fun v t ⟨x, H1, I1, r1, g⟩ => args_nil ?_) na) na rfl))) rfl) rfl rfl))⟩
  obtain ⟨l, zs, rfl, sq, few, g⟩ := g
  cases r1
  obtain ⟨its, rv, pl, hz⟩ := I1.tuple sq
  have n : its.toArray.size = zs.length := by rw [List.size_toArray, ← rv.length, List.length_map]
  refine Vs.set_textsU (I1.ok.hd calm) pl (by simpa using strsAre_of rv) few fun h' tk own old => args_nil ?_
  rw [n] at own
  have cl := Vs.cnt_le zs zs.length
  obtain ⟨o, es, ep, tb, ho, hex, hd, _, _, _, hf, hn⟩ := own
  have I2 : Inv X pins σ H1 { t with heap := h', toks := tk } := I1.kept old
  exact call_len_set ho hex hd hf (by rw [hn] <;> omega) ⟨.int (Vs.cnt zs zs.length : Nat), H1, I2.tok _, ⟨_, by rw [hn]⟩, g⟩
def dLenTextsU (t : TD) : TD := fun ρ m Q => t ρ m fun d m1 => ∃ zs : List Str, d = .tup (zs.map .str) ∧ zs.length ≤ 60 ∧ Q (.int (Vs.cnt zs zs.length : Nat)) m1
theorem de_lenTextsU (calm : X.calm = true) (hg : Gl X "len") (hm : X.mg "len" = none) (hg2 : Gl X "set") (hm2 : X.mg "set" = none) (ha : DE X a t) (na : starEach [a] X.env = (false, eval a X.env) :: starEach [] X.env := by rfl) : DE X (.Call (.Name "len" p) [.Call (.Name "set" p2) [a] [] q] [] pos) (dLenTextsU t) := by
  refine ⟨pe_wk' (pe_lenTextsU calm hg hm hg2 hm2 ha.pe na) ?_, fun ρ m Q Q' w z => ha.mn _ _ _ _ (fun d n ⟨zs, e, h1, z⟩ => ⟨zs, e, h1, w _ _ z⟩) z⟩
  rintro σ H Q ⟨pt, S0, H0, S, ρ, m, E, h⟩
  refine ⟨pt, S0, H0, S, ρ, m, E, ha.mn _ _ _ _ (fun d m1 h1 v H1 e1 E1 x1 => ?_) h⟩
  obtain ⟨zs, rfl, few, h1⟩ := h1
  cases x1 with
  | tup sq r =>
    have e := r.strs
    subst e
    exact ⟨_, zs, rfl, sqT_same (Wo.sub _ _) sq, few, h1 _ H1 e1 E1 (.int _)⟩
end
end Vd
end
section
set_option Elab.async false
set_option linter.all false
set_option maxRecDepth 100000
set_option autoImplicit false
set_option maxHeartbeats 1000000
namespace L77
open PySem L2 Vb Vd
theorem scBoxesLine : FnScope ["words", "names", "name"] ["words"] (defScope sBoxesLine) := ⟨rfl, rfl, rfl, by decide +kernel, rfl, by decide +kernel, by decide +kernel⟩
theorem all_names (boxes : List Str) : fAll [.lst (boxes.map fun z => .bl (isName z))] = some (.bl (boxes.all isName)) := by
  have e : (boxes.map fun z => D.bl (isName z)) = (boxes.map isName).map D.bl := by rw [List.map_map]; rfl
  rw [e, fAll_bls]
  refine congrArg (fun b => some (D.bl b)) ?_
  rw [List.all_map]
  rfl
/-- what the second line tells -/
inductive BoxesR : List Str → D → Prop
  | nohead {z : Str} {names : List Str} (h : z ≠ "boxes") : BoxesR (z :: names) .non
  | noname {names : List Str} (h : names.all isName = false) : BoxesR ("boxes" :: names) .non
  | dup {names : List Str} (h : names.all isName = true) (nd : ¬ names.Nodup) : BoxesR ("boxes" :: names) .non
  | ok {names : List Str} (h : names.all isName = true) (nd : names.Nodup) : BoxesR ("boxes" :: names) (.tup (names.map .str))
def FBoxesLine : FD := fun ds m Q => ∃ (words : List Str) (r : D), ds = [.lst (words.map .str)] ∧ words.length ≤ 61 ∧ (∀ w ∈ words, w.length ≤ sizeLine) ∧ BoxesR words r ∧ Q r m
theorem mnBoxesLine : MnF FBoxesLine := fun ds m Q Q' w ⟨a, b, h1, h2, h3, h4, q⟩ => ⟨a, b, h1, h2, h3, h4, w _ _ q⟩
theorem calBoxesLine {P : Program} {w : World} {K : PySem.W.Frag} {mg : Str → Option Value} {base : Heap} (D : Df K mg "boxes_line" sBoxesLine) (T : Bi mg) (G : Gi mg) (cI : Cal P w K mg base 1 "is_name" (spD K FIsName)) : Cal P w K mg base 2 "boxes_line" (spD K FBoxesLine) :=
  D.cal ["words"] (fun f fd Fu => Fun.okD Fu scBoxesLine (fun ds m Q h => by obtain ⟨_, _, rfl, _⟩ := h; rfl) (fun cdv A outer s H E hr =>
  dss_cons (ds_set (i := 1) scBoxesLine.nd rfl (by first | exact Or.inl rfl | exact Or.inr rfl) (de_callTy call_tuple_of s_tupOf (by rfl) T.tuple (by decide +kernel) (da_cons (de_slice sl_all s_sl (dv 0) (do_some de_int) do_none) da_nil)))
    (dss_cons (ds_if (DW.dt (dw_or (dt_cmp op_ne s_ne (de_ix ix_seq s_ix (dv 0) de_int (fun _ _ => rfl)) de_str (nomark _)) (dw_or1 (dt_cmp op_gt s_gt (de_callB call_len s_len (by rfl) T.len (by decide +kernel) (da_cons (dv 1) da_nil)) (de_gint (by rfl) G.most_boxes) (nomark _)))))
      (dss_one (ds_ret de_non))
      (dss_nil))
    (dss_cons (ds_if (DW.dt (dw_or (dt_not (dt_val (de_callB (cr_all rfl) s_all (by rfl) T.all (by decide +kernel) (da_cons (de_comp (own := [("name", 2)]) rfl scBoxesLine.nd (di_tup (dv 1)) (blkOk_by (N := ["words", "names", "name"]) (sc := defScope sBoxesLine) (by decide +kernel)) gs_name (by decide) (fun _ _ _ _ _ => (pg_name (i := 2) scBoxesLine.nd rfl (by first | exact Or.inl rfl | exact Or.inr rfl))) (fun _ _ _ _ _ => dts_nil) (fun _ _ _ _ _ => (de_c mnIsName cI hr (by decide) rfl (da_cons (dv 2) da_nil)))) da_nil)))) (dw_or1 (dt_cmp op_lt s_lt (de_lenTextsU rfl (by rfl) T.len (by rfl) T.set (dv 1)) (de_callB call_len s_len (by rfl) T.len (by decide +kernel) (da_cons (dv 1) da_nil)) (nomark _)))))
      (dss_one (ds_ret de_non))
      (dss_nil))
    (dss_one (ds_ret (dv 1)))))) (fun ds m Q h => by
    obtain ⟨words, r, rfl, hn, hw, hR, q⟩ := h
    have look : ∀ {names : List Str} {R : Vd.D → Nat → Prop}, names.length ≤ 60 → (∀ w ∈ names, w.length ≤ sizeLine) → R (.bl (names.all isName)) m → dCall fAll (aCons (dLc (dSeqT (dVar 1)) (fName 2) dYes (dCal FIsName (aCons (dVar 2) aNil)) (List.map (fun x => x.2) [(("name" : Str), 2)])) aNil)
          ((startR ["words", "names", "name"] [.lst ((("boxes" : Str) :: names).map .str)]).set 1 (some (.d (.tup (names.map .str))))) m R := fun {names R} hl hw q => by
      refine ⟨_, rfl, _, rfl, ?_⟩
      refine lc_map (f := fName 2) (vs := [2]) (g := fun d => match d with | .str z => .bl (isName z) | d => d) (names.map .str) [] (fun x hx => ⟨_, rfl, fun W w => ?_⟩) (by rw [List.length_map]; exact Nat.le_trans (show 0 + names.length ≤ 100 by omega) (by decide)) ?_
      · obtain ⟨z, hz, rfl⟩ := List.mem_map.mp hx
        exact ⟨_, rfl, z, rfl, hw z hz, w⟩
      · have e : (([] : List Vd.D) ++ (names.map Vd.D.str).map fun d => match d with | .str z => .bl (isName z) | d => d) = names.map fun z => .bl (isName z) := by rw [List.nil_append, List.map_map]; rfl
        rw [e]
        exact ⟨_, all_names names, q⟩
    have first : ∀ {names : List Str} {R : Bool → Nat → Prop}, names.length ≤ 60 → R false m → dOr (dTst (dOp2 fNe (dOp2 fIx (dVar 0) (dC (.int 0))) (dC (.str "boxes")))) (dTst (dOp2 fGt (dCall fLen (aCons (dVar 1) aNil)) (dC (.int 120))))
          ((startR ["words", "names", "name"] [.lst ((("boxes" : Str) :: names).map .str)]).set 1 (some (.d (.tup (names.map .str))))) m R := fun {names R} hl q => by
      refine ⟨_, rfl, _, ixl0, _, fNe_str, _, rfl, ?_⟩
      rw [decide_eq_true rfl]
      refine ⟨_, rfl, _, fLen_tup, _, rfl, _, rfl, ?_⟩
      have lb : ¬ (120 : Int) < (((names.map Vd.D.str).length : Nat) : Int) := by rw [List.length_map]; omega
      rw [decide_eq_false lb]
      exact q
    cases hR with
    | @nohead z names h =>
      refine ⟨_, rfl, 1, rfl, _, sll1, _, rfl, _, rfl, ?_⟩
      refine ⟨_, rfl, _, ixl0, _, fNe_str, _, rfl, ?_⟩
      rw [decide_eq_false h]
      exact q
    | @noname names h =>
      have hn' : names.length ≤ 60 := by simp at hn; omega
      refine ⟨_, rfl, 1, rfl, _, sll1, _, rfl, _, rfl, ?_⟩
      refine seq_ret false (fun R hR => first hn' hR) (fun c => nomatch c) fun _ => ?_
      refine look hn' (fun w hw' => hw w (List.mem_cons_of_mem _ hw')) ?_
      rw [h]
      exact ⟨_, rfl, q⟩
    | @dup names h nd =>
      have hn' : names.length ≤ 60 := by simp at hn; omega
      refine ⟨_, rfl, 1, rfl, _, sll1, _, rfl, _, rfl, ?_⟩
      refine seq_ret false (fun R hR => first hn' hR) (fun c => nomatch c) fun _ => ?_
      refine look hn' (fun w hw' => hw w (List.mem_cons_of_mem _ hw')) ?_
      rw [h]
      have lt := Vs.cnt_dup (all := names) (Nat.le_refl _) (by rw [List.take_length]; exact nd)
      have lt : ((Vs.cnt names names.length : Nat) : Int) < (((names.map Vd.D.str).length : Nat) : Int) := by rw [List.length_map]; omega
      refine ⟨_, rfl, _, rfl, names, rfl, hn', _, rfl, _, fLen_tup, _, rfl, _, rfl, ?_⟩
      rw [decide_eq_true lt]
      exact q
    | @ok names h nd =>
      have hn' : names.length ≤ 60 := by simp at hn; omega
      refine ⟨_, rfl, 1, rfl, _, sll1, _, rfl, _, rfl, ?_⟩
      refine seq_ret false (fun R hR => first hn' hR) (fun c => nomatch c) fun _ => ?_
      refine look hn' (fun w hw' => hw w (List.mem_cons_of_mem _ hw')) ?_
      rw [h]
      have lt := Vs.cnt_nodup nd (Nat.le_refl _)
      have lt : ¬ ((Vs.cnt names names.length : Nat) : Int) < (((names.map Vd.D.str).length : Nat) : Int) := by rw [List.length_map]; omega
      refine ⟨_, rfl, _, rfl, names, rfl, hn', _, rfl, _, fLen_tup, _, rfl, _, rfl, ?_⟩
      rw [decide_eq_false lt]
      exact ⟨_, rfl, q⟩)) fun _ _ _ _ _ _ us hl => match us, hl with | [_], _ => rfl
end L77
end
section
set_option Elab.async false
set_option linter.all false
set_option maxRecDepth 100000
set_option autoImplicit false
set_option maxHeartbeats 1000000
namespace L77
open PySem L2 Vb Vd
theorem sum_le {α : Type} {f : α → Nat} {n : Nat} : ∀ {l : List α}, (∀ a ∈ l, f a ≤ n) → (l.map f).sum ≤ l.length * n
  | [], _ => by simp
  | a :: l, h => by
    have h1 := h a List.mem_cons_self
    have h2 := sum_le (l := l) fun b hb => h b (List.mem_cons_of_mem _ hb)
    rw [List.map_cons, List.sum_cons, List.length_cons, Nat.succ_mul]
    omega
theorem join_le (y : Str) (parts : List Str) {n : Nat} (h : ∀ z ∈ parts, z.length ≤ n) : (Txt.join y parts).length ≤ parts.length * n + parts.length * y.length := by
  rw [TL.join_eq]
  exact Nat.le_trans (StrLaws.join_length_le y parts) (Nat.add_le_add_right (sum_le h) _)
theorem blank_tl : TL.tl (" " : Str) = [32] := by decide +kernel
theorem blank_len : (" " : Str).length = 1 := by decide +kernel
theorem blank_lo : (" " : Str).cps.all (· < 256) = true := by decide +kernel
theorem nl_tl : TL.tl ("\n" : Str) = [10] := by decide +kernel
theorem nl_lo : ("\n" : Str).cps.all (· < 256) = true := by decide +kernel
theorem nl_len : ("\n" : Str).length = 1 := by decide +kernel
theorem mem_joinL {c : Nat} {S : List Nat} : ∀ {ps : List (List Nat)}, c ∈ TL.joinL S ps → c ∈ S ∨ ∃ p ∈ ps, c ∈ p
  | [], h => nomatch h
  | [p], h => .inr ⟨p, List.mem_singleton.mpr rfl, h⟩
  | p :: q :: r, h => by
    have h : c ∈ p ++ (S ++ TL.joinL S (q :: r)) := h
    rw [List.mem_append, List.mem_append] at h
    rcases h with h | h | h
    · exact .inr ⟨p, List.mem_cons_self, h⟩
    · exact .inl h
    · rcases mem_joinL h with h | ⟨a, b, h⟩
      · exact .inl h
      · exact .inr ⟨a, List.mem_cons_of_mem _ b, h⟩
theorem mem_join {c : Nat} {y : Str} {parts : List Str} (h : c ∈ (Txt.join y parts).cps.toList) : c ∈ y.cps.toList ∨ ∃ p ∈ parts, c ∈ p.cps.toList := by
  rw [TL.join_eq] at h
  have h : c ∈ TL.tl (Str.join y parts) := h
  rw [TL.tl_join] at h
  rcases mem_joinL h with h | ⟨a, b, h⟩
  · exact .inl h
  · obtain ⟨z, hz, rfl⟩ := List.mem_map.mp b
    exact .inr ⟨z, hz, h⟩
/-- words that a line can be of -/
structure WsOk (ws : List Str) : Prop where
  ne : ws ≠ []
  few : ws.length ≤ 61
  tok : ∀ w ∈ ws, w.length ≤ 20 ∧ 32 ∉ w.cps.toList ∧ 10 ∉ w.cps.toList
def lineW (ws : List Str) : Str := Txt.join " " ws
def textW (lines : List (List Str)) : Str := Txt.join "\n" (lines.map lineW)
theorem line_split {ws : List Str} (h : WsOk ws) : fSplit (.str (lineW ws)) [.str " "] = some (.lst (ws.map .str)) ∧ (lineW ws).length ≤ 1300 ∧ 10 ∉ (lineW ws).cps.toList := by
  have len : (lineW ws).length ≤ 1300 := by
    have := join_le " " ws (n := 20) fun z hz => (h.tok z hz).1
    have := h.few
    rw [blank_len] at *
    unfold lineW
    omega
  refine ⟨fSplit_join blank_tl blank_lo h.ne (fun p hp => (h.tok p hp).2.1) (Nat.le_trans (show (lineW ws).length + 2 ≤ 1302 by omega) (by decide)), len, fun z => ?_⟩
  rcases mem_join z with z | ⟨p, hp, z⟩
  · have z : 10 ∈ TL.tl (" " : Str) := z
    rw [blank_tl] at z
    simp at z
  · exact (h.tok p hp).2.2 z
theorem text_split {lines : List (List Str)} (ne : lines ≠ []) (few : lines.length ≤ 120) (h : ∀ ws ∈ lines, WsOk ws) : fSplit (.str (textW lines)) [.str "\n"] = some (.lst (lines.map fun ws => .str (lineW ws))) ∧ (textW lines).length ≤ 200000 := by
  have all : ∀ z ∈ lines.map lineW, z.length ≤ 1300 ∧ 10 ∉ z.cps.toList := fun z hz => by
    obtain ⟨ws, hw, rfl⟩ := List.mem_map.mp hz
    exact (line_split (h ws hw)).2
  have len : (textW lines).length ≤ 200000 := by
    have := join_le "\n" (lines.map lineW) (n := 1300) fun z hz => (all z hz).1
    rw [nl_len, List.length_map] at this
    unfold textW
    omega
  refine ⟨?_, len⟩
  have := fSplit_join (parts := lines.map lineW) nl_tl nl_lo (fun e => ne (List.map_eq_nil_iff.mp e)) (fun p hp => (all p hp).2) (Nat.le_trans (show (textW lines).length + 2 ≤ 200002 by omega) (by decide))
  rw [List.map_map] at this
  exact this
theorem put_new {kvs : List (L2.Key × D)} {k : L2.Key} {d : D} (h : k ∉ kvs.map (·.1)) : putD kvs k d = kvs ++ [(k, d)] := by
  unfold putD
  rw [if_neg]
  rw [List.any_eq_true]
  rintro ⟨p, hp, e⟩
  exact h (List.mem_map.mpr ⟨p, hp, of_decide_eq_true e⟩)
theorem held_walk {ρ : Rho} {m : Nat} {boxes : List Str} {Q : List (L2.Key × D) → Nat → Prop} (hn : boxes.Nodup) (hl : boxes.length ≤ 60) (e11 : ρ.length = 11) (q : Q (heldD boxes) m) :
    dcD (fName 5) dYes (dVar 5) (dC (D.bl true)) [5] ρ (boxes.map .str) [] m Q := by
  have go : ∀ (bs acc : List Str), (acc ++ bs).Nodup → acc.length + bs.length ≤ 60 → (Q (heldD (acc ++ bs)) m) → dcD (fName 5) dYes (dVar 5) (dC (D.bl true)) [5] ρ (bs.map .str) (heldD acc) m Q := by
    intro bs
    induction bs with
    | nil =>
      intro acc _ _ q
      rw [List.append_nil] at q
      exact q
    | cons b bs ih =>
      intro acc hn hl q
      refine ⟨_, rfl, .str b, by simp [wipeR, List.getElem?_set, e11], Sum.inr b, rfl, ?_, ?_⟩
      · refine Nat.lt_of_lt_of_le (m := 61) ?_ (by decide)
        unfold heldD
        rw [List.length_map]
        simp at hl
        omega
      · have no : (Sum.inr b : L2.Key) ∉ (heldD acc).map (·.1) := by
          unfold heldD
          rw [List.map_map]
          intro z
          obtain ⟨c, hc, e⟩ := List.mem_map.mp z
          have e : c = b := Sum.inr.inj e
          subst e
          exact (List.nodup_append.mp hn).2.2 c hc c List.mem_cons_self rfl
        rw [put_new no]
        have e : heldD acc ++ [(Sum.inr b, D.bl true)] = heldD (acc ++ [b]) := by
          unfold heldD
          rw [List.map_append]
          rfl
        rw [e]
        exact ih (acc ++ [b]) (by rw [List.append_assoc]; exact hn) (by simp at hl ⊢; omega) (by rw [List.append_assoc]; exact q)
  exact go boxes [] (by simpa using hn) (by simpa using hl) (by simpa using q)
theorem noOwn_set {ρ : Rho} {i : Nat} {d : D} (h : NoOwn ρ) : NoOwn (ρ.set i (some (.d d))) := fun j a ds q => by
  rw [List.getElem?_set] at q
  split at q
  · split at q
    · cases q
    · cases q
  · exact h j a ds q
/-- what the rows tell, or the first line that is no row -/
inductive RowsR (fm : List (L2.Key × D)) (boxes : List Str) (room last : Nat) : List (List Str) → Nat → List D ⊕ Nat → Prop
  | nil {k : Nat} : RowsR fm boxes room last [] k (.inl [])
  | bad {ws : List Str} {rest : List (List Str)} {k : Nat} (h : RowR fm boxes room last ws .non) : RowsR fm boxes room last (ws :: rest) k (.inr (k + 3))
  | cons {ws : List Str} {rest : List (List Str)} {k : Nat} {r : List D} {rows : List D} (h : RowR fm boxes room last ws (.tup r)) (t : RowsR fm boxes room last rest (k + 1) (.inl rows)) : RowsR fm boxes room last (ws :: rest) k (.inl (.tup r :: rows))
  | late {ws : List Str} {rest : List (List Str)} {k n : Nat} {r : List D} (h : RowR fm boxes room last ws (.tup r)) (t : RowsR fm boxes room last rest (k + 1) (.inr n)) : RowsR fm boxes room last (ws :: rest) k (.inr n)
def bodyR (C : Addr) : Ve.TSD := Ve.sSeq (Ve.sD (sAsg (dCal FRowLine (aCons (dMt "str" fSplit (dVar 9) (aCons (dC (D.str " ")) aNil)) (aCons (dVar 1) (aCons (dVar 4) (aCons (dVar 6) aNil))))) (fName 10)))
  (Ve.sSeq (Ve.sIf (Ve.tD (dOr (dTst (dOp2 fIs (dVar 10) (dC D.non))) (dTst (dOp2 fEq (dVar 8) (dC (D.int 40000)))))) (Ve.sRaise C (Ve.eD (dOp2 fAdd (dVar 8) (dC (.int 3))))) Ve.sNil) (Ve.sApp 7 (Ve.eD (dVar 10))))
theorem lines_walk {fm : List (L2.Key × D)} {boxes : List Str} {room last : Nat} (ok : FmOk fm) {a C : Addr} {D0 : Ve.Ed} {lines : List (List Str)} {k : Nat} {o : List D ⊕ Nat} (h : RowsR fm boxes room last lines k o) : ∀ (acc : List D) (ρ : Rho), NoOwn ρ → ρ.length = 11 → ρ[1]? = some (some (.d (.dk fm))) → ρ[4]? = some (some (.d (.dk (heldD boxes)))) → ρ[6]? = some (some (.d (.dk (greatD room last)))) → ρ[7]? = some (some (.d (.op (.ref a)))) →
    (∀ ws ∈ lines, WsOk ws) → k + lines.length ≤ 100 → acc.length = k → (∀ rows, o = .inl rows → ∀ ρ' : Rho, ρ'.length = 11 → ρ'[7]? = some (some (.d (.op (.ref a)))) → D0.nx ρ' [⟨a, true, .lst (acc ++ rows)⟩]) → (∀ n, o = .inr n → ∀ ρ' ν, D0.xc C (.int (n : Int)) ρ' ν) →
    Ve.flE (fTup 2 (fCons (fName 8) (fCons (fName 9) fNil))) (bodyR C) D0 ((lines.map fun ws => D.str (lineW ws)).mapIdx fun i x => D.tup [.int ((i + k : Nat) : Int), x]) ρ [⟨a, true, .lst acc⟩] := by
  have step : ∀ {ws : List Str} {r : D} {k : Nat} {ρ : Rho} {acc : List D} {xs : List D}, NoOwn ρ → ρ.length = 11 → ρ[1]? = some (some (.d (.dk fm))) → ρ[4]? = some (some (.d (.dk (heldD boxes)))) → ρ[6]? = some (some (.d (.dk (greatD room last)))) → ρ[7]? = some (some (.d (.op (.ref a)))) → WsOk ws → RowR fm boxes room last ws r → k < 100 → acc.length = k →
      (r = .non → ∀ ρ' ν, D0.xc C (.int ((k + 3 : Nat) : Int)) ρ' ν) → (r ≠ .non → Ve.flE (fTup 2 (fCons (fName 8) (fCons (fName 9) fNil))) (bodyR C) D0 xs (((ρ.set 8 (some (.d (.int ((0 + k : Nat) : Int))))).set 9 (some (.d (.str (lineW ws))))).set 10 (some (.d r))) [⟨a, true, .lst (acc ++ [r])⟩]) →
      Ve.flE (fTup 2 (fCons (fName 8) (fCons (fName 9) fNil))) (bodyR C) D0 (D.tup [.int ((0 + k : Nat) : Int), .str (lineW ws)] :: xs) ρ [⟨a, true, .lst acc⟩] := by
    intro ws r k ρ acc xs no e0 e1 e4 e6 e7 hw hr hk ha hx hn
    obtain ⟨s1, s2, _⟩ := line_split hw
    have g9 : ∀ x y : Option Vd.C, ((ρ.set 8 x).set 9 y)[9]? = some y := fun x y => by simp [List.getElem?_set, e0]
    have g8 : ∀ x y z : Option Vd.C, (((ρ.set 8 x).set 9 y).set 10 z)[8]? = some x := fun x y z => by simp [List.getElem?_set, e0]
    have g10 : ∀ x y z : Option Vd.C, (((ρ.set 8 x).set 9 y).set 10 z)[10]? = some z := fun x y z => by simp [List.getElem?_set, e0]
    have g7 : ∀ x y z : Option Vd.C, (((ρ.set 8 x).set 9 y).set 10 z)[7]? = some (some (.d (.op (.ref a)))) := fun x y z => by simpa [List.getElem?_set] using e7
    refine ⟨_, rfl, ?_⟩
    refine ⟨_, g9 _ _, rfl, _, s1, _, by simpa [List.getElem?_set] using e1, _, by simpa [List.getElem?_set] using e4, _, by simpa [List.getElem?_set] using e6, fm, boxes, room, last, ws, r, rfl, ok, Nat.le_trans hw.few (by decide), fun w hw' => Nat.le_trans (hw.tok w hw').1 (by decide), hr, ?_⟩
    refine ⟨_, rfl, noOwn_set (noOwn_set (noOwn_set no)), ?_⟩
    have nk : ¬ (((0 + k : Nat) : Int) = 40000) := by omega
    cases hr with
    | @row z L ws rs _ _ _ _ =>
      refine ⟨_, g10 _ _ _, _, rfl, false, rfl, ?_⟩
      refine ⟨_, g8 _ _ _, _, fEq_int, false, by rw [decide_eq_false nk], ?_⟩
      exact ⟨0, a, true, acc, g7 _ _ _, rfl, _, g10 _ _ _, true, acc, rfl, Nat.lt_of_lt_of_le (show acc.length < 100 by omega) (by decide), hn (fun z => nomatch z)⟩
    | _ =>
      refine ⟨_, g10 _ _ _, _, rfl, true, rfl, ?_⟩
      have e : ((0 + k : Nat) : Int) + 3 = ((k + 3 : Nat) : Int) := by omega
      refine ⟨_, g8 _ _ _, _, (congrArg (fun i => some (Vd.D.int i)) e : _), ?_⟩
      exact hx rfl _ _
  have shift : ∀ k : Nat, (fun (i : Nat) (x : D) => D.tup [.int ((i + 1 + k : Nat) : Int), x]) = fun i (x : D) => D.tup [.int ((i + (k + 1) : Nat) : Int), x] := fun k => funext fun i => funext fun x => by rw [Nat.add_right_comm, Nat.add_assoc]
  induction h with
  | nil =>
    intro acc ρ no e0 e1 e4 e6 e7 hw hk ha q hx
    have := q [] rfl ρ e0 e7
    rw [List.append_nil] at this
    exact this
  | @bad ws rest k h =>
    intro acc ρ no e0 e1 e4 e6 e7 hw hk ha q hx
    rw [List.map_cons, List.mapIdx_cons]
    exact step no e0 e1 e4 e6 e7 (hw ws List.mem_cons_self) h (by rw [List.length_cons] at hk; omega) ha (fun _ => hx _ rfl) fun z => absurd rfl z
  | @cons ws rest k r rows h t ih =>
    intro acc ρ no e0 e1 e4 e6 e7 hw hk ha q hx
    rw [List.map_cons, List.mapIdx_cons]
    refine step no e0 e1 e4 e6 e7 (hw ws List.mem_cons_self) h (by rw [List.length_cons] at hk; omega) ha (fun z => nomatch z) fun _ => ?_
    rw [shift]
    exact ih (acc ++ [.tup r]) _ (noOwn_set (noOwn_set (noOwn_set no))) (by simp [e0]) (by simpa [List.getElem?_set] using e1) (by simpa [List.getElem?_set] using e4) (by simpa [List.getElem?_set] using e6) (by simpa [List.getElem?_set] using e7) (fun s hs => hw s (List.mem_cons_of_mem _ hs)) (by rw [List.length_cons] at hk; omega) (by rw [List.length_append, ha]; rfl) (fun rs e ρ' l7 e7' => by cases e; rw [List.append_assoc]; exact q _ rfl ρ' l7 e7') (fun n e => nomatch e)
  | @late ws rest k n r h t ih =>
    intro acc ρ no e0 e1 e4 e6 e7 hw hk ha q hx
    rw [List.map_cons, List.mapIdx_cons]
    refine step no e0 e1 e4 e6 e7 (hw ws List.mem_cons_self) h (by rw [List.length_cons] at hk; omega) ha (fun z => nomatch z) fun _ => ?_
    rw [shift]
    exact ih (acc ++ [.tup r]) _ (noOwn_set (noOwn_set (noOwn_set no))) (by simp [e0]) (by simpa [List.getElem?_set] using e1) (by simpa [List.getElem?_set] using e4) (by simpa [List.getElem?_set] using e6) (by simpa [List.getElem?_set] using e7) (fun s hs => hw s (List.mem_cons_of_mem _ hs)) (by rw [List.length_cons] at hk; omega) (by rw [List.length_append, ha]; rfl) (fun rs e => nomatch e) (fun n' e => by cases e; exact hx _ rfl)
end L77
end
section
set_option Elab.async false
set_option linter.all false
set_option maxRecDepth 100000
set_option autoImplicit false
set_option maxHeartbeats 1000000
namespace L77
open PySem L2 Vb Vd
theorem scRowLines : FnScope ["lines", "forms", "room", "boxes", "held", "name", "greatest", "rows", "number", "line", "row"] ["lines", "forms", "room", "boxes"] (defScope sRowLines) := ⟨rfl, rfl, rfl, by decide +kernel, rfl, by decide +kernel, by decide +kernel⟩
def FRowLines (C : Addr) : Ve.FE := fun ds μ X Q => ∃ (fm : List (L2.Key × D)) (boxes : List Str) (room : Nat) (lines : List (List Str)) (o : List D ⊕ Nat), ds = [.lst (lines.map fun ws => .str (lineW ws)), .dk fm, .int (room : Int), .tup (boxes.map .str)] ∧ μ = [] ∧ FmOk fm ∧ boxes.Nodup ∧ boxes.length ≤ 60 ∧ lines ≠ [] ∧ lines.length ≤ 100 ∧ (∀ ws ∈ lines, WsOk ws) ∧
  RowsR fm boxes room (lines.length - 1) lines 0 o ∧ (∀ rows, o = .inl rows → Q (.tup rows) []) ∧ ∀ n, o = .inr n → ∀ ν, X C (.int (n : Int)) ν
theorem mnRowLines {C : Addr} : Ve.MnF (FRowLines C) := fun ds μ X X' Q Q' wx w ⟨a, b, c, d, e, h1, h2, h3, h4, h5, h6, h7, h8, h9, q1, q2⟩ => ⟨a, b, c, d, e, h1, h2, h3, h4, h5, h6, h7, h8, h9, fun r z => w _ _ (q1 r z), fun n z ν => wx _ _ _ (q2 n z ν)⟩
theorem calRowLines {P : Program} {w : World} {K : PySem.W.Frag} {mg : Str → Option Value} {base : Heap} (D : Df K mg "row_lines" sRowLines) (T : Bi mg) (G : Gi mg) (cL : Cal P w K mg base 3 "row_line" (spD K FRowLine)) {C fI : Addr} (EC : ErrC K fI C) (GI : InitE P w K mg base fI) (mC : mg "BadReader" = some (.ref C)) : Ve.CalE P w K mg base 4 "row_lines" (FRowLines C) :=
  D.calE ["lines", "forms", "room", "boxes"] (fun f fd Fu => Ve.okE (N := ["lines", "forms", "room", "boxes", "held", "name", "greatest", "rows", "number", "line", "row"]) Fu scRowLines (fun ds μ X Q h => by obtain ⟨_, _, _, _, _, rfl, _⟩ := h; rfl) (fun cdv A outer s H E hr =>
  Ve.ess_cons (Ve.es_d (ds_dcomp (i := 4) (own := [("name", 5)]) rfl scRowLines.nd rfl rfl (swD rfl rfl rfl (by decide +kernel)) (di_tup (dv 3)) (blkOk_by (N := ["lines", "forms", "room", "boxes", "held", "name", "greatest", "rows", "number", "line", "row"]) (sc := defScope sRowLines) (by decide +kernel)) gs_name (by decide) (fun _ _ _ _ _ => (pg_name (i := 5) scRowLines.nd rfl (by first | exact Or.inl rfl | exact Or.inr rfl))) (fun _ _ _ _ _ => dts_nil) (fun _ _ _ _ _ => (dv 5)) (fun _ _ _ _ _ => de_bl)))
    (Ve.ess_cons (Ve.es_d (ds_set (i := 6) scRowLines.nd rfl (by first | exact Or.inl rfl | exact Or.inr rfl) (de_disp (dps_str (de_gint (by rfl) G.most_number) (dps_str (dv 2) (dps_str (de_op op_sub s_sub (de_callB call_len s_len (by rfl) T.len (by decide +kernel) (da_cons (dv 0) da_nil)) de_int) dps_nil))) (by decide) (by decide) (by decide))))
    (Ve.ess_cons (Ve.es_newL (i := 7) scRowLines.nd rfl (by first | exact Or.inl rfl | exact Or.inr rfl) Ve.ea_nil)
    (Ve.ess_cons (Ve.es_for (passes_of rfl) rfl (di_enum (by rfl) T.enumerate (da_cons (dv 0) da_nil)) (pg_tup (n := 2) rfl (pgs_cons (pg_name (i := 8) scRowLines.nd rfl (by first | exact Or.inl rfl | exact Or.inr rfl)) (pgs_cons (pg_name (i := 9) scRowLines.nd rfl (by first | exact Or.inl rfl | exact Or.inr rfl)) pgs_nil))) (gs_tup (n := 2) (gs_cons gs_name (gs_cons gs_name gs_nil)))
      (Ve.ess_cons (Ve.es_d (ds_set (i := 10) scRowLines.nd rfl (by first | exact Or.inl rfl | exact Or.inr rfl) (de_c mnRowLine cL hr (by decide) rfl (da_cons (de_m PySem.F.plainAttrs_str PySem.F.slot_str_split PySem.F.type_str_split mt_split s_split (dv 9) (da_cons de_str da_nil)) (da_cons (dv 1) (da_cons (dv 4) (da_cons (dv 6) da_nil)))))))
      (Ve.ess_cons (Ve.es_if (Ve.et_d (DW.dt (dw_or (dt_cmp op_isN s_is (dv 10) de_non (nomark _)) (dw_or1 (dt_cmp op_eq s_eq (dv 8) (de_gint (by rfl) G.most_rows) (nomark _)))))) (Ve.ess_one (Ve.es_raise rfl EC GI hr (by decide) (by rfl) mC (Ve.ee_d (de_op op_addA s_add (dv 8) de_int)))) Ve.ess_nil)
      (Ve.ess_one (Ve.es_app (i := 7) (pv 7) (Ve.ee_d (dv 10)))))))
    (Ve.ess_frz 0 7 (Ve.ess_one (Ve.es_ret (Ve.ee_d (de_callTy call_tuple_of s_tupOf (by rfl) T.tuple (by decide +kernel) (da_cons (dv 7) da_nil)))))))))) (fun ds μ X Q h => by
    obtain ⟨fm, boxes, room, lines, o, rfl, rfl, ok, h2, h3, h5, h6, h7, hR, q1, q2⟩ := h
    have hl : 1 ≤ lines.length := List.length_pos_iff.mpr h5
    have hlast : (((lines.map fun ws => Vd.D.str (lineW ws)).length : Nat) : Int) - 1 = ((lines.length - 1 : Nat) : Int) := by
      rw [List.length_map]
      omega
    refine ⟨_, rfl, _, rfl, held_walk h2 h3 rfl ?_⟩
    refine ⟨_, rfl, by simp [startR, noOwn_nil, noOwn_d, noOwn_none], ?_⟩
    refine ⟨_, rfl, _, rfl, _, fLen_lst, _, (congrArg (fun i => some (Vd.D.int i)) hlast : _), ?_⟩
    refine ⟨_, rfl, by simp [startR, noOwn_nil, noOwn_d, noOwn_none], ?_⟩
    refine ⟨by decide, (by show 7 < 11; decide), fun a na => ?_⟩
    refine ⟨_, rfl, _, rfl, ?_⟩
    refine lines_walk ok hR [] _ (by simp [startR, noOwn_nil, noOwn_d, noOwn_none]) rfl rfl rfl rfl rfl h7 (by omega) rfl (fun rows e ρ' l7 e7 => ?_) fun n e ρ' ν => q2 n e ν
    refine ⟨a, _, _, rfl, e7, rfl, ?_⟩
    have l7' : 7 < ρ'.length := by omega
    exact ⟨_, List.getElem?_set_self l7', _, rfl, q1 rows e⟩)) fun _ _ _ _ _ _ us hl => match us, hl with | [_, _, _, _], _ => rfl
end L77
end
section
set_option Elab.async false
set_option linter.all false
set_option maxRecDepth 100000
set_option autoImplicit false
set_option maxHeartbeats 1000000
namespace L77
open PySem L2 Vb Vd
theorem scReaderParts : FnScope ["text", "forms", "lines", "room", "boxes"] ["text", "forms"] (defScope sReaderParts) := ⟨rfl, rfl, rfl, by decide +kernel, rfl, by decide +kernel, by decide +kernel⟩
/-- what a text's lines tell, or the number of the first one that cannot stand -/
inductive ReadsR (fm : List (L2.Key × D)) : List (List Str) → (Nat × List Str × List D) ⊕ Nat → Prop
  | room {l0 : List Str} {ls : List (List Str)} (h : RoomR l0 .non) : ReadsR fm (l0 :: ls) (.inr 1)
  | short {l0 : List Str} {r : Nat} (h : RoomR l0 (.int (r : Int))) : ReadsR fm [l0] (.inr 2)
  | boxes {l0 l1 : List Str} {r : Nat} {ls : List (List Str)} (h : RoomR l0 (.int (r : Int))) (h1 : BoxesR l1 .non) : ReadsR fm (l0 :: l1 :: ls) (.inr 2)
  | norows {l0 l1 bs : List Str} {r : Nat} (h : RoomR l0 (.int (r : Int))) (h1 : BoxesR l1 (.tup (bs.map .str))) : ReadsR fm [l0, l1] (.inr 3)
  | bad {l0 l1 l2 bs : List Str} {ls : List (List Str)} {r n : Nat} (h : RoomR l0 (.int (r : Int))) (h1 : BoxesR l1 (.tup (bs.map .str))) (h2 : RowsR fm bs r ls.length (l2 :: ls) 0 (.inr n)) : ReadsR fm (l0 :: l1 :: l2 :: ls) (.inr n)
  | ok {l0 l1 l2 bs : List Str} {ls : List (List Str)} {r : Nat} {rows : List D} (h : RoomR l0 (.int (r : Int))) (h1 : BoxesR l1 (.tup (bs.map .str))) (h2 : RowsR fm bs r ls.length (l2 :: ls) 0 (.inl rows)) : ReadsR fm (l0 :: l1 :: l2 :: ls) (.inl (r, bs, rows))
def NoStr (x : D) : Prop := fIsi [x, .op (.ty "str")] = some (.bl false)
theorem BoxesR.ok' {ws bs : List Str} (h : BoxesR ws (.tup (bs.map .str))) : bs.Nodup ∧ bs.length + 1 = ws.length := by
  generalize e : D.tup (bs.map .str) = r at h
  cases h with
  | @ok names h nd =>
    injection e with e
    have inj : ∀ {a b : List Str}, a.map D.str = b.map D.str → a = b := fun {a} => by
      induction a with
      | nil => intro b z; cases b with
        | nil => rfl
        | cons => cases z
      | cons x a ih => intro b z; cases b with
        | nil => cases z
        | cons y b =>
          rw [List.map_cons, List.map_cons] at z
          injection z with z1 z2
          injection z1 with z1
          rw [z1, ih z2]
    cases inj e
    exact ⟨nd, rfl⟩
  | _ => cases e
def FReaderParts (C : Addr) : Ve.FE := fun ds μ X Q => ∃ (x : D) (fm : List (L2.Key × D)), ds = [x, .dk fm] ∧ μ = [] ∧ FmOk fm ∧ ((NoStr x ∧ ∀ ν, X C (.int 0) ν) ∨ ∃ (lines : List (List Str)) (o : (Nat × List Str × List D) ⊕ Nat), x = .str (textW lines) ∧ lines.length ≤ 100 ∧ (∀ ws ∈ lines, WsOk ws) ∧ ReadsR fm lines o ∧ (∀ r bs rows, o = .inl (r, bs, rows) → Q (.tup [.int (r : Int), .tup (bs.map .str), .tup rows]) []) ∧ ∀ n, o = .inr n → ∀ ν, X C (.int (n : Int)) ν)
theorem mnReaderParts {C : Addr} : Ve.MnF (FReaderParts C) := fun ds μ X X' Q Q' wx w ⟨a, b, h1, h2, h3, q⟩ => ⟨a, b, h1, h2, h3, q.imp (fun ⟨h4, q⟩ => ⟨h4, fun ν => wx _ _ _ (q ν)⟩) fun ⟨c, d, h5, h6, h7, h8, q1, q2⟩ => ⟨c, d, h5, h6, h7, h8, fun r bs rows z => w _ _ (q1 r bs rows z), fun n z ν => wx _ _ _ (q2 n z ν)⟩⟩
theorem seq_if {c : Ve.TT} {r rest : Ve.TSD} {D : Ve.Ed} {ρ : Rho} {μ : Ve.Mu} (b : Bool) (h : ∀ Q : Bool → Ve.Mu → Prop, Q b μ → c ρ μ (D.x ρ) Q) (t1 : b = true → r { D with nx := rest D } ρ μ) (t : b = false → rest D ρ μ) : Ve.sSeq (Ve.sIf c r Ve.sNil) rest D ρ μ := by
  refine h _ ?_
  cases b
  · exact t rfl
  · exact t1 rfl
theorem calReaderParts {P : Program} {w : World} {K : PySem.W.Frag} {mg : Str → Option Value} {base : Heap} (D : Df K mg "reader_parts" sReaderParts) (T : Bi mg) (G : Gi mg) (cR : Cal P w K mg base 2 "room_line" (spD K FRoomLine)) (cB : Cal P w K mg base 2 "boxes_line" (spD K FBoxesLine)) {C fI : Addr} (EC : ErrC K fI C) (GI : InitE P w K mg base fI) (mC : mg "BadReader" = some (.ref C)) (cS : Ve.CalE P w K mg base 4 "row_lines" (FRowLines C)) : Ve.CalE P w K mg base 5 "reader_parts" (FReaderParts C) :=
  D.calE ["text", "forms"] (fun f fd Fu => Ve.okE (N := ["text", "forms", "lines", "room", "boxes"]) Fu scReaderParts (fun ds μ X Q h => by obtain ⟨_, _, rfl, _⟩ := h; rfl) (fun cdv A outer s H E hr =>
  Ve.ess_cons (Ve.es_if (Ve.et_d (dt_not (dt_val (de_callB call_isi s_isi (by rfl) T.isinstance (by decide +kernel) (da_cons (dv 0) (da_cons (de_ty (T := "str") (by rfl) T.str (by decide +kernel)) da_nil)))))) (Ve.ess_one (Ve.es_raise rfl EC GI hr (by decide) (by rfl) mC (Ve.ee_d de_int))) Ve.ess_nil)
    (Ve.ess_cons (Ve.es_d (ds_set (i := 2) scReaderParts.nd rfl (by first | exact Or.inl rfl | exact Or.inr rfl) (de_m PySem.F.plainAttrs_str PySem.F.slot_str_split PySem.F.type_str_split mt_split s_split (dv 0) (da_cons de_str da_nil))))
    (Ve.ess_cons (Ve.es_d (ds_set (i := 3) scReaderParts.nd rfl (by first | exact Or.inl rfl | exact Or.inr rfl) (de_c mnRoomLine cR hr (by decide) rfl (da_cons (de_m PySem.F.plainAttrs_str PySem.F.slot_str_split PySem.F.type_str_split mt_split s_split (de_ix ix_seq s_ix (dv 2) de_int (fun _ _ => rfl)) (da_cons de_str da_nil)) da_nil))))
    (Ve.ess_cons (Ve.es_if (Ve.et_d (dt_cmp op_isN s_is (dv 3) de_non (nomark _))) (Ve.ess_one (Ve.es_raise rfl EC GI hr (by decide) (by rfl) mC (Ve.ee_d de_int))) Ve.ess_nil)
    (Ve.ess_cons (Ve.es_d (ds_set (i := 4) scReaderParts.nd rfl (by first | exact Or.inl rfl | exact Or.inr rfl) (de_if (dt_cmp op_lt s_lt (de_callB call_len s_len (by rfl) T.len (by decide +kernel) (da_cons (dv 2) da_nil)) de_int (nomark _)) de_non (de_c mnBoxesLine cB hr (by decide) rfl (da_cons (de_m PySem.F.plainAttrs_str PySem.F.slot_str_split PySem.F.type_str_split mt_split s_split (de_ix ix_seq s_ix (dv 2) de_int (fun _ _ => rfl)) (da_cons de_str da_nil)) da_nil)))))
    (Ve.ess_cons (Ve.es_if (Ve.et_d (dt_cmp op_isN s_is (dv 4) de_non (nomark _))) (Ve.ess_one (Ve.es_raise rfl EC GI hr (by decide) (by rfl) mC (Ve.ee_d de_int))) Ve.ess_nil)
    (Ve.ess_cons (Ve.es_if (Ve.et_d (dt_cmp op_lt s_lt (de_callB call_len s_len (by rfl) T.len (by decide +kernel) (da_cons (dv 2) da_nil)) de_int (nomark _))) (Ve.ess_one (Ve.es_raise rfl EC GI hr (by decide) (by rfl) mC (Ve.ee_d de_int))) Ve.ess_nil)
    (Ve.ess_one (Ve.es_ret (Ve.ee_tup (Ve.ea_cons (Ve.ee_d (dv 3)) (Ve.ea_cons (Ve.ee_d (dv 4)) (Ve.ea_cons (Ve.ee_c mnRowLines cS hr (by decide) rfl (Ve.ea_d (da_cons (de_slice sl_all s_sl (dv 2) (do_some de_int) do_none) (da_cons (dv 1) (da_cons (dv 3) (da_cons (dv 4) da_nil)))))) Ve.ea_nil))))))))))))) (fun ds μ X Q h => by
    obtain ⟨x, fm, rfl, rfl, ok, h⟩ := h
    rcases h with ⟨nx, q⟩ | ⟨lines, o, rfl, h1, h2, hR, q1, q2⟩
    · refine seq_if true (fun R hR => ⟨_, rfl, _, nx, _, rfl, hR⟩) (fun _ => q _) fun z => nomatch z
    refine seq_if false (fun R hR => ⟨_, rfl, _, rfl, _, rfl, hR⟩) (fun z => nomatch z) fun _ => ?_
    have no : ∀ {r : Rho}, NoOwn [] := by simp [noOwn_nil]
    have ne : lines ≠ [] := by cases hR <;> exact fun z => nomatch z
    obtain ⟨s1, s2⟩ := text_split ne (by omega) h2
    have sp : ∀ {ws : List Str}, ws ∈ lines → fSplit (.str (lineW ws)) [.str " "] = some (.lst (ws.map .str)) := fun {ws} h => (line_split (h2 ws h)).1
    have wl : ∀ {ws : List Str}, ws ∈ lines → ∀ w ∈ ws, w.length ≤ sizeLine := fun {ws} h w hw => Nat.le_trans ((h2 ws h).tok w hw).1 (by decide)
    have wn : ∀ {ws : List Str}, ws ∈ lines → ws.length ≤ 61 := fun {ws} h => (h2 ws h).few
    refine ⟨_, rfl, rfl, _, s1, _, rfl, by simp [startR, noOwn_nil, noOwn_d, noOwn_none], ?_⟩
    cases hR with
    | @room l0 ls h =>
      refine ⟨_, rfl, _, ixl0, rfl, _, sp (by simp), l0, _, rfl, wl (by simp), h, _, rfl, by simp [startR, noOwn_nil, noOwn_d, noOwn_none], ?_⟩
      try dsimp only
      exact seq_if true (fun R hR => ⟨_, rfl, _, rfl, _, rfl, hR⟩) (fun _ => q2 _ rfl _) fun z => nomatch z
    | @short l0 r h =>
      refine ⟨_, rfl, _, ixl0, rfl, _, sp (by simp), l0, _, rfl, wl (by simp), h, _, rfl, by simp [startR, noOwn_nil, noOwn_d, noOwn_none], ?_⟩
      try dsimp only
      refine seq_if false (fun R hR => ⟨_, rfl, _, rfl, _, rfl, hR⟩) (fun z => nomatch z) fun _ => ?_
      refine ⟨_, rfl, _, fLen_lst, _, rfl, _, rfl, ?_⟩
      rw [decide_eq_true (show _ by simp)]
      refine ⟨_, rfl, by simp [startR, noOwn_nil, noOwn_d, noOwn_none], ?_⟩
      try dsimp only
      exact seq_if true (fun R hR => ⟨_, rfl, _, rfl, _, rfl, hR⟩) (fun _ => q2 _ rfl _) fun z => nomatch z
    | @boxes l0 l1 r ls h h1' =>
      refine ⟨_, rfl, _, ixl0, rfl, _, sp (by simp), l0, _, rfl, wl (by simp), h, _, rfl, by simp [startR, noOwn_nil, noOwn_d, noOwn_none], ?_⟩
      try dsimp only
      refine seq_if false (fun R hR => ⟨_, rfl, _, rfl, _, rfl, hR⟩) (fun z => nomatch z) fun _ => ?_
      refine ⟨_, rfl, _, fLen_lst, _, rfl, _, rfl, ?_⟩
      rw [decide_eq_false (show ¬ _ by simp <;> omega)]
      refine ⟨_, rfl, _, ixl1, rfl, _, sp (by simp), l1, _, rfl, wn (by simp), wl (by simp), h1', _, rfl, by simp [startR, noOwn_nil, noOwn_d, noOwn_none], ?_⟩
      try dsimp only
      exact seq_if true (fun R hR => ⟨_, rfl, _, rfl, _, rfl, hR⟩) (fun _ => q2 _ rfl _) fun z => nomatch z
    | @norows l0 l1 bs r h h1' =>
      refine ⟨_, rfl, _, ixl0, rfl, _, sp (by simp), l0, _, rfl, wl (by simp), h, _, rfl, by simp [startR, noOwn_nil, noOwn_d, noOwn_none], ?_⟩
      try dsimp only
      refine seq_if false (fun R hR => ⟨_, rfl, _, rfl, _, rfl, hR⟩) (fun z => nomatch z) fun _ => ?_
      refine ⟨_, rfl, _, fLen_lst, _, rfl, _, rfl, ?_⟩
      rw [decide_eq_false (show ¬ _ by simp <;> omega)]
      refine ⟨_, rfl, _, ixl1, rfl, _, sp (by simp), l1, _, rfl, wn (by simp), wl (by simp), h1', _, rfl, by simp [startR, noOwn_nil, noOwn_d, noOwn_none], ?_⟩
      try dsimp only
      refine seq_if false (fun R hR => ⟨_, rfl, _, rfl, _, rfl, hR⟩) (fun z => nomatch z) fun _ => ?_
      try dsimp only
      exact seq_if true (fun R hR => ⟨_, rfl, _, fLen_lst, _, rfl, _, rfl, by rw [decide_eq_true (show _ by simp)]; exact hR⟩) (fun _ => q2 _ rfl _) fun z => nomatch z
    | @bad l0 l1 l2 bs ls r n h h1' h2' =>
      refine ⟨_, rfl, _, ixl0, rfl, _, sp (by simp), l0, _, rfl, wl (by simp), h, _, rfl, by simp [startR, noOwn_nil, noOwn_d, noOwn_none], ?_⟩
      try dsimp only
      refine seq_if false (fun R hR => ⟨_, rfl, _, rfl, _, rfl, hR⟩) (fun z => nomatch z) fun _ => ?_
      refine ⟨_, rfl, _, fLen_lst, _, rfl, _, rfl, ?_⟩
      rw [decide_eq_false (show ¬ _ by simp <;> omega)]
      refine ⟨_, rfl, _, ixl1, rfl, _, sp (by simp), l1, _, rfl, wn (by simp), wl (by simp), h1', _, rfl, by simp [startR, noOwn_nil, noOwn_d, noOwn_none], ?_⟩
      try dsimp only
      refine seq_if false (fun R hR => ⟨_, rfl, _, rfl, _, rfl, hR⟩) (fun z => nomatch z) fun _ => ?_
      try dsimp only
      refine seq_if false (fun R hR => ⟨_, rfl, _, fLen_lst, _, rfl, _, rfl, by rw [decide_eq_false (show ¬ _ by simp <;> omega)]; exact hR⟩) (fun z => nomatch z) fun _ => ?_
      obtain ⟨n1, n2⟩ := h1'.ok'
      have n3 := wn (ws := l1) (by simp)
      refine ⟨_, rfl, _, rfl, _, rfl, 2, rfl, _, sll2, _, rfl, _, rfl, _, rfl, [], [], rfl, List.nodup_nil, fm, bs, r, l2 :: ls, _, rfl, rfl, ok, n1, by omega, List.cons_ne_nil _ _, by simp at h1 ⊢; omega, fun ws h => h2 ws (List.mem_cons_of_mem _ (List.mem_cons_of_mem _ h)), h2', fun rows e => ?_, fun n e ν => ?_⟩
      · cases e
      · cases e
        exact q2 _ rfl _
    | @ok l0 l1 l2 bs ls r rows h h1' h2' =>
      refine ⟨_, rfl, _, ixl0, rfl, _, sp (by simp), l0, _, rfl, wl (by simp), h, _, rfl, by simp [startR, noOwn_nil, noOwn_d, noOwn_none], ?_⟩
      try dsimp only
      refine seq_if false (fun R hR => ⟨_, rfl, _, rfl, _, rfl, hR⟩) (fun z => nomatch z) fun _ => ?_
      refine ⟨_, rfl, _, fLen_lst, _, rfl, _, rfl, ?_⟩
      rw [decide_eq_false (show ¬ _ by simp <;> omega)]
      refine ⟨_, rfl, _, ixl1, rfl, _, sp (by simp), l1, _, rfl, wn (by simp), wl (by simp), h1', _, rfl, by simp [startR, noOwn_nil, noOwn_d, noOwn_none], ?_⟩
      try dsimp only
      refine seq_if false (fun R hR => ⟨_, rfl, _, rfl, _, rfl, hR⟩) (fun z => nomatch z) fun _ => ?_
      try dsimp only
      refine seq_if false (fun R hR => ⟨_, rfl, _, fLen_lst, _, rfl, _, rfl, by rw [decide_eq_false (show ¬ _ by simp <;> omega)]; exact hR⟩) (fun z => nomatch z) fun _ => ?_
      obtain ⟨n1, n2⟩ := h1'.ok'
      have n3 := wn (ws := l1) (by simp)
      refine ⟨_, rfl, _, rfl, _, rfl, 2, rfl, _, sll2, _, rfl, _, rfl, _, rfl, [], [], rfl, List.nodup_nil, fm, bs, r, l2 :: ls, _, rfl, rfl, ok, n1, by omega, List.cons_ne_nil _ _, by simp at h1 ⊢; omega, fun ws h => h2 ws (List.mem_cons_of_mem _ (List.mem_cons_of_mem _ h)), h2', fun rows e => ?_, fun n e ν => ?_⟩
      · cases e
        exact ⟨(by show 3 ≤ sizeLine; decide), q1 _ _ _ rfl⟩
      · cases e)) fun _ _ _ _ _ _ us hl => match us, hl with | [_, _], _ => rfl
end L77
end
section
set_option Elab.async false
set_option linter.all false
set_option maxRecDepth 100000
set_option autoImplicit false
set_option maxHeartbeats 1000000
/-! An own __init__ whose first statements may raise. -/
namespace Vd
open PySem L2 PySem.Spec Vb
open PyProof.Rows hiding St
/-- a tuple of a module's own top -/
def KTup (K : PySem.W.Frag) (a : Addr) (vs : List V) : Prop := ∃ (o : Obj) (its : Array Value) (n : Nat), K.lookup a = some o ∧ o.cls = .type "tuple" ∧ o.data = .seq its n ∧ its.size ≤ sizeLine ∧ Vals vs its.toList
theorem plainAll {K : PySem.W.Frag} {pt : Option Addr} {B : Hp} : ∀ vs : List V, DnAll K pt B vs (vs.map plainV)
  | [] => .nil
  | v :: vs => .cons (plainV_dn v) (plainAll vs)
theorem de_gtup {X : Cx} {x : Str} {a : Addr} {vs : List V} {pos : Pos} (hg : Gl X x) (hm : X.mg x = some (.ref a)) (kt : KTup X.K a vs) (hd : (x == ("__debug__" : Str)) = false := by decide) : DE X (.Name x pos) (dC (.tup (vs.map plainV))) :=
  ⟨pe_wk' (pe_glob (v := .ref a) hg hm rfl hd) (lf_c fun _ _ => .tup (.inr kt) (plainAll vs)), mn_c⟩
/-- isinstance of the own class C: also of things of the own class B, which is no part of C -/
def fIsi2 (C B : Addr) : List D → Option D
  | [.ins E _, .op (.ref c)] => if c = C ∧ E = C then some (.bl true) else if c = C ∧ E = B then some (.bl false) else none
  | [.str _, .op (.ref c)] => if c = C then some (.bl false) else none
  | _ => none
theorem s_isi2 {K : PySem.W.Frag} {C B : Addr} (o : OwnTy K C) (oB : OwnTy K B) (no : PySem.W.kitOne K (.ref B) (.ref C) = some false) : SC K (rIsi K) (fIsi2 C B) := by
  intro pt S H xs as d Q hd hx e q
  match as, e with
  | [.ins E fs, .op (.ref c)], e =>
    obtain ⟨v, u, rfl, h1, h2⟩ := hx.two
    cases h2
    have e : (if c = C ∧ E = C then some (D.bl true) else if c = C ∧ E = B then some (D.bl false) else none) = some d := e
    by_cases k : c = C ∧ E = C
    · obtain ⟨rfl, rfl⟩ := k
      rw [if_pos ⟨rfl, rfl⟩] at e
      cases e
      cases h1 with
      | ins z _ _ => exact ⟨_, _, _, _, true, rfl, .own _, .base (.ins (Wo.sub _ _ _ _ z) o.cl o.ha o.hn o.ht o.hm), o.self, q _ _ (.refl _) (.bl _)⟩
    · rw [if_neg k] at e
      obtain ⟨⟨rfl, rfl⟩, rfl⟩ := ite_some e
      cases h1 with
      | ins z _ _ => exact ⟨_, _, _, _, false, rfl, .own _, .base (.ins (Wo.sub _ _ _ _ z) oB.cl oB.ha oB.hn oB.ht oB.hm), no, q _ _ (.refl _) (.bl _)⟩
  | [.str z, .op (.ref c)], e =>
    obtain ⟨rfl, rfl⟩ := ite_some e
    obtain ⟨v, u, rfl, h1, h2⟩ := hx.two
    cases h2
    cases h1
    exact ⟨_, _, _, _, false, rfl, .own _, .base (.str z), o.str, q _ _ (.refl _) (.bl _)⟩
end Vd
namespace Ve
open PySem L2 PySem.Spec Vb Vd
open PyProof.Rows hiding St
inductive ESl (X : Cx) : List Stmt → TSD → Prop
  | one {st : Stmt} {t : TSD} (h : ES X st t) : ESl X [st] t
  | cons {st : Stmt} {rest : List Stmt} {t u : TSD} (h : ES X st t) (r : ESl X rest u) : ESl X (st :: rest) (sSeq t u)
theorem ESl.mn {X : Cx} {l : List Stmt} {t : TSD} (h : ESl X l t) : MnS t := by
  induction h with
  | one h => exact h.mn
  | @cons st rest t u h r ih => exact fun a b ρ m l q => h.mn { a with nx := u a } { b with nx := u b } ρ m ⟨fun ρ m q => ih _ _ _ _ l q, l.rt, l.xc, l.bk, l.ct⟩ q
def lfThen (X : Cx) (t : TSD) (u : TS) : TS := fun D σ H => ∃ F S ρ μ W, Takes X W ∧ At X.K F S σ H ρ μ ∧ t { lfEd X.K F S H W D with nx := fun ρ' μ' => ∀ σ' H' S', Step S H S' H' → At X.K F S' σ' H' ρ' μ' → u D σ' H' } ρ μ
theorem ESl.app {X : Cx} {l rest : List Stmt} {t : TSD} {u : TS} (h : ESl X l t) (hu : PSs X rest u) : PSs X (l ++ rest) (lfThen X t u) := by
  induction h with
  | @one st t h =>
    refine pss_wk' (pss_cons h.ps hu) ?_
    rintro D σ H ⟨F, S, ρ, μ, W, tk, A, q⟩
    exact ⟨F, S, ρ, μ, W, tk, A, q⟩
  | @cons st l t v h r ih =>
    refine pss_wk' (pss_cons h.ps ih) ?_
    rintro D σ H ⟨F, S, ρ, μ, W, tk, A, q⟩
    let Z : Ed := { lfEd X.K F S H W D with nx := fun ρ' μ' => ∀ σ' H' S', Step S H S' H' → At X.K F S' σ' H' ρ' μ' → u D σ' H' }
    refine ⟨F, S, ρ, μ, W, tk, A, h.mn { Z with nx := v Z } _ _ _ ⟨fun ρ1 μ1 z σ1 H1 S1 s1 A1 => ?_, fun _ _ z => z, fun _ _ _ _ z => z, fun _ _ z => z, fun _ _ z => z⟩ q⟩
    refine ⟨F, S1, ρ1, μ1, W, tk, A1, r.mn Z _ _ _ ⟨fun ρ2 μ2 z σ2 H2 S2 s2 A2 => ?_, fun d m z w σ2 H2 S2 ρ2 s2 A2 x => ?_, fun C y ρ2 m z σ2 H2 S2 dA w s2 A2 g1 g2 => ?_, fun ρ2 m z σ2 H2 S2 s2 A2 => ?_, fun ρ2 m z σ2 H2 S2 s2 A2 => ?_⟩ z⟩
    · exact z σ2 H2 S2 (s1.trans s2) A2
    · exact z w σ2 H2 S2 ρ2 (s1.trans s2) A2 x
    · exact z σ2 H2 S2 dA w (s1.trans s2) A2 g1 g2
    · exact z σ2 H2 S2 (s1.trans s2) A2
    · exact z σ2 H2 S2 (s1.trans s2) A2
/-- an own __init__ whose first statements may raise keeps F -/
theorem okIL {P : Program} {w : World} {K : PySem.W.Frag} {mg : Str → Option Value} {base : Heap} {x qual : Str} {st : Stmt} {pre rest : List Stmt} {f C : Addr} {fd : FuncData} {N ps : List Str} {k : Nat} {F : FE} {t1 : TSD} {t2 : Addr → TSI} (Fu : Fun K x qual st f fd) (Sc : FnScope N ps (defScope st)) (hst : defBody st = pre ++ rest) (len : ∀ ds μ X Q, F ds μ X Q → ds.length + 1 = ps.length)
    (h1 : ∀ (cdv : Value) (A : Around) (outer : List Env) (s : Shared) (H : Hp) (E : XK), Room k (A.deeper (envOfC qual (defScope st) s.heap.objs.size f cdv)) → ESl (cxOf (L2.CX P w) P w K mg base N qual (defScope st) f cdv A outer s H E) pre t1)
    (h2 : ∀ (cdv : Value) (A : Around) (outer : List Env) (s : Shared) (H : Hp) (E : XK), Room k (A.deeper (envOfC qual (defScope st) s.heap.objs.size f cdv)) → InitS (cxOf (L2.CX P w) P w K mg base N qual (defScope st) f cdv A outer s H E).nox C rest t2)
    (h : ∀ a ds X Q, F ds [] X Q → t1 { nx := fun ρ _ => t2 a [] ρ 0 fun d _ => Q d [], rt := fun _ _ => False, xc := fun B y _ _ => X B y [] } (startR N (.op (.ref a) :: ds)) []) : FnOk P w K mg base (L2.CX P w) (k + 1) f fd ps (spMkE K C F) := by
  refine Fun.okX Fu Sc (fun vs H Q E q => ?_) fun cdv A outer s H vs Q E hr q => ?_
  · obtain ⟨x, dx, us, S, ds, rfl, _, _, _, _, _, _, ha, q⟩ := q
    rw [List.length_cons, ha.length]
    exact len _ _ _ _ q
  · obtain ⟨x, dx, us, S, ds, rfl, hx, hd, nd, n1, n2, dm, ha, q⟩ := q
    have B1 := h1 cdv A outer s H E hr
    have B2 := h2 cdv A outer s H E hr
    have B := B1.app B2.pss.nox
    rw [← hst] at B
    have En : Ent K (x :: dx :: S) H [] := ⟨fun b hb => by
      rcases List.mem_cons.mp hb with rfl | hb
      · rw [hx]; exact fun z => nomatch z
      · rcases List.mem_cons.mp hb with rfl | hb
        · rw [hd]; exact fun z => nomatch z
        · exact dm b hb, fun c hc => (nomatch hc), List.nodup_nil⟩
    have st0 := start_at (ds := .op (.ref x) :: ds) (vs := .ref x :: us) (N := N) En (.cons (.op _) ha)
    refine ⟨_, B, ⟨[], x :: dx :: S, H⟩, x :: dx :: S, _, [], fun cls d _ H' => E cls d H', takes_of rfl rfl rfl rfl, st0, B1.mn { nx := fun ρ _ => t2 x [] ρ 0 fun d _ => ∀ H', (∀ b o, b ≠ x → b ≠ dx → H b = some o → H' b = some o) → Dn K none (Wo S H') (.ref x) d → Q .non H', rt := fun _ _ => False, xc := fun B y _ _ => ∀ dA v H' S', (∀ b o, H b = some o → H' b = some o) → (∀ b ∈ S, b ∈ S') → (∀ b ∈ S', b ∈ x :: dx :: S ∨ H b = none) → (∀ b ∈ S', H' b ≠ none) → H' dA = some (.xd [("value", v)]) → Dn K none (Wo S' H') v y → E (.ref B) (some dA) H' } _ _ _ ⟨fun ρ ν z σ' H' S' _ A' => ?_, fun d m z => z.elim, fun B y ρ ν z σ' H' S' dA v _ A' g1 g2 => ?_, fun _ _ z => z.elim, fun _ _ z => z.elim⟩ (h x ds _ _ q)⟩
    · have hx' : H' x = some (.ins C dx []) := A'.frm x _ (fun z => nomatch z) hx
      refine ⟨none, S', H', S', ρ, 0, x, dx, [], [], A'.ev, A'.inc x List.mem_cons_self, fun z => (nomatch z), hx', rfl, .nil, B2.mn _ _ _ _ _ _ (fun d m' z σ2 H2 dn => ?_) z⟩
      obtain ⟨g1, g2, hs, fs, rfl, e2, e3, e4⟩ := dn
      refine z H2 (fun b o b1 b2 hb => g1 b o (fun z => nomatch z) b1 (A'.frm b o (fun z => nomatch z) hb)) (.ins (dx := dx) (by rw [Wo.out n1]; exact e2) e3 (e4.mono (Wo.less fun b hb => A'.inc b (List.mem_cons_of_mem _ (List.mem_cons_of_mem _ hb)))))
    · exact z dA v H' S' (fun b o hb => A'.frm b o (fun z => nomatch z) hb) (fun b hb => A'.inc b (List.mem_cons_of_mem _ (List.mem_cons_of_mem _ hb))) (fun b hb => A'.sub b hb) A'.dom g1 g2
theorem es_frz {X : Cx} {st : Stmt} {u : TSD} (k i : Nat) (h : ES X st u) : ES X st (sFrz k i u) := by
  refine ⟨ps_wk' h.ps ?_, fun a b ρ m l ⟨x, o, d, h1, h2, h3, q⟩ => ⟨x, o, d, h1, h2, h3, h.mn _ _ _ _ l q⟩⟩
  rintro D σ H ⟨F, S, ρ, μ, W, tk, A, a, o, d, h1, h2, h3, q⟩
  obtain ⟨s, A'⟩ := A.frz h1 h2 h3
  exact ⟨F, _, _, _, W, tk, A', h.mn _ _ _ _ (lfEd_le s) q⟩
end Ve
end
section
set_option Elab.async false
set_option linter.all false
set_option maxRecDepth 100000
set_option autoImplicit false
set_option maxHeartbeats 1000000
namespace L77
open PySem L2 Vb Vd
def formsS : List (Str × Str) := [("take", "QB"), ("either", "L"), ("same", "BBL"), ("less", "BBL"), ("is", "BKL"), ("within", "QBL"), ("edge", "QBL"), ("mark", "NBL"), ("arrow", "NBBL"), ("set", "BK"), ("put", "BB"), ("up", "B"), ("go", "L"), ("let", ""), ("refuse", "")]
def moreS : List (Str × Str) := [("call", "LM"), ("back", "")]
def kvS (l : List (Str × Str)) : List (L2.Key × V) := l.map fun p => (Sum.inr p.1, .str p.2)
def kdS (l : List (Str × Str)) : List (L2.Key × D) := l.map fun p => (Sum.inr p.1, .str p.2)
abbrev formsV : List (L2.Key × V) := kvS formsS
abbrev moreV : List (L2.Key × V) := kvS moreS
theorem plain_kvS (l : List (Str × Str)) : plainKv (kvS l) = kdS l := by
  unfold plainKv kvS kdS
  rw [List.map_map]
  rfl
theorem items_kvS (l : List (Str × Str)) : itemsG (kvS l) = l.map fun p => D.tup [.str p.1, .str p.2] := by
  unfold itemsG kvS
  rw [List.map_map]
  rfl
def formsD : List (L2.Key × D) := kdS formsS
def keepP (p : Str × Str) : Bool := decide (p.1 ≠ ("take" : Str)) && decide (p.1 ≠ ("either" : Str))
def lackS : List (Str × Str) := formsS.filter keepP
def pileS : List (Str × Str) := lackS ++ moreS
def pileD : List (L2.Key × D) := kdS pileS
theorem look_kdS {l : List (Str × Str)} {z : Str} {d : D} (h : lookD (kdS l) (Sum.inr z) = some d) : ∃ p ∈ l, p.1 = z ∧ d = .str p.2 := by
  unfold lookD at h
  obtain ⟨p, hp, rfl⟩ := Option.map_eq_some_iff.mp h
  obtain ⟨q, hq, rfl⟩ := List.mem_map.mp (List.mem_of_find?_eq_some hp)
  have e : (Sum.inr q.1 : L2.Key) = Sum.inr z := of_decide_eq_true (by simpa using List.find?_some hp)
  exact ⟨q, hq, Sum.inr.inj e, rfl⟩
theorem fm_of {l : List (Str × Str)} (h : ∀ p ∈ l, p.2.length ≤ 4 ∧ (Txt.endswith p.2 "M" = true → p.2 = "LM")) : FmOk (kdS l) := ⟨fun {z d} e => by
  obtain ⟨p, hp, _, rfl⟩ := look_kdS e
  exact ⟨p.2, rfl, h p hp⟩⟩
theorem formsOk : FmOk formsD := fm_of (by decide +kernel)
theorem pileOk : FmOk pileD := fm_of (by decide +kernel)
theorem dictK_kd {a : Addr} {l : List (Str × Str)} : fDictK a (kvS l) [.op (.ref a)] = some (.dk (kdS l)) := by
  rw [← plain_kvS]
  exact if_pos rfl
/-- a statement of a class's body -/
def inClass : Stmt → Nat → Stmt
  | .ClassDef (body := b) .., i => b.getD i (.Pass ⟨0, 0, 0, 0⟩)
  | s, _ => s
abbrev sInitR : Stmt := inClass sReader 0
abbrev sInitP : Stmt := inClass sPileReader 0
abbrev sEqP : Stmt := inClass sPileReader 1
/-- what is told of a class whose things are readers -/
structure Rc (K : PySem.W.Frag) (C gI : Addr) : Prop where
  ty : OwnTy K C
  text : NoAttr K C "text"
  room : NoAttr K C "room"
  boxes : NoAttr K C "boxes"
  rows : NoAttr K C "rows"
  make : Mk K C gI
/-- what is told of the modules' names -/
structure Mo (K : PySem.W.Frag) (w : World) (mg : Str → Option Value) (R C aF aP aN : Addr) : Prop where
  mR : mg "Reader" = some (.ref R)
  mC : mg "PileReader" = some (.ref C)
  mF : mg "FORMS" = some (.ref aF)
  mP : mg "PILE_FORMS" = some (.ref aP)
  mN : mg "NOT_THERE" = some (.ref aN)
  kF : KDic K w aF formsV
  kP : KDic K w aP moreV
  kN : KTup K aN [.str "take", .str "either"]
def rdD (C : Addr) (lines : List (List Str)) (room : Nat) (boxes : List Str) (rows : List D) : D := .ins C [("text", .str (textW lines)), ("room", .int (room : Int)), ("boxes", .tup (boxes.map .str)), ("rows", .tup rows)]
/-- a reader of the class C, its rows of these forms; B: the error that a text raises -/
def FMake (fm : List (L2.Key × D)) (C B : Addr) : Ve.FE := fun ds μ X Q => ∃ (x : D), ds = [x] ∧ μ = [] ∧ ((NoStr x ∧ ∀ ν, X B (.int 0) ν) ∨ ∃ (lines : List (List Str)) (o : (Nat × List Str × List D) ⊕ Nat), x = .str (textW lines) ∧ lines.length ≤ 100 ∧ (∀ ws ∈ lines, WsOk ws) ∧ ReadsR fm lines o ∧ (∀ r bs rows, o = .inl (r, bs, rows) → Q (rdD C lines r bs rows) []) ∧ ∀ n, o = .inr n → ∀ ν, X B (.int (n : Int)) ν)
theorem mnMake {fm : List (L2.Key × D)} {C B : Addr} : Ve.MnF (FMake fm C B) := fun ds μ X X' Q Q' wx w ⟨a, h1, h2, q⟩ => ⟨a, h1, h2, q.imp (fun ⟨h4, q⟩ => ⟨h4, fun ν => wx _ _ _ (q ν)⟩) fun ⟨c, d, h5, h6, h7, h8, q1, q2⟩ => ⟨c, d, h5, h6, h7, h8, fun r bs rows z => w _ _ (q1 r bs rows z), fun n z ν => wx _ _ _ (q2 n z ν)⟩⟩
theorem dc_walk {K : PySem.W.Frag} {ρ : Rho} (l : ρ.length = 8) {m : Nat} {Q : List (L2.Key × D) → Nat → Prop} {i j : Nat} (hi : i < 8) (hj : j < 8) (ne : i ≠ j) : ∀ (ps acc : List (Str × Str)), (acc ++ ps).map (·.1) |>.Nodup → acc.length + ps.length ≤ 100 → Q (kdS (acc ++ ps.filter keepP)) m →
    dcD (fTup 2 (fCons (fName i) (fCons (fName j) fNil))) (dTst (dOp2 (fIn true) (dVar i) (dC (.tup ([V.str "take", .str "either"].map plainV))))) (dVar i) (dVar j) [i, j] ρ (ps.map fun p => D.tup [.str p.1, .str p.2]) (kdS acc) m Q
  | [], acc, _, _, q => by
    rw [List.filter_nil, List.append_nil] at q
    exact q
  | p :: ps, acc, nd, hl, q => by
    have w1 : (wipeR ρ [i, j]).length = 8 := by simp [wipeR, l]
    have gi : ∀ x y : Option C, (((wipeR ρ [i, j]).set i x).set j y)[i]? = some x := fun x y => by simp [List.getElem?_set, w1, hi, Ne.symm ne]
    have gj : ∀ x y : Option C, (((wipeR ρ [i, j]).set i x).set j y)[j]? = some y := fun x y => by simp [List.getElem?_set, w1, hj]
    refine ⟨_, rfl, _, gi _ _, _, fNotIn_lst (d := .str p.1) (ds := [V.str "take", .str "either"].map plainV) rfl rfl, _, rfl, ?_⟩
    have e : (!([V.str "take", V.str "either"].map plainV).any fun y => eqF y (.str p.1)) = keepP p := by
      unfold keepP
      show (!(((("take" : Str) == p.1) || ((("either" : Str) == p.1) || false)))) = _
      rw [Bool.or_false, Bool.not_or, Bool.beq_comm (a := ("take" : Str)), Bool.beq_comm (a := ("either" : Str))]
      simp [Bool.beq_eq_decide_eq]
    rw [e]
    dsimp only
    by_cases c : keepP p = true
    · rw [if_pos c]
      have no : (Sum.inr p.1 : L2.Key) ∉ (kdS acc).map (·.1) := fun z => by
        obtain ⟨y, hy, ey⟩ := List.mem_map.mp z
        obtain ⟨r, hr, rfl⟩ := List.mem_map.mp hy
        rw [List.map_append] at nd
        exact (List.nodup_append.mp nd).2.2 r.1 (List.mem_map_of_mem hr) p.1 (by rw [List.map_cons]; exact List.mem_cons_self) (Sum.inr.inj ey)
      have ea : putD (kdS acc) (Sum.inr p.1) (.str p.2) = kdS (acc ++ [p]) := by
        rw [put_new no]
        unfold kdS
        rw [List.map_append]
        rfl
      refine ⟨_, gi _ _, _, gj _ _, Sum.inr p.1, rfl, ?_, ?_⟩
      · unfold kdS
        rw [List.length_map]
        rw [List.length_cons] at hl
        exact Nat.lt_of_lt_of_le (show acc.length < 100 by omega) (by decide)
      · rw [ea]
        refine dc_walk (K := K) l hi hj ne ps (acc ++ [p]) (by rw [List.append_assoc]; exact nd) (by rw [List.length_append]; simp at hl ⊢; omega) ?_
        rw [List.filter_cons_of_pos c] at q
        rw [List.append_assoc]
        exact q
    · rw [if_neg c]
      rw [List.filter_cons_of_neg c] at q
      refine dc_walk (K := K) l hi hj ne ps acc (nd.sublist (List.Sublist.map _ (List.Sublist.append_left (List.sublist_cons_self _ _) _))) (by rw [List.length_cons] at hl; omega) q
theorem merge_pile : mergeD (kdS lackS) (kdS moreS) = pileD := by
  have keys : ∀ {l : List (Str × Str)} {z : Str}, z ∉ l.map (·.1) → (Sum.inr z : L2.Key) ∉ (kdS l).map (·.1) := fun {l z} h y => by
    obtain ⟨p, hp, e⟩ := List.mem_map.mp y
    obtain ⟨r, hr, rfl⟩ := List.mem_map.mp hp
    exact h (Sum.inr.inj e ▸ List.mem_map_of_mem hr)
  have h1 : (Sum.inr ("call" : Str) : L2.Key) ∉ (kdS lackS).map (·.1) := keys (by decide +kernel)
  have h2 : (Sum.inr ("back" : Str) : L2.Key) ∉ (kdS lackS ++ [((Sum.inr ("call" : Str) : L2.Key), D.str "LM")]).map (·.1) := by
    have e : kdS lackS ++ [((Sum.inr ("call" : Str) : L2.Key), D.str "LM")] = kdS (lackS ++ ([("call", "LM")] : List (Str × Str))) := by
      unfold kdS
      rw [List.map_append]
      rfl
    rw [e]
    exact keys (by decide +kernel)
  show putD (putD (kdS lackS) (Sum.inr ("call" : Str)) (.str "LM")) (Sum.inr ("back" : Str)) (.str "") = _
  rw [put_new h1, put_new h2]
  unfold pileD pileS kdS
  rw [List.map_append, List.append_assoc]
  rfl
theorem scInitR : FnScope ["self", "text", "room", "boxes", "rows"] ["self", "text"] (defScope sInitR) := ⟨rfl, rfl, rfl, by decide +kernel, rfl, by decide +kernel, by decide +kernel⟩
theorem ok_initR {P : Program} {w : World} {K : PySem.W.Frag} {mg : Str → Option Value} {base : Heap} {R C B gR gI aF aP aN : Addr} (T : Bi mg) (M : Mo K w mg R C aF aP aN) (c : Rc K R gR) (cPs : Ve.CalE P w K mg base 5 "reader_parts" (FReaderParts B)) {fd : FuncData} (Fu : Fun K "__init__" "Reader.__init__" sInitR gR fd) : FnOk P w K mg base (L2.CX P w) 6 gR fd ["self", "text"] (Ve.spMkE K R (FMake formsD R B)) :=
  Ve.okIL (N := ["self", "text", "room", "boxes", "rows"]) (k := 5) Fu scInitR rfl (fun ds μ X Q h => by obtain ⟨_, rfl, _⟩ := h; rfl) (fun cdv A outer s H E hr => Ve.ESl.one (Ve.es_asg (Ve.ee_c mnReaderParts cPs hr (by decide) rfl (Ve.ea_d (da_cons (dv 1) (da_cons (de_callTy call_dictK (s_dictK M.kF) (by rfl) T.dict (by decide +kernel) (da_cons (de_gref (by rfl) M.mF) da_nil)) da_nil)))) (pg_tup (n := 3) rfl (pgs_cons (pg_name (i := 2) scInitR.nd rfl (by first | exact Or.inl rfl | exact Or.inr rfl)) (pgs_cons (pg_name (i := 3) scInitR.nd rfl (by first | exact Or.inl rfl | exact Or.inr rfl)) (pgs_cons (pg_name (i := 4) scInitR.nd rfl (by first | exact Or.inl rfl | exact Or.inr rfl)) pgs_nil)))) (gs_tup (n := 3) (gs_cons gs_name (gs_cons gs_name (gs_cons gs_name gs_nil)))))) (fun cdv A outer s H E hr => (ini_fld c.ty.cl c.text (pv 0) (dv 1) (ini_fld c.ty.cl c.room (pv 0) (dv 2) (ini_fld c.ty.cl c.boxes (pv 0) (dv 3) (ini_fld c.ty.cl c.rows (pv 0) (dv 4) ini_nil))))) (fun a ds X Q h => by
    obtain ⟨x, rfl, _, h⟩ := h
    rcases h with ⟨nx, q⟩ | ⟨lines, o, rfl, h1, h2, h3, q1, q2⟩
    · exact ⟨_, rfl, _, dictK_kd, [], [], rfl, List.nodup_nil, x, formsD, rfl, rfl, formsOk, .inl ⟨nx, fun ν => q _⟩⟩
    · refine ⟨_, rfl, _, dictK_kd, [], [], rfl, List.nodup_nil, _, formsD, rfl, rfl, formsOk, .inr ⟨lines, o, rfl, h1, h2, h3, fun r bs rows e => ?_, fun n e ν => q2 n e _⟩⟩
      simp [sPar, sPar3, sSeq, sNil, sIf, sRet, sAsg, sDrop, sFrz, sApp, sExt, sOwn, dOr, dAnd, dNot, dTst, dTru, tru, dIf, dAndV, dOrV, dNotV, dChain, dCall, dOp2, dOp1, dMt, dMt0, dCal, dVar, dC, dTup, dLst, dSl, oNone, oSome, aCons, aNil, fName, fTup, fCons, fNil, startR, TyD, dBor, dBorE, dYes, fIsi, tyN, isTab, fMtB, fI, fI0, fIs, fIsnt, isN, fTupOf, fLstOf, fNeg, fEq_int, fEq_str, fNe_int, fNe_str, fLen_lst, fLen_tup, fAll_bls, fAdd_int, fInt_int, ixl0, ixl1, ixl2, sll1, sll2, iFld, iNil, noOwn_nil, noOwn_d, noOwn_none]
      exact ⟨by decide, by decide, by decide, q1 _ _ _ e⟩)
theorem scInitP : FnScope ["self", "text", "forms", "word", "letters", "room", "boxes", "rows"] ["self", "text"] (defScope sInitP) := ⟨rfl, rfl, rfl, by decide +kernel, rfl, by decide +kernel, by decide +kernel⟩
theorem ok_initP {P : Program} {w : World} {K : PySem.W.Frag} {mg : Str → Option Value} {base : Heap} {R C B gR gI aF aP aN : Addr} (T : Bi mg) (M : Mo K w mg R C aF aP aN) (c : Rc K C gI) (cPs : Ve.CalE P w K mg base 5 "reader_parts" (FReaderParts B)) {fd : FuncData} (Fu : Fun K "__init__" "PileReader.__init__" sInitP gI fd) : FnOk P w K mg base (L2.CX P w) 6 gI fd ["self", "text"] (Ve.spMkE K C (FMake pileD C B)) :=
  Ve.okIL (N := ["self", "text", "forms", "word", "letters", "room", "boxes", "rows"]) (k := 5) Fu scInitP rfl (fun ds μ X Q h => by obtain ⟨_, rfl, _⟩ := h; rfl) (fun cdv A outer s H E hr => Ve.ESl.cons (Ve.es_dcompN (i := 2) (tT := lfT K _) (own := [("word", 3), ("letters", 4)]) rfl scInitP.nd rfl rfl (swD rfl rfl rfl (by decide +kernel)) (di_itemsG M.kF (de_gref (by rfl) M.mF)) (blkOk_by (N := ["self", "text", "forms", "word", "letters", "room", "boxes", "rows"]) (sc := defScope sInitP) (by decide +kernel)) (gs_tup (n := 2) (gs_cons gs_name (gs_cons gs_name gs_nil))) (by decide) (fun _ _ _ _ _ => (pg_tup (n := 2) rfl (pgs_cons (pg_name (i := 3) scInitP.nd rfl (by first | exact Or.inl rfl | exact Or.inr rfl)) (pgs_cons (pg_name (i := 4) scInitP.nd rfl (by first | exact Or.inl rfl | exact Or.inr rfl)) pgs_nil)))) (fun _ _ _ _ _ => (dts_one (dt_cmp op_notIn_seq (s_in true) (dv 3) (de_gtup (by rfl) M.mN M.kN) (by rfl)))) (fun _ _ _ _ _ => (dv 3)) (fun _ _ _ _ _ => (dv 4)))
    (Ve.ESl.cons (Ve.es_upd (i := 2) (pv 2) (Ve.ee_d (de_callTy call_dictK (s_dictK M.kP) (by rfl) T.dict (by decide +kernel) (da_cons (de_gref (by rfl) M.mP) da_nil))))
    (Ve.ESl.one (Ve.es_frz 0 2 (Ve.es_asg (Ve.ee_c mnReaderParts cPs hr (by decide) rfl (Ve.ea_d (da_cons (dv 1) (da_cons (dv 2) da_nil)))) (pg_tup (n := 3) rfl (pgs_cons (pg_name (i := 5) scInitP.nd rfl (by first | exact Or.inl rfl | exact Or.inr rfl)) (pgs_cons (pg_name (i := 6) scInitP.nd rfl (by first | exact Or.inl rfl | exact Or.inr rfl)) (pgs_cons (pg_name (i := 7) scInitP.nd rfl (by first | exact Or.inl rfl | exact Or.inr rfl)) pgs_nil)))) (gs_tup (n := 3) (gs_cons gs_name (gs_cons gs_name (gs_cons gs_name gs_nil))))))))) (fun cdv A outer s H E hr => (ini_fld c.ty.cl c.text (pv 0) (dv 1) (ini_fld c.ty.cl c.room (pv 0) (dv 5) (ini_fld c.ty.cl c.boxes (pv 0) (dv 6) (ini_fld c.ty.cl c.rows (pv 0) (dv 7) ini_nil))))) (fun a ds X Q h => by
    obtain ⟨x, rfl, _, h⟩ := h
    refine ⟨rfl, ?_⟩
    rw [items_kvS]
    refine dc_walk (K := K) rfl (by decide) (by decide) (by decide) formsS [] (by decide +kernel) (by decide) ?_
    refine ⟨_, rfl, (by show 2 < 8; decide), fun p np => ?_⟩
    refine ⟨0, p, true, _, rfl, rfl, _, dictK_kd, true, _, _, rfl, rfl, by decide, ?_⟩
    rw [show mergeD (kdS ([] ++ formsS.filter keepP)) (kdS moreS) = pileD from merge_pile]
    refine ⟨p, _, _, rfl, rfl, rfl, ?_⟩
    rcases h with ⟨nx, q⟩ | ⟨lines, o, rfl, h1, h2, h3, q1, q2⟩
    · exact ⟨_, rfl, _, rfl, [], [], rfl, List.nodup_nil, x, pileD, rfl, rfl, pileOk, .inl ⟨nx, fun ν => q _⟩⟩
    · refine ⟨_, rfl, _, rfl, [], [], rfl, List.nodup_nil, _, pileD, rfl, rfl, pileOk, .inr ⟨lines, o, rfl, h1, h2, h3, fun r bs rows e => ?_, fun n e ν => q2 n e _⟩⟩
      refine ⟨_, rfl, ?_⟩
      simp [sPar, sPar3, sSeq, sNil, sIf, sRet, sAsg, sDrop, sFrz, sApp, sExt, sOwn, dOr, dAnd, dNot, dTst, dTru, tru, dIf, dAndV, dOrV, dNotV, dChain, dCall, dOp2, dOp1, dMt, dMt0, dCal, dVar, dC, dTup, dLst, dSl, oNone, oSome, aCons, aNil, fName, fTup, fCons, fNil, startR, TyD, dBor, dBorE, dYes, fIsi, tyN, isTab, fMtB, fI, fI0, fIs, fIsnt, isN, fTupOf, fLstOf, fNeg, fEq_int, fEq_str, fNe_int, fNe_str, fLen_lst, fLen_tup, fAll_bls, fAdd_int, fInt_int, ixl0, ixl1, ixl2, sll1, sll2, iFld, iNil, noOwn_nil, noOwn_d, noOwn_none]
      exact ⟨by decide, by decide, by decide, q1 _ _ _ e⟩)
theorem scEqP : FnScope ["self", "other"] ["self", "other"] (defScope sEqP) := ⟨rfl, rfl, rfl, by decide +kernel, rfl, by decide +kernel, by decide +kernel⟩
def FEq (C R : Addr) : FD := fun ds m Q => ∃ (fs : List (Str × D)) (t : Str) (y : D) (b : Bool), ds = [.ins C fs, y] ∧ fs.lookup ("text" : Str) = some (.str t) ∧ ((∃ (fs2 : List (Str × D)) (t2 : Str), y = .ins C fs2 ∧ fs2.lookup ("text" : Str) = some (.str t2) ∧ b = decide (t = t2)) ∨ ((∃ z, y = .str z) ∨ ∃ fs2, y = .ins R fs2) ∧ b = false) ∧ Q (.bl b) m
theorem mnEq {C R : Addr} : MnF (FEq C R) := fun ds m Q Q' w ⟨a, b, c, d, h1, h2, h3, q⟩ => ⟨a, b, c, d, h1, h2, h3, w _ _ q⟩
theorem ok_eqP {P : Program} {w : World} {K : PySem.W.Frag} {mg : Str → Option Value} {base : Heap} {R C B gR gI aF aP aN : Addr} (T : Bi mg) (M : Mo K w mg R C aF aP aN) (c : Rc K C gI) (r : Rc K R gR) (ne : R ≠ C) (no : PySem.W.kitOne K (.ref R) (.ref C) = some false) {gE : Addr} {fd : FuncData} (Fu : Fun K "__eq__" "PileReader.__eq__" sEqP gE fd) : FnOk P w K mg base CX0 1 gE fd ["self", "other"] (spD K (FEq C R)) :=
  Fun.okD (N := ["self", "other"]) (k := 0) Fu scEqP (fun ds m Q h => by obtain ⟨_, _, _, _, rfl, _⟩ := h; rfl) (fun cdv A outer s H E hr =>
  dss_one (ds_ret (de_and (de_callB call_isi (s_isi2 c.ty r.ty no) (by rfl) T.isinstance (by decide +kernel) (da_cons (dv 1) (da_cons (de_gref (by rfl) M.mC) da_nil))) (de_one (de_cmp op_eq s_eq (de_fld ⟨c.ty.cl, c.text⟩ (dv 0)) (de_fld ⟨c.ty.cl, c.text⟩ (dv 1)) (nomark _)))))) (fun ds m Q h => by
    obtain ⟨fs, t, y, b, rfl, ht, h, q⟩ := h
    rcases h with ⟨fs2, t2, rfl, ht2, rfl⟩ | ⟨⟨z, rfl⟩ | ⟨fs2, rfl⟩, rfl⟩
    · simp [sPar, sPar3, sSeq, sNil, sIf, sRet, sAsg, sDrop, sFrz, sApp, sExt, sOwn, dOr, dAnd, dNot, dTst, dTru, tru, dIf, dAndV, dOrV, dNotV, dChain, dCall, dOp2, dOp1, dMt, dMt0, dCal, dVar, dC, dTup, dLst, dSl, oNone, oSome, aCons, aNil, fName, fTup, fCons, fNil, startR, TyD, dBor, dBorE, dYes, fIsi, tyN, isTab, fMtB, fI, fI0, fIs, fIsnt, isN, fTupOf, fLstOf, fNeg, fEq_int, fEq_str, fNe_int, fNe_str, fLen_lst, fLen_tup, fAll_bls, fAdd_int, fInt_int, ixl0, ixl1, ixl2, sll1, sll2, fIsi2, dFld, ht, ht2]
      exact q
    · simp [sPar, sPar3, sSeq, sNil, sIf, sRet, sAsg, sDrop, sFrz, sApp, sExt, sOwn, dOr, dAnd, dNot, dTst, dTru, tru, dIf, dAndV, dOrV, dNotV, dChain, dCall, dOp2, dOp1, dMt, dMt0, dCal, dVar, dC, dTup, dLst, dSl, oNone, oSome, aCons, aNil, fName, fTup, fCons, fNil, startR, TyD, dBor, dBorE, dYes, fIsi, tyN, isTab, fMtB, fI, fI0, fIs, fIsnt, isN, fTupOf, fLstOf, fNeg, fEq_int, fEq_str, fNe_int, fNe_str, fLen_lst, fLen_tup, fAll_bls, fAdd_int, fInt_int, ixl0, ixl1, ixl2, sll1, sll2, fIsi2, dFld, ht]
      exact q
    · simp [sPar, sPar3, sSeq, sNil, sIf, sRet, sAsg, sDrop, sFrz, sApp, sExt, sOwn, dOr, dAnd, dNot, dTst, dTru, tru, dIf, dAndV, dOrV, dNotV, dChain, dCall, dOp2, dOp1, dMt, dMt0, dCal, dVar, dC, dTup, dLst, dSl, oNone, oSome, aCons, aNil, fName, fTup, fCons, fNil, startR, TyD, dBor, dBorE, dYes, fIsi, tyN, isTab, fMtB, fI, fI0, fIs, fIsnt, isN, fTupOf, fLstOf, fNeg, fEq_int, fEq_str, fNe_int, fNe_str, fLen_lst, fLen_tup, fAll_bls, fAdd_int, fInt_int, ixl0, ixl1, ixl2, sll1, sll2, fIsi2, dFld, ht, ne]
      exact q)
end L77
end
section
set_option Elab.async false
set_option linter.all false
set_option maxRecDepth 100000
namespace L77
open PySem L2 Vb Vd
section
variable {P : Program} {w : World} {K : PySem.W.Frag} {mg : Str → Option Value} {base : Heap}
theorem scLawTake : FnScope ["pot", "upto", "digit", "prime", "blend"] ["pot", "upto"] (defScope sLawTake) := ⟨rfl, rfl, rfl, by decide +kernel, rfl, by decide +kernel, by decide +kernel⟩
theorem ok_take {f : Addr} {fd : FuncData} (F : Fun K "_law_take" "_law_take" sLawTake f fd) (T : Bi mg) : FnOk P w K mg base CX0 1 f fd ["pot", "upto"] spTake := by
  refine F.ok scLawTake (fun vs H Q E h => ?_) (fun cdv A outer s H vs Q E hr h => ?_)
  · obtain ⟨p, u, m, rfl, _⟩ := h
    rfl
  · obtain ⟨p, u, m, rfl, ⟨a, b, c, hp, a0, b0, b1, c0, c1⟩, u0, u1, k⟩ := h
    refine ⟨_, pss_cons (ps_if (pt_cmpR op_gt (pe_ix ix_list (pv 0) pe_int (fun _ _ => rfl)) pe_int (nomark _))
        (pss_cons (ps_set (i := 2) scLawTake.nd rfl (Or.inl rfl) (pe_op op_mod (pe_callTy call_int1 (by rfl) T.int (by decide +kernel) (pa_cons (pe_ix ix_list (pv 0) pe_int (fun _ _ => rfl)) pa_nil)) (pv 1)))
        (pss_cons (ps_asg (pe_op op_fdiv (pe_ix ix_list (pv 0) pe_int (fun _ _ => rfl)) (pv 1)) (pg_sub (pv 0) pe_int set_list))
        (pss_one (ps_ret (pv 2)))))
        pss_nil)
      (pss_cons (ps_asg (pe_op op_add (pe_ix ix_list (pv 0) pe_int (fun _ _ => rfl)) pe_int) (pg_sub (pv 0) pe_int set_list))
      (pss_cons (ps_set (i := 3) scLawTake.nd rfl (Or.inl rfl) (pe_ix ix_list (pe_lst (pa_cons pe_int (pa_cons pe_int (pa_cons pe_int (pa_cons pe_int (pa_cons pe_int pa_nil))))))
          (pe_op op_mod (pe_callTy call_int1 (by rfl) T.int (by decide +kernel) (pa_cons (pe_ix ix_list (pv 0) pe_int (fun _ _ => rfl)) pa_nil)) pe_int) (fun _ _ => rfl)))
      (pss_cons (ps_set (i := 4) scLawTake.nd rfl (Or.inl rfl) (pe_op op_mod (pe_callTy call_int1 (by rfl) T.int (by decide +kernel) (pa_cons
          (pe_op op_powW (pe_callTy call_int1 (by rfl) T.int (by decide +kernel) (pa_cons
            (pe_op op_add (pe_op op_add (pe_ix ix_list (pv 0) pe_int (fun _ _ => rfl)) (pe_op op_mul (pe_op op_mul pe_int (pe_ix ix_list (pv 0) pe_int (fun _ _ => rfl))) (pe_ix ix_list (pv 0) pe_int (fun _ _ => rfl)))) pe_int) pa_nil)) pe_int) pa_nil)) (pv 3)))
      (pss_cons (ps_set (i := 4) scLawTake.nd rfl (Or.inl rfl) (pe_op op_mod (pe_callTy call_int1 (by rfl) T.int (by decide +kernel) (pa_cons
          (pe_op op_mul (pv 4) (pe_op op_add (pe_op op_mod (pe_callTy call_int1 (by rfl) T.int (by decide +kernel) (pa_cons (pv 4) pa_nil)) pe_int) (pe_op op_mul pe_int (pe_ix ix_list (pv 0) pe_int (fun _ _ => rfl))))) pa_nil)) pe_int))
      (pss_one (ps_ret (pe_op op_mod (pe_callTy call_int1 (by rfl) T.int (by decide +kernel) (pa_cons (pe_op op_fdiv (pv 4) pe_int) pa_nil)) (pv 1)))))))), ?_⟩
    refine ⟨_, rfl, p, _, _, _, rfl, rfl, SqL.of hp, at0, _, _, rfl, rfl, _, rfl, ?_⟩
    refine ite2 (fun g => ?_) (fun g => ?_)
    · refine ⟨_, rfl, p, _, _, _, rfl, rfl, SqL.of hp, at0, .inl ⟨_, rfl, _, rfl, _, _, rfl, rfl, u0, ?_⟩⟩
      refine ⟨_, rfl, p, _, _, _, rfl, rfl, SqL.of hp, at0, _, rfl, _, _, rfl, rfl, ⟨u0, u1⟩, ?_⟩
      refine ⟨_, rfl, p, _, _, 0, rfl, rfl, hp, rfl, _, rfl, ?_⟩
      exact k _ _ (Int.emod_nonneg _ (by omega)) (Int.emod_lt_of_pos _ u0) (drew_of (SameBut.upd _ _ _) upd_same (Int.ediv_nonneg a0 (by omega)) b0 b1 c0 (by omega))
    · refine ⟨_, rfl, p, _, _, _, rfl, rfl, SqL.of hp, at2, _, _, rfl, rfl, _, rfl, p, _, _, 2, rfl, rfl, hp, rfl, ?_⟩
      refine ⟨by show 5 ≤ sizeLine; decide, fun l hl => ?_⟩
      have nl : p ≠ l := fun e => by
        subst e
        rw [upd_same] at hl
        cases hl
      have hl0 : H l = Option.none := by
        rw [upd_ne nl.symm] at hl
        exact hl
      have hp' : upd (upd H p (potL a b (c + 1))) l (.lst [.int 2147483647, .int 2147483629, .int 2147483587, .int 2147483579, .int 2147483563]) p = some (potL a b (c + 1)) := by
        rw [upd_ne nl, upd_same]
      obtain ⟨v, hv, v0, v1⟩ := prime_at (i := (c + 1) % 5) (Int.emod_nonneg _ (by decide)) (Int.emod_lt_of_pos _ (by decide))
      refine ⟨_, rfl, p, _, _, _, rfl, rfl, SqL.of hp', at2, .inl ⟨_, rfl, _, _, rfl, rfl, (by show (0 : Int) < 5; decide), l, _, _, _, rfl, rfl, SqL.of upd_same, hv, ?_⟩⟩
      -- blend = int(int(pot[1] + 98375 * pot[2] * pot[2] + 431) ** 3) % prime
      have cc : 0 ≤ (c + 1) * (c + 1) := Int.mul_nonneg (by omega) (by omega)
      have cd : (c + 1) * (c + 1) ≤ 10000000 * 10000000 := Int.mul_le_mul (by omega) (by omega) (by omega) (by decide)
      refine ⟨_, rfl, p, _, _, _, rfl, rfl, SqL.of hp', at1, _, rfl, p, _, _, _, rfl, rfl, SqL.of hp', at2, _, _, rfl, rfl, mulOk (by decide) (by decide), _, rfl, p, _, _, _, rfl, rfl, SqL.of hp', at2, _, _, rfl, rfl, mulOk (by omega) (by omega), _, _, rfl, rfl, _, _, rfl, rfl, .inl ⟨_, rfl, ?_⟩⟩
      have e1 : 98375 * (c + 1) * (c + 1) = 98375 * ((c + 1) * (c + 1)) := Int.mul_assoc _ _ _
      refine ⟨_, _, rfl, rfl, powOk (by omega) (by omega), .inl ⟨_, rfl, _, rfl, _, _, rfl, rfl, by omega, ?_⟩⟩
      generalize hx : (b + 98375 * (c + 1) * (c + 1) + 431) ^ (3 : Int).toNat % v = x
      have x0 : 0 ≤ x := by
        rw [← hx]
        exact Int.emod_nonneg _ (by omega)
      have x1 : x < 2147483648 := by
        have := Int.emod_lt_of_pos ((b + 98375 * (c + 1) * (c + 1) + 431) ^ (3 : Int).toNat) (show 0 < v by omega)
        omega
      refine ⟨_, rfl, _, rfl, .inl ⟨_, rfl, _, _, rfl, rfl, (by show (0 : Int) < 10009; decide), _, rfl, p, _, _, _, rfl, rfl, SqL.of hp', at2, _, _, rfl, rfl, mulOk (by decide) (by decide), _, _, rfl, rfl, _, _, rfl, rfl, mulOk (by omega) (by omega), .inl ⟨_, rfl, _, _, rfl, rfl, (by show (0 : Int) < 2305843009213693907; decide), ?_⟩⟩⟩
      generalize x * (x % 10009 + 89 * (c + 1)) % 2305843009213693907 = y
      refine ⟨_, rfl, _, _, rfl, rfl, ⟨by decide, by decide⟩, .inl ⟨_, rfl, _, rfl, _, _, rfl, rfl, u0, ?_⟩⟩
      refine k _ _ (Int.emod_nonneg _ (by omega)) (Int.emod_lt_of_pos _ u0) (drew_of (fun q o nq e => ?_) hp' a0 b0 b1 (by omega) (by omega))
      rw [upd_ne (ne_of_none e hl0), upd_ne nq]
      exact e
theorem cal_take (D : Df K mg "_law_take" sLawTake) (T : Bi mg) : Cal P w K mg base 1 "_law_take" spTake :=
  D.cal _ (fun _ _ F => ok_take F T) fun _ _ _ _ _ _ us hl => match us, hl with | [_, _], _ => rfl
theorem scLawPot : FnScope ["script", "place", "cell", "own", "small"] ["script", "place"] (defScope sLawPot) := ⟨rfl, rfl, rfl, by decide +kernel, rfl, by decide +kernel, by decide +kernel⟩
theorem ok_pot {f : Addr} {fd : FuncData} (F : Fun K "_law_pot" "_law_pot" sLawPot f fd) (T : Bi mg) : FnOk P w K mg base CX0 1 f fd ["script", "place"] (spPot K) := by
  refine F.ok scLawPot (fun vs H Q E h => ?_) (fun cdv A outer s H vs Q E hr h => ?_)
  · obtain ⟨a, ns, j, rfl, _⟩ := h
    rfl
  · obtain ⟨a, ns, j, rfl, hS, hlen, j0, j1, k⟩ := h
    refine ⟨_, C8.pss_cut (ps_set (i := 2) scLawPot.nd rfl (Or.inl rfl) (pe_ifExp (pt_cmpR op_lt (pv 1) (pe_callB call_len_seq (by rfl) T.len PySem.boot_len (pa_cons (pv 0) pa_nil)) (nomark _)) (pe_ix ix_list (pv 0) (pv 1) (fun _ _ => rfl))
        (pe_op op_add (pe_op op_add (pe_op op_mod (pe_callB (cr_sum rfl) (by rfl) T.sum (by decide +kernel) (pa_cons (pe_slice sl_list (pv 0) po_none (po_some pe_int)) pa_nil)) pe_int) (pe_op op_mul pe_int (pv 1))) pe_int)))
      (pss_cons (ps_set (i := 3) scLawPot.nd rfl (Or.inl rfl) (pe_op op_mul (pe_op op_mod (pe_callTy call_int1 (by rfl) T.int (by decide +kernel) (pa_cons (pe_callB call_abs (by rfl) T.abs (by decide +kernel) (pa_cons (pv 2) pa_nil)) pa_nil)) (pe_op op_powW (pe_op op_powW pe_int pe_int) pe_int))
        (pe_callTy call_int1 (by rfl) T.int (by decide +kernel) (pa_cons (pe_cmpR op_ge (pe_callB call_abs (by rfl) T.abs (by decide +kernel) (pa_cons (pv 2) pa_nil)) (pe_op op_powW pe_int pe_int) (nomark _)) pa_nil))))
      (pss_cons (ps_set (i := 4) scLawPot.nd rfl (Or.inl rfl) (pe_op op_mod (pe_callTy call_int1 (by rfl) T.int (by decide +kernel) (pa_cons (pv 2) pa_nil)) pe_int))
      (pss_one (ps_ret (pe_lst (pa_cons (pv 3) (pa_cons (pe_op op_mod (pe_callTy call_int1 (by rfl) T.int (by decide +kernel) (pa_cons
        (pe_op op_add (pe_op op_add (pe_op op_mul (pv 4) pe_int) (pe_op op_mul (pe_op op_mul pe_int (pv 1)) (pv 1))) pe_int) pa_nil)) pe_int) (pa_cons pe_int pa_nil)))))))), ?_⟩
    refine ⟨fun σ' H' => ∃ z : Int, σ' = [some (V.ref a), some (V.int j), some (V.int z), none, none] ∧ Same H H', ?_, ?_⟩
    · refine ⟨_, rfl, _, rfl, a, _, rfl, .inl hS, _, _, rfl, rfl, _, rfl, ?_⟩
      refine ite2 (fun g => ?_) (fun g => ?_)
      · have g' : j < (((ns.map V.int).length : Nat) : Int) := of_decide_eq_true g
        rw [List.length_map] at g'
        have hj : j.toNat < ns.length := by omega
        exact ⟨_, rfl, _, rfl, a, _, _, V.int ns[j.toNat], rfl, rfl, hS, at_of (j := j.toNat) (by omega) (by rw [List.getElem?_map, List.getElem?_eq_getElem hj]; rfl), _, rfl, .refl _⟩
      · refine ⟨_, rfl, _, rfl, a, _, rfl, hS, fun l hl => ?_⟩
        have e : cutV (ns.map V.int) Option.none (some 1) = (ns.take 1).map V.int := by
          rw [List.map_take]
          exact cut_to _ 1
        exact ⟨l, _, rfl, SqL.of (by rw [upd_same, e]), _, _, rfl, rfl, (by show (0 : Int) < 1000003; decide), _, rfl, _, _, rfl, rfl, mulOk (by decide) (by decide), _, _, rfl, rfl, _, _, rfl, rfl, _, rfl, Same.new hl⟩
    · rintro σ' H1 ⟨z, rfl, sm⟩
      refine ⟨_, rfl, _, rfl, .inl ⟨_, rfl, _, _, rfl, rfl, ⟨by decide, by decide⟩, _, _, rfl, rfl, ⟨by decide, by decide +kernel⟩, _, _, rfl, rfl, (by show (0 : Int) < (10 ^ (60 : Int).toNat) ^ (5 : Int).toNat; decide +kernel), ?_⟩⟩
      refine ⟨_, rfl, _, rfl, _, _, rfl, rfl, ⟨by decide, by decide⟩, _, _, rfl, rfl, .inr ⟨_, rfl, _, _, rfl, rfl, mulBit, ?_⟩⟩
      refine ⟨_, rfl, .inl ⟨_, rfl, _, _, rfl, rfl, (by show (0 : Int) < 2305843009213693951; decide), ?_⟩⟩
      have m0 := Int.emod_nonneg z (show (2305843009213693951 : Int) ≠ 0 by decide)
      have m1 := Int.emod_lt_of_pos z (show (0 : Int) < 2305843009213693951 by decide)
      have own0 := own_bound (x := if z < 0 then -z else z) (c := decide ((10 : Int) ^ (18 : Int).toNat ≤ (if z < 0 then -z else z))) (show (0 : Int) < (10 ^ (60 : Int).toNat) ^ (5 : Int).toNat by decide +kernel)
      refine ⟨_, rfl, _, rfl, _, _, rfl, rfl, mulOk (by omega) (by omega), _, rfl, _, _, rfl, rfl, mulOk (by decide) (by decide), _, rfl, _, _, rfl, rfl, .inr ⟨by omega, by omega⟩, _, _, rfl, rfl, _, _, rfl, rfl, .inl ⟨_, rfl, _, _, rfl, rfl, (by show (0 : Int) < 2305843009213693921; decide), ?_⟩⟩
      refine ⟨by show 3 ≤ sizeLine; decide, fun l hl => ?_⟩
      generalize z % 2305843009213693951 * 73215 + 8136 * j * j + 538 = y
      exact k l _ (sm.free hl) (Same.trans sm (Same.new hl)) ⟨_, y % 2305843009213693921, 0, upd_same, own0, Int.emod_nonneg _ (by decide), by
        have := Int.emod_lt_of_pos y (show (0 : Int) < 2305843009213693921 by decide)
        omega, by decide, by decide⟩
theorem cal_pot (D : Df K mg "_law_pot" sLawPot) (T : Bi mg) : Cal P w K mg base 1 "_law_pot" (spPot K) :=
  D.cal _ (fun _ _ F => ok_pot F T) fun _ _ _ _ _ _ us hl => match us, hl with | [_, _], _ => rfl
theorem scLawCells : FnScope ["script", "most"] ["script", "most"] (defScope sLawCells) := ⟨rfl, rfl, rfl, by decide +kernel, rfl, by decide +kernel, by decide +kernel⟩
theorem ok_cells {most : Int} (h1 : 1 ≤ most) (h2 : most ≤ 60) {f : Addr} {fd : FuncData} (F : Fun K "_law_cells" "_law_cells" sLawCells f fd) (T : Bi mg) : FnOk P w K mg base CX0 1 f fd ["script", "most"] (spCells K most) := by
  refine F.ok scLawCells (fun vs H Q E h => ?_) (fun cdv A outer s H vs Q E hr h => ?_)
  · obtain ⟨a, ns, rfl, _⟩ := h
    rfl
  · obtain ⟨a, ns, rfl, hS, hlen, k⟩ := h
    refine ⟨_, pss_one (ps_ret (pe_listRg rfl (by rfl) T.list (prg_1 (by rfl) T.range (pe_callB (call_max2 rfl) (by rfl) T.max (by decide +kernel) (pa_cons pe_int (pa_cons
      (pe_callB (call_min2 rfl) (by rfl) T.min (by decide +kernel) (pa_cons (pv 1) (pa_cons (pe_callB call_len_seq (by rfl) T.len PySem.boot_len (pa_cons (pv 0) pa_nil)) pa_nil))) pa_nil)))))), ?_⟩
    refine ⟨_, rfl, _, rfl, a, _, rfl, .inl hS, _, _, rfl, _, _, rfl, _, rfl, ?_⟩
    generalize hn : (if (if (((ns.map V.int).length : Nat) : Int) < most then (((ns.map V.int).length : Nat) : Int) else most) > 1 then (if (((ns.map V.int).length : Nat) : Int) < most then (((ns.map V.int).length : Nat) : Int) else most) else 1) = n
    have n0 : 1 ≤ n := by omega
    have n1 : n ≤ most := by omega
    refine ⟨.of_le (by decide) (by omega) (by decide) (by omega), fun l hl => ?_⟩
    have q := k n.toNat l (by omega) (by omega) hl
    have e : rgV 0 n = (List.range n.toNat).map fun k => V.int (k : Nat) := by
      unfold rgV
      rw [Int.sub_zero]
      refine congrArg (fun g => List.map g (List.range n.toNat)) (funext fun i => ?_)
      rw [Int.zero_add]
    rw [e]
    exact q
theorem cal_cells {most : Int} (h1 : 1 ≤ most) (h2 : most ≤ 60) (D : Df K mg "_law_cells" sLawCells) (T : Bi mg) : Cal P w K mg base 1 "_law_cells" (spCells K most) :=
  D.cal _ (fun _ _ F => ok_cells h1 h2 F T) fun _ _ _ _ _ _ us hl => match us, hl with | [_, _], _ => rfl

end
end L77
end
section
set_option Elab.async false
set_option linter.all false
set_option maxRecDepth 100000
set_option autoImplicit false
set_option maxHeartbeats 1000000
namespace L77
open PySem L2 Vb Vd
theorem scLawOf : FnScope ["pot", "some"] ["pot", "some"] (defScope sLawOf) := ⟨rfl, rfl, rfl, by decide +kernel, rfl, by decide +kernel, by decide +kernel⟩
theorem len_items {s : D} {xs : List D} (h : itemsD s = some xs) : fLen [s] = some (.int ((xs.length : Nat) : Int)) := by
  cases s with
  | lst ys => cases h; rfl
  | tup ys => cases h; rfl
  | str z =>
    obtain ⟨l, rfl⟩ : z.length ≤ sizeLine ∧ (z.cps.toList.map fun c => D.str ⟨#[c]⟩) = xs := by
      have h : (if z.length ≤ sizeLine then some (z.cps.toList.map fun c => D.str ⟨#[c]⟩) else none) = some xs := h
      by_cases l : z.length ≤ sizeLine
      · rw [if_pos l] at h
        exact ⟨l, Option.some.inj h⟩
      · rw [if_neg l] at h
        cases h
    rw [fLen_str l, List.length_map, ← len_cps]
  | _ => cases h
theorem ix_items {s : D} {xs : List D} (h : itemsD s = some xs) {i : Nat} {d : D} (hd : xs[i]? = some d) : fIx s (.int (i : Int)) = some d := by
  cases s with
  | lst ys => cases h; exact atI_nat hd
  | tup ys => cases h; exact atI_nat hd
  | str z =>
    obtain ⟨l, rfl⟩ : z.length ≤ sizeLine ∧ (z.cps.toList.map fun c => D.str ⟨#[c]⟩) = xs := by
      have h : (if z.length ≤ sizeLine then some (z.cps.toList.map fun c => D.str ⟨#[c]⟩) else none) = some xs := h
      by_cases l : z.length ≤ sizeLine
      · rw [if_pos l] at h
        exact ⟨l, Option.some.inj h⟩
      · rw [if_neg l] at h
        cases h
    rw [List.getElem?_map] at hd
    obtain ⟨c, hc, rfl⟩ := Option.map_eq_some_iff.mp hd
    show (if z.length ≤ sizeLine then (atI z.cps.toList (i : Int)).map fun c => D.str ⟨#[c]⟩ else none) = _
    rw [if_pos l, atI_nat hc]
    rfl
  | _ => cases h
theorem calLawOf {P : Program} {w : World} {K : PySem.W.Frag} {mg : Str → Option Value} {base : Heap} (D : Df K mg "_law_of" sLawOf) (T : Bi mg) (G : Gi mg) (cT : Cal P w K mg base 1 "_law_take" (spD K fTake)) : Cal P w K mg base 2 "_law_of" (spD K fOf) :=
  D.cal ["pot", "some"] (fun f fd Fu => Fun.okD Fu scLawOf (fun ds m Q h => by obtain ⟨_, _, _, rfl, _⟩ := h; rfl) (fun cdv A outer s H E hr =>
  dss_one (ds_ret (de_ix ix_seq s_ix (dv 1) (de_c mn_take cT hr (by decide) rfl (da_cons (dv 0) (da_cons (de_callB call_len s_len (by rfl) T.len (by decide +kernel) (da_cons (dv 1) da_nil)) da_nil))) (fun _ _ => rfl)))) (fun ds m Q h => by
    obtain ⟨s, xs, n, rfl, hi, h0, h1, rfl, q⟩ := h
    simp [sPar, sPar3, sSeq, sNil, sIf, sRet, sAsg, sDrop, sFrz, sApp, sExt, sOwn, dOr, dAnd, dNot, dTst, dTru, tru, dIf, dAndV, dOrV, dNotV, dChain, dCall, dOp2, dOp1, dMt, dMt0, dCal, dVar, dC, dTup, dLst, dSl, oNone, oSome, aCons, aNil, fName, fTup, fCons, fNil, startR, TyD, dBor, dBorE, dYes, fIsi, tyN, isTab, fMtB, fI, fI0, fIs, fIsnt, isN, fTupOf, fLstOf, fNeg, fEq_int, fEq_str, fNe_int, fNe_str, fLen_lst, fLen_tup, fAll_bls, fAdd_int, fInt_int, ixl0, ixl1, ixl2, sll1, sll2]
    refine ⟨_, len_items hi, _, n, rfl, rfl, by omega, by omega, fun d d0 d1 => ?_⟩
    obtain ⟨j, rfl⟩ : ∃ j : Nat, d = (j : Int) := ⟨d.toNat, by omega⟩
    have hj : j < xs.length := by omega
    exact ⟨_, ix_items hi (List.getElem?_eq_getElem hj), q _ (List.getElem_mem hj)⟩)) fun _ _ _ _ _ _ us hl => match us, hl with | [_, _], _ => rfl
end L77
end
section
set_option Elab.async false
set_option linter.all false
set_option maxRecDepth 100000
set_option autoImplicit false
set_option maxHeartbeats 1000000
namespace L77
open PySem L2 Vb Vd
theorem scLawNames : FnScope ["pot", "many", "found", "signs", "lap", "word", "sign", "some", "one"] ["pot", "many"] (defScope sLawNames) := ⟨rfl, rfl, rfl, by decide +kernel, rfl, by decide +kernel, by decide +kernel⟩
/-- a name that is not the one that the law keeps out -/
def T5 (z : Str) : Prop := z.length = 5 → z.cps.toList.drop 1 = [114, 114, 111, 119]
def NmB (z : Str) : Prop := IsNm z ∧ T5 z
theorem NmB.no {z : Str} (h : NmB z) : z ≠ "nobox" := by
  rintro rfl
  have := h.2 (by decide +kernel)
  revert this
  decide +kernel
theorem cand_t5 {w z : Str} (h : T5 w) (hw : IsNm w) (hz : z ∈ candS w) : T5 z := by
  unfold candS at hz
  rcases List.mem_cons.mp hz with rfl | hz
  · exact h
  · obtain ⟨c, hc, rfl⟩ := List.mem_map.mp hz
    have e : (⟨#[c]⟩ ++ tailS w : Str).cps.toList = c :: w.cps.toList.drop 1 := by
      show ((#[c] ++ (tailS w).cps).toList) = _
      rw [Array.toList_append]
      rfl
    have l1 : w.length = w.cps.toList.length := len_cps w
    have l2 : (⟨#[c]⟩ ++ tailS w : Str).length = (⟨#[c]⟩ ++ tailS w : Str).cps.toList.length := len_cps _
    intro l5
    rw [e] at l2 ⊢
    rw [List.length_cons, List.length_drop] at l2
    exact h (by have := hw.2.1; omega)
/-- one name's first word -/
def tWord : TD := dMt "str" fJoin (dC (.str "")) (aCons (dLc (dRg1 (aCons (dOp2 fAdd (dC (.int 1)) (dCal fOf (aCons (dVar 0) (aCons (dLst (aCons (dC (.int 0)) (aCons (dC (.int 0)) (aCons (dC (.int 0)) (aCons (dC (.int 1)) (aCons (dC (.int 2)) (aCons (dC (.int 7)) aNil))))))) aNil)))) aNil)) (fName 6) dYes (dCal fOf (aCons (dVar 0) (aCons (dVar 3) aNil))) [6]) aNil)
theorem word_draw {ρ : Rho} {m : Nat} {Q : D → Nat → Prop} (l : ρ.length = 9) (e0 : ρ[0]? = some (some (.d .pot))) (e3 : ρ[3]? = some (some (.d (.str lettersS)))) (hm : 9 ≤ m) (q : ∀ z m', NmB z → m ≤ m' + 9 → Q (.str z) m') : tWord ρ m Q := by
  obtain ⟨n, rfl⟩ : ∃ n, m = n + 1 := ⟨m - 1, by omega⟩
  refine ⟨rfl, _, e0, by decide, _, _, n, rfl, rfl, by decide, by decide, rfl, fun d hd => ?_⟩
  obtain ⟨k, rfl, hk⟩ : ∃ k : Nat, d = .int (k : Int) ∧ (k ≤ 7 ∧ k ≠ 4) := by
    simp only [List.mem_cons, List.not_mem_nil, or_false] at hd
    rcases hd with rfl | rfl | rfl | rfl | rfl | rfl
    · exact ⟨0, rfl, by omega⟩
    · exact ⟨0, rfl, by omega⟩
    · exact ⟨0, rfl, by omega⟩
    · exact ⟨1, rfl, by omega⟩
    · exact ⟨2, rfl, by omega⟩
    · exact ⟨7, rfl, by omega⟩
  obtain ⟨hk, hk4⟩ := hk
  refine ⟨_, rfl, _, rfl, by omega, by omega, ?_⟩
  have hl : (rgD 0 (1 + (k : Int))).length = k + 1 := by
    unfold rgD
    rw [List.length_map, List.length_range]
    omega
  refine lc_draw (P := fun y => ∃ c, y = .str ⟨#[c]⟩ ∧ (97 ≤ c ∧ c ≤ 122)) (B := 1) _ _ _ _ (fun x _ => ⟨_, rfl, fun m2 R h1 r => ?_⟩) (by rw [hl]; exact Nat.le_trans (show 0 + (k + 1) ≤ 10 by omega) (by decide)) (by rw [hl]; omega) (fun _ h => nomatch h) fun ys m' h1 h2 h3 => ?_
  · obtain ⟨n2, rfl⟩ : ∃ n2, m2 = n2 + 1 := ⟨m2 - 1, by omega⟩
    refine ⟨_, by simpa [wipeR, List.getElem?_set] using e0, _, by simpa [wipeR, List.getElem?_set] using e3, _, _, n2, rfl, letters_items, by rw [letters_signs]; decide, by rw [letters_signs]; decide, rfl, fun d hd => r d n2 ?_ (by omega)⟩
    rw [letters_signs] at hd
    obtain ⟨c, hc, rfl⟩ := List.mem_map.mp hd
    exact ⟨c, rfl, letters_mem hc⟩
  · obtain ⟨cs, rfl, hcs⟩ := signs_of h2
    rw [hl] at h1 h3
    rw [List.length_map, List.length_nil] at h1
    exact ⟨_, fJoin_signs (by omega), q _ _ ⟨ofL_nm hcs (by omega) (by omega), fun l5 => by rw [ofL_len] at l5; omega⟩ (by omega)⟩
theorem any_has {found : List Str} {z : Str} : ((found.map D.str).any fun y => eqF y (.str z)) = found.contains z := by
  induction found with
  | nil => rfl
  | cons a found ih =>
    rw [List.map_cons, List.any_cons, ih, List.contains_cons]
    show ((a == z) || _) = ((z == a) || _)
    rw [BEq.comm]
/-- the candidates, those that are not found yet -/
def tSome : TD := dLc (dSeqL (dOp2 fAdd (dLst (aCons (dVar 5) aNil)) (dLc (dSigns (dVar 3)) (fName 6) dYes (dOp2 fAdd (dVar 6) (dSl fSl (dVar 5) (oSome (dC (.int 1))) oNone)) [6]))) (fName 8) (dBor 2 (dTst (dOp2 (fIn true) (dVar 8) (dVar 2)))) (dVar 8) [8]
theorem some_of {ρ : Rho} {m : Nat} {Q : D → Nat → Prop} {a : Addr} {found : List Str} {w : Str} (l : ρ.length = 9) (e2 : ρ[2]? = some (some (.own a (found.map .str)))) (e3 : ρ[3]? = some (some (.d (.str lettersS)))) (e5 : ρ[5]? = some (some (.d (.str w)))) (hw : IsNm w)
    (q : Q (.lst (((candS w).filter fun z => !found.contains z).map .str)) m) : tSome ρ m Q := by
  have hw8 : w.length ≤ sizeLine := Nat.le_trans hw.2.2 (by decide)
  refine ⟨_, e5, (by show 1 ≤ sizeLine; decide), _, e3, _, rfl, ?_⟩
  refine lc_map (f := fName 6) (vs := [6]) (ρ := ρ) (g := fun y => match y with | .str z => .str (z ++ tailS w) | y => y) (signsD lettersS) [] (fun x hx => ⟨_, rfl, fun R r => ?_⟩) (by rw [letters_signs]; decide) ?_
  · rw [letters_signs] at hx
    obtain ⟨c, hc, rfl⟩ := List.mem_map.mp hx
    refine ⟨_, by simp [wipeR, List.getElem?_set, l], _, by simpa [wipeR, List.getElem?_set] using e5, 1, rfl, _, sls1 hw8, _, fAdd_str ?_, r⟩
    have : (tailS w).length ≤ 8 := by
      unfold tailS
      rw [ofL_len, List.length_drop, ← len_cps]
      have := hw.2.2
      omega
    have one : (⟨#[c]⟩ : Str).length = 1 := rfl
    rw [one]
    exact Nat.le_trans (show 1 + (tailS w).length ≤ 9 by omega) (by decide)
  · have e : (([.str w] : List D) ++ ([] ++ (signsD lettersS).map fun y => match y with | .str z => .str (z ++ tailS w) | y => y)) = (candS w).map .str := by
      rw [letters_signs, List.nil_append, List.map_map]
      unfold candS
      rw [List.map_cons, List.map_map]
      rfl
    refine ⟨_, fAdd_lst ?_, _, rfl, ?_⟩
    · rw [List.nil_append, List.length_map, letters_signs]
      show 1 + 26 ≤ sizeLine
      decide
    · rw [e]
      refine lc_pure (f := fName 8) (vs := [8]) (ρ := ρ) (g := id) (p := fun y => match y with | .str z => !found.contains z | _ => false) _ _ (fun x hx => ⟨_, rfl, fun R r => ?_⟩) (fun ρ m Q Q' w ⟨x, ds, e, q⟩ => ⟨x, ds, e, mn_tst (mn_op2 mn_var mn_var) _ _ _ _ w q⟩) ?_ ?_
      · obtain ⟨z, hz, rfl⟩ := List.mem_map.mp hx
        have fl : (found.map D.str).all flatD = true := by
          rw [List.all_map, List.all_eq_true]
          exact fun _ _ => rfl
        have l2 : 2 < ρ.length := by omega
        refine ⟨a, found.map .str, by simpa [wipeR, List.getElem?_set] using e2, .str z, by simp [wipeR, List.getElem?_set, l], .lst (found.map .str), by simp [wipeR, List.getElem?_set, l], _, fNotIn_lst rfl fl, _, rfl, ⟨by rw [any_has], rfl⟩, fun hp => ⟨.str z, by simp [wipeR, List.getElem?_set, l], r hp⟩⟩
      · rw [List.length_map]
        show 0 + 27 ≤ sizeLine
        decide
      · rw [List.nil_append, List.map_id, List.filter_map]
        exact q
def tSpecial : TD := dCal fOf (aCons (dVar 0) (aCons (dLst (aCons (dC (.str "places")) (aCons (dC (.str "mark")) (aCons (dC (.str "arrow")) (aCons (dC (.str "let")) (aCons (dC (.str "take")) (aCons (dC (.str "way")) (aCons (dC (.str "not")) aNil)))))))) aNil))
theorem special_nm : ∀ d ∈ ([.str "places", .str "mark", .str "arrow", .str "let", .str "take", .str "way", .str "not"] : List D), ∃ z, d = .str z ∧ NmB z := by
  have h : ∀ z ∈ (["places", "mark", "arrow", "let", "take", "way", "not"] : List Str), NmB z := by
    unfold NmB IsNm T5
    decide +kernel
  intro d hd
  have e : ([.str "places", .str "mark", .str "arrow", .str "let", .str "take", .str "way", .str "not"] : List D) = (["places", "mark", "arrow", "let", "take", "way", "not"] : List Str).map .str := rfl
  rw [e] at hd
  obtain ⟨z, hz, rfl⟩ := List.mem_map.mp hd
  exact ⟨z, rfl, h z hz⟩
def tLap : TSD := sSeq (sAsg tWord (fName 5)) (sSeq (sIf (dTst (dOp2 fEq (dCal fTake (aCons (dVar 0) (aCons (dC (.int 11)) aNil))) (dC (.int 0)))) (sAsg tSpecial (fName 5)) sNil) (sSeq (sAsg tSome (fName 7)) (sApp 2 (dOp2 fIx (dVar 7) (dC (.int 0))))))
theorem laps_walk {a : Addr} {D0 : Ed} : ∀ (xs : List D) (found : List Str) (ρ : Rho) (m : Nat), found.length + xs.length ≤ 25 → found.Nodup → (∀ z ∈ found, NmB z) → ρ.length = 9 → ρ[0]? = some (some (.d .pot)) → ρ[2]? = some (some (.own a (found.map .str))) → ρ[3]? = some (some (.d (.str lettersS))) → 11 * xs.length ≤ m →
    (∀ ρ' m' (names : List Str), ρ'[2]? = some (some (.own a (names.map .str))) → names.length = found.length + xs.length → names.Nodup → (∀ z ∈ names, NmB z) → m ≤ m' + 11 * xs.length → D0.nx ρ' m') → flD (fName 4) tLap D0 xs ρ m := by
  intro xs
  induction xs with
  | nil => exact fun found ρ m _ hn hz _ _ e2 _ _ q => q ρ m found e2 rfl hn hz (by simp)
  | cons x xs ih =>
    intro found ρ m hf hn hz l e0 e2 e3 hm q
    rw [List.length_cons] at hf hm q
    refine ⟨_, rfl, ?_⟩
    refine word_draw (by simp [l]) (by simpa [List.getElem?_set] using e0) (by simpa [List.getElem?_set] using e3) (by omega) fun w m1 hw h1 => ?_
    refine ⟨_, rfl, ?_⟩
    have tail : ∀ (ρ3 : Rho) (m3 : Nat) (w : Str), NmB w → ρ3.length = 9 → ρ3[0]? = some (some (.d .pot)) → ρ3[2]? = some (some (.own a (found.map .str))) → ρ3[3]? = some (some (.d (.str lettersS))) → ρ3[5]? = some (some (.d (.str w))) → m ≤ m3 + 11 →
        (sSeq (sAsg tSome (fName 7)) (sApp 2 (dOp2 fIx (dVar 7) (dC (.int 0))))) { nx := flD (fName 4) tLap D0 xs, ct := flD (fName 4) tLap D0 xs, bk := D0.nx, rt := D0.rt } ρ3 m3 := by
      intro ρ3 m3 w hw l3 f0 f2 f3 f5 h3
      unfold sSeq sAsg
      refine some_of l3 f2 f3 f5 hw.1 ?_
      cases hs : (candS w).filter fun z => !found.contains z with
      | nil => exact absurd hs (cand_new (by omega))
      | cons y ys =>
        have hy : y ∈ (candS w).filter fun z => !found.contains z := by rw [hs]; exact List.mem_cons_self
        obtain ⟨y1, y2⟩ := List.mem_filter.mp hy
        have y2 : y ∉ found := by simpa using y2
        refine ⟨_, rfl, a, found.map .str, by simpa [List.getElem?_set] using f2, .lst ((y :: ys).map .str), by simp [List.getElem?_set, l3], _, ixl0, ?_, ?_⟩
        · rw [List.length_map]
          exact Nat.lt_of_lt_of_le (show found.length < 100 by omega) (by decide)
        · have e : found.map D.str ++ [.str y] = (found ++ [y]).map .str := by rw [List.map_append]; rfl
          rw [e]
          refine ih (found ++ [y]) _ m3 (by rw [List.length_append, List.length_singleton]; omega) (List.nodup_append.mpr ⟨hn, by simp, fun b hb c hc => ?_⟩) (fun z h => ?_) (by simp [l3]) (by simpa [List.getElem?_set] using f0) (by simp [List.getElem?_set, l3]) (by simpa [List.getElem?_set] using f3) (by omega) fun ρ' m' names g1 g2 g3 g4 g5 => q ρ' m' names g1 (by rw [g2, List.length_append, List.length_singleton]; omega) g3 g4 (by omega)
          · rw [List.mem_singleton.mp hc]
            exact fun z => y2 (z ▸ hb)
          · rcases List.mem_append.mp h with h | h
            · exact hz z h
            · rw [List.mem_singleton.mp h]
              exact ⟨cand_nm hw.1 y1, cand_t5 hw.2 hw.1 y1⟩
    obtain ⟨n1, rfl⟩ : ∃ n1, m1 = n1 + 1 := ⟨m1 - 1, by omega⟩
    refine ⟨_, by simpa [List.getElem?_set] using e0, _, n1, rfl, rfl, by decide, by decide, fun d d0 d1 => ?_⟩
    refine ⟨_, fEq_int, _, rfl, ?_⟩
    by_cases hd : d = 0
    · rw [decide_eq_true hd]
      obtain ⟨n2, rfl⟩ : ∃ n2, n1 = n2 + 1 := ⟨n1 - 1, by omega⟩
      refine ⟨_, by simpa [List.getElem?_set] using e0, (by show 7 ≤ sizeLine; decide), _, _, n2, rfl, rfl, (by show 0 < 7; decide), (by show 7 < 1073741824; decide), rfl, fun d hd => ?_⟩
      obtain ⟨z, rfl, hz'⟩ := special_nm d hd
      exact ⟨_, rfl, tail _ _ z hz' (by simp [l]) (by simpa [List.getElem?_set] using e0) (by simpa [List.getElem?_set] using e2) (by simpa [List.getElem?_set] using e3) (by simp [List.getElem?_set, l]) (by omega)⟩
    · rw [decide_eq_false hd]
      exact tail _ _ w hw (by simp [l]) (by simpa [List.getElem?_set] using e0) (by simpa [List.getElem?_set] using e2) (by simpa [List.getElem?_set] using e3) (by simp [List.getElem?_set, l]) (by omega)
def FLawNames : FD := fun ds m Q => ∃ many : Nat, ds = [.pot, .int (many : Int)] ∧ many ≤ 25 ∧ 11 * many ≤ m ∧ ∀ (names : List Str) m', names.length = many → names.Nodup → (∀ z ∈ names, NmB z) → m ≤ m' + 11 * many → Q (.lst (names.map .str)) m'
theorem mnLawNames : MnF FLawNames := fun ds m Q Q' w ⟨a, h1, h2, h3, q⟩ => ⟨a, h1, h2, h3, fun n m' g1 g2 g3 g4 => w _ _ (q n m' g1 g2 g3 g4)⟩
theorem calLawNames {P : Program} {w : World} {K : PySem.W.Frag} {mg : Str → Option Value} {base : Heap} (D : Df K mg "_law_names" sLawNames) (T : Bi mg) (G : Gi mg) (cT : Cal P w K mg base 1 "_law_take" (spD K fTake)) (cO : Cal P w K mg base 2 "_law_of" (spD K fOf)) : Cal P w K mg base 3 "_law_names" (spD K FLawNames) :=
  D.cal ["pot", "many"] (fun f fd Fu => Fun.okD Fu scLawNames (fun ds m Q h => by obtain ⟨_, rfl, _⟩ := h; rfl) (fun cdv A outer s H E hr =>
  dss_cons (ds_own2 rfl (pg_name (i := 2) scLawNames.nd rfl (by first | exact Or.inl rfl | exact Or.inr rfl)) (pg_name (i := 3) scLawNames.nd rfl (by first | exact Or.inl rfl | exact Or.inr rfl)) da_nil de_str)
    (dss_cons (ds_loop PassesOwn.never rfl (di_rg1 (by rfl) T.range (da_cons (dv 1) da_nil)) (pg_name (i := 4) scLawNames.nd rfl (by first | exact Or.inl rfl | exact Or.inr rfl)) gs_name
      (dss_cons (ds_set (i := 5) scLawNames.nd rfl (by first | exact Or.inl rfl | exact Or.inr rfl) (de_m PySem.F.plainAttrs_str PySem.F.slot_str_join PySem.F.type_str_join mt_join s_join de_str (da_cons (de_comp (own := [("sign", 6)]) rfl scLawNames.nd (di_rg1 (by rfl) T.range (da_cons (de_op op_addA s_add de_int (de_c mn_of cO hr (by decide) rfl (da_cons (dv 0) (da_cons (de_lst (da_cons de_int (da_cons de_int (da_cons de_int (da_cons de_int (da_cons de_int (da_cons de_int da_nil))))))) da_nil)))) da_nil)) (blkOk_by (N := ["pot", "many", "found", "signs", "lap", "word", "sign", "some", "one"]) (sc := defScope sLawNames) (by decide +kernel)) gs_name (by decide) (fun _ _ _ _ _ => (pg_name (i := 6) scLawNames.nd rfl (by first | exact Or.inl rfl | exact Or.inr rfl))) (fun _ _ _ _ _ => dts_nil) (fun _ _ _ _ _ => (de_c mn_of cO hr (by decide) rfl (da_cons (dv 0) (da_cons (dv 3) da_nil))))) da_nil)))
    (dss_cons (ds_if (dt_cmp op_eq s_eq (de_c mn_take cT hr (by decide) rfl (da_cons (dv 0) (da_cons de_int da_nil))) de_int (nomark _))
      (dss_one (ds_set (i := 5) scLawNames.nd rfl (by first | exact Or.inl rfl | exact Or.inr rfl) (de_c mn_of cO hr (by decide) rfl (da_cons (dv 0) (da_cons (de_lst (da_cons de_str (da_cons de_str (da_cons de_str (da_cons de_str (da_cons de_str (da_cons de_str (da_cons de_str da_nil)))))))) da_nil)))))
      (dss_nil))
    (dss_cons (ds_comp (i := 7) (tT := lfT K _) (own := [("one", 8)]) rfl scLawNames.nd rfl rfl (sw_true rfl rfl rfl (by decide +kernel)) (di_list (de_op op_addA s_add (de_lst (da_cons (dv 5) da_nil)) (de_comp (own := [("sign", 6)]) rfl scLawNames.nd (di_str (dv 3)) (blkOk_by (N := ["pot", "many", "found", "signs", "lap", "word", "sign", "some", "one"]) (sc := defScope sLawNames) (by decide +kernel)) gs_name (by decide) (fun _ _ _ _ _ => (pg_name (i := 6) scLawNames.nd rfl (by first | exact Or.inl rfl | exact Or.inr rfl))) (fun _ _ _ _ _ => dts_nil) (fun _ _ _ _ _ => (de_op op_addA s_add (dv 6) (de_slice sl_all s_sl (dv 5) (do_some de_int) do_none)))))) (blkOk_by (N := ["pot", "many", "found", "signs", "lap", "word", "sign", "some", "one"]) (sc := defScope sLawNames) (by decide +kernel)) gs_name (by decide) (fun _ _ _ _ _ => (pg_name (i := 8) scLawNames.nd rfl (by first | exact Or.inl rfl | exact Or.inr rfl))) (fun _ _ _ _ _ => (dts_one (dt_bor 2 (dt_cmp op_notIn_seq (s_in true) (dv 8) (dv 2) (by rfl))))) (fun _ _ _ _ _ => (dv 8)))
    (dss_one (ds_app (i := 2) (pv 2) (de_ix ix_seq s_ix (dv 7) de_int (fun _ _ => rfl))))))))
    (dss_frz 2 (dss_one (ds_ret (dv 2)))))) (fun ds m Q h => by
    obtain ⟨many, rfl, h1, h2, q⟩ := h
    refine ⟨Nat.zero_le _, (by show 2 < 9; decide), fun a na => ?_⟩
    have hl : (rgD 0 (many : Int)).length = many := by
      unfold rgD
      rw [List.length_map, List.length_range]
      omega
    refine ⟨_, rfl, _, rfl, by omega, by omega, ?_⟩
    refine laps_walk _ [] _ m (by rw [hl, List.length_nil]; omega) List.nodup_nil (fun _ h => nomatch h) rfl rfl rfl rfl (by rw [hl]; exact h2) fun ρ' m' names g1 g2 g3 g4 g5 => ?_
    rw [hl] at g2 g5
    obtain ⟨l7, _⟩ := List.getElem?_eq_some_iff.mp g1
    exact ⟨a, _, g1, _, List.getElem?_set_self l7, q names m' (by rw [g2, List.length_nil, Nat.zero_add]) g3 g4 g5⟩)) fun _ _ _ _ _ _ us hl => match us, hl with | [_, _], _ => rfl
end L77
end
section
set_option Elab.async false
set_option linter.all false
set_option maxRecDepth 100000
set_option autoImplicit false
set_option maxHeartbeats 1000000
namespace L77
open PySem L2 Vb Vd
/-- what may stand behind a row's word, by its letter -/
def PartOk (c : Nat) (boxes : List Str) (room last : Nat) (d : D) : Prop := (∃ z, d = .str z ∧ ((c = 66 ∧ z ∈ boxes) ∨ (c = 78 ∧ IsNm z))) ∨ ∃ n : Nat, d = .int (n : Int) ∧ ((c = 75 ∧ n ≤ 999999999) ∨ (c = 81 ∧ n ≤ room) ∨ (c = 76 ∧ n ≤ last))
def txt : D → Str
  | .str z => z
  | .int i => numS i.toNat
  | _ => Str.empty
def AllParts (boxes : List Str) (room last : Nat) : List Nat → List D → Prop
  | [], [] => True
  | c :: cs, p :: ps => PartOk c boxes room last p ∧ AllParts boxes room last cs ps
  | _, _ => False
/-- a row as it is told: its word, its parts -/
def RowOk (boxes : List Str) (room last : Nat) (row : List D) : Prop := ∃ (z L : Str) (ps : List D), row = .str z :: ps ∧ lookD formsD (Sum.inr z) = some (.str L) ∧ L.length ≤ 4 ∧ AllParts boxes room last L.cps.toList ps
/-- a pile reader's row as it is told -/
def PRow (boxes : List Str) (room last : Nat) (row : List D) : Prop := ∃ (z L : Str) (ps : List D), row = .str z :: ps ∧ lookD pileD (Sum.inr z) = some (.str L) ∧ ps.length ≤ 4 ∧ (lettS L ps.length).length = ps.length ∧ AllParts boxes room last (lettS L ps.length).cps.toList ps
theorem AllParts.len {boxes : List Str} {room last : Nat} : ∀ {cs : List Nat} {ps : List D}, AllParts boxes room last cs ps → cs.length = ps.length
  | [], [], _ => rfl
  | _ :: _, _ :: _, h => congrArg (· + 1) (AllParts.len h.2)
  | [], _ :: _, h => h.elim
  | _ :: _, [], h => h.elim
theorem PartOk.tells {c : Nat} {boxes : List Str} {room last : Nat} {d : D} (h : PartOk c boxes room last d) (h1 : room ≤ 20) (h2 : last < 40000) : PartR boxes room last (txt d) c d ∧ d ≠ .non := by
  rcases h with ⟨z, rfl, ⟨rfl, h⟩ | ⟨rfl, h⟩⟩ | ⟨n, rfl, h⟩
  · exact ⟨.box h, fun z => nomatch z⟩
  · exact ⟨.name (isName_of h), fun z => nomatch z⟩
  · refine ⟨?_, fun z => nomatch z⟩
    have hn : n < 1000000000 := by omega
    have num : NumIn (txt (.int (n : Int))) (n : Int) := .num (n := n) (by show numS (n : Int).toNat = _; rw [Int.toNat_natCast]) hn
    rcases h with ⟨rfl, h⟩ | ⟨rfl, h⟩ | ⟨rfl, h⟩
    · exact .num (.inl ⟨rfl, rfl⟩) num (by omega) (by omega)
    · exact .num (.inr (.inl ⟨rfl, rfl⟩)) num (by omega) (by omega)
    · exact .num (.inr (.inr ⟨rfl, rfl⟩)) num (by omega) (by omega)
theorem AllParts.tells {boxes : List Str} {room last : Nat} (h1 : room ≤ 20) (h2 : last < 40000) : ∀ {cs : List Nat} {ps : List D}, AllParts boxes room last cs ps → PartsR boxes room last cs (ps.map txt) ps ∧ D.non ∉ ps
  | [], [], _ => ⟨.nil, fun z => nomatch z⟩
  | c :: cs, p :: ps, h => by
    obtain ⟨a, b⟩ := h.1.tells h1 h2
    obtain ⟨a', b'⟩ := AllParts.tells h1 h2 h.2
    exact ⟨.cons a a', fun z => (List.mem_cons.mp z).elim (fun z => b z.symm) b'⟩
  | [], _ :: _, h => h.elim
  | _ :: _, [], h => h.elim
theorem PRow.tells {boxes : List Str} {room last : Nat} {row : List D} (h : PRow boxes room last row) (h1 : room ≤ 20) (h2 : last < 40000) : RowR pileD boxes room last (row.map txt) (.tup row) := by
  obtain ⟨z, L, ps, rfl, hz, _, hl, hp⟩ := h
  obtain ⟨a, b⟩ := hp.tells h1 h2
  rw [List.map_cons]
  have e : (ps.map txt).length = ps.length := List.length_map _
  exact .row (z := z) (L := L) hz (by rw [e]; exact hl) (by rw [e]; exact a) b
theorem txt_part {c : Nat} {boxes : List Str} {room last : Nat} {d : D} (hb : ∀ z ∈ boxes, IsNm z) (h1 : room ≤ 20) (h2 : last < 40000) (h : PartOk c boxes room last d) : (txt d).length ≤ 9 ∧ ∀ x ∈ (txt d).cps.toList, 48 ≤ x ∧ x ≤ 122 := by
  rcases h with ⟨z, rfl, h⟩ | ⟨n, rfl, h⟩
  · have hz : IsNm z := by
      rcases h with ⟨_, h⟩ | ⟨_, h⟩
      · exact hb z h
      · exact h
    refine ⟨Nat.le_trans hz.2.2 (by decide), fun x hx => ?_⟩
    have := hz.1 x hx
    omega
  · have hn : n < 1000000000 := by omega
    refine ⟨num_len hn, fun x hx => ?_⟩
    have := num_cps x hx
    omega
theorem AllParts.txts {boxes : List Str} {room last : Nat} (hb : ∀ z ∈ boxes, IsNm z) (h1 : room ≤ 20) (h2 : last < 40000) : ∀ {cs : List Nat} {ps : List D}, AllParts boxes room last cs ps → ∀ d ∈ ps, (txt d).length ≤ 9 ∧ ∀ x ∈ (txt d).cps.toList, 48 ≤ x ∧ x ≤ 122
  | [], [], _, d, hd => nomatch hd
  | c :: cs, p :: ps, h, d, hd => by
    rcases List.mem_cons.mp hd with rfl | hd
    · exact txt_part hb h1 h2 h.1
    · exact AllParts.txts hb h1 h2 h.2 d hd
  | [], _ :: _, h, _, _ => h.elim
  | _ :: _, [], h, _, _ => h.elim
theorem pile_word {z L : Str} (h : lookD pileD (Sum.inr z) = some (.str L)) : z.length ≤ 9 ∧ ∀ c ∈ z.cps.toList, 97 ≤ c ∧ c ≤ 122 := by
  have all : ∀ p ∈ pileS, p.1.length ≤ 9 ∧ ∀ c ∈ p.1.cps.toList, 97 ≤ c ∧ c ≤ 122 := by decide +kernel
  obtain ⟨p, hp, rfl, _⟩ := look_kdS h
  exact all p hp
theorem PRow.txts {boxes : List Str} {room last : Nat} (hb : ∀ z ∈ boxes, IsNm z) (h1 : room ≤ 20) (h2 : last < 40000) {row : List D} (h : PRow boxes room last row) : row ≠ [] ∧ row.length ≤ 5 ∧ ∀ d ∈ row, (txt d).length ≤ 9 ∧ ∀ x ∈ (txt d).cps.toList, 48 ≤ x ∧ x ≤ 122 := by
  obtain ⟨z, L, ps, rfl, hz, h4, _, hp⟩ := h
  refine ⟨List.cons_ne_nil _ _, by rw [List.length_cons]; omega, fun d hd => ?_⟩
  rcases List.mem_cons.mp hd with rfl | hd
  · obtain ⟨a, b⟩ := pile_word hz
    refine ⟨a, fun x hx => ?_⟩
    have := b x hx
    omega
  · exact hp.txts hb h1 h2 d hd
theorem PRow.ws {boxes : List Str} {room last : Nat} (hb : ∀ z ∈ boxes, IsNm z) (h1 : room ≤ 20) (h2 : last < 40000) {row : List D} (h : PRow boxes room last row) : WsOk (row.map txt) := by
  obtain ⟨a, b, c⟩ := h.txts hb h1 h2
  refine ⟨fun e => a (List.map_eq_nil_iff.mp e), by rw [List.length_map]; omega, fun w hw => ?_⟩
  obtain ⟨d, hd, rfl⟩ := List.mem_map.mp hw
  obtain ⟨c1, c2⟩ := c d hd
  exact ⟨by omega, fun z => by have := c2 _ z; omega, fun z => by have := c2 _ z; omega⟩
/-- a drawn row without take, either is one of a pile reader -/
theorem row_pile {boxes : List Str} {room last : Nat} {row : List D} (h : RowOk boxes room last row) (n1 : ∀ ps, row ≠ .str "take" :: ps) (n2 : ∀ ps, row ≠ .str "either" :: ps) : PRow boxes room last row := by
  obtain ⟨z, L, ps, rfl, hz, h4, hp⟩ := h
  have all : ∀ p ∈ formsS, p.1 ≠ ("take" : Str) → p.1 ≠ ("either" : Str) → pileS.find? (fun q => decide (q.1 = p.1)) = some p ∧ Txt.endswith p.2 "M" = false := by decide +kernel
  obtain ⟨p, hp', rfl, e⟩ := look_kdS hz
  cases e
  obtain ⟨a1, a2⟩ := all p hp' (fun e => n1 ps (by rw [e])) (fun e => n2 ps (by rw [e]))
  have le : lettS p.2 ps.length = p.2 := by
    unfold lettS
    rw [a2, if_neg Bool.false_ne_true]
  have lk : lookD pileD (Sum.inr p.1) = some (.str p.2) := by
    unfold lookD pileD kdS
    rw [List.find?_map]
    have : ((fun kv : L2.Key × D => decide (kv.1 = Sum.inr p.1)) ∘ fun q : Str × Str => ((Sum.inr q.1 : L2.Key), D.str q.2)) = fun q => decide (q.1 = p.1) := funext fun q => by simp
    rw [this, a1]
    rfl
  have hl := hp.len
  have l2 : p.2.length = ps.length := by rw [← hl]; exact len_cps _
  exact ⟨p.1, p.2, ps, rfl, lk, by omega, by rw [le]; exact l2, by rw [le]; exact hp⟩
end L77
end
section
set_option Elab.async false
set_option linter.all false
set_option maxRecDepth 100000
set_option autoImplicit false
set_option maxHeartbeats 1000000
namespace L77
open PySem L2 Vb Vd
theorem scLawTestRow : FnScope ["pot", "own", "many", "marks", "arrows", "one", "other", "to", "way", "some"] ["pot", "own", "many", "marks", "arrows"] (defScope sLawTestRow) := ⟨rfl, rfl, rfl, by decide +kernel, rfl, by decide +kernel, by decide +kernel⟩
structure OwnOk (kvs : List (L2.Key × D)) (room : Nat) (names : List Str) : Prop where
  hroom : lookD kvs (Sum.inr "room") = some (.int (room : Int))
  hboxes : lookD kvs (Sum.inr "boxes") = some (.lst (names.map .str))
  r1 : 1 ≤ room
  r20 : room ≤ 20
  nm : ∀ z ∈ names, IsNm z
  few : names.length ≤ 60
theorem OwnOk.getB {kvs : List (L2.Key × D)} {room : Nat} {names : List Str} (O : OwnOk kvs room names) : fDGet (.dk kvs) (.str "boxes") = some (.lst (names.map .str)) := by simp [fDGet, keyD, O.hboxes]
theorem OwnOk.getR {kvs : List (L2.Key × D)} {room : Nat} {names : List Str} (O : OwnOk kvs room names) : fDGet (.dk kvs) (.str "room") = some (.int (room : Int)) := by simp [fDGet, keyD, O.hroom]
theorem part_box {boxes : List Str} {room last : Nat} {z : Str} (h : z ∈ boxes) : PartOk 66 boxes room last (.str z) := .inl ⟨z, rfl, .inl ⟨rfl, h⟩⟩
theorem part_nm {boxes : List Str} {room last : Nat} {z : Str} (h : IsNm z) : PartOk 78 boxes room last (.str z) := .inl ⟨z, rfl, .inr ⟨rfl, h⟩⟩
theorem part_k {boxes : List Str} {room last n : Nat} (h : n ≤ 999999999) : PartOk 75 boxes room last (.int (n : Int)) := .inr ⟨n, rfl, .inl ⟨rfl, h⟩⟩
theorem part_q {boxes : List Str} {room last n : Nat} (h : n ≤ room) : PartOk 81 boxes room last (.int (n : Int)) := .inr ⟨n, rfl, .inr (.inl ⟨rfl, h⟩)⟩
theorem part_l {boxes : List Str} {room last n : Nat} (h : n ≤ last) : PartOk 76 boxes room last (.int (n : Int)) := .inr ⟨n, rfl, .inr (.inr ⟨rfl, h⟩)⟩
theorem row_mk {boxes : List Str} {room last : Nat} {z L : Str} {ps : List D} {cs : List Nat} (h : lookD formsD (Sum.inr z) = some (.str L)) (hL : L.cps.toList = cs) (h4 : L.length ≤ 4) (hp : AllParts boxes room last cs ps) : RowOk boxes room last (.str z :: ps) := ⟨z, L, ps, rfl, h, h4, by rw [hL]; exact hp⟩
def FLawTestRow : FD := fun ds m Q => ∃ (kvs : List (L2.Key × D)) (room many : Nat) (names marks arrows : List Str), ds = [.pot, .dk kvs, .int (many : Int), .lst (marks.map .str), .lst (arrows.map .str)] ∧ OwnOk kvs room names ∧ names ≠ [] ∧ 1 ≤ many ∧ many ≤ 100 ∧ (∀ z ∈ marks, IsNm z) ∧ (∀ z ∈ arrows, IsNm z) ∧ marks.length ≤ 100 ∧ arrows.length ≤ 100 ∧ 10 ≤ m ∧
  ∀ row m', RowOk names room (many - 1) row → m ≤ m' + 10 → Q (.tup row) m'
theorem mnLawTestRow : MnF FLawTestRow := fun ds m Q Q' w ⟨a, b, c, d, e, f, h1, h2, h3, h4, h5, h6, h7, h8, h9, h10, q⟩ => ⟨a, b, c, d, e, f, h1, h2, h3, h4, h5, h6, h7, h8, h9, h10, fun r m' g1 g2 => w _ _ (q r m' g1 g2)⟩
theorem calLawTestRow {P : Program} {w : World} {K : PySem.W.Frag} {mg : Str → Option Value} {base : Heap} (D : Df K mg "_law_test_row" sLawTestRow) (T : Bi mg) (G : Gi mg) (cT : Cal P w K mg base 1 "_law_take" (spD K fTake)) (cO : Cal P w K mg base 2 "_law_of" (spD K fOf)) : Cal P w K mg base 3 "_law_test_row" (spD K FLawTestRow) :=
  D.cal ["pot", "own", "many", "marks", "arrows"] (fun f fd Fu => Fun.okD Fu scLawTestRow (fun ds m Q h => by obtain ⟨_, _, _, _, _, _, rfl, _⟩ := h; rfl) (fun cdv A outer s H E hr =>
  dss_cons (ds_par3 (i := 5) (j := 6) (l := 7) rfl scLawTestRow.nd (da_cons (de_c mn_of cO hr (by decide) rfl (da_cons (dv 0) (da_cons (de_dget (hu_of hr) (dv 1) de_str (fun _ _ => rfl)) da_nil))) (da_cons (de_c mn_of cO hr (by decide) rfl (da_cons (dv 0) (da_cons (de_dget (hu_of hr) (dv 1) de_str (fun _ _ => rfl)) da_nil))) (da_cons (de_callTy call_intA s_int (by rfl) T.int (by decide +kernel) (da_cons (de_c mn_take cT hr (by decide) rfl (da_cons (dv 0) (da_cons (dv 2) da_nil))) da_nil)) da_nil))))
    (dss_cons (ds_set (i := 8) scLawTestRow.nd rfl (by first | exact Or.inl rfl | exact Or.inr rfl) (de_c mn_take cT hr (by decide) rfl (da_cons (dv 0) (da_cons de_int da_nil))))
    (dss_cons (ds_if (DW.dt (dw_and (dt_cmp op_lt s_lt (dv 8) de_int (nomark _)) (dw_and1 (dt_cmp (op_neD hr.units) s_neD (dv 4) (de_lst da_nil) (nomark _)))))
      (dss_one (ds_ret (de_tup (da_cons de_str (da_cons (de_c mn_of cO hr (by decide) rfl (da_cons (dv 0) (da_cons (dv 4) da_nil))) (da_cons (dv 5) (da_cons (dv 6) (da_cons (dv 7) da_nil))))))))
      (dss_nil))
    (dss_cons (ds_if (DW.dt (dw_and (dt_cmp op_lt s_lt (dv 8) de_int (nomark _)) (dw_and1 (dt_cmp (op_neD hr.units) s_neD (dv 3) (de_lst da_nil) (nomark _)))))
      (dss_one (ds_ret (de_tup (da_cons de_str (da_cons (de_c mn_of cO hr (by decide) rfl (da_cons (dv 0) (da_cons (dv 3) da_nil))) (da_cons (dv 5) (da_cons (dv 7) da_nil)))))))
      (dss_nil))
    (dss_cons (ds_own (i := 9) scLawTestRow.nd rfl (by first | exact Or.inl rfl | exact Or.inr rfl) (da_cons (de_tup (da_cons de_str (da_cons (dv 5) (da_cons (dv 6) (da_cons (dv 7) da_nil))))) (da_cons (de_tup (da_cons de_str (da_cons (dv 5) (da_cons (dv 6) (da_cons (dv 7) da_nil))))) (da_cons (de_tup (da_cons de_str (da_cons (dv 5) (da_cons (de_callTy call_intA s_int (by rfl) T.int (by decide +kernel) (da_cons (de_c mn_of cO hr (by decide) rfl (da_cons (dv 0) (da_cons (de_lst (da_cons de_int (da_cons de_int (da_cons de_int (da_cons de_int (da_cons de_int da_nil)))))) da_nil))) da_nil)) (da_cons (dv 7) da_nil))))) da_nil))))
    (dss_cons (ds_ext (i := 9) (pv 9) (de_lst (da_cons (de_tup (da_cons de_str (da_cons (de_callTy call_intA s_int (by rfl) T.int (by decide +kernel) (da_cons (de_c mn_take cT hr (by decide) rfl (da_cons (dv 0) (da_cons (de_op op_addA s_add (de_dget (hu_of hr) (dv 1) de_str (fun _ _ => rfl)) de_int) da_nil))) da_nil)) (da_cons (dv 5) (da_cons (dv 7) da_nil))))) (da_cons (de_tup (da_cons de_str (da_cons (dv 7) da_nil))) da_nil))))
    (dss_frz 9 (dss_one (ds_ret (de_c mn_of cO hr (by decide) rfl (da_cons (dv 0) (da_cons (de_op op_addA s_add (dv 9) (de_lst (da_cons (de_tup (da_cons de_str (da_cons (de_callTy call_intA s_int (by rfl) T.int (by decide +kernel) (da_cons (de_c mn_take cT hr (by decide) rfl (da_cons (dv 0) (da_cons (de_op op_addA s_add (de_dget (hu_of hr) (dv 1) de_str (fun _ _ => rfl)) de_int) da_nil))) da_nil)) (da_cons (dv 5) (da_cons (dv 7) da_nil))))) da_nil))) da_nil)))))))))))) (fun ds m Q h => by
    obtain ⟨kvs, room, many, names, marks, arrows, rfl, O, hne, h1, h2, hM, hA, lM, lA, hm, q⟩ := h
    have lN := O.few
    have nA := fNeD_nil fun z h => nm_ok (hA z h)
    have nM := fNeD_nil fun z h => nm_ok (hM z h)
    refine ⟨_, rfl, _, rfl, _, O.getB, of_strs hne (by omega) (by omega) fun one i1 n1 e1 => ?_⟩
    refine ⟨_, rfl, _, rfl, _, O.getB, of_strs hne (by omega) (by omega) fun other i2 n2 e2 => ?_⟩
    refine ⟨_, rfl, _, rfl, ?_⟩
    refine take_step (u := (many : Int)) (by omega) (by omega) (by omega) fun to n3 i3 e3 => ?_
    refine ⟨_, fInt_int, _, _, _, rfl, ?_⟩
    refine ⟨_, rfl, take_step (by decide) (by decide) (by omega) fun way n4 i4 e4 => ?_⟩
    refine ⟨_, rfl, ?_⟩
    dsimp only
    refine seq_ret (decide ((way : Int) < 3) && !arrows.isEmpty) (fun R hR => ?_) (fun c => ?_) fun _ => seq_ret (decide ((way : Int) < 4) && !marks.isEmpty) (fun R hR => ?_) (fun c => ?_) fun _ => ?_
    · by_cases w : (way : Int) < 3
      · simp [sPar, sPar3, sSeq, sNil, sIf, sRet, sAsg, sDrop, sFrz, sApp, sExt, sOwn, dOr, dAnd, dNot, dTst, dTru, tru, dIf, dAndV, dOrV, dNotV, dChain, dCall, dOp2, dOp1, dMt, dMt0, dCal, dVar, dC, dTup, dLst, dSl, oNone, oSome, aCons, aNil, fName, fTup, fCons, fNil, startR, TyD, dBor, dBorE, dYes, fIsi, tyN, isTab, fMtB, fI, fI0, fIs, fIsnt, isN, fTupOf, fLstOf, fNeg, fEq_int, fEq_str, fNe_int, fNe_str, fLen_lst, fLen_tup, fAll_bls, fAdd_int, fInt_int, ixl0, ixl1, ixl2, sll1, sll2, w, nA]
        cases arrows <;> simpa [w] using hR
      · simp [sPar, sPar3, sSeq, sNil, sIf, sRet, sAsg, sDrop, sFrz, sApp, sExt, sOwn, dOr, dAnd, dNot, dTst, dTru, tru, dIf, dAndV, dOrV, dNotV, dChain, dCall, dOp2, dOp1, dMt, dMt0, dCal, dVar, dC, dTup, dLst, dSl, oNone, oSome, aCons, aNil, fName, fTup, fCons, fNil, startR, TyD, dBor, dBorE, dYes, fIsi, tyN, isTab, fMtB, fI, fI0, fIs, fIsnt, isN, fTupOf, fLstOf, fNeg, fEq_int, fEq_str, fNe_int, fNe_str, fLen_lst, fLen_tup, fAll_bls, fAdd_int, fInt_int, ixl0, ixl1, ixl2, sll1, sll2, w, nA]
        simpa [w] using hR
    · have ne : arrows ≠ [] := fun z => by simp [z] at c
      refine ⟨_, rfl, _, rfl, of_strs ne (by omega) (by omega) fun z hz n5 e5 => ?_⟩
      refine ⟨_, rfl, _, rfl, _, rfl, (by show 5 ≤ sizeLine; decide), q _ _ (row_mk (cs := [78, 66, 66, 76]) rfl (by decide +kernel) (by decide +kernel) ⟨part_nm (hA z hz), part_box i1, part_box i2, part_l (by omega), trivial⟩) (by omega)⟩
    · by_cases w : (way : Int) < 4
      · simp [sPar, sPar3, sSeq, sNil, sIf, sRet, sAsg, sDrop, sFrz, sApp, sExt, sOwn, dOr, dAnd, dNot, dTst, dTru, tru, dIf, dAndV, dOrV, dNotV, dChain, dCall, dOp2, dOp1, dMt, dMt0, dCal, dVar, dC, dTup, dLst, dSl, oNone, oSome, aCons, aNil, fName, fTup, fCons, fNil, startR, TyD, dBor, dBorE, dYes, fIsi, tyN, isTab, fMtB, fI, fI0, fIs, fIsnt, isN, fTupOf, fLstOf, fNeg, fEq_int, fEq_str, fNe_int, fNe_str, fLen_lst, fLen_tup, fAll_bls, fAdd_int, fInt_int, ixl0, ixl1, ixl2, sll1, sll2, w, nM]
        cases marks <;> simpa [w] using hR
      · simp [sPar, sPar3, sSeq, sNil, sIf, sRet, sAsg, sDrop, sFrz, sApp, sExt, sOwn, dOr, dAnd, dNot, dTst, dTru, tru, dIf, dAndV, dOrV, dNotV, dChain, dCall, dOp2, dOp1, dMt, dMt0, dCal, dVar, dC, dTup, dLst, dSl, oNone, oSome, aCons, aNil, fName, fTup, fCons, fNil, startR, TyD, dBor, dBorE, dYes, fIsi, tyN, isTab, fMtB, fI, fI0, fIs, fIsnt, isN, fTupOf, fLstOf, fNeg, fEq_int, fEq_str, fNe_int, fNe_str, fLen_lst, fLen_tup, fAll_bls, fAdd_int, fInt_int, ixl0, ixl1, ixl2, sll1, sll2, w, nM]
        simpa [w] using hR
    · have ne : marks ≠ [] := fun z => by simp [z] at c
      refine ⟨_, rfl, _, rfl, of_strs ne (by omega) (by omega) fun z hz n5 e5 => ?_⟩
      refine ⟨_, rfl, _, rfl, (by show 4 ≤ sizeLine; decide), q _ _ (row_mk (cs := [78, 66, 76]) rfl (by decide +kernel) (by decide +kernel) ⟨part_nm (hM z hz), part_box i1, part_l (by omega), trivial⟩) (by omega)⟩
    · simp [sPar, sPar3, sSeq, sNil, sIf, sRet, sAsg, sDrop, sFrz, sApp, sExt, sOwn, dOr, dAnd, dNot, dTst, dTru, tru, dIf, dAndV, dOrV, dNotV, dChain, dCall, dOp2, dOp1, dMt, dMt0, dCal, dVar, dC, dTup, dLst, dSl, oNone, oSome, aCons, aNil, fName, fTup, fCons, fNil, startR, TyD, dBor, dBorE, dYes, fIsi, tyN, isTab, fMtB, fI, fI0, fIs, fIsnt, isN, fTupOf, fLstOf, fNeg, fEq_int, fEq_str, fNe_int, fNe_str, fLen_lst, fLen_tup, fAll_bls, fAdd_int, fInt_int, ixl0, ixl1, ixl2, sll1, sll2, fDGet, keyD, O.hroom]
      refine ⟨by decide, by decide, of_step rfl (by decide) (by decide) (by omega) fun d hd n5 e5 => ?_⟩
      obtain ⟨k, rfl, hk⟩ : ∃ k : Nat, d = .int (k : Int) ∧ k ≤ 3 := by
        simp only [List.mem_cons, List.not_mem_nil, or_false] at hd
        rcases hd with rfl | rfl | rfl | rfl | rfl
        · exact ⟨0, rfl, by omega⟩
        · exact ⟨1, rfl, by omega⟩
        · exact ⟨1, rfl, by omega⟩
        · exact ⟨2, rfl, by omega⟩
        · exact ⟨3, rfl, by omega⟩
      have lR := O.r20
      refine ⟨_, fInt_int, by decide, by decide, fun a _ => ⟨a, _, ⟨rfl, rfl⟩, take_step (by omega) (by omega) (by omega) fun w1 n6 i6 e6 => ?_⟩⟩
      refine ⟨_, fInt_int, by decide, by decide, (by show 3 + 2 ≤ sizeLine; decide), a, _, ⟨rfl, rfl⟩, take_step (by omega) (by omega) (by omega) fun w2 n7 i7 e7 => ?_⟩
      refine ⟨_, fInt_int, by decide, by decide, _, fAdd_lst (by show 5 + 1 ≤ sizeLine; decide), of_step rfl (by show 0 < 6; decide) (by show 6 < 1073741824; decide) (by omega) fun d hd n8 e8 => ?_⟩
      simp only [List.cons_append, List.nil_append, List.mem_cons, List.not_mem_nil, or_false] at hd
      rcases hd with rfl | rfl | rfl | rfl | rfl | rfl
      · exact q _ _ (row_mk (cs := [66, 66, 76]) rfl (by decide +kernel) (by decide +kernel) ⟨part_box i1, part_box i2, part_l (by omega), trivial⟩) (by omega)
      · exact q _ _ (row_mk (cs := [66, 66, 76]) rfl (by decide +kernel) (by decide +kernel) ⟨part_box i1, part_box i2, part_l (by omega), trivial⟩) (by omega)
      · exact q _ _ (row_mk (cs := [66, 75, 76]) rfl (by decide +kernel) (by decide +kernel) ⟨part_box i1, part_k (by omega), part_l (by omega), trivial⟩) (by omega)
      · exact q _ _ (row_mk (cs := [81, 66, 76]) rfl (by decide +kernel) (by decide +kernel) ⟨part_q (by omega), part_box i1, part_l (by omega), trivial⟩) (by omega)
      · exact q _ _ (row_mk (cs := [76]) rfl (by decide +kernel) (by decide +kernel) ⟨part_l (by omega), trivial⟩) (by omega)
      · exact q _ _ (row_mk (cs := [81, 66, 76]) rfl (by decide +kernel) (by decide +kernel) ⟨part_q (by omega), part_box i1, part_l (by omega), trivial⟩) (by omega))) fun _ _ _ _ _ _ us hl => match us, hl with | [_, _, _, _, _], _ => rfl
theorem scLawRow : FnScope ["pot", "own", "many", "marks", "arrows", "way", "to", "one", "some"] ["pot", "own", "many", "marks", "arrows"] (defScope sLawRow) := ⟨rfl, rfl, rfl, by decide +kernel, rfl, by decide +kernel, by decide +kernel⟩
def FLawRow : FD := fun ds m Q => ∃ (kvs : List (L2.Key × D)) (room many : Nat) (names marks arrows : List Str), ds = [.pot, .dk kvs, .int (many : Int), .lst (marks.map .str), .lst (arrows.map .str)] ∧ OwnOk kvs room names ∧ 1 ≤ many ∧ many ≤ 100 ∧ (∀ z ∈ marks, IsNm z) ∧ (∀ z ∈ arrows, IsNm z) ∧ marks.length ≤ 100 ∧ arrows.length ≤ 100 ∧ 15 ≤ m ∧
  ∀ row m', RowOk names room (many - 1) row → m ≤ m' + 15 → Q (.tup row) m'
theorem mnLawRow : MnF FLawRow := fun ds m Q Q' w ⟨a, b, c, d, e, f, h1, h2, h4, h5, h6, h7, h8, h9, h10, q⟩ => ⟨a, b, c, d, e, f, h1, h2, h4, h5, h6, h7, h8, h9, h10, fun r m' g1 g2 => w _ _ (q r m' g1 g2)⟩
theorem fEqD_nilN {names : List Str} (h : ∀ z ∈ names, IsNm z) : fEqD (.lst (names.map .str)) (.lst []) = some (.bl names.isEmpty) := fEqD_nil fun z hz => nm_ok (h z hz)
theorem calLawRow {P : Program} {w : World} {K : PySem.W.Frag} {mg : Str → Option Value} {base : Heap} (D : Df K mg "_law_row" sLawRow) (T : Bi mg) (G : Gi mg) (cT : Cal P w K mg base 1 "_law_take" (spD K fTake)) (cO : Cal P w K mg base 2 "_law_of" (spD K fOf)) (cTR : Cal P w K mg base 3 "_law_test_row" (spD K FLawTestRow)) : Cal P w K mg base 4 "_law_row" (spD K FLawRow) :=
  D.cal ["pot", "own", "many", "marks", "arrows"] (fun f fd Fu => Fun.okD Fu scLawRow (fun ds m Q h => by obtain ⟨_, _, _, _, _, _, rfl, _⟩ := h; rfl) (fun cdv A outer s H E hr =>
  dss_cons (ds_par (i := 5) (j := 6) rfl scLawRow.nd (da_cons (de_c mn_take cT hr (by decide) rfl (da_cons (dv 0) (da_cons de_int da_nil))) (da_cons (de_callTy call_intA s_int (by rfl) T.int (by decide +kernel) (da_cons (de_c mn_take cT hr (by decide) rfl (da_cons (dv 0) (da_cons (dv 2) da_nil))) da_nil)) da_nil)))
    (dss_cons (ds_if (dt_cmp (op_eqD hr.units) s_eqD (de_dget (hu_of hr) (dv 1) de_str (fun _ _ => rfl)) (de_lst da_nil) (nomark _))
      (dss_one (ds_ret (de_c mn_of cO hr (by decide) rfl (da_cons (dv 0) (da_cons (de_lst (da_cons (de_tup (da_cons de_str (da_cons (dv 6) da_nil))) (da_cons (de_tup (da_cons de_str (da_cons (dv 6) da_nil))) (da_cons (de_tup (da_cons de_str (da_cons (dv 6) da_nil))) (da_cons (de_tup (da_cons de_str da_nil)) (da_cons (de_tup (da_cons de_str da_nil)) da_nil)))))) da_nil)))))
      (dss_nil))
    (dss_cons (ds_set (i := 7) scLawRow.nd rfl (by first | exact Or.inl rfl | exact Or.inr rfl) (de_c mn_of cO hr (by decide) rfl (da_cons (dv 0) (da_cons (de_dget (hu_of hr) (dv 1) de_str (fun _ _ => rfl)) da_nil))))
    (dss_cons (ds_if (dt_cmp op_lt s_lt (dv 5) de_int (nomark _))
      (dss_one (ds_ret (de_tup (da_cons de_str (da_cons (de_callTy call_intA s_int (by rfl) T.int (by decide +kernel) (da_cons (de_c mn_of cO hr (by decide) rfl (da_cons (dv 0) (da_cons (de_lst (da_cons de_int (da_cons de_int (da_cons de_int (da_cons (de_dget (hu_of hr) (dv 1) de_str (fun _ _ => rfl)) (da_cons de_int da_nil)))))) da_nil))) da_nil)) (da_cons (dv 7) da_nil))))))
      (dss_nil))
    (dss_cons (ds_if (dt_cmp op_lt s_lt (dv 5) de_int (nomark _))
      (dss_one (ds_ret (de_c mnLawTestRow cTR hr (by decide) rfl (da_cons (dv 0) (da_cons (dv 1) (da_cons (dv 2) (da_cons (dv 3) (da_cons (dv 4) da_nil))))))))
      (dss_nil))
    (dss_cons (ds_if (dt_cmp op_eq s_eq (dv 5) de_int (nomark _))
      (dss_one (ds_ret (de_tup (da_cons de_str (da_cons (dv 6) da_nil)))))
      (dss_nil))
    (dss_cons (ds_if (dt_cmp op_eq s_eq (dv 5) de_int (nomark _))
      (dss_one (ds_ret (de_c mn_of cO hr (by decide) rfl (da_cons (dv 0) (da_cons (de_lst (da_cons (de_tup (da_cons de_str da_nil)) (da_cons (de_tup (da_cons de_str da_nil)) (da_cons (de_tup (da_cons de_str da_nil)) da_nil)))) da_nil)))))
      (dss_nil))
    (dss_cons (ds_set (i := 8) scLawRow.nd rfl (by first | exact Or.inl rfl | exact Or.inr rfl) (de_lst (da_cons (de_tup (da_cons de_str (da_cons (dv 7) (da_cons (de_c mn_of cO hr (by decide) rfl (da_cons (dv 0) (da_cons (de_dget (hu_of hr) (dv 1) de_str (fun _ _ => rfl)) da_nil))) da_nil)))) (da_cons (de_tup (da_cons de_str (da_cons (dv 7) da_nil))) (da_cons (de_tup (da_cons de_str (da_cons (dv 7) (da_cons (de_callTy call_intA s_int (by rfl) T.int (by decide +kernel) (da_cons (de_c mn_of cO hr (by decide) rfl (da_cons (dv 0) (da_cons (de_lst (da_cons de_int (da_cons de_int (da_cons de_int (da_cons de_int da_nil))))) da_nil))) da_nil)) da_nil)))) da_nil)))))
    (dss_one (ds_ret (de_c mn_of cO hr (by decide) rfl (da_cons (dv 0) (da_cons (dv 8) da_nil))))))))))))) (fun ds m Q h => by
    obtain ⟨kvs, room, many, names, marks, arrows, rfl, O, h1, h2, hM, hA, lM, lA, hm, q⟩ := h
    have lN := O.few
    have lR := O.r20
    refine ⟨_, rfl, take_step (by decide) (by decide) (by omega) fun way n1 i1 e1 => ?_⟩
    refine ⟨_, rfl, _, rfl, take_step (by omega) (by omega) (by omega) fun to n2 i2 e2 => ?_⟩
    refine ⟨_, fInt_int, _, _, rfl, ?_⟩
    dsimp only
    refine seq_ret names.isEmpty (fun R hR => ?_) (fun c => ?_) fun c0 => ?_
    · simp [sPar, sPar3, sSeq, sNil, sIf, sRet, sAsg, sDrop, sFrz, sApp, sExt, sOwn, dOr, dAnd, dNot, dTst, dTru, tru, dIf, dAndV, dOrV, dNotV, dChain, dCall, dOp2, dOp1, dMt, dMt0, dCal, dVar, dC, dTup, dLst, dSl, oNone, oSome, aCons, aNil, fName, fTup, fCons, fNil, startR, TyD, dBor, dBorE, dYes, fIsi, tyN, isTab, fMtB, fI, fI0, fIs, fIsnt, isN, fTupOf, fLstOf, fNeg, fEq_int, fEq_str, fNe_int, fNe_str, fLen_lst, fLen_tup, fAll_bls, fAdd_int, fInt_int, ixl0, ixl1, ixl2, sll1, sll2, fDGet, keyD, O.hboxes, fEqD_nilN O.nm]
      cases names <;> simpa using hR
    · simp [sPar, sPar3, sSeq, sNil, sIf, sRet, sAsg, sDrop, sFrz, sApp, sExt, sOwn, dOr, dAnd, dNot, dTst, dTru, tru, dIf, dAndV, dOrV, dNotV, dChain, dCall, dOp2, dOp1, dMt, dMt0, dCal, dVar, dC, dTup, dLst, dSl, oNone, oSome, aCons, aNil, fName, fTup, fCons, fNil, startR, TyD, dBor, dBorE, dYes, fIsi, tyN, isTab, fMtB, fI, fI0, fIs, fIsnt, isN, fTupOf, fLstOf, fNeg, fEq_int, fEq_str, fNe_int, fNe_str, fLen_lst, fLen_tup, fAll_bls, fAdd_int, fInt_int, ixl0, ixl1, ixl2, sll1, sll2]
      refine ⟨by decide, by decide, by decide, of_step rfl (by show 0 < 5; decide) (by show 5 < 1073741824; decide) (by omega) fun d hd n3 e3 => ?_⟩
      simp only [List.mem_cons, List.not_mem_nil, or_false] at hd
      rcases hd with rfl | rfl | rfl | rfl | rfl
      · exact q _ _ (row_mk (cs := [76]) rfl (by decide +kernel) (by decide +kernel) ⟨part_l (by omega), trivial⟩) (by omega)
      · exact q _ _ (row_mk (cs := [76]) rfl (by decide +kernel) (by decide +kernel) ⟨part_l (by omega), trivial⟩) (by omega)
      · exact q _ _ (row_mk (cs := [76]) rfl (by decide +kernel) (by decide +kernel) ⟨part_l (by omega), trivial⟩) (by omega)
      · exact q _ _ (row_mk (cs := []) rfl (by decide +kernel) (by decide +kernel) trivial) (by omega)
      · exact q _ _ (row_mk (cs := []) rfl (by decide +kernel) (by decide +kernel) trivial) (by omega)
    · have ne : names ≠ [] := fun z => by simp [z] at c0
      refine ⟨_, rfl, _, rfl, _, O.getB, of_strs ne (by omega) (by omega) fun one io n3 e3 => ?_⟩
      refine ⟨_, rfl, ?_⟩
      dsimp only
      refine seq_ret (decide ((way : Int) < 3)) (fun R hR => ?_) (fun c => ?_) fun _ => seq_ret (decide ((way : Int) < 8)) (fun R hR => ?_) (fun c => ?_) fun _ => seq_ret (decide ((way : Int) = 8)) (fun R hR => ?_) (fun c => ?_) fun _ => seq_ret (decide ((way : Int) = 9)) (fun R hR => ?_) (fun c => ?_) fun _ => ?_
      · by_cases w : (way : Int) < 3 <;> simp [sPar, sPar3, sSeq, sNil, sIf, sRet, sAsg, sDrop, sFrz, sApp, sExt, sOwn, dOr, dAnd, dNot, dTst, dTru, tru, dIf, dAndV, dOrV, dNotV, dChain, dCall, dOp2, dOp1, dMt, dMt0, dCal, dVar, dC, dTup, dLst, dSl, oNone, oSome, aCons, aNil, fName, fTup, fCons, fNil, startR, TyD, dBor, dBorE, dYes, fIsi, tyN, isTab, fMtB, fI, fI0, fIs, fIsnt, isN, fTupOf, fLstOf, fNeg, fEq_int, fEq_str, fNe_int, fNe_str, fLen_lst, fLen_tup, fAll_bls, fAdd_int, fInt_int, ixl0, ixl1, ixl2, sll1, sll2, w] <;> simpa [w] using hR
      · simp [sPar, sPar3, sSeq, sNil, sIf, sRet, sAsg, sDrop, sFrz, sApp, sExt, sOwn, dOr, dAnd, dNot, dTst, dTru, tru, dIf, dAndV, dOrV, dNotV, dChain, dCall, dOp2, dOp1, dMt, dMt0, dCal, dVar, dC, dTup, dLst, dSl, oNone, oSome, aCons, aNil, fName, fTup, fCons, fNil, startR, TyD, dBor, dBorE, dYes, fIsi, tyN, isTab, fMtB, fI, fI0, fIs, fIsnt, isN, fTupOf, fLstOf, fNeg, fEq_int, fEq_str, fNe_int, fNe_str, fLen_lst, fLen_tup, fAll_bls, fAdd_int, fInt_int, ixl0, ixl1, ixl2, sll1, sll2, fDGet, keyD, O.hroom]
        refine ⟨by decide, of_step rfl (by show 0 < 5; decide) (by show 5 < 1073741824; decide) (by omega) fun d hd n4 e4 => ?_⟩
        obtain ⟨k, rfl, hk⟩ : ∃ k : Nat, d = .int (k : Int) ∧ k ≤ room := by
          have r1 := O.r1
          simp only [List.mem_cons, List.not_mem_nil, or_false] at hd
          rcases hd with rfl | rfl | rfl | rfl | rfl
          · exact ⟨1, rfl, by omega⟩
          · exact ⟨1, rfl, by omega⟩
          · exact ⟨1, rfl, by omega⟩
          · exact ⟨room, rfl, by omega⟩
          · exact ⟨0, rfl, by omega⟩
        refine ⟨_, fInt_int, by decide, q _ _ (row_mk (cs := [81, 66]) rfl (by decide +kernel) (by decide +kernel) ⟨part_q hk, part_box io, trivial⟩) (by omega)⟩
      · by_cases w : (way : Int) < 8 <;> simp [sPar, sPar3, sSeq, sNil, sIf, sRet, sAsg, sDrop, sFrz, sApp, sExt, sOwn, dOr, dAnd, dNot, dTst, dTru, tru, dIf, dAndV, dOrV, dNotV, dChain, dCall, dOp2, dOp1, dMt, dMt0, dCal, dVar, dC, dTup, dLst, dSl, oNone, oSome, aCons, aNil, fName, fTup, fCons, fNil, startR, TyD, dBor, dBorE, dYes, fIsi, tyN, isTab, fMtB, fI, fI0, fIs, fIsnt, isN, fTupOf, fLstOf, fNeg, fEq_int, fEq_str, fNe_int, fNe_str, fLen_lst, fLen_tup, fAll_bls, fAdd_int, fInt_int, ixl0, ixl1, ixl2, sll1, sll2, w] <;> simpa [w] using hR
      · simp [sPar, sPar3, sSeq, sNil, sIf, sRet, sAsg, sDrop, sFrz, sApp, sExt, sOwn, dOr, dAnd, dNot, dTst, dTru, tru, dIf, dAndV, dOrV, dNotV, dChain, dCall, dOp2, dOp1, dMt, dMt0, dCal, dVar, dC, dTup, dLst, dSl, oNone, oSome, aCons, aNil, fName, fTup, fCons, fNil, startR, TyD, dBor, dBorE, dYes, fIsi, tyN, isTab, fMtB, fI, fI0, fIs, fIsnt, isN, fTupOf, fLstOf, fNeg, fEq_int, fEq_str, fNe_int, fNe_str, fLen_lst, fLen_tup, fAll_bls, fAdd_int, fInt_int, ixl0, ixl1, ixl2, sll1, sll2]
        exact ⟨kvs, room, many, names, marks, arrows, rfl, O, ne, h1, h2, hM, hA, lM, lA, by omega, fun r m' g1 g2 => q r m' g1 (by omega)⟩
      · by_cases w : (way : Int) = 8 <;> simp [sPar, sPar3, sSeq, sNil, sIf, sRet, sAsg, sDrop, sFrz, sApp, sExt, sOwn, dOr, dAnd, dNot, dTst, dTru, tru, dIf, dAndV, dOrV, dNotV, dChain, dCall, dOp2, dOp1, dMt, dMt0, dCal, dVar, dC, dTup, dLst, dSl, oNone, oSome, aCons, aNil, fName, fTup, fCons, fNil, startR, TyD, dBor, dBorE, dYes, fIsi, tyN, isTab, fMtB, fI, fI0, fIs, fIsnt, isN, fTupOf, fLstOf, fNeg, fEq_int, fEq_str, fNe_int, fNe_str, fLen_lst, fLen_tup, fAll_bls, fAdd_int, fInt_int, ixl0, ixl1, ixl2, sll1, sll2, w] <;> simpa [w] using hR
      · simp [sPar, sPar3, sSeq, sNil, sIf, sRet, sAsg, sDrop, sFrz, sApp, sExt, sOwn, dOr, dAnd, dNot, dTst, dTru, tru, dIf, dAndV, dOrV, dNotV, dChain, dCall, dOp2, dOp1, dMt, dMt0, dCal, dVar, dC, dTup, dLst, dSl, oNone, oSome, aCons, aNil, fName, fTup, fCons, fNil, startR, TyD, dBor, dBorE, dYes, fIsi, tyN, isTab, fMtB, fI, fI0, fIs, fIsnt, isN, fTupOf, fLstOf, fNeg, fEq_int, fEq_str, fNe_int, fNe_str, fLen_lst, fLen_tup, fAll_bls, fAdd_int, fInt_int, ixl0, ixl1, ixl2, sll1, sll2]
        exact ⟨by decide, q _ _ (row_mk (cs := [76]) rfl (by decide +kernel) (by decide +kernel) ⟨part_l (by omega), trivial⟩) (by omega)⟩
      · by_cases w : (way : Int) = 9 <;> simp [sPar, sPar3, sSeq, sNil, sIf, sRet, sAsg, sDrop, sFrz, sApp, sExt, sOwn, dOr, dAnd, dNot, dTst, dTru, tru, dIf, dAndV, dOrV, dNotV, dChain, dCall, dOp2, dOp1, dMt, dMt0, dCal, dVar, dC, dTup, dLst, dSl, oNone, oSome, aCons, aNil, fName, fTup, fCons, fNil, startR, TyD, dBor, dBorE, dYes, fIsi, tyN, isTab, fMtB, fI, fI0, fIs, fIsnt, isN, fTupOf, fLstOf, fNeg, fEq_int, fEq_str, fNe_int, fNe_str, fLen_lst, fLen_tup, fAll_bls, fAdd_int, fInt_int, ixl0, ixl1, ixl2, sll1, sll2, w] <;> simpa [w] using hR
      · simp [sPar, sPar3, sSeq, sNil, sIf, sRet, sAsg, sDrop, sFrz, sApp, sExt, sOwn, dOr, dAnd, dNot, dTst, dTru, tru, dIf, dAndV, dOrV, dNotV, dChain, dCall, dOp2, dOp1, dMt, dMt0, dCal, dVar, dC, dTup, dLst, dSl, oNone, oSome, aCons, aNil, fName, fTup, fCons, fNil, startR, TyD, dBor, dBorE, dYes, fIsi, tyN, isTab, fMtB, fI, fI0, fIs, fIsnt, isN, fTupOf, fLstOf, fNeg, fEq_int, fEq_str, fNe_int, fNe_str, fLen_lst, fLen_tup, fAll_bls, fAdd_int, fInt_int, ixl0, ixl1, ixl2, sll1, sll2]
        refine ⟨by decide, by decide, of_step rfl (by show 0 < 3; decide) (by show 3 < 1073741824; decide) (by omega) fun d hd n3 e3 => ?_⟩
        simp only [List.mem_cons, List.not_mem_nil, or_false] at hd
        rcases hd with rfl | rfl | rfl
        · exact q _ _ (row_mk (cs := []) rfl (by decide +kernel) (by decide +kernel) trivial) (by omega)
        · exact q _ _ (row_mk (cs := []) rfl (by decide +kernel) (by decide +kernel) trivial) (by omega)
        · exact q _ _ (row_mk (cs := []) rfl (by decide +kernel) (by decide +kernel) trivial) (by omega)
      · simp [sPar, sPar3, sSeq, sNil, sIf, sRet, sAsg, sDrop, sFrz, sApp, sExt, sOwn, dOr, dAnd, dNot, dTst, dTru, tru, dIf, dAndV, dOrV, dNotV, dChain, dCall, dOp2, dOp1, dMt, dMt0, dCal, dVar, dC, dTup, dLst, dSl, oNone, oSome, aCons, aNil, fName, fTup, fCons, fNil, startR, TyD, dBor, dBorE, dYes, fIsi, tyN, isTab, fMtB, fI, fI0, fIs, fIsnt, isN, fTupOf, fLstOf, fNeg, fEq_int, fEq_str, fNe_int, fNe_str, fLen_lst, fLen_tup, fAll_bls, fAdd_int, fInt_int, ixl0, ixl1, ixl2, sll1, sll2, fDGet, keyD, O.hboxes]
        refine of_strs ne (by omega) (by omega) fun two i2' n4 e4 => ?_
        refine ⟨by decide, by decide, by decide, of_step rfl (by show 0 < 4; decide) (by show 4 < 1073741824; decide) (by omega) fun d hd n5 e5 => ?_⟩
        obtain ⟨k, rfl, hk⟩ : ∃ k : Nat, d = .int (k : Int) ∧ k ≤ 2 := by
          simp only [List.mem_cons, List.not_mem_nil, or_false] at hd
          rcases hd with rfl | rfl | rfl | rfl
          · exact ⟨0, rfl, by omega⟩
          · exact ⟨0, rfl, by omega⟩
          · exact ⟨1, rfl, by omega⟩
          · exact ⟨2, rfl, by omega⟩
        refine ⟨_, fInt_int, by decide, of_step rfl (by show 0 < 3; decide) (by show 3 < 1073741824; decide) (by omega) fun d hd n6 e6 => ?_⟩
        simp only [List.mem_cons, List.not_mem_nil, or_false] at hd
        rcases hd with rfl | rfl | rfl
        · exact q _ _ (row_mk (cs := [66, 66]) rfl (by decide +kernel) (by decide +kernel) ⟨part_box io, part_box i2', trivial⟩) (by omega)
        · exact q _ _ (row_mk (cs := [66]) rfl (by decide +kernel) (by decide +kernel) ⟨part_box io, trivial⟩) (by omega)
        · exact q _ _ (row_mk (cs := [66, 75]) rfl (by decide +kernel) (by decide +kernel) ⟨part_box io, part_k (by omega), trivial⟩) (by omega))) fun _ _ _ _ _ _ us hl => match us, hl with | [_, _, _, _, _], _ => rfl
end L77
end
section
set_option Elab.async false
set_option linter.all false
set_option maxRecDepth 100000
set_option autoImplicit false
set_option maxHeartbeats 1000000
namespace L77
open PySem L2 Vb Vd
theorem scLawPileRow : FnScope ["pot", "own", "many", "marks", "arrows", "way", "to", "kept", "lap", "row", "one"] ["pot", "own", "many", "marks", "arrows"] (defScope sLawPileRow) := ⟨rfl, rfl, rfl, by decide +kernel, rfl, by decide +kernel, by decide +kernel⟩
theorem fNotIn_tup {d : D} {ds : List D} (h1 : flatD d = true) (h2 : ds.all flatD = true) : fIn true d (.tup ds) = some (.bl (!ds.any fun y => eqF y d)) := if_pos ⟨h1, h2⟩
theorem prow_mk {boxes : List Str} {room last : Nat} {z L : Str} {ps : List D} {cs : List Nat} (n : Nat) (hn : ps.length = n) (h : lookD pileD (Sum.inr z) = some (.str L)) (hL : (lettS L n).cps.toList = cs) (h4 : n ≤ 4) (hp : AllParts boxes room last cs ps) : PRow boxes room last (.str z :: ps) := by
  subst hn
  exact ⟨z, L, ps, rfl, h, h4, by rw [len_cps, hL]; exact hp.len, by rw [hL]; exact hp⟩
theorem call_letters : ∀ n : Nat, n ≤ 3 → (lettS "LM" (n + 1)).cps.toList = 76 :: List.replicate n 66 := by
  intro n hn
  match n, hn with
  | 0, _ => decide +kernel
  | 1, _ => decide +kernel
  | 2, _ => decide +kernel
  | 3, _ => decide +kernel
theorem call_row {boxes : List Str} {room last to : Nat} {ks : List Str} (h : to ≤ last) (hk : ∀ z ∈ ks, z ∈ boxes) (l : ks.length ≤ 3) : PRow boxes room last (.str "call" :: .int (to : Int) :: ks.map .str) := by
  refine prow_mk (L := "LM") (cs := 76 :: List.replicate ks.length 66) (ks.length + 1) (by simp) rfl (call_letters _ l) (by omega) ⟨part_l h, ?_⟩
  clear l
  induction ks with
  | nil => exact trivial
  | cons k ks ih => exact ⟨part_box (hk k List.mem_cons_self), ih fun z hz => hk z (List.mem_cons_of_mem _ hz)⟩
def FLawPileRow : FD := fun ds m Q => ∃ (kvs : List (L2.Key × D)) (room many : Nat) (names marks arrows : List Str), ds = [.pot, .dk kvs, .int (many : Int), .lst (marks.map .str), .lst (arrows.map .str)] ∧ OwnOk kvs room names ∧ 1 ≤ many ∧ many ≤ 100 ∧ (∀ z ∈ marks, IsNm z) ∧ (∀ z ∈ arrows, IsNm z) ∧ marks.length ≤ 100 ∧ arrows.length ≤ 100 ∧ 25 ≤ m ∧
  ∀ row m', PRow names room (many - 1) row → m ≤ m' + 25 → Q (.tup row) m'
theorem mnLawPileRow : MnF FLawPileRow := fun ds m Q Q' w ⟨a, b, c, d, e, f, h1, h2, h4, h5, h6, h7, h8, h9, h10, q⟩ => ⟨a, b, c, d, e, f, h1, h2, h4, h5, h6, h7, h8, h9, h10, fun r m' g1 g2 => w _ _ (q r m' g1 g2)⟩
theorem strs_of {P : Str → Prop} : ∀ {ys : List D}, (∀ y ∈ ys, ∃ z, y = .str z ∧ P z) → ∃ zs : List Str, ys = zs.map .str ∧ ∀ z ∈ zs, P z
  | [], _ => ⟨[], rfl, fun _ h => nomatch h⟩
  | y :: ys, h => by
    obtain ⟨z, rfl, hz⟩ := h y List.mem_cons_self
    obtain ⟨zs, rfl, hs⟩ := strs_of fun w hw => h w (List.mem_cons_of_mem _ hw)
    exact ⟨z :: zs, rfl, fun x hx => (List.mem_cons.mp hx).elim (fun e => e ▸ hz) (hs x)⟩
theorem calLawPileRow {P : Program} {w : World} {K : PySem.W.Frag} {mg : Str → Option Value} {base : Heap} (D : Df K mg "_law_pile_row" sLawPileRow) (T : Bi mg) (G : Gi mg) (cT : Cal P w K mg base 1 "_law_take" (spD K fTake)) (cO : Cal P w K mg base 2 "_law_of" (spD K fOf)) (cRow : Cal P w K mg base 4 "_law_row" (spD K FLawRow)) : Cal P w K mg base 5 "_law_pile_row" (spD K FLawPileRow) :=
  D.cal ["pot", "own", "many", "marks", "arrows"] (fun f fd Fu => Fun.okD Fu scLawPileRow (fun ds m Q h => by obtain ⟨_, _, _, _, _, _, rfl, _⟩ := h; rfl) (fun cdv A outer s H E hr =>
  dss_cons (ds_par (i := 5) (j := 6) rfl scLawPileRow.nd (da_cons (de_c mn_take cT hr (by decide) rfl (da_cons (dv 0) (da_cons de_int da_nil))) (da_cons (de_callTy call_intA s_int (by rfl) T.int (by decide +kernel) (da_cons (de_c mn_take cT hr (by decide) rfl (da_cons (dv 0) (da_cons (dv 2) da_nil))) da_nil)) da_nil)))
    (dss_cons (ds_if (dt_cmp op_lt s_lt (dv 5) de_int (nomark _))
      (dss_cons (ds_set (i := 7) scLawPileRow.nd rfl (by first | exact Or.inl rfl | exact Or.inr rfl) (de_if (dt_cmp (op_neD hr.units) s_neD (de_dget (hu_of hr) (dv 1) de_str (fun _ _ => rfl)) (de_lst da_nil) (nomark _)) (de_comp (own := [("lap", 8)]) rfl scLawPileRow.nd (di_rg1 (by rfl) T.range (da_cons (de_c mn_take cT hr (by decide) rfl (da_cons (dv 0) (da_cons de_int da_nil))) da_nil)) (blkOk_by (N := ["pot", "own", "many", "marks", "arrows", "way", "to", "kept", "lap", "row", "one"]) (sc := defScope sLawPileRow) (by decide +kernel)) gs_name (by decide) (fun _ _ _ _ _ => (pg_name (i := 8) scLawPileRow.nd rfl (by first | exact Or.inl rfl | exact Or.inr rfl))) (fun _ _ _ _ _ => dts_nil) (fun _ _ _ _ _ => (de_c mn_of cO hr (by decide) rfl (da_cons (dv 0) (da_cons (de_dget (hu_of hr) (dv 1) de_str (fun _ _ => rfl)) da_nil))))) (de_lst da_nil)))
    (dss_one (ds_ret (de_callTy call_tuple_of s_tupOf (by rfl) T.tuple (by decide +kernel) (da_cons (de_op op_addA s_add (de_lst (da_cons de_str (da_cons (dv 6) da_nil))) (dv 7)) da_nil)))))
      (dss_nil))
    (dss_cons (ds_if (dt_cmp op_eq s_eq (dv 5) de_int (nomark _))
      (dss_one (ds_ret (de_tup (da_cons de_str da_nil))))
      (dss_nil))
    (dss_cons (ds_if (dt_cmp (op_eqD hr.units) s_eqD (de_dget (hu_of hr) (dv 1) de_str (fun _ _ => rfl)) (de_lst da_nil) (nomark _))
      (dss_one (ds_ret (de_c mn_of cO hr (by decide) rfl (da_cons (dv 0) (da_cons (de_lst (da_cons (de_tup (da_cons de_str (da_cons (dv 6) da_nil))) (da_cons (de_tup (da_cons de_str da_nil)) (da_cons (de_tup (da_cons de_str da_nil)) (da_cons (de_tup (da_cons de_str da_nil)) da_nil))))) da_nil)))))
      (dss_nil))
    (dss_cons (ds_set (i := 9) scLawPileRow.nd rfl (by first | exact Or.inl rfl | exact Or.inr rfl) (de_c mnLawRow cRow hr (by decide) rfl (da_cons (dv 0) (da_cons (dv 1) (da_cons (dv 2) (da_cons (dv 3) (da_cons (dv 4) da_nil)))))))
    (dss_cons (ds_set (i := 10) scLawPileRow.nd rfl (by first | exact Or.inl rfl | exact Or.inr rfl) (de_c mn_of cO hr (by decide) rfl (da_cons (dv 0) (da_cons (de_dget (hu_of hr) (dv 1) de_str (fun _ _ => rfl)) da_nil))))
    (dss_one (ds_ret (de_if (dt_cmp op_notIn_seq (s_in true) (de_ix ix_seq s_ix (dv 9) de_int (fun _ _ => rfl)) (de_tup (da_cons de_str (da_cons de_str da_nil))) (by rfl)) (dv 9) (de_tup (da_cons de_str (da_cons (dv 10) da_nil)))))))))))) (fun ds m Q h => by
    obtain ⟨kvs, room, many, names, marks, arrows, rfl, O, h1, h2, hM, hA, lM, lA, hm, q⟩ := h
    have lN := O.few
    have lR := O.r20
    refine ⟨_, rfl, take_step (by decide) (by decide) (by omega) fun way n1 i1 e1 => ?_⟩
    refine ⟨_, rfl, _, rfl, take_step (by omega) (by omega) (by omega) fun to n2 i2 e2 => ?_⟩
    refine ⟨_, fInt_int, _, _, rfl, ?_⟩
    dsimp only
    have nN := fNeD_nil fun z h => nm_ok (O.nm z h)
    have eN : fEqD (.lst (names.map Vd.D.str)) (.lst []) = some (.bl names.isEmpty) := fEqD_nilN O.nm
    refine seq_ret (decide ((way : Int) < 3)) (fun R hR => ⟨_, rfl, _, rfl, _, rfl, hR⟩) (fun c => ?_) fun _ => seq_ret (decide ((way : Int) = 3)) (fun R hR => ⟨_, rfl, _, fEq_int, _, rfl, hR⟩) (fun c => ?_) fun _ => seq_ret names.isEmpty (fun R hR => ⟨_, rfl, _, O.getB, (by show 0 ≤ sizeLine; decide), _, eN, _, rfl, hR⟩) (fun c => ?_) fun c0 => ?_
    · have fin : ∀ (ks : List Str) (n : Nat) (ρ : Rho), (∀ z ∈ ks, z ∈ names) → ks.length ≤ 3 → m ≤ n + 25 → ρ[6]? = some (some (.d (.int (to : Int)))) → ρ[7]? = some (some (.d (.lst (ks.map .str)))) → sRet (dCall fTupOf (aCons (dOp2 fAdd (dLst (aCons (dC (Vd.D.str "call")) (aCons (dVar 6) aNil))) (dVar 7)) aNil)) { nx := fun x m' => Q Vd.D.non m', rt := Q } ρ n := fun ks n ρ hk lk hn r6 r7 => by
        refine ⟨_, r6, (by show 2 ≤ sizeLine; decide), _, r7, _, fAdd_lst ?_, _, rfl, q _ _ (call_row (by omega) hk lk) hn⟩
        rw [List.length_map]
        exact Nat.le_trans (show 2 + ks.length ≤ 5 by omega) (by decide)
      refine ⟨_, rfl, _, O.getB, (by show 0 ≤ sizeLine; decide), _, nN, _, rfl, ?_⟩
      cases names with
      | nil => exact ⟨(by show 0 ≤ sizeLine; decide), _, rfl, fin [] _ _ (fun z h => nomatch h) (by decide) (by omega) rfl rfl⟩
      | cons a names' =>
        refine ⟨_, rfl, take_step (by decide) (by decide) (by omega) fun k n3 ik e3 => ⟨_, rfl, by omega, by omega, ?_⟩⟩
        have hl : (rgD 0 (k : Int)).length = k := by
          unfold rgD
          rw [List.length_map, List.length_range]
          omega
        refine lc_draw (P := fun y => ∃ z, y = .str z ∧ z ∈ a :: names') (B := 1) _ [] _ _ (fun x _ => ⟨_, rfl, fun m2 W w1 w2 => ?_⟩) (by rw [hl]; exact Nat.le_trans (show 0 + k ≤ 4 by omega) (by decide)) (by rw [hl]; omega) (fun _ h => nomatch h) fun ys n6 y1 y2 y3 => ?_
        · exact ⟨_, rfl, _, rfl, _, O.getB, of_strs (List.cons_ne_nil _ _) (by omega) w1 fun z hz n5 e5 => w2 _ n5 ⟨z, rfl, hz⟩ (by omega)⟩
        · obtain ⟨ks, rfl, hk⟩ := strs_of y2
          rw [hl] at y1 y3
          rw [List.length_map, List.length_nil, Nat.zero_add] at y1
          exact ⟨_, rfl, fin ks _ _ hk (by omega) (by omega) rfl rfl⟩
    · exact ⟨(by show 1 ≤ sizeLine; decide), q _ _ (prow_mk (L := "") (cs := []) 0 rfl rfl (by decide +kernel) (by decide) trivial) (by omega)⟩
    · refine ⟨_, rfl, _, rfl, (by show 2 ≤ sizeLine; decide), (by show 1 ≤ sizeLine; decide), (by show 1 ≤ sizeLine; decide), (by show 1 ≤ sizeLine; decide), (by show 4 ≤ sizeLine; decide), of_step rfl (by show 0 < 4; decide) (by show 4 < 1073741824; decide) (by omega) fun d hd n3 e3 => ?_⟩
      simp only [List.mem_cons, List.not_mem_nil, or_false] at hd
      rcases hd with rfl | rfl | rfl | rfl
      · exact q _ _ (prow_mk (L := "L") (cs := [76]) 1 rfl rfl (by decide +kernel) (by decide) ⟨part_l (by omega), trivial⟩) (by omega)
      · exact q _ _ (prow_mk (L := "") (cs := []) 0 rfl rfl (by decide +kernel) (by decide) trivial) (by omega)
      · exact q _ _ (prow_mk (L := "") (cs := []) 0 rfl rfl (by decide +kernel) (by decide) trivial) (by omega)
      · exact q _ _ (prow_mk (L := "") (cs := []) 0 rfl rfl (by decide +kernel) (by decide) trivial) (by omega)
    · have ne : names ≠ [] := fun z => by simp [z] at c0
      refine ⟨_, rfl, _, rfl, _, rfl, _, rfl, _, rfl, kvs, room, many, names, marks, arrows, rfl, O, h1, h2, hM, hA, lM, lA, by omega, fun row n3 hrow e3 => ⟨_, rfl, ?_⟩⟩
      refine ⟨_, rfl, _, rfl, _, O.getB, of_strs ne (by omega) (by omega) fun one io n4 e4 => ⟨_, rfl, ?_⟩⟩
      obtain ⟨z, L, ps, rfl, hz, hL, hp⟩ := id hrow
      refine ⟨_, rfl, _, ixl0, (by show 2 ≤ sizeLine; decide), _, fNotIn_tup rfl rfl, _, rfl, ?_⟩
      have e : (!([Vd.D.str "take", Vd.D.str "either"].any fun y => eqF y (.str z))) = (decide (z ≠ ("take" : Str)) && decide (z ≠ ("either" : Str))) := by
        show (!(((("take" : Str) == z) || ((("either" : Str) == z) || false)))) = _
        rw [Bool.or_false, Bool.not_or, Bool.beq_comm (a := ("take" : Str)), Bool.beq_comm (a := ("either" : Str))]
        simp [Bool.beq_eq_decide_eq]
      rw [e]
      dsimp only
      by_cases k : (decide (z ≠ ("take" : Str)) && decide (z ≠ ("either" : Str))) = true
      · rw [if_pos k]
        rw [Bool.and_eq_true, decide_eq_true_eq, decide_eq_true_eq] at k
        exact ⟨_, rfl, q _ _ (row_pile hrow (fun ps z => k.1 (by injection z with z _; injection z)) (fun ps z => k.2 (by injection z with z _; injection z))) (by omega)⟩
      · rw [if_neg k]
        exact ⟨_, rfl, (by show 2 ≤ sizeLine; decide), q _ _ (prow_mk (L := "B") (cs := [66]) 1 rfl rfl (by decide +kernel) (by decide) ⟨part_box io, trivial⟩) (by omega)⟩)) fun _ _ _ _ _ _ us hl => match us, hl with | [_, _, _, _, _], _ => rfl
end L77
end
section
set_option Elab.async false
set_option linter.all false
set_option maxRecDepth 100000
set_option autoImplicit false
set_option maxHeartbeats 1000000
namespace L77
open PySem L2 Vb Vd
theorem scLawPileReader : FnScope ["pot", "room", "boxes", "rows", "marks", "arrows", "own", "many", "lap"] ["pot", "room", "boxes", "rows", "marks", "arrows"] (defScope sLawPileReader) := ⟨rfl, rfl, rfl, by decide +kernel, rfl, by decide +kernel, by decide +kernel⟩
theorem parts_noDk {boxes : List Str} {room last : Nat} : ∀ {cs : List Nat} {ps : List D}, AllParts boxes room last cs ps → noDks ps = true
  | [], [], _ => by rw [noDks]
  | c :: _, p :: _, h => by
    rw [noDks, parts_noDk h.2, Bool.and_true]
    rcases h.1 with ⟨z, rfl, _⟩ | ⟨n, rfl, _⟩ <;> rw [noDk]
  | [], _ :: _, h => h.elim
  | _ :: _, [], h => h.elim
theorem row_noDk {boxes : List Str} {room last : Nat} {row : List D} (h : PRow boxes room last row) : noDk (.tup row) = true := by
  obtain ⟨z, L, ps, rfl, _, _, _, hp⟩ := h
  rw [noDk, noDks, parts_noDk hp, noDk]
  rfl
theorem rows_noDk {boxes : List Str} {room last : Nat} : ∀ {rws : List (List D)}, (∀ r ∈ rws, PRow boxes room last r) → noDks (rws.map .tup) = true
  | [], _ => by rw [List.map_nil, noDks]
  | r :: rws, h => by
    rw [List.map_cons, noDks, row_noDk (h r List.mem_cons_self), rows_noDk fun x hx => h x (List.mem_cons_of_mem _ hx)]
    rfl
theorem rows_of {P : List D → Prop} : ∀ {ys : List D}, (∀ y ∈ ys, ∃ row, y = .tup row ∧ P row) → ∃ rws : List (List D), ys = rws.map .tup ∧ ∀ r ∈ rws, P r
  | [], _ => ⟨[], rfl, fun _ h => nomatch h⟩
  | y :: ys, h => by
    obtain ⟨row, rfl, hr⟩ := h y List.mem_cons_self
    obtain ⟨rws, rfl, hs⟩ := rows_of fun z hz => h z (List.mem_cons_of_mem _ hz)
    exact ⟨row :: rws, rfl, fun x hx => (List.mem_cons.mp hx).elim (fun e => e ▸ hr) (hs x)⟩
theorem own3_ok {r : Nat} {names : List Str} {d : D} (h1 : 1 ≤ r) (h2 : r ≤ 20) (hn : ∀ z ∈ names, IsNm z) (hf : names.length ≤ 60) : OwnOk (own3 (.int (r : Int)) (.lst (names.map .str)) d) r names := ⟨rfl, rfl, h1, h2, hn, hf⟩
/-- a drawn pile reader -/
structure POk (boxes : List Str) (room : Nat) (rows : List (List D)) : Prop where
  nb : ∀ z ∈ boxes, NmB z
  nd : boxes.Nodup
  few : boxes.length ≤ 25
  r1 : 1 ≤ room
  r20 : room ≤ 19
  ne : rows ≠ []
  r99 : rows.length ≤ 80
  rows : ∀ r ∈ rows, PRow boxes room (rows.length - 1) r
theorem POk.nm {boxes : List Str} {room : Nat} {rows : List (List D)} (h : POk boxes room rows) : ∀ z ∈ boxes, IsNm z := fun z hz => (h.nb z hz).1
def FLawPileReader : FD := fun ds m Q => ∃ (room boxes rows : Nat) (marks arrows : List Str), ds = [.pot, .int (room : Int), .int (boxes : Int), .int (rows : Int), .lst (marks.map .str), .lst (arrows.map .str)] ∧ 1 ≤ room ∧ room ≤ 19 ∧ boxes ≤ 24 ∧ 2 ≤ rows ∧ rows ≤ 79 ∧ (∀ z ∈ marks, IsNm z) ∧ (∀ z ∈ arrows, IsNm z) ∧ marks.length ≤ 100 ∧ arrows.length ≤ 100 ∧ 3000 ≤ m ∧
  ∀ (r : Nat) (names : List Str) (rws : List (List D)) m', POk names r rws → m ≤ m' + 3000 → Q (.dk (own3 (.int (r : Int)) (.lst (names.map .str)) (.lst (rws.map .tup)))) m'
theorem mnLawPileReader : MnF FLawPileReader := fun ds m Q Q' w ⟨a, b, c, d, e, h1, h2, h3, h4, h5, h6, h7, h8, h9, h10, h11, q⟩ => ⟨a, b, c, d, e, h1, h2, h3, h4, h5, h6, h7, h8, h9, h10, h11, fun r n w' m' g1 g2 => w _ _ (q r n w' m' g1 g2)⟩
theorem calLawPileReader {P : Program} {w : World} {K : PySem.W.Frag} {mg : Str → Option Value} {base : Heap} (D : Df K mg "_law_pile_reader" sLawPileReader) (T : Bi mg) (G : Gi mg) (cT : Cal P w K mg base 1 "_law_take" (spD K fTake)) (cO : Cal P w K mg base 2 "_law_of" (spD K fOf)) (cN : Cal P w K mg base 3 "_law_names" (spD K FLawNames)) (cRow : Cal P w K mg base 5 "_law_pile_row" (spD K FLawPileRow)) : Cal P w K mg base 6 "_law_pile_reader" (spD K FLawPileReader) :=
  D.cal ["pot", "room", "boxes", "rows", "marks", "arrows"] (fun f fd Fu => Fun.okD Fu scLawPileReader (fun ds m Q h => by obtain ⟨_, _, _, _, _, rfl, _⟩ := h; rfl) (fun cdv A outer s H E hr =>
  (o_start (i := 6) scLawPileReader.nd rfl (by first | exact Or.inl rfl | exact Or.inr rfl) (dps_str (de_callTy call_intA s_int (by rfl) T.int (by decide +kernel) (da_cons (de_op op_addA s_add de_int (de_c mn_take cT hr (by decide) (by rfl) (da_cons (dv 0) (da_cons (dv 1) da_nil)))) da_nil)) (dps_str (de_c mnLawNames cN hr (by decide) (by rfl) (da_cons (dv 0) (da_cons (de_c mn_take cT hr (by decide) (by rfl) (da_cons (dv 0) (da_cons (de_op op_addA s_add (dv 2) de_int) da_nil))) da_nil))) (dps_str (de_lst da_nil) dps_nil))) (by decide) fun d1 d2 => (o_set (j := 7) scLawPileReader.nd rfl (by first | exact Or.inl rfl | exact Or.inr rfl) (de_op op_addA s_add de_int (de_c mn_take cT hr (by decide) (by rfl) (da_cons (dv 0) (da_cons (de_op op_sub s_sub (dv 3) de_int) da_nil)))) (o_put (hu_of hr) (pv 6) (de_comp (own := [("lap", 8)]) rfl scLawPileReader.nd (di_rg1 (by rfl) T.range (da_cons (dv 7) da_nil)) (blkOk_by (N := ["pot", "room", "boxes", "rows", "marks", "arrows", "own", "many", "lap"]) (sc := defScope sLawPileReader) (by decide +kernel)) gs_name (by decide) (fun _ _ _ _ _ => (pg_name (i := 8) scLawPileReader.nd rfl (by first | exact Or.inl rfl | exact Or.inr rfl))) (fun _ _ _ _ _ => dts_nil) (fun _ _ _ _ _ => (de_c mnLawPileRow cRow hr (by decide) (by rfl) (da_cons (dv 0) (da_cons (dv 6) (da_cons (dv 7) (da_cons (dv 4) (da_cons (dv 5) da_nil)))))))) (o_ret (pv 6)) (pg_sub (pv 6) pe_str (set_dict (hu_of hr))))))) (fun ds m Q h => by
    obtain ⟨room, boxes, rows, marks, arrows, rfl, h1, h2, h3, h4, h5, hM, hA, lM, lA, hm, q⟩ := h
    refine ⟨_, rfl, _, rfl, ?_⟩
    refine take_step (u := (room : Int)) (by omega) (by omega) (by omega) fun k n1 ik e1 => ?_
    have er : (1 : Int) + (k : Int) = ((1 + k : Nat) : Int) := by omega
    refine ⟨_, (fAdd_int : fAdd (.int 1) (.int (k : Int)) = _), _, fInt_int, _, rfl, _, rfl, _, rfl, _, fAdd_int, ?_⟩
    refine take_step (u := (boxes : Int) + 1) (by omega) (by omega) (by omega) fun b n2 ib e2 => ?_
    refine ⟨b, rfl, by omega, by omega, fun names n3 g1 g2 g3' g4 => ⟨(by show 0 ≤ sizeLine; decide), _, _, _, rfl, (by show 6 < 9; decide), ?_⟩⟩
    have g3 : ∀ z ∈ names, IsNm z := fun z hz => (g3' z hz).1
    rw [er]
    have O : ∀ d, OwnOk (own3 (.int ((1 + k : Nat) : Int)) (.lst (names.map .str)) d) (1 + k) names := fun d => own3_ok (by omega) (by omega) g3 (by omega)
    refine ⟨_, rfl, _, rfl, _, rfl, ?_⟩
    refine take_step (u := (rows : Int) - 1) (by omega) (by omega) (by omega) fun t n5 it e5 => ?_
    have em : (2 : Int) + (t : Int) = ((2 + t : Nat) : Int) := by omega
    refine ⟨_, (fAdd_int : fAdd (.int 2) (.int (t : Int)) = _), by rw [noDk], by decide, ?_⟩
    rw [em]
    have hl : (rgD 0 ((2 + t : Nat) : Int)).length = 2 + t := by
      unfold rgD
      rw [List.length_map, List.length_range]
      omega
    have x25 : (2 + t) * 25 ≤ 1975 := Nat.le_trans (Nat.mul_le_mul_right 25 (show 2 + t ≤ 79 by omega)) (by decide)
    refine ⟨_, rfl, _, rfl, by omega, by omega, ?_⟩
    refine lc_draw (P := fun y => ∃ row, y = .tup row ∧ PRow names (1 + k) (2 + t - 1) row) (B := 25) _ [] _ _ (fun x _ => ⟨_, rfl, fun m2 W w1 w2 => ?_⟩) (by rw [hl]; exact Nat.le_trans (show 0 + (2 + t) ≤ 100 by omega) (by decide)) (by rw [hl]; omega) (fun _ h => nomatch h) fun ys n6 y1 y2 y3 => ?_
    · exact ⟨_, rfl, _, rfl, _, rfl, _, rfl, _, rfl, _, 1 + k, 2 + t, names, marks, arrows, rfl, O _, by omega, by omega, hM, hA, lM, lA, w1, fun row m' g5 g6 => w2 _ m' ⟨row, rfl, g5⟩ g6⟩
    · obtain ⟨rws, rfl, hr⟩ := rows_of y2
      rw [hl] at y1 y3
      rw [List.length_map, List.length_nil, Nat.zero_add] at y1
      refine ⟨by rw [noDk]; exact rows_noDk hr, ?_⟩
      exact q _ names rws n6 ⟨g3', g2, by omega, by omega, by omega, fun z => by rw [z, List.length_nil] at y1; omega, by omega, by rw [y1]; exact hr⟩ (by omega))) fun _ _ _ _ _ _ us hl => match us, hl with | [_, _, _, _, _, _], _ => rfl
end L77
end
section
set_option Elab.async false
set_option linter.all false
set_option maxRecDepth 100000
set_option autoImplicit false
set_option maxHeartbeats 1000000
namespace L77
open PySem L2 Vb Vd
theorem scLawReaderText : FnScope ["own", "rows", "row", "word"] ["own"] (defScope sLawReaderText) := ⟨rfl, rfl, rfl, by decide +kernel, rfl, by decide +kernel, by decide +kernel⟩
theorem fin_ws {ws : List Str} (ne : ws ≠ []) (few : ws.length ≤ 61) (h : ∀ w ∈ ws, w.length ≤ 9 ∧ ∀ c ∈ w.cps.toList, 48 ≤ c ∧ c ≤ 122) : WsOk ws := ⟨ne, few, fun w hw => ⟨by have := (h w hw).1; omega, fun z => by have := (h w hw).2 _ z; omega, fun z => by have := (h w hw).2 _ z; omega⟩⟩
theorem room_tl : TL.tl ("room" : Str) = [114, 111, 111, 109] := by decide +kernel
theorem boxes_tl : TL.tl ("boxes" : Str) = [98, 111, 120, 101, 115] := by decide +kernel
theorem room_parts {n : Nat} (hn : n ≤ 20) : ∀ p ∈ (["room", numS n] : List Str), p.length ≤ 9 ∧ ∀ c ∈ p.cps.toList, 48 ≤ c ∧ c ≤ 122 := by
  intro p hp
  rcases List.mem_cons.mp hp with rfl | hp
  · refine ⟨by decide +kernel, fun c hc => ?_⟩
    have hc : c ∈ TL.tl ("room" : Str) := hc
    rw [room_tl] at hc
    simp at hc
    omega
  · obtain rfl := List.mem_singleton.mp hp
    refine ⟨num_len (by omega), fun c hc => ?_⟩
    have := num_cps c hc
    omega
theorem boxes_parts {boxes : List Str} (h : ∀ z ∈ boxes, IsNm z) : ∀ p ∈ ("boxes" :: boxes : List Str), p.length ≤ 9 ∧ ∀ c ∈ p.cps.toList, 48 ≤ c ∧ c ≤ 122 := by
  intro p hp
  rcases List.mem_cons.mp hp with rfl | hp
  · refine ⟨by decide +kernel, fun c hc => ?_⟩
    have hc : c ∈ TL.tl ("boxes" : Str) := hc
    rw [boxes_tl] at hc
    simp at hc
    omega
  · refine ⟨Nat.le_trans (h p hp).2.2 (by decide), fun c hc => ?_⟩
    have := (h p hp).1 c hc
    omega
/-- the words of a drawn pile reader's lines -/
def linesP (names : List Str) (r : Nat) (rws : List (List D)) : List (List Str) := (["room", numS r] : List Str) :: ("boxes" :: names) :: rws.map fun row => row.map txt
abbrev roomS (n : Nat) : Str := lineW ["room", numS n]
abbrev boxesS (names : List Str) : Str := lineW ("boxes" :: names)
abbrev lineS (row : List D) : Str := lineW (row.map txt)
abbrev readerS (names : List Str) (r : Nat) (rws : List (List D)) : Str := textW (linesP names r rws)
theorem POk.lines {names : List Str} {r : Nat} {rws : List (List D)} (h : POk names r rws) : ∀ ws ∈ linesP names r rws, WsOk ws := by
  have h20 := h.r20
  have h25 := h.few
  have h80 := h.r99
  intro ws hw
  rcases List.mem_cons.mp hw with rfl | hw
  · exact fin_ws (by simp) (by simp) (room_parts (by omega))
  · rcases List.mem_cons.mp hw with rfl | hw
    · exact fin_ws (by simp) (by simp; omega) (boxes_parts h.nm)
    · obtain ⟨x, hx, rfl⟩ := List.mem_map.mp hw
      exact (h.rows x hx).ws h.nm (by omega) (by omega)
theorem room_eq (n : Nat) : ("room " : Str) ++ numS n = roomS n := by
  refine TL.ext_tl ?_
  show (("room " : Str) ++ numS n).cps.toList = _
  rw [append_tl]
  unfold roomS lineW
  rw [TL.join_eq, TL.tl_join]
  show ("room " : Str).cps.toList ++ (numS n).cps.toList = TL.tl "room" ++ (TL.tl " " ++ TL.tl (numS n))
  have e : ("room " : Str).cps.toList = TL.tl "room" ++ TL.tl " " := by decide +kernel
  rw [e, List.append_assoc]
theorem sum_join {parts : List Str} {y : Str} {n : Nat} (h : ∀ z ∈ parts, z.length ≤ n) (hy : y.length = 1) (hb : parts.length * n + parts.length ≤ 16777216) : fJoin (.str y) [.lst (parts.map .str)] = some (.str (Txt.join y parts)) := by
  refine fJoin_strs ?_
  have : (parts.map (·.length)).sum ≤ parts.length * n := sum_le (f := fun z : Str => z.length) h
  rw [hy, Nat.mul_one]
  omega
theorem parts_kind {boxes : List Str} {room last : Nat} (h1 : room ≤ 20) (h2 : last < 40000) : ∀ {cs : List Nat} {ps : List D}, AllParts boxes room last cs ps → ∀ d ∈ ps, (∃ z, d = .str z) ∨ ∃ n : Nat, d = .int (n : Int) ∧ n < 1000000000
  | [], [], _, _, h => nomatch h
  | c :: _, p :: _, h, d, hd => by
    rcases List.mem_cons.mp hd with rfl | hd
    · rcases h.1 with ⟨z, rfl, _⟩ | ⟨n, rfl, h⟩
      · exact .inl ⟨z, rfl⟩
      · exact .inr ⟨n, rfl, by omega⟩
    · exact parts_kind h1 h2 h.2 d hd
  | [], _ :: _, h, _, _ => h.elim
  | _ :: _, [], h, _, _ => h.elim
theorem row_kind {boxes : List Str} {room last : Nat} (h1 : room ≤ 20) (h2 : last < 40000) {row : List D} (h : PRow boxes room last row) : ∀ d ∈ row, (∃ z, d = .str z) ∨ ∃ n : Nat, d = .int (n : Int) ∧ n < 1000000000 := by
  obtain ⟨z, L, ps, rfl, _, _, _, hp⟩ := h
  intro d hd
  rcases List.mem_cons.mp hd with rfl | hd
  · exact .inl ⟨z, rfl⟩
  · exact parts_kind h1 h2 hp d hd
def tLine : TD := dMt "str" fJoin (dC (.str " ")) (aCons (dLc (dSeqT (dVar 2)) (fName 3) dYes (dIf (dTst (dCall fIsi (aCons (dVar 3) (aCons (dC (.op (V.ty "str"))) aNil)))) (dVar 3) (dCall fStr (aCons (dCall fInt (aCons (dVar 3) aNil)) aNil))) [3]) aNil)
theorem line_of {boxes : List Str} {room last : Nat} (hb : ∀ z ∈ boxes, IsNm z) (h1 : room ≤ 20) (h2 : last < 40000) {row : List D} (h : PRow boxes room last row) {ρ : Rho} {m : Nat} {Q : D → Nat → Prop} (l : ρ.length = 4) (e2 : ρ[2]? = some (some (.d (.tup row)))) (q : Q (.str (lineS row)) m) : tLine ρ m Q := by
  obtain ⟨n1, n2, n3⟩ := h.txts hb h1 h2
  refine ⟨rfl, _, e2, _, rfl, ?_⟩
  refine lc_map (f := fName 3) (vs := [3]) (ρ := ρ) (g := fun d => .str (txt d)) row [] (fun x hx => ⟨_, rfl, fun R r => ?_⟩) (Nat.le_trans (show 0 + row.length ≤ 5 by omega) (by decide)) ?_
  · rcases row_kind h1 h2 h x hx with ⟨z, rfl⟩ | ⟨n, rfl, hn⟩
    · exact ⟨.str z, by simp [wipeR, List.getElem?_set, l], _, rfl, true, rfl, .str z, by simp [wipeR, List.getElem?_set, l], r⟩
    · exact ⟨.int (n : Int), by simp [wipeR, List.getElem?_set, l], _, rfl, false, rfl, .int (n : Int), by simp [wipeR, List.getElem?_set, l], _, fInt_int, _, fStr_num hn, r⟩
  · have e : (([] : List D) ++ row.map fun d => .str (txt d)) = (row.map txt).map .str := by rw [List.nil_append, List.map_map]; rfl
    rw [e]
    exact ⟨_, sum_join (n := 9) (fun z hz => by
      obtain ⟨d, hd, rfl⟩ := List.mem_map.mp hz
      exact (n3 d hd).1) blank_len (by rw [List.length_map]; omega), q⟩
theorem text_walk {boxes : List Str} {room last : Nat} (hb : ∀ z ∈ boxes, IsNm z) (h1 : room ≤ 20) (h2 : last < 40000) {a : Addr} {D0 : Ed} {m : Nat} : ∀ (rws : List (List D)) (acc : List Str) (ρ : Rho), ρ.length = 4 → ρ[1]? = some (some (.own a (acc.map .str))) → (∀ r ∈ rws, PRow boxes room last r) → acc.length + rws.length ≤ 200 →
    (∀ ρ', ρ'[1]? = some (some (.own a ((acc ++ rws.map lineS).map .str))) → D0.nx ρ' m) → flD (fName 2) (sApp 1 tLine) D0 (rws.map .tup) ρ m
  | [], acc, ρ, _, e, _, _, q => q ρ (by rw [List.map_nil, List.append_nil]; exact e)
  | r :: rws, acc, ρ, l, e, h, hl, q => by
    rw [List.length_cons] at hl
    refine ⟨_, rfl, a, acc.map .str, by simpa [List.getElem?_set] using e, line_of hb h1 h2 (h r List.mem_cons_self) (by simp [l]) (by simp [List.getElem?_set, l]) ⟨?_, ?_⟩⟩
    · rw [List.length_map]
      exact Nat.lt_of_lt_of_le (show acc.length < 200 by omega) (by decide)
    · have e' : acc.map D.str ++ [.str (lineS r)] = (acc ++ [lineS r]).map .str := by rw [List.map_append]; rfl
      rw [e']
      exact text_walk hb h1 h2 (a := a) rws (acc ++ [lineS r]) _ (by simp [l]) (by simp [List.getElem?_set, l]) (fun x hx => h x (List.mem_cons_of_mem _ hx)) (by rw [List.length_append, List.length_singleton]; omega) fun ρ' z => q ρ' (by rw [z, List.append_assoc]; rfl)
def FLawReaderText : FD := fun ds m Q => ∃ (r : Nat) (names : List Str) (rws : List (List D)), ds = [.dk (own3 (.int (r : Int)) (.lst (names.map .str)) (.lst (rws.map .tup)))] ∧ POk names r rws ∧ Q (.str (readerS names r rws)) m
theorem mnLawReaderText : MnF FLawReaderText := fun ds m Q Q' w ⟨a, b, c, h1, h2, q⟩ => ⟨a, b, c, h1, h2, w _ _ q⟩
theorem calLawReaderText {P : Program} {w : World} {K : PySem.W.Frag} {mg : Str → Option Value} {base : Heap} (D : Df K mg "_law_reader_text" sLawReaderText) (T : Bi mg) (G : Gi mg) : Cal P w K mg base 1 "_law_reader_text" (spD K FLawReaderText) :=
  D.cal ["own"] (fun f fd Fu => Fun.okD Fu scLawReaderText (fun ds m Q h => by obtain ⟨_, _, _, rfl, _⟩ := h; rfl) (fun cdv A outer s H E hr =>
  dss_cons (ds_own (i := 1) scLawReaderText.nd rfl (by first | exact Or.inl rfl | exact Or.inr rfl) (da_cons (de_op op_addA s_add de_str (de_callTy call_str_int s_str (by rfl) T.str (by decide +kernel) (da_cons (de_callTy call_intA s_int (by rfl) T.int (by decide +kernel) (da_cons (de_dget (hu_of hr) (dv 0) de_str (fun _ _ => rfl)) da_nil)) da_nil))) (da_cons (de_m PySem.F.plainAttrs_str PySem.F.slot_str_join PySem.F.type_str_join mt_join s_join de_str (da_cons (de_op op_addA s_add (de_lst (da_cons de_str da_nil)) (de_dget (hu_of hr) (dv 0) de_str (fun _ _ => rfl))) da_nil)) da_nil)))
    (dss_cons (ds_loop PassesOwn.never rfl (di_list (de_dget (hu_of hr) (dv 0) de_str (fun _ _ => rfl))) (pg_name (i := 2) scLawReaderText.nd rfl (by first | exact Or.inl rfl | exact Or.inr rfl)) gs_name
      (dss_one (ds_app (i := 1) (pv 1) (de_m PySem.F.plainAttrs_str PySem.F.slot_str_join PySem.F.type_str_join mt_join s_join de_str (da_cons (de_comp (own := [("word", 3)]) rfl scLawReaderText.nd (di_tup (dv 2)) (blkOk_by (N := ["own", "rows", "row", "word"]) (sc := defScope sLawReaderText) (by decide +kernel)) gs_name (by decide) (fun _ _ _ _ _ => (pg_name (i := 3) scLawReaderText.nd rfl (by first | exact Or.inl rfl | exact Or.inr rfl))) (fun _ _ _ _ _ => dts_nil) (fun _ _ _ _ _ => (de_if (dt_val (de_callB call_isi s_isi (by rfl) T.isinstance (by decide +kernel) (da_cons (dv 3) (da_cons (de_ty (T := "str") (by rfl) T.str (by decide +kernel)) da_nil)))) (dv 3) (de_callTy call_str_int s_str (by rfl) T.str (by decide +kernel) (da_cons (de_callTy call_intA s_int (by rfl) T.int (by decide +kernel) (da_cons (dv 3) da_nil)) da_nil))))) da_nil)))))
    (dss_frz 1 (dss_one (ds_ret (de_m PySem.F.plainAttrs_str PySem.F.slot_str_join PySem.F.type_str_join mt_join s_join de_str (da_cons (dv 1) da_nil))))))) (fun ds m Q h => by
    obtain ⟨r, names, rws, rfl, R, q⟩ := h
    have hR := R.r20
    have hF := R.few
    have hW := R.r99
    have all : ∀ z ∈ (linesP names r rws).map lineW, z.length ≤ 1300 := fun z hz => by
      obtain ⟨ws, hw, rfl⟩ := List.mem_map.mp hz
      exact (line_split (R.lines ws hw)).2.1
    have rl : ("room " : Str).length + (numS r).length ≤ sizeLine := by
      have a1 : ("room " : Str).length = 5 := by decide +kernel
      have a2 := num_len (n := r) (by omega)
      rw [a1]
      exact Nat.le_trans (show 5 + (numS r).length ≤ 14 by omega) (by decide)
    have bl : ([.str "boxes"] : List Vd.D).length + (names.map Vd.D.str).length ≤ sizeLine := by
      rw [List.length_map]
      exact Nat.le_trans (show 1 + names.length ≤ 100 by omega) (by decide)
    refine ⟨_, rfl, _, rfl, _, fInt_int, _, fStr_num (by omega), _, fAdd_str rl, rfl, (by show 1 ≤ sizeLine; decide), _, rfl, _, rfl, _, fAdd_lst bl, _, sum_join (parts := "boxes" :: names) (n := 9) (fun z hz => (boxes_parts R.nm z hz).1) blank_len (by rw [List.length_cons]; omega), (by show 2 ≤ sizeLine; decide), (by show 1 < 4; decide), fun a na => ?_⟩
    refine ⟨_, rfl, _, rfl, _, rfl, ?_⟩
    rw [room_eq]
    refine text_walk R.nm (show r ≤ 20 by omega) (show rws.length - 1 < 40000 by omega) (a := a) rws [roomS r, boxesS names] _ rfl rfl R.rows (by simp; omega) fun ρ' e => ?_
    obtain ⟨l1, _⟩ := List.getElem?_eq_some_iff.mp e
    have el : ([roomS r, boxesS names] ++ rws.map lineS) = (linesP names r rws).map lineW := by
      unfold linesP
      rw [List.map_cons, List.map_cons, List.map_map]
      rfl
    rw [el] at e
    exact ⟨a, _, e, rfl, _, List.getElem?_set_self l1, _, sum_join (n := 1300) all nl_len (by unfold linesP; simp; omega), q⟩)) fun _ _ _ _ _ _ us hl => match us, hl with | [_], _ => rfl
end L77
end
section
set_option Elab.async false
set_option linter.all false
set_option maxRecDepth 100000
set_option autoImplicit false
set_option maxHeartbeats 1000000
/-! The handler that tells the value of an error of one class. -/
namespace Ve
open PySem L2 PySem.Spec Vb Vd
open PyProof.Rows hiding St
def uIs (C : Addr) : Addr → D → TSD := fun B y D _ μ => B = C ∧ D.rt y μ
theorem su_is {X : Cx} {i j : Nat} {n x z : Str} {C fI : Addr} {p p1 p2 p3 p4 p5 p6 p7 p8 : Pos} (T : ErrC X.K fI C) (hN : X.N[i]? = some n) (hv : Vis X.env.scope n) (hg : Gl X "isinstance") (hm : X.mg "isinstance" = none) (hgx : Gl X x) (hmx : X.mg x = some (.ref C)) (hdx : (x == ("__debug__" : Str)) = false := by decide) (hd : (n == ("__debug__" : Str)) = false := by decide) (hcd : (n == ("__classdict__" : Str)) = false := by decide)
    (hb : attributeBase (.Name n p3) "value" X.env (eval (.Name n p3) X.env) = eval (.Name n p3) X.env := by rfl)
    (hs : starEach [.Name n p1, .Name x p2] X.env = (false, eval (.Name n p1) X.env) :: starEach [.Name x p2] X.env := by rfl) (hs2 : starEach [.Name x p2] X.env = (false, eval (.Name x p2) X.env) :: starEach [] X.env := by rfl) (hpl : (backTo p4 (starEach [.Name x p2] X.env)).any (·.1) = false := by rfl)
    (hw : ∀ whole, isTrue (.Call (.Name "isinstance" p) [.Name n p1, .Name x p2] [] p4) X.env whole = (do let v ← whole; standAt (Expr.Call (.Name "isinstance" p) [.Name n p1, .Name x p2] [] p4).pos; holding [v] (truthy v)) := by intro _; rfl) :
    SU X i [.Return (some (.IfExp (.Call (.Name "isinstance" p) [.Name n p1, .Name x p2] [] p4) (.Attribute (.Name n p3) "value" p5) (.Constant (.str z) j p6) p7)) p8] (uIs C) := by
  refine ⟨fun a oe B dA pn hz hf => ?_, fun B y a b ρ μ l ⟨e, q⟩ => ⟨e, l.rt _ _ q⟩⟩
  by_cases e : B = C
  · subst e
    have va : ∀ {q : Pos}, PE (X.suite a ((a, oe) :: pn)) (.Name n q) (tVar i) := pe_var hN hv hd hcd
    refine pss_wk' (pss_one (ps_ret (pe_ifExp (pt_val (pe_callB (call_isS T.ex hz hf) hg hm (by decide +kernel) (pa_cons va (pa_cons (pe_glob (v := .ref B) hgx hmx rfl hdx) pa_nil hs2) hs) (by decide) (by decide) hs hpl) hw) (pe_xf T.xf T.nv hz hf va hb) pe_str))) ?_
    rintro D σ H ⟨F, S, ρ, μ, y, v, A, hi, hd, hv, e, q⟩
    obtain ⟨v0, hv0, r0⟩ := A.var i _ hi
    cases r0
    have ks : PySem.W.kitOne X.K (.ref B) (.ref B) = some true := by
      unfold PySem.W.kitOne
      rw [if_pos (beq_self_eq_true _)]
    exact ⟨_, hv0, .ref B, .ref B, true, _, rfl, fun u h => h, hd, ks, true, rfl, _, hv0, rfl, rfl, dA, _, v, rfl, hd, rfl, q v σ H S ρ .refl A hv⟩
  · exact ⟨fun pins s σ H D I ⟨F, S, ρ, μ, y, v, A, hi, hd, hv, e', q⟩ => absurd e' e⟩
theorem es_tryK {X : Cx} {x n : Str} {c : Value} {i : Nat} {body suite : List Stmt} {b₀ : Stmt} {np pos pos' : Pos} {t : TSD} {u : Addr → D → TSD} {K : PySem.W.Frag} (eK : X.K = K) (hs : X.stack = X.env :: X.outer) (hf : X.env.frame = some X.env.locals) (hN : X.N.Nodup) (hi : X.N[i]? = some n) (hln : X.env.kindOf n = some .local) (hc : Names X x c)
    (hb : ∀ (pn : List (Addr × Obj)) (xe : Value → Shared → Prop), ESs (X.tr pn xe) body t) (hu : SU X i (b₀ :: suite) u) : ES X (.Try body [.ExceptHandler (some (.Name x np)) (some n) (b₀ :: suite) pos'] [] [] pos) (sTry K c i t u) := by
  subst eK
  exact es_tryAs hs hf hN hi hln hc hb hu
theorem es_tryIs {X : Cx} {x n y z : Str} {c : Value} {i j : Nat} {C fI : Addr} {body : List Stmt} {np pos pos' : Pos} {p p1 p2 p3 p4 p5 p6 p7 p8 : Pos} {t : TSD} {K : PySem.W.Frag} (eK : X.K = K) (hs : X.stack = X.env :: X.outer) (hf : X.env.frame = some X.env.locals) (hN : X.N.Nodup) (hi : X.N[i]? = some n) (hln : X.env.kindOf n = some .local) (hc : Names X x c)
    (hb : ∀ (pn : List (Addr × Obj)) (xe : Value → Shared → Prop), ESs (X.tr pn xe) body t) (T : ErrC X.K fI C) (hv : Vis X.env.scope n) (hg : Gl X "isinstance") (hm : X.mg "isinstance" = none) (hgx : Gl X y) (hmx : X.mg y = some (.ref C)) (hdx : (y == ("__debug__" : Str)) = false := by decide) (hd : (n == ("__debug__" : Str)) = false := by decide) (hcd : (n == ("__classdict__" : Str)) = false := by decide)
    (hb1 : attributeBase (.Name n p3) "value" X.env (eval (.Name n p3) X.env) = eval (.Name n p3) X.env := by rfl)
    (hs1 : starEach [.Name n p1, .Name y p2] X.env = (false, eval (.Name n p1) X.env) :: starEach [.Name y p2] X.env := by rfl) (hs2 : starEach [.Name y p2] X.env = (false, eval (.Name y p2) X.env) :: starEach [] X.env := by rfl) (hpl : (backTo p4 (starEach [.Name y p2] X.env)).any (·.1) = false := by rfl)
    (hw : ∀ whole, isTrue (.Call (.Name "isinstance" p) [.Name n p1, .Name y p2] [] p4) X.env whole = (do let v ← whole; standAt (Expr.Call (.Name "isinstance" p) [.Name n p1, .Name y p2] [] p4).pos; holding [v] (truthy v)) := by intro _; rfl) :
    ES X (.Try body [.ExceptHandler (some (.Name x np)) (some n) [.Return (some (.IfExp (.Call (.Name "isinstance" p) [.Name n p1, .Name y p2] [] p4) (.Attribute (.Name n p3) "value" p5) (.Constant (.str z) j p6) p7)) p8] pos'] [] [] pos) (sTry K c i t (uIs C)) :=
  es_tryK eK hs hf hN hi hln hc hb (su_is T hi hv hg hm hgx hmx hdx hd hcd hb1 hs1 hs2 hpl hw)
end Ve
end
section
set_option Elab.async false
set_option linter.all false
set_option maxRecDepth 100000
set_option autoImplicit false
set_option maxHeartbeats 1000000
namespace L77
open PySem L2 Vb Vd
theorem scLawHeard : FnScope ["text", "error"] ["text"] (defScope sLawHeard) := ⟨rfl, rfl, rfl, by decide +kernel, rfl, by decide +kernel, by decide +kernel⟩
/-- a value that is no pile reader's text, and what its error tells -/
def BadX (x : D) (n : Int) : Prop := (NoStr x ∧ n = 0) ∨ ∃ (lines : List (List Str)) (k : Nat), x = .str (textW lines) ∧ lines.length ≤ 100 ∧ (∀ ws ∈ lines, WsOk ws) ∧ ReadsR pileD lines (.inr k) ∧ n = k
def FLawHeard : Ve.FE := fun ds μ X Q => ∃ (x : D) (n : Int), ds = [x] ∧ μ = [] ∧ BadX x n ∧ ∀ ν, Q (.int n) ν
theorem mnLawHeard : Ve.MnF FLawHeard := fun ds μ X X' Q Q' wx w ⟨a, b, h1, h2, h3, q⟩ => ⟨a, b, h1, h2, h3, fun ν => w _ _ (q ν)⟩
theorem calLawHeard {P : Program} {w : World} {K : PySem.W.Frag} {mg : Str → Option Value} {base : Heap} {R C B E fI gI aF aP aN : Addr} (D : Df K mg "_law_heard" sLawHeard) (T : Bi mg) (M : Mo K w mg R C aF aP aN) (c : Rc K C gI) (EC : ErrC K fI B) (mB : mg "BadReader" = some (.ref B)) (mE : mg "RollError" = some (.ref E)) (hx : PySem.W.exmOne K (.ref B) (.ref E) = some true)
    {fd : FuncData} (Fn : FnOk P w K mg base (L2.CX P w) 6 gI fd ["self", "text"] (Ve.spMkE K C (FMake pileD C B))) (bn : L2.Binds K fd ["self", "text"] []) : Ve.CalE P w K mg base 8 "_law_heard" FLawHeard :=
  D.calE ["text"] (fun f fd Fu => Ve.okE (N := ["text", "error"]) Fu scLawHeard (fun ds μ X Q h => by obtain ⟨_, _, rfl, _⟩ := h; rfl) (fun cdv A outer s H E' hr =>
  Ve.ess_cons (Ve.es_tryIs (K := K) (C := B) (c := .ref E) (i := 1) rfl rfl rfl scLawHeard.nd rfl rfl ⟨by rfl, by decide, .inl mE⟩ (fun pn xe => Ve.ess_one (Ve.es_expr (Ve.ee_make mnMake c.make Fn (hr.mono (by decide)) (by rfl) M.mC bn (Ve.ea_cons (Ve.ee_d (dv 0)) Ve.ea_nil)))) EC (by first | exact Or.inl rfl | exact Or.inr rfl) (by rfl) T.isinstance (by rfl) mB)
    (Ve.ess_one (Ve.es_ret (Ve.ee_d de_non)))) (fun ds μ X Q h => by
    obtain ⟨x, n, rfl, rfl, h, q⟩ := h
    have fin : ∀ (m : Int), m = n → ∀ ν, Ve.xT K (.ref E) 1 (Ve.uIs B) { nx := Ve.sRet (Ve.eD (dC Vd.D.non)) { nx := fun _ ν => Q .non ν, rt := Q, xc := fun C y _ ν => X C y ν }, rt := Q, xc := fun C y _ ν => X C y ν } B (.int m) (startR ["text", "error"] [x]) ν := fun m e ν => ⟨(by show 1 < 2; decide), hx, fun ex => ⟨rfl, e ▸ q _⟩⟩
    refine ⟨_, rfl, x, rfl, rfl, ?_⟩
    rcases h with ⟨nx, rfl⟩ | ⟨lines, k, rfl, h1, h2, h3, rfl⟩
    · exact .inl ⟨nx, fun ν => fin 0 rfl _⟩
    · exact .inr ⟨lines, .inr k, rfl, h1, h2, h3, fun r bs rows e => (nomatch e), fun n e ν => by cases e; exact fin _ rfl _⟩)) fun _ _ _ _ _ _ us hl => match us, hl with | [_], _ => rfl
end L77
end
section
set_option Elab.async false
set_option linter.all false
set_option maxRecDepth 100000
set_option autoImplicit false
set_option maxHeartbeats 1000000
namespace L77
open PySem L2 Vb Vd
theorem lt0 : ("" : Str).cps.toList = [] := by decide +kernel
theorem lt1 : (" " : Str).cps.toList = [32] := by decide +kernel
theorem lt2 : (" 0" : Str).cps.toList = [32, 48] := by decide +kernel
theorem lt3 : (" 1000000000" : Str).cps.toList = [32, 49, 48, 48, 48, 48, 48, 48, 48, 48, 48] := by decide +kernel
theorem lt4 : (" let" : Str).cps.toList = [32, 108, 101, 116] := by decide +kernel
theorem lt5 : (" nobox" : Str).cps.toList = [32, 110, 111, 98, 111, 120] := by decide +kernel
theorem lt6 : (" x" : Str).cps.toList = [32, 120] := by decide +kernel
theorem lt7 : ("-1" : Str).cps.toList = [45, 49] := by decide +kernel
theorem lt8 : ("0" : Str).cps.toList = [48] := by decide +kernel
theorem lt9 : ("01" : Str).cps.toList = [48, 49] := by decide +kernel
theorem lt10 : ("1" : Str).cps.toList = [49] := by decide +kernel
theorem lt11 : ("1000000000" : Str).cps.toList = [49, 48, 48, 48, 48, 48, 48, 48, 48, 48] := by decide +kernel
theorem lt12 : ("A" : Str).cps.toList = [65] := by decide +kernel
theorem lt13 : ("Let" : Str).cps.toList = [76, 101, 116] := by decide +kernel
theorem lt14 : ("Q" : Str).cps.toList = [81] := by decide +kernel
theorem lt15 : ("a" : Str).cps.toList = [97] := by decide +kernel
theorem lt16 : ("abcdefghi" : Str).cps.toList = [97, 98, 99, 100, 101, 102, 103, 104, 105] := by decide +kernel
theorem lt17 : ("arrow" : Str).cps.toList = [97, 114, 114, 111, 119] := by decide +kernel
theorem lt18 : ("arrow a " : Str).cps.toList = [97, 114, 114, 111, 119, 32, 97, 32] := by decide +kernel
theorem lt19 : ("back" : Str).cps.toList = [98, 97, 99, 107] := by decide +kernel
theorem lt20 : ("back 0" : Str).cps.toList = [98, 97, 99, 107, 32, 48] := by decide +kernel
theorem lt21 : ("boxes" : Str).cps.toList = [98, 111, 120, 101, 115] := by decide +kernel
theorem lt22 : ("boxes a" : Str).cps.toList = [98, 111, 120, 101, 115, 32, 97] := by decide +kernel
theorem lt23 : ("call" : Str).cps.toList = [99, 97, 108, 108] := by decide +kernel
theorem lt24 : ("call " : Str).cps.toList = [99, 97, 108, 108, 32] := by decide +kernel
theorem lt25 : ("call 0 " : Str).cps.toList = [99, 97, 108, 108, 32, 48, 32] := by decide +kernel
theorem lt26 : ("call 0  " : Str).cps.toList = [99, 97, 108, 108, 32, 48, 32, 32] := by decide +kernel
theorem lt27 : ("call 0 Q" : Str).cps.toList = [99, 97, 108, 108, 32, 48, 32, 81] := by decide +kernel
theorem lt28 : ("call x" : Str).cps.toList = [99, 97, 108, 108, 32, 120] := by decide +kernel
theorem lt29 : ("edge" : Str).cps.toList = [101, 100, 103, 101] := by decide +kernel
theorem lt30 : ("edge " : Str).cps.toList = [101, 100, 103, 101, 32] := by decide +kernel
theorem lt31 : ("either" : Str).cps.toList = [101, 105, 116, 104, 101, 114] := by decide +kernel
theorem lt32 : ("either 0" : Str).cps.toList = [101, 105, 116, 104, 101, 114, 32, 48] := by decide +kernel
theorem lt33 : ("go" : Str).cps.toList = [103, 111] := by decide +kernel
theorem lt34 : ("go " : Str).cps.toList = [103, 111, 32] := by decide +kernel
theorem lt35 : ("go -1" : Str).cps.toList = [103, 111, 32, 45, 49] := by decide +kernel
theorem lt36 : ("go 01" : Str).cps.toList = [103, 111, 32, 48, 49] := by decide +kernel
theorem lt37 : ("is" : Str).cps.toList = [105, 115] := by decide +kernel
theorem lt38 : ("is " : Str).cps.toList = [105, 115, 32] := by decide +kernel
theorem lt39 : ("less" : Str).cps.toList = [108, 101, 115, 115] := by decide +kernel
theorem lt40 : ("less " : Str).cps.toList = [108, 101, 115, 115, 32] := by decide +kernel
theorem lt41 : ("let" : Str).cps.toList = [108, 101, 116] := by decide +kernel
theorem lt42 : ("let " : Str).cps.toList = [108, 101, 116, 32] := by decide +kernel
theorem lt43 : ("let let" : Str).cps.toList = [108, 101, 116, 32, 108, 101, 116] := by decide +kernel
theorem lt44 : ("mark" : Str).cps.toList = [109, 97, 114, 107] := by decide +kernel
theorem lt45 : ("mark A " : Str).cps.toList = [109, 97, 114, 107, 32, 65, 32] := by decide +kernel
theorem lt46 : ("mark abcdefghi " : Str).cps.toList = [109, 97, 114, 107, 32, 97, 98, 99, 100, 101, 102, 103, 104, 105, 32] := by decide +kernel
theorem lt47 : ("nobox" : Str).cps.toList = [110, 111, 98, 111, 120] := by decide +kernel
theorem lt48 : ("put" : Str).cps.toList = [112, 117, 116] := by decide +kernel
theorem lt49 : ("put " : Str).cps.toList = [112, 117, 116, 32] := by decide +kernel
theorem lt50 : ("refuse" : Str).cps.toList = [114, 101, 102, 117, 115, 101] := by decide +kernel
theorem lt51 : ("refuse 0" : Str).cps.toList = [114, 101, 102, 117, 115, 101, 32, 48] := by decide +kernel
theorem lt52 : ("room" : Str).cps.toList = [114, 111, 111, 109] := by decide +kernel
theorem lt53 : ("room 1" : Str).cps.toList = [114, 111, 111, 109, 32, 49] := by decide +kernel
theorem lt54 : ("same" : Str).cps.toList = [115, 97, 109, 101] := by decide +kernel
theorem lt55 : ("same " : Str).cps.toList = [115, 97, 109, 101, 32] := by decide +kernel
theorem lt56 : ("set" : Str).cps.toList = [115, 101, 116] := by decide +kernel
theorem lt57 : ("set " : Str).cps.toList = [115, 101, 116, 32] := by decide +kernel
theorem lt58 : ("take" : Str).cps.toList = [116, 97, 107, 101] := by decide +kernel
theorem lt59 : ("take 1 " : Str).cps.toList = [116, 97, 107, 101, 32, 49, 32] := by decide +kernel
theorem lt60 : ("take 1 a" : Str).cps.toList = [116, 97, 107, 101, 32, 49, 32, 97] := by decide +kernel
theorem lt61 : ("up" : Str).cps.toList = [117, 112] := by decide +kernel
theorem lt62 : ("up " : Str).cps.toList = [117, 112, 32] := by decide +kernel
theorem lt63 : ("up Q" : Str).cps.toList = [117, 112, 32, 81] := by decide +kernel
theorem lt64 : ("within" : Str).cps.toList = [119, 105, 116, 104, 105, 110] := by decide +kernel
theorem lt65 : ("within " : Str).cps.toList = [119, 105, 116, 104, 105, 110, 32] := by decide +kernel
theorem lt66 : ("x" : Str).cps.toList = [120] := by decide +kernel
theorem sq0 {box many room : Str} : ("" : Str) = lineW ([("" : Str)] : List Str) := by
  refine TL.ext_tl ?_
  unfold lineW
  rw [TL.join_eq]
  show (("" : Str)).cps.toList = (("" : Str)).cps.toList
  simp only [append_tl, List.append_assoc, List.cons_append, List.nil_append, lt0, lt1, lt2, lt3, lt4, lt5, lt6, lt7, lt8, lt9, lt10, lt11, lt12, lt13, lt14, lt15, lt16, lt17, lt18, lt19, lt20, lt21, lt22, lt23, lt24, lt25, lt26, lt27, lt28, lt29, lt30, lt31, lt32, lt33, lt34, lt35, lt36, lt37, lt38, lt39, lt40, lt41, lt42, lt43, lt44, lt45, lt46, lt47, lt48, lt49, lt50, lt51, lt52, lt53, lt54, lt55, lt56, lt57, lt58, lt59, lt60, lt61, lt62, lt63, lt64, lt65, lt66]
theorem sq1 {box many room : Str} : ("take 1 a" : Str) = lineW ([("take" : Str), ("1" : Str), ("a" : Str)] : List Str) := by
  refine TL.ext_tl ?_
  unfold lineW
  rw [TL.join_eq]
  show (("take 1 a" : Str)).cps.toList = (("take" : Str) ++ (" " : Str) ++ (("1" : Str) ++ (" " : Str) ++ (("a" : Str)))).cps.toList
  simp only [append_tl, List.append_assoc, List.cons_append, List.nil_append, lt0, lt1, lt2, lt3, lt4, lt5, lt6, lt7, lt8, lt9, lt10, lt11, lt12, lt13, lt14, lt15, lt16, lt17, lt18, lt19, lt20, lt21, lt22, lt23, lt24, lt25, lt26, lt27, lt28, lt29, lt30, lt31, lt32, lt33, lt34, lt35, lt36, lt37, lt38, lt39, lt40, lt41, lt42, lt43, lt44, lt45, lt46, lt47, lt48, lt49, lt50, lt51, lt52, lt53, lt54, lt55, lt56, lt57, lt58, lt59, lt60, lt61, lt62, lt63, lt64, lt65, lt66]
theorem sq2 {box many room : Str} : ("either 0" : Str) = lineW ([("either" : Str), ("0" : Str)] : List Str) := by
  refine TL.ext_tl ?_
  unfold lineW
  rw [TL.join_eq]
  show (("either 0" : Str)).cps.toList = (("either" : Str) ++ (" " : Str) ++ (("0" : Str))).cps.toList
  simp only [append_tl, List.append_assoc, List.cons_append, List.nil_append, lt0, lt1, lt2, lt3, lt4, lt5, lt6, lt7, lt8, lt9, lt10, lt11, lt12, lt13, lt14, lt15, lt16, lt17, lt18, lt19, lt20, lt21, lt22, lt23, lt24, lt25, lt26, lt27, lt28, lt29, lt30, lt31, lt32, lt33, lt34, lt35, lt36, lt37, lt38, lt39, lt40, lt41, lt42, lt43, lt44, lt45, lt46, lt47, lt48, lt49, lt50, lt51, lt52, lt53, lt54, lt55, lt56, lt57, lt58, lt59, lt60, lt61, lt62, lt63, lt64, lt65, lt66]
theorem sq3 {box many room : Str} : ("Let" : Str) = lineW ([("Let" : Str)] : List Str) := by
  refine TL.ext_tl ?_
  unfold lineW
  rw [TL.join_eq]
  show (("Let" : Str)).cps.toList = (("Let" : Str)).cps.toList
  simp only [append_tl, List.append_assoc, List.cons_append, List.nil_append, lt0, lt1, lt2, lt3, lt4, lt5, lt6, lt7, lt8, lt9, lt10, lt11, lt12, lt13, lt14, lt15, lt16, lt17, lt18, lt19, lt20, lt21, lt22, lt23, lt24, lt25, lt26, lt27, lt28, lt29, lt30, lt31, lt32, lt33, lt34, lt35, lt36, lt37, lt38, lt39, lt40, lt41, lt42, lt43, lt44, lt45, lt46, lt47, lt48, lt49, lt50, lt51, lt52, lt53, lt54, lt55, lt56, lt57, lt58, lt59, lt60, lt61, lt62, lt63, lt64, lt65, lt66]
theorem sq4 {box many room : Str} : ("let " : Str) = lineW ([("let" : Str), ("" : Str)] : List Str) := by
  refine TL.ext_tl ?_
  unfold lineW
  rw [TL.join_eq]
  show (("let " : Str)).cps.toList = (("let" : Str) ++ (" " : Str) ++ (("" : Str))).cps.toList
  simp only [append_tl, List.append_assoc, List.cons_append, List.nil_append, lt0, lt1, lt2, lt3, lt4, lt5, lt6, lt7, lt8, lt9, lt10, lt11, lt12, lt13, lt14, lt15, lt16, lt17, lt18, lt19, lt20, lt21, lt22, lt23, lt24, lt25, lt26, lt27, lt28, lt29, lt30, lt31, lt32, lt33, lt34, lt35, lt36, lt37, lt38, lt39, lt40, lt41, lt42, lt43, lt44, lt45, lt46, lt47, lt48, lt49, lt50, lt51, lt52, lt53, lt54, lt55, lt56, lt57, lt58, lt59, lt60, lt61, lt62, lt63, lt64, lt65, lt66]
theorem sq5 {box many room : Str} : (" let" : Str) = lineW ([("" : Str), ("let" : Str)] : List Str) := by
  refine TL.ext_tl ?_
  unfold lineW
  rw [TL.join_eq]
  show ((" let" : Str)).cps.toList = (("" : Str) ++ (" " : Str) ++ (("let" : Str))).cps.toList
  simp only [append_tl, List.append_assoc, List.cons_append, List.nil_append, lt0, lt1, lt2, lt3, lt4, lt5, lt6, lt7, lt8, lt9, lt10, lt11, lt12, lt13, lt14, lt15, lt16, lt17, lt18, lt19, lt20, lt21, lt22, lt23, lt24, lt25, lt26, lt27, lt28, lt29, lt30, lt31, lt32, lt33, lt34, lt35, lt36, lt37, lt38, lt39, lt40, lt41, lt42, lt43, lt44, lt45, lt46, lt47, lt48, lt49, lt50, lt51, lt52, lt53, lt54, lt55, lt56, lt57, lt58, lt59, lt60, lt61, lt62, lt63, lt64, lt65, lt66]
theorem sq6 {box many room : Str} : ("let let" : Str) = lineW ([("let" : Str), ("let" : Str)] : List Str) := by
  refine TL.ext_tl ?_
  unfold lineW
  rw [TL.join_eq]
  show (("let let" : Str)).cps.toList = (("let" : Str) ++ (" " : Str) ++ (("let" : Str))).cps.toList
  simp only [append_tl, List.append_assoc, List.cons_append, List.nil_append, lt0, lt1, lt2, lt3, lt4, lt5, lt6, lt7, lt8, lt9, lt10, lt11, lt12, lt13, lt14, lt15, lt16, lt17, lt18, lt19, lt20, lt21, lt22, lt23, lt24, lt25, lt26, lt27, lt28, lt29, lt30, lt31, lt32, lt33, lt34, lt35, lt36, lt37, lt38, lt39, lt40, lt41, lt42, lt43, lt44, lt45, lt46, lt47, lt48, lt49, lt50, lt51, lt52, lt53, lt54, lt55, lt56, lt57, lt58, lt59, lt60, lt61, lt62, lt63, lt64, lt65, lt66]
theorem sq7 {box many room : Str} : ("go" : Str) = lineW ([("go" : Str)] : List Str) := by
  refine TL.ext_tl ?_
  unfold lineW
  rw [TL.join_eq]
  show (("go" : Str)).cps.toList = (("go" : Str)).cps.toList
  simp only [append_tl, List.append_assoc, List.cons_append, List.nil_append, lt0, lt1, lt2, lt3, lt4, lt5, lt6, lt7, lt8, lt9, lt10, lt11, lt12, lt13, lt14, lt15, lt16, lt17, lt18, lt19, lt20, lt21, lt22, lt23, lt24, lt25, lt26, lt27, lt28, lt29, lt30, lt31, lt32, lt33, lt34, lt35, lt36, lt37, lt38, lt39, lt40, lt41, lt42, lt43, lt44, lt45, lt46, lt47, lt48, lt49, lt50, lt51, lt52, lt53, lt54, lt55, lt56, lt57, lt58, lt59, lt60, lt61, lt62, lt63, lt64, lt65, lt66]
theorem sq8 {box many room : Str} : ("go -1" : Str) = lineW ([("go" : Str), ("-1" : Str)] : List Str) := by
  refine TL.ext_tl ?_
  unfold lineW
  rw [TL.join_eq]
  show (("go -1" : Str)).cps.toList = (("go" : Str) ++ (" " : Str) ++ (("-1" : Str))).cps.toList
  simp only [append_tl, List.append_assoc, List.cons_append, List.nil_append, lt0, lt1, lt2, lt3, lt4, lt5, lt6, lt7, lt8, lt9, lt10, lt11, lt12, lt13, lt14, lt15, lt16, lt17, lt18, lt19, lt20, lt21, lt22, lt23, lt24, lt25, lt26, lt27, lt28, lt29, lt30, lt31, lt32, lt33, lt34, lt35, lt36, lt37, lt38, lt39, lt40, lt41, lt42, lt43, lt44, lt45, lt46, lt47, lt48, lt49, lt50, lt51, lt52, lt53, lt54, lt55, lt56, lt57, lt58, lt59, lt60, lt61, lt62, lt63, lt64, lt65, lt66]
theorem sq9 {box many room : Str} : ("go 01" : Str) = lineW ([("go" : Str), ("01" : Str)] : List Str) := by
  refine TL.ext_tl ?_
  unfold lineW
  rw [TL.join_eq]
  show (("go 01" : Str)).cps.toList = (("go" : Str) ++ (" " : Str) ++ (("01" : Str))).cps.toList
  simp only [append_tl, List.append_assoc, List.cons_append, List.nil_append, lt0, lt1, lt2, lt3, lt4, lt5, lt6, lt7, lt8, lt9, lt10, lt11, lt12, lt13, lt14, lt15, lt16, lt17, lt18, lt19, lt20, lt21, lt22, lt23, lt24, lt25, lt26, lt27, lt28, lt29, lt30, lt31, lt32, lt33, lt34, lt35, lt36, lt37, lt38, lt39, lt40, lt41, lt42, lt43, lt44, lt45, lt46, lt47, lt48, lt49, lt50, lt51, lt52, lt53, lt54, lt55, lt56, lt57, lt58, lt59, lt60, lt61, lt62, lt63, lt64, lt65, lt66]
theorem sq10 {box many room : Str} : (("go " : Str) ++ many) = lineW ([("go" : Str), many] : List Str) := by
  refine TL.ext_tl ?_
  unfold lineW
  rw [TL.join_eq]
  show ((("go " : Str) ++ many)).cps.toList = (("go" : Str) ++ (" " : Str) ++ (many)).cps.toList
  simp only [append_tl, List.append_assoc, List.cons_append, List.nil_append, lt0, lt1, lt2, lt3, lt4, lt5, lt6, lt7, lt8, lt9, lt10, lt11, lt12, lt13, lt14, lt15, lt16, lt17, lt18, lt19, lt20, lt21, lt22, lt23, lt24, lt25, lt26, lt27, lt28, lt29, lt30, lt31, lt32, lt33, lt34, lt35, lt36, lt37, lt38, lt39, lt40, lt41, lt42, lt43, lt44, lt45, lt46, lt47, lt48, lt49, lt50, lt51, lt52, lt53, lt54, lt55, lt56, lt57, lt58, lt59, lt60, lt61, lt62, lt63, lt64, lt65, lt66]
theorem sq11 {box many room : Str} : ("back 0" : Str) = lineW ([("back" : Str), ("0" : Str)] : List Str) := by
  refine TL.ext_tl ?_
  unfold lineW
  rw [TL.join_eq]
  show (("back 0" : Str)).cps.toList = (("back" : Str) ++ (" " : Str) ++ (("0" : Str))).cps.toList
  simp only [append_tl, List.append_assoc, List.cons_append, List.nil_append, lt0, lt1, lt2, lt3, lt4, lt5, lt6, lt7, lt8, lt9, lt10, lt11, lt12, lt13, lt14, lt15, lt16, lt17, lt18, lt19, lt20, lt21, lt22, lt23, lt24, lt25, lt26, lt27, lt28, lt29, lt30, lt31, lt32, lt33, lt34, lt35, lt36, lt37, lt38, lt39, lt40, lt41, lt42, lt43, lt44, lt45, lt46, lt47, lt48, lt49, lt50, lt51, lt52, lt53, lt54, lt55, lt56, lt57, lt58, lt59, lt60, lt61, lt62, lt63, lt64, lt65, lt66]
theorem sq12 {box many room : Str} : ("call" : Str) = lineW ([("call" : Str)] : List Str) := by
  refine TL.ext_tl ?_
  unfold lineW
  rw [TL.join_eq]
  show (("call" : Str)).cps.toList = (("call" : Str)).cps.toList
  simp only [append_tl, List.append_assoc, List.cons_append, List.nil_append, lt0, lt1, lt2, lt3, lt4, lt5, lt6, lt7, lt8, lt9, lt10, lt11, lt12, lt13, lt14, lt15, lt16, lt17, lt18, lt19, lt20, lt21, lt22, lt23, lt24, lt25, lt26, lt27, lt28, lt29, lt30, lt31, lt32, lt33, lt34, lt35, lt36, lt37, lt38, lt39, lt40, lt41, lt42, lt43, lt44, lt45, lt46, lt47, lt48, lt49, lt50, lt51, lt52, lt53, lt54, lt55, lt56, lt57, lt58, lt59, lt60, lt61, lt62, lt63, lt64, lt65, lt66]
theorem sq13 {box many room : Str} : ("call x" : Str) = lineW ([("call" : Str), ("x" : Str)] : List Str) := by
  refine TL.ext_tl ?_
  unfold lineW
  rw [TL.join_eq]
  show (("call x" : Str)).cps.toList = (("call" : Str) ++ (" " : Str) ++ (("x" : Str))).cps.toList
  simp only [append_tl, List.append_assoc, List.cons_append, List.nil_append, lt0, lt1, lt2, lt3, lt4, lt5, lt6, lt7, lt8, lt9, lt10, lt11, lt12, lt13, lt14, lt15, lt16, lt17, lt18, lt19, lt20, lt21, lt22, lt23, lt24, lt25, lt26, lt27, lt28, lt29, lt30, lt31, lt32, lt33, lt34, lt35, lt36, lt37, lt38, lt39, lt40, lt41, lt42, lt43, lt44, lt45, lt46, lt47, lt48, lt49, lt50, lt51, lt52, lt53, lt54, lt55, lt56, lt57, lt58, lt59, lt60, lt61, lt62, lt63, lt64, lt65, lt66]
theorem sq14 {box many room : Str} : (("call " : Str) ++ many) = lineW ([("call" : Str), many] : List Str) := by
  refine TL.ext_tl ?_
  unfold lineW
  rw [TL.join_eq]
  show ((("call " : Str) ++ many)).cps.toList = (("call" : Str) ++ (" " : Str) ++ (many)).cps.toList
  simp only [append_tl, List.append_assoc, List.cons_append, List.nil_append, lt0, lt1, lt2, lt3, lt4, lt5, lt6, lt7, lt8, lt9, lt10, lt11, lt12, lt13, lt14, lt15, lt16, lt17, lt18, lt19, lt20, lt21, lt22, lt23, lt24, lt25, lt26, lt27, lt28, lt29, lt30, lt31, lt32, lt33, lt34, lt35, lt36, lt37, lt38, lt39, lt40, lt41, lt42, lt43, lt44, lt45, lt46, lt47, lt48, lt49, lt50, lt51, lt52, lt53, lt54, lt55, lt56, lt57, lt58, lt59, lt60, lt61, lt62, lt63, lt64, lt65, lt66]
theorem sq15 {box many room : Str} : ("call 0 Q" : Str) = lineW ([("call" : Str), ("0" : Str), ("Q" : Str)] : List Str) := by
  refine TL.ext_tl ?_
  unfold lineW
  rw [TL.join_eq]
  show (("call 0 Q" : Str)).cps.toList = (("call" : Str) ++ (" " : Str) ++ (("0" : Str) ++ (" " : Str) ++ (("Q" : Str)))).cps.toList
  simp only [append_tl, List.append_assoc, List.cons_append, List.nil_append, lt0, lt1, lt2, lt3, lt4, lt5, lt6, lt7, lt8, lt9, lt10, lt11, lt12, lt13, lt14, lt15, lt16, lt17, lt18, lt19, lt20, lt21, lt22, lt23, lt24, lt25, lt26, lt27, lt28, lt29, lt30, lt31, lt32, lt33, lt34, lt35, lt36, lt37, lt38, lt39, lt40, lt41, lt42, lt43, lt44, lt45, lt46, lt47, lt48, lt49, lt50, lt51, lt52, lt53, lt54, lt55, lt56, lt57, lt58, lt59, lt60, lt61, lt62, lt63, lt64, lt65, lt66]
theorem sq16 {box many room : Str} : ("up" : Str) = lineW ([("up" : Str)] : List Str) := by
  refine TL.ext_tl ?_
  unfold lineW
  rw [TL.join_eq]
  show (("up" : Str)).cps.toList = (("up" : Str)).cps.toList
  simp only [append_tl, List.append_assoc, List.cons_append, List.nil_append, lt0, lt1, lt2, lt3, lt4, lt5, lt6, lt7, lt8, lt9, lt10, lt11, lt12, lt13, lt14, lt15, lt16, lt17, lt18, lt19, lt20, lt21, lt22, lt23, lt24, lt25, lt26, lt27, lt28, lt29, lt30, lt31, lt32, lt33, lt34, lt35, lt36, lt37, lt38, lt39, lt40, lt41, lt42, lt43, lt44, lt45, lt46, lt47, lt48, lt49, lt50, lt51, lt52, lt53, lt54, lt55, lt56, lt57, lt58, lt59, lt60, lt61, lt62, lt63, lt64, lt65, lt66]
theorem sq17 {box many room : Str} : ("up Q" : Str) = lineW ([("up" : Str), ("Q" : Str)] : List Str) := by
  refine TL.ext_tl ?_
  unfold lineW
  rw [TL.join_eq]
  show (("up Q" : Str)).cps.toList = (("up" : Str) ++ (" " : Str) ++ (("Q" : Str))).cps.toList
  simp only [append_tl, List.append_assoc, List.cons_append, List.nil_append, lt0, lt1, lt2, lt3, lt4, lt5, lt6, lt7, lt8, lt9, lt10, lt11, lt12, lt13, lt14, lt15, lt16, lt17, lt18, lt19, lt20, lt21, lt22, lt23, lt24, lt25, lt26, lt27, lt28, lt29, lt30, lt31, lt32, lt33, lt34, lt35, lt36, lt37, lt38, lt39, lt40, lt41, lt42, lt43, lt44, lt45, lt46, lt47, lt48, lt49, lt50, lt51, lt52, lt53, lt54, lt55, lt56, lt57, lt58, lt59, lt60, lt61, lt62, lt63, lt64, lt65, lt66]
theorem sq18 {box many room : Str} : ("put" : Str) = lineW ([("put" : Str)] : List Str) := by
  refine TL.ext_tl ?_
  unfold lineW
  rw [TL.join_eq]
  show (("put" : Str)).cps.toList = (("put" : Str)).cps.toList
  simp only [append_tl, List.append_assoc, List.cons_append, List.nil_append, lt0, lt1, lt2, lt3, lt4, lt5, lt6, lt7, lt8, lt9, lt10, lt11, lt12, lt13, lt14, lt15, lt16, lt17, lt18, lt19, lt20, lt21, lt22, lt23, lt24, lt25, lt26, lt27, lt28, lt29, lt30, lt31, lt32, lt33, lt34, lt35, lt36, lt37, lt38, lt39, lt40, lt41, lt42, lt43, lt44, lt45, lt46, lt47, lt48, lt49, lt50, lt51, lt52, lt53, lt54, lt55, lt56, lt57, lt58, lt59, lt60, lt61, lt62, lt63, lt64, lt65, lt66]
theorem sq19 {box many room : Str} : ("refuse 0" : Str) = lineW ([("refuse" : Str), ("0" : Str)] : List Str) := by
  refine TL.ext_tl ?_
  unfold lineW
  rw [TL.join_eq]
  show (("refuse 0" : Str)).cps.toList = (("refuse" : Str) ++ (" " : Str) ++ (("0" : Str))).cps.toList
  simp only [append_tl, List.append_assoc, List.cons_append, List.nil_append, lt0, lt1, lt2, lt3, lt4, lt5, lt6, lt7, lt8, lt9, lt10, lt11, lt12, lt13, lt14, lt15, lt16, lt17, lt18, lt19, lt20, lt21, lt22, lt23, lt24, lt25, lt26, lt27, lt28, lt29, lt30, lt31, lt32, lt33, lt34, lt35, lt36, lt37, lt38, lt39, lt40, lt41, lt42, lt43, lt44, lt45, lt46, lt47, lt48, lt49, lt50, lt51, lt52, lt53, lt54, lt55, lt56, lt57, lt58, lt59, lt60, lt61, lt62, lt63, lt64, lt65, lt66]
theorem sq20 {box many room : Str} : ("room 1" : Str) = lineW ([("room" : Str), ("1" : Str)] : List Str) := by
  refine TL.ext_tl ?_
  unfold lineW
  rw [TL.join_eq]
  show (("room 1" : Str)).cps.toList = (("room" : Str) ++ (" " : Str) ++ (("1" : Str))).cps.toList
  simp only [append_tl, List.append_assoc, List.cons_append, List.nil_append, lt0, lt1, lt2, lt3, lt4, lt5, lt6, lt7, lt8, lt9, lt10, lt11, lt12, lt13, lt14, lt15, lt16, lt17, lt18, lt19, lt20, lt21, lt22, lt23, lt24, lt25, lt26, lt27, lt28, lt29, lt30, lt31, lt32, lt33, lt34, lt35, lt36, lt37, lt38, lt39, lt40, lt41, lt42, lt43, lt44, lt45, lt46, lt47, lt48, lt49, lt50, lt51, lt52, lt53, lt54, lt55, lt56, lt57, lt58, lt59, lt60, lt61, lt62, lt63, lt64, lt65, lt66]
theorem sq21 {box many room : Str} : ("boxes a" : Str) = lineW ([("boxes" : Str), ("a" : Str)] : List Str) := by
  refine TL.ext_tl ?_
  unfold lineW
  rw [TL.join_eq]
  show (("boxes a" : Str)).cps.toList = (("boxes" : Str) ++ (" " : Str) ++ (("a" : Str))).cps.toList
  simp only [append_tl, List.append_assoc, List.cons_append, List.nil_append, lt0, lt1, lt2, lt3, lt4, lt5, lt6, lt7, lt8, lt9, lt10, lt11, lt12, lt13, lt14, lt15, lt16, lt17, lt18, lt19, lt20, lt21, lt22, lt23, lt24, lt25, lt26, lt27, lt28, lt29, lt30, lt31, lt32, lt33, lt34, lt35, lt36, lt37, lt38, lt39, lt40, lt41, lt42, lt43, lt44, lt45, lt46, lt47, lt48, lt49, lt50, lt51, lt52, lt53, lt54, lt55, lt56, lt57, lt58, lt59, lt60, lt61, lt62, lt63, lt64, lt65, lt66]
theorem sq22 {box many room : Str} : (((("up " : Str) ++ box) ++ (" " : Str)) ++ box) = lineW ([("up" : Str), box, box] : List Str) := by
  refine TL.ext_tl ?_
  unfold lineW
  rw [TL.join_eq]
  show ((((("up " : Str) ++ box) ++ (" " : Str)) ++ box)).cps.toList = (("up" : Str) ++ (" " : Str) ++ (box ++ (" " : Str) ++ (box))).cps.toList
  simp only [append_tl, List.append_assoc, List.cons_append, List.nil_append, lt0, lt1, lt2, lt3, lt4, lt5, lt6, lt7, lt8, lt9, lt10, lt11, lt12, lt13, lt14, lt15, lt16, lt17, lt18, lt19, lt20, lt21, lt22, lt23, lt24, lt25, lt26, lt27, lt28, lt29, lt30, lt31, lt32, lt33, lt34, lt35, lt36, lt37, lt38, lt39, lt40, lt41, lt42, lt43, lt44, lt45, lt46, lt47, lt48, lt49, lt50, lt51, lt52, lt53, lt54, lt55, lt56, lt57, lt58, lt59, lt60, lt61, lt62, lt63, lt64, lt65, lt66]
theorem sq23 {box many room : Str} : (("put " : Str) ++ box) = lineW ([("put" : Str), box] : List Str) := by
  refine TL.ext_tl ?_
  unfold lineW
  rw [TL.join_eq]
  show ((("put " : Str) ++ box)).cps.toList = (("put" : Str) ++ (" " : Str) ++ (box)).cps.toList
  simp only [append_tl, List.append_assoc, List.cons_append, List.nil_append, lt0, lt1, lt2, lt3, lt4, lt5, lt6, lt7, lt8, lt9, lt10, lt11, lt12, lt13, lt14, lt15, lt16, lt17, lt18, lt19, lt20, lt21, lt22, lt23, lt24, lt25, lt26, lt27, lt28, lt29, lt30, lt31, lt32, lt33, lt34, lt35, lt36, lt37, lt38, lt39, lt40, lt41, lt42, lt43, lt44, lt45, lt46, lt47, lt48, lt49, lt50, lt51, lt52, lt53, lt54, lt55, lt56, lt57, lt58, lt59, lt60, lt61, lt62, lt63, lt64, lt65, lt66]
theorem sq24 {box many room : Str} : ((("set " : Str) ++ box) ++ (" x" : Str)) = lineW ([("set" : Str), box, ("x" : Str)] : List Str) := by
  refine TL.ext_tl ?_
  unfold lineW
  rw [TL.join_eq]
  show (((("set " : Str) ++ box) ++ (" x" : Str))).cps.toList = (("set" : Str) ++ (" " : Str) ++ (box ++ (" " : Str) ++ (("x" : Str)))).cps.toList
  simp only [append_tl, List.append_assoc, List.cons_append, List.nil_append, lt0, lt1, lt2, lt3, lt4, lt5, lt6, lt7, lt8, lt9, lt10, lt11, lt12, lt13, lt14, lt15, lt16, lt17, lt18, lt19, lt20, lt21, lt22, lt23, lt24, lt25, lt26, lt27, lt28, lt29, lt30, lt31, lt32, lt33, lt34, lt35, lt36, lt37, lt38, lt39, lt40, lt41, lt42, lt43, lt44, lt45, lt46, lt47, lt48, lt49, lt50, lt51, lt52, lt53, lt54, lt55, lt56, lt57, lt58, lt59, lt60, lt61, lt62, lt63, lt64, lt65, lt66]
theorem sq25 {box many room : Str} : ((("set " : Str) ++ box) ++ (" 1000000000" : Str)) = lineW ([("set" : Str), box, ("1000000000" : Str)] : List Str) := by
  refine TL.ext_tl ?_
  unfold lineW
  rw [TL.join_eq]
  show (((("set " : Str) ++ box) ++ (" 1000000000" : Str))).cps.toList = (("set" : Str) ++ (" " : Str) ++ (box ++ (" " : Str) ++ (("1000000000" : Str)))).cps.toList
  simp only [append_tl, List.append_assoc, List.cons_append, List.nil_append, lt0, lt1, lt2, lt3, lt4, lt5, lt6, lt7, lt8, lt9, lt10, lt11, lt12, lt13, lt14, lt15, lt16, lt17, lt18, lt19, lt20, lt21, lt22, lt23, lt24, lt25, lt26, lt27, lt28, lt29, lt30, lt31, lt32, lt33, lt34, lt35, lt36, lt37, lt38, lt39, lt40, lt41, lt42, lt43, lt44, lt45, lt46, lt47, lt48, lt49, lt50, lt51, lt52, lt53, lt54, lt55, lt56, lt57, lt58, lt59, lt60, lt61, lt62, lt63, lt64, lt65, lt66]
theorem sq26 {box many room : Str} : (((("same " : Str) ++ box) ++ (" " : Str)) ++ box) = lineW ([("same" : Str), box, box] : List Str) := by
  refine TL.ext_tl ?_
  unfold lineW
  rw [TL.join_eq]
  show ((((("same " : Str) ++ box) ++ (" " : Str)) ++ box)).cps.toList = (("same" : Str) ++ (" " : Str) ++ (box ++ (" " : Str) ++ (box))).cps.toList
  simp only [append_tl, List.append_assoc, List.cons_append, List.nil_append, lt0, lt1, lt2, lt3, lt4, lt5, lt6, lt7, lt8, lt9, lt10, lt11, lt12, lt13, lt14, lt15, lt16, lt17, lt18, lt19, lt20, lt21, lt22, lt23, lt24, lt25, lt26, lt27, lt28, lt29, lt30, lt31, lt32, lt33, lt34, lt35, lt36, lt37, lt38, lt39, lt40, lt41, lt42, lt43, lt44, lt45, lt46, lt47, lt48, lt49, lt50, lt51, lt52, lt53, lt54, lt55, lt56, lt57, lt58, lt59, lt60, lt61, lt62, lt63, lt64, lt65, lt66]
theorem sq27 {box many room : Str} : ((("is " : Str) ++ box) ++ (" 0" : Str)) = lineW ([("is" : Str), box, ("0" : Str)] : List Str) := by
  refine TL.ext_tl ?_
  unfold lineW
  rw [TL.join_eq]
  show (((("is " : Str) ++ box) ++ (" 0" : Str))).cps.toList = (("is" : Str) ++ (" " : Str) ++ (box ++ (" " : Str) ++ (("0" : Str)))).cps.toList
  simp only [append_tl, List.append_assoc, List.cons_append, List.nil_append, lt0, lt1, lt2, lt3, lt4, lt5, lt6, lt7, lt8, lt9, lt10, lt11, lt12, lt13, lt14, lt15, lt16, lt17, lt18, lt19, lt20, lt21, lt22, lt23, lt24, lt25, lt26, lt27, lt28, lt29, lt30, lt31, lt32, lt33, lt34, lt35, lt36, lt37, lt38, lt39, lt40, lt41, lt42, lt43, lt44, lt45, lt46, lt47, lt48, lt49, lt50, lt51, lt52, lt53, lt54, lt55, lt56, lt57, lt58, lt59, lt60, lt61, lt62, lt63, lt64, lt65, lt66]
theorem sq28 {box many room : Str} : ((((("within " : Str) ++ room) ++ (" " : Str)) ++ box) ++ (" 0" : Str)) = lineW ([("within" : Str), room, box, ("0" : Str)] : List Str) := by
  refine TL.ext_tl ?_
  unfold lineW
  rw [TL.join_eq]
  show (((((("within " : Str) ++ room) ++ (" " : Str)) ++ box) ++ (" 0" : Str))).cps.toList = (("within" : Str) ++ (" " : Str) ++ (room ++ (" " : Str) ++ (box ++ (" " : Str) ++ (("0" : Str))))).cps.toList
  simp only [append_tl, List.append_assoc, List.cons_append, List.nil_append, lt0, lt1, lt2, lt3, lt4, lt5, lt6, lt7, lt8, lt9, lt10, lt11, lt12, lt13, lt14, lt15, lt16, lt17, lt18, lt19, lt20, lt21, lt22, lt23, lt24, lt25, lt26, lt27, lt28, lt29, lt30, lt31, lt32, lt33, lt34, lt35, lt36, lt37, lt38, lt39, lt40, lt41, lt42, lt43, lt44, lt45, lt46, lt47, lt48, lt49, lt50, lt51, lt52, lt53, lt54, lt55, lt56, lt57, lt58, lt59, lt60, lt61, lt62, lt63, lt64, lt65, lt66]
theorem sq29 {box many room : Str} : (("take 1 " : Str) ++ box) = lineW ([("take" : Str), ("1" : Str), box] : List Str) := by
  refine TL.ext_tl ?_
  unfold lineW
  rw [TL.join_eq]
  show ((("take 1 " : Str) ++ box)).cps.toList = (("take" : Str) ++ (" " : Str) ++ (("1" : Str) ++ (" " : Str) ++ (box))).cps.toList
  simp only [append_tl, List.append_assoc, List.cons_append, List.nil_append, lt0, lt1, lt2, lt3, lt4, lt5, lt6, lt7, lt8, lt9, lt10, lt11, lt12, lt13, lt14, lt15, lt16, lt17, lt18, lt19, lt20, lt21, lt22, lt23, lt24, lt25, lt26, lt27, lt28, lt29, lt30, lt31, lt32, lt33, lt34, lt35, lt36, lt37, lt38, lt39, lt40, lt41, lt42, lt43, lt44, lt45, lt46, lt47, lt48, lt49, lt50, lt51, lt52, lt53, lt54, lt55, lt56, lt57, lt58, lt59, lt60, lt61, lt62, lt63, lt64, lt65, lt66]
theorem sq30 {box many room : Str} : ((((("edge " : Str) ++ room) ++ (" " : Str)) ++ box) ++ (" 0" : Str)) = lineW ([("edge" : Str), room, box, ("0" : Str)] : List Str) := by
  refine TL.ext_tl ?_
  unfold lineW
  rw [TL.join_eq]
  show (((((("edge " : Str) ++ room) ++ (" " : Str)) ++ box) ++ (" 0" : Str))).cps.toList = (("edge" : Str) ++ (" " : Str) ++ (room ++ (" " : Str) ++ (box ++ (" " : Str) ++ (("0" : Str))))).cps.toList
  simp only [append_tl, List.append_assoc, List.cons_append, List.nil_append, lt0, lt1, lt2, lt3, lt4, lt5, lt6, lt7, lt8, lt9, lt10, lt11, lt12, lt13, lt14, lt15, lt16, lt17, lt18, lt19, lt20, lt21, lt22, lt23, lt24, lt25, lt26, lt27, lt28, lt29, lt30, lt31, lt32, lt33, lt34, lt35, lt36, lt37, lt38, lt39, lt40, lt41, lt42, lt43, lt44, lt45, lt46, lt47, lt48, lt49, lt50, lt51, lt52, lt53, lt54, lt55, lt56, lt57, lt58, lt59, lt60, lt61, lt62, lt63, lt64, lt65, lt66]
theorem sq31 {box many room : Str} : ((("mark A " : Str) ++ box) ++ (" 0" : Str)) = lineW ([("mark" : Str), ("A" : Str), box, ("0" : Str)] : List Str) := by
  refine TL.ext_tl ?_
  unfold lineW
  rw [TL.join_eq]
  show (((("mark A " : Str) ++ box) ++ (" 0" : Str))).cps.toList = (("mark" : Str) ++ (" " : Str) ++ (("A" : Str) ++ (" " : Str) ++ (box ++ (" " : Str) ++ (("0" : Str))))).cps.toList
  simp only [append_tl, List.append_assoc, List.cons_append, List.nil_append, lt0, lt1, lt2, lt3, lt4, lt5, lt6, lt7, lt8, lt9, lt10, lt11, lt12, lt13, lt14, lt15, lt16, lt17, lt18, lt19, lt20, lt21, lt22, lt23, lt24, lt25, lt26, lt27, lt28, lt29, lt30, lt31, lt32, lt33, lt34, lt35, lt36, lt37, lt38, lt39, lt40, lt41, lt42, lt43, lt44, lt45, lt46, lt47, lt48, lt49, lt50, lt51, lt52, lt53, lt54, lt55, lt56, lt57, lt58, lt59, lt60, lt61, lt62, lt63, lt64, lt65, lt66]
theorem sq32 {box many room : Str} : ((("arrow a " : Str) ++ box) ++ (" 0" : Str)) = lineW ([("arrow" : Str), ("a" : Str), box, ("0" : Str)] : List Str) := by
  refine TL.ext_tl ?_
  unfold lineW
  rw [TL.join_eq]
  show (((("arrow a " : Str) ++ box) ++ (" 0" : Str))).cps.toList = (("arrow" : Str) ++ (" " : Str) ++ (("a" : Str) ++ (" " : Str) ++ (box ++ (" " : Str) ++ (("0" : Str))))).cps.toList
  simp only [append_tl, List.append_assoc, List.cons_append, List.nil_append, lt0, lt1, lt2, lt3, lt4, lt5, lt6, lt7, lt8, lt9, lt10, lt11, lt12, lt13, lt14, lt15, lt16, lt17, lt18, lt19, lt20, lt21, lt22, lt23, lt24, lt25, lt26, lt27, lt28, lt29, lt30, lt31, lt32, lt33, lt34, lt35, lt36, lt37, lt38, lt39, lt40, lt41, lt42, lt43, lt44, lt45, lt46, lt47, lt48, lt49, lt50, lt51, lt52, lt53, lt54, lt55, lt56, lt57, lt58, lt59, lt60, lt61, lt62, lt63, lt64, lt65, lt66]
theorem sq33 {box many room : Str} : (("call 0  " : Str) ++ box) = lineW ([("call" : Str), ("0" : Str), ("" : Str), box] : List Str) := by
  refine TL.ext_tl ?_
  unfold lineW
  rw [TL.join_eq]
  show ((("call 0  " : Str) ++ box)).cps.toList = (("call" : Str) ++ (" " : Str) ++ (("0" : Str) ++ (" " : Str) ++ (("" : Str) ++ (" " : Str) ++ (box)))).cps.toList
  simp only [append_tl, List.append_assoc, List.cons_append, List.nil_append, lt0, lt1, lt2, lt3, lt4, lt5, lt6, lt7, lt8, lt9, lt10, lt11, lt12, lt13, lt14, lt15, lt16, lt17, lt18, lt19, lt20, lt21, lt22, lt23, lt24, lt25, lt26, lt27, lt28, lt29, lt30, lt31, lt32, lt33, lt34, lt35, lt36, lt37, lt38, lt39, lt40, lt41, lt42, lt43, lt44, lt45, lt46, lt47, lt48, lt49, lt50, lt51, lt52, lt53, lt54, lt55, lt56, lt57, lt58, lt59, lt60, lt61, lt62, lt63, lt64, lt65, lt66]
theorem sq34 {box many room : Str} : (((((("less " : Str) ++ box) ++ (" " : Str)) ++ box) ++ (" " : Str)) ++ many) = lineW ([("less" : Str), box, box, many] : List Str) := by
  refine TL.ext_tl ?_
  unfold lineW
  rw [TL.join_eq]
  show ((((((("less " : Str) ++ box) ++ (" " : Str)) ++ box) ++ (" " : Str)) ++ many)).cps.toList = (("less" : Str) ++ (" " : Str) ++ (box ++ (" " : Str) ++ (box ++ (" " : Str) ++ (many)))).cps.toList
  simp only [append_tl, List.append_assoc, List.cons_append, List.nil_append, lt0, lt1, lt2, lt3, lt4, lt5, lt6, lt7, lt8, lt9, lt10, lt11, lt12, lt13, lt14, lt15, lt16, lt17, lt18, lt19, lt20, lt21, lt22, lt23, lt24, lt25, lt26, lt27, lt28, lt29, lt30, lt31, lt32, lt33, lt34, lt35, lt36, lt37, lt38, lt39, lt40, lt41, lt42, lt43, lt44, lt45, lt46, lt47, lt48, lt49, lt50, lt51, lt52, lt53, lt54, lt55, lt56, lt57, lt58, lt59, lt60, lt61, lt62, lt63, lt64, lt65, lt66]
theorem sq35 {box many room : Str} : ((("mark abcdefghi " : Str) ++ box) ++ (" 0" : Str)) = lineW ([("mark" : Str), ("abcdefghi" : Str), box, ("0" : Str)] : List Str) := by
  refine TL.ext_tl ?_
  unfold lineW
  rw [TL.join_eq]
  show (((("mark abcdefghi " : Str) ++ box) ++ (" 0" : Str))).cps.toList = (("mark" : Str) ++ (" " : Str) ++ (("abcdefghi" : Str) ++ (" " : Str) ++ (box ++ (" " : Str) ++ (("0" : Str))))).cps.toList
  simp only [append_tl, List.append_assoc, List.cons_append, List.nil_append, lt0, lt1, lt2, lt3, lt4, lt5, lt6, lt7, lt8, lt9, lt10, lt11, lt12, lt13, lt14, lt15, lt16, lt17, lt18, lt19, lt20, lt21, lt22, lt23, lt24, lt25, lt26, lt27, lt28, lt29, lt30, lt31, lt32, lt33, lt34, lt35, lt36, lt37, lt38, lt39, lt40, lt41, lt42, lt43, lt44, lt45, lt46, lt47, lt48, lt49, lt50, lt51, lt52, lt53, lt54, lt55, lt56, lt57, lt58, lt59, lt60, lt61, lt62, lt63, lt64, lt65, lt66]
theorem sq36 {box many room : Str} : ((("call 0 " : Str) ++ box) ++ (" nobox" : Str)) = lineW ([("call" : Str), ("0" : Str), box, ("nobox" : Str)] : List Str) := by
  refine TL.ext_tl ?_
  unfold lineW
  rw [TL.join_eq]
  show (((("call 0 " : Str) ++ box) ++ (" nobox" : Str))).cps.toList = (("call" : Str) ++ (" " : Str) ++ (("0" : Str) ++ (" " : Str) ++ (box ++ (" " : Str) ++ (("nobox" : Str))))).cps.toList
  simp only [append_tl, List.append_assoc, List.cons_append, List.nil_append, lt0, lt1, lt2, lt3, lt4, lt5, lt6, lt7, lt8, lt9, lt10, lt11, lt12, lt13, lt14, lt15, lt16, lt17, lt18, lt19, lt20, lt21, lt22, lt23, lt24, lt25, lt26, lt27, lt28, lt29, lt30, lt31, lt32, lt33, lt34, lt35, lt36, lt37, lt38, lt39, lt40, lt41, lt42, lt43, lt44, lt45, lt46, lt47, lt48, lt49, lt50, lt51, lt52, lt53, lt54, lt55, lt56, lt57, lt58, lt59, lt60, lt61, lt62, lt63, lt64, lt65, lt66]
theorem is_none {z : Str} (h : (lookD pileD (Sum.inr z)).isNone = true) : lookD pileD (Sum.inr z) = none := Option.isNone_iff_eq_none.mp h
/-- a line's words that are no row, whatever rows there are -/
structure BadRow (names : List Str) (r n : Nat) (ws : List Str) : Prop where
  wk : WsOk ws
  no : ∀ last, last ≤ n → RowR pileD names r last ws .non
def Tok (w : Str) : Prop := w.length ≤ 20 ∧ 32 ∉ w.cps.toList ∧ 10 ∉ w.cps.toList
theorem tok_nm {z : Str} (h : IsNm z) : Tok z := ⟨by have := h.2.2; omega, fun y => by have := h.1 _ y; omega, fun y => by have := h.1 _ y; omega⟩
theorem tok_num {n : Nat} (h : n < 1000000000) : Tok (numS n) := ⟨by have := num_len h; omega, fun y => by have := num_cps _ y; omega, fun y => by have := num_cps _ y; omega⟩
theorem tk_nil : ∀ w ∈ ([] : List Str), Tok w := fun _ h => nomatch h
theorem tk_cons {w : Str} {ws : List Str} (h : Tok w) (t : ∀ w ∈ ws, Tok w) : ∀ v ∈ w :: ws, Tok v := fun v hv => (List.mem_cons.mp hv).elim (fun e => e ▸ h) (t v)
theorem p_not {boxes : List Str} {room last : Nat} {w : Str} (c : Nat) (hc : c = 75 ∨ c = 81 ∨ c = 76) (h : 9 < w.length ∨ Txt.isascii w = false ∨ Txt.isdigit w = false) : PartR boxes room last w c .non := by
  rcases hc with rfl | rfl | rfl
  · exact .nonum (b := 999999999) (.inl ⟨rfl, rfl⟩) (.not h) (.inl (by decide))
  · exact .nonum (.inr (.inl ⟨rfl, rfl⟩)) (.not h) (.inl (by decide))
  · exact .nonum (.inr (.inr ⟨rfl, rfl⟩)) (.not h) (.inl (by decide))
theorem p_01 {boxes : List Str} {room last : Nat} : PartR boxes room last "01" 76 .non := .nonum (.inr (.inr ⟨rfl, rfl⟩)) (.odd (n := 1) (by decide +kernel) (by decide +kernel) (by decide +kernel) (by decide +kernel) (by decide) (by decide +kernel)) (.inl (by decide))
theorem p_far {boxes : List Str} {room last n : Nat} (hn : n < 1000000000) (h : last < n) : PartR boxes room last (numS n) 76 .non := .nonum (.inr (.inr ⟨rfl, rfl⟩)) (.num (n := n) rfl hn) (.inr (by omega))
theorem p_wide {boxes : List Str} {room last n : Nat} (hn : n < 1000000000) (h : room < n) : PartR boxes room last (numS n) 81 .non := .nonum (.inr (.inl ⟨rfl, rfl⟩)) (.num (n := n) rfl hn) (.inr (by omega))
theorem zero_num : ("0" : Str) = numS 0 := by decide +kernel
theorem p_zero {boxes : List Str} {room last : Nat} : PartR boxes room last "0" 76 (.int 0) := .num (.inr (.inr ⟨rfl, rfl⟩)) (.num (n := 0) zero_num (by decide)) (by decide) (by omega)
def IsBox (w : Str) : Bool := decide (w = "nobox") || decide (w.length = 0) || w.cps.toList.any fun c => decide (c < 97)
theorem nob_of {names : List Str} (h : ∀ z ∈ names, NmB z) (w : Str) (hw : IsBox w = true) : w ∉ names := fun hm => by
  have hz := h w hm
  unfold IsBox at hw
  rw [Bool.or_eq_true, Bool.or_eq_true, decide_eq_true_eq, decide_eq_true_eq] at hw
  rcases hw with (e | e) | e
  · exact hz.no e
  · have := hz.1.2.1
    omega
  · obtain ⟨c, hc, e⟩ := List.any_eq_true.mp e
    have := hz.1.1 c hc
    rw [decide_eq_true_eq] at e
    omega
theorem bad0 {names : List Str} {r : Nat} {rws : List (List D)} (R : POk names r rws) : BadRow names r rws.length ([("" : Str)] : List Str) := by
  have nob := nob_of R.nb
  exact ⟨⟨by simp, (by show 1 ≤ 61; decide), (tk_cons (show Tok ("" : Str) by unfold Tok; decide +kernel) tk_nil)⟩, fun last hl => .noword (z := ("" : Str)) (ws := []) (is_none (by decide +kernel))⟩
theorem bad1 {names : List Str} {r : Nat} {rws : List (List D)} (R : POk names r rws) : BadRow names r rws.length ([("take" : Str), ("1" : Str), ("a" : Str)] : List Str) := by
  have nob := nob_of R.nb
  exact ⟨⟨by simp, (by show 3 ≤ 61; decide), (tk_cons (show Tok ("take" : Str) by unfold Tok; decide +kernel) (tk_cons (show Tok ("1" : Str) by unfold Tok; decide +kernel) (tk_cons (show Tok ("a" : Str) by unfold Tok; decide +kernel) tk_nil)))⟩, fun last hl => .noword (z := ("take" : Str)) (ws := [("1" : Str), ("a" : Str)]) (is_none (by decide +kernel))⟩
theorem bad2 {names : List Str} {r : Nat} {rws : List (List D)} (R : POk names r rws) : BadRow names r rws.length ([("either" : Str), ("0" : Str)] : List Str) := by
  have nob := nob_of R.nb
  exact ⟨⟨by simp, (by show 2 ≤ 61; decide), (tk_cons (show Tok ("either" : Str) by unfold Tok; decide +kernel) (tk_cons (show Tok ("0" : Str) by unfold Tok; decide +kernel) tk_nil))⟩, fun last hl => .noword (z := ("either" : Str)) (ws := [("0" : Str)]) (is_none (by decide +kernel))⟩
theorem bad3 {names : List Str} {r : Nat} {rws : List (List D)} (R : POk names r rws) : BadRow names r rws.length ([("Let" : Str)] : List Str) := by
  have nob := nob_of R.nb
  exact ⟨⟨by simp, (by show 1 ≤ 61; decide), (tk_cons (show Tok ("Let" : Str) by unfold Tok; decide +kernel) tk_nil)⟩, fun last hl => .noword (z := ("Let" : Str)) (ws := []) (is_none (by decide +kernel))⟩
theorem bad4 {names : List Str} {r : Nat} {rws : List (List D)} (R : POk names r rws) : BadRow names r rws.length ([("let" : Str), ("" : Str)] : List Str) := by
  have nob := nob_of R.nb
  exact ⟨⟨by simp, (by show 2 ≤ 61; decide), (tk_cons (show Tok ("let" : Str) by unfold Tok; decide +kernel) (tk_cons (show Tok ("" : Str) by unfold Tok; decide +kernel) tk_nil))⟩, fun last hl => .few (z := ("let" : Str)) (ws := [("" : Str)]) (L := "") rfl (show (lettS "" 1).length ≠ 1 by decide +kernel)⟩
theorem bad5 {names : List Str} {r : Nat} {rws : List (List D)} (R : POk names r rws) : BadRow names r rws.length ([("" : Str), ("let" : Str)] : List Str) := by
  have nob := nob_of R.nb
  exact ⟨⟨by simp, (by show 2 ≤ 61; decide), (tk_cons (show Tok ("" : Str) by unfold Tok; decide +kernel) (tk_cons (show Tok ("let" : Str) by unfold Tok; decide +kernel) tk_nil))⟩, fun last hl => .noword (z := ("" : Str)) (ws := [("let" : Str)]) (is_none (by decide +kernel))⟩
theorem bad6 {names : List Str} {r : Nat} {rws : List (List D)} (R : POk names r rws) : BadRow names r rws.length ([("let" : Str), ("let" : Str)] : List Str) := by
  have nob := nob_of R.nb
  exact ⟨⟨by simp, (by show 2 ≤ 61; decide), (tk_cons (show Tok ("let" : Str) by unfold Tok; decide +kernel) (tk_cons (show Tok ("let" : Str) by unfold Tok; decide +kernel) tk_nil))⟩, fun last hl => .few (z := ("let" : Str)) (ws := [("let" : Str)]) (L := "") rfl (show (lettS "" 1).length ≠ 1 by decide +kernel)⟩
theorem bad7 {names : List Str} {r : Nat} {rws : List (List D)} (R : POk names r rws) : BadRow names r rws.length ([("go" : Str)] : List Str) := by
  have nob := nob_of R.nb
  exact ⟨⟨by simp, (by show 1 ≤ 61; decide), (tk_cons (show Tok ("go" : Str) by unfold Tok; decide +kernel) tk_nil)⟩, fun last hl => .few (z := ("go" : Str)) (ws := []) (L := "L") rfl (show (lettS "L" 0).length ≠ 0 by decide +kernel)⟩
theorem bad8 {names : List Str} {r : Nat} {rws : List (List D)} (R : POk names r rws) : BadRow names r rws.length ([("go" : Str), ("-1" : Str)] : List Str) := by
  have nob := nob_of R.nb
  exact ⟨⟨by simp, (by show 2 ≤ 61; decide), (tk_cons (show Tok ("go" : Str) by unfold Tok; decide +kernel) (tk_cons (show Tok ("-1" : Str) by unfold Tok; decide +kernel) tk_nil))⟩, fun last hl => .bad (z := ("go" : Str)) (ws := [("-1" : Str)]) (L := "L") (rs := [.non]) rfl (show (lettS "L" 1).length = 1 by decide +kernel) (show PartsR names r last (lettS "L" 1).cps.toList _ _ by rw [show (lettS "L" 1).cps.toList = [76] by decide +kernel]; exact (.cons (p_not 76 (by decide) (by decide +kernel)) .nil)) (by simp)⟩
theorem bad9 {names : List Str} {r : Nat} {rws : List (List D)} (R : POk names r rws) : BadRow names r rws.length ([("go" : Str), ("01" : Str)] : List Str) := by
  have nob := nob_of R.nb
  exact ⟨⟨by simp, (by show 2 ≤ 61; decide), (tk_cons (show Tok ("go" : Str) by unfold Tok; decide +kernel) (tk_cons (show Tok ("01" : Str) by unfold Tok; decide +kernel) tk_nil))⟩, fun last hl => .bad (z := ("go" : Str)) (ws := [("01" : Str)]) (L := "L") (rs := [.non]) rfl (show (lettS "L" 1).length = 1 by decide +kernel) (show PartsR names r last (lettS "L" 1).cps.toList _ _ by rw [show (lettS "L" 1).cps.toList = [76] by decide +kernel]; exact (.cons p_01 .nil)) (by simp)⟩
theorem bad10 {names : List Str} {r : Nat} {rws : List (List D)} (R : POk names r rws) : BadRow names r rws.length ([("go" : Str), (numS (rws.length + 1))] : List Str) := by
  have nob := nob_of R.nb
  exact ⟨⟨by simp, (by show 2 ≤ 61; decide), (tk_cons (show Tok ("go" : Str) by unfold Tok; decide +kernel) (tk_cons (tok_num (by have := R.r99; omega)) tk_nil))⟩, fun last hl => .bad (z := ("go" : Str)) (ws := [(numS (rws.length + 1))]) (L := "L") (rs := [.non]) rfl (show (lettS "L" 1).length = 1 by decide +kernel) (show PartsR names r last (lettS "L" 1).cps.toList _ _ by rw [show (lettS "L" 1).cps.toList = [76] by decide +kernel]; exact (.cons (p_far (by have := R.r99; omega) (by omega)) .nil)) (by simp)⟩
theorem bad11 {names : List Str} {r : Nat} {rws : List (List D)} (R : POk names r rws) : BadRow names r rws.length ([("back" : Str), ("0" : Str)] : List Str) := by
  have nob := nob_of R.nb
  exact ⟨⟨by simp, (by show 2 ≤ 61; decide), (tk_cons (show Tok ("back" : Str) by unfold Tok; decide +kernel) (tk_cons (show Tok ("0" : Str) by unfold Tok; decide +kernel) tk_nil))⟩, fun last hl => .few (z := ("back" : Str)) (ws := [("0" : Str)]) (L := "") rfl (show (lettS "" 1).length ≠ 1 by decide +kernel)⟩
theorem bad12 {names : List Str} {r : Nat} {rws : List (List D)} (R : POk names r rws) : BadRow names r rws.length ([("call" : Str)] : List Str) := by
  have nob := nob_of R.nb
  exact ⟨⟨by simp, (by show 1 ≤ 61; decide), (tk_cons (show Tok ("call" : Str) by unfold Tok; decide +kernel) tk_nil)⟩, fun last hl => .few (z := ("call" : Str)) (ws := []) (L := "LM") rfl (show (lettS "LM" 0).length ≠ 0 by decide +kernel)⟩
theorem bad13 {names : List Str} {r : Nat} {rws : List (List D)} (R : POk names r rws) : BadRow names r rws.length ([("call" : Str), ("x" : Str)] : List Str) := by
  have nob := nob_of R.nb
  exact ⟨⟨by simp, (by show 2 ≤ 61; decide), (tk_cons (show Tok ("call" : Str) by unfold Tok; decide +kernel) (tk_cons (show Tok ("x" : Str) by unfold Tok; decide +kernel) tk_nil))⟩, fun last hl => .bad (z := ("call" : Str)) (ws := [("x" : Str)]) (L := "LM") (rs := [.non]) rfl (show (lettS "LM" 1).length = 1 by decide +kernel) (show PartsR names r last (lettS "LM" 1).cps.toList _ _ by rw [show (lettS "LM" 1).cps.toList = [76] by decide +kernel]; exact (.cons (p_not 76 (by decide) (by decide +kernel)) .nil)) (by simp)⟩
theorem bad14 {names : List Str} {r : Nat} {rws : List (List D)} (R : POk names r rws) : BadRow names r rws.length ([("call" : Str), (numS (rws.length + 1))] : List Str) := by
  have nob := nob_of R.nb
  exact ⟨⟨by simp, (by show 2 ≤ 61; decide), (tk_cons (show Tok ("call" : Str) by unfold Tok; decide +kernel) (tk_cons (tok_num (by have := R.r99; omega)) tk_nil))⟩, fun last hl => .bad (z := ("call" : Str)) (ws := [(numS (rws.length + 1))]) (L := "LM") (rs := [.non]) rfl (show (lettS "LM" 1).length = 1 by decide +kernel) (show PartsR names r last (lettS "LM" 1).cps.toList _ _ by rw [show (lettS "LM" 1).cps.toList = [76] by decide +kernel]; exact (.cons (p_far (by have := R.r99; omega) (by omega)) .nil)) (by simp)⟩
theorem bad15 {names : List Str} {r : Nat} {rws : List (List D)} (R : POk names r rws) : BadRow names r rws.length ([("call" : Str), ("0" : Str), ("Q" : Str)] : List Str) := by
  have nob := nob_of R.nb
  exact ⟨⟨by simp, (by show 3 ≤ 61; decide), (tk_cons (show Tok ("call" : Str) by unfold Tok; decide +kernel) (tk_cons (show Tok ("0" : Str) by unfold Tok; decide +kernel) (tk_cons (show Tok ("Q" : Str) by unfold Tok; decide +kernel) tk_nil)))⟩, fun last hl => .bad (z := ("call" : Str)) (ws := [("0" : Str), ("Q" : Str)]) (L := "LM") (rs := [(.int 0), .non]) rfl (show (lettS "LM" 2).length = 2 by decide +kernel) (show PartsR names r last (lettS "LM" 2).cps.toList _ _ by rw [show (lettS "LM" 2).cps.toList = [76, 66] by decide +kernel]; exact (.cons p_zero (.cons (.nobox (nob ("Q" : Str) (by unfold IsBox; decide +kernel))) .nil))) (by simp)⟩
theorem bad16 {names : List Str} {r : Nat} {rws : List (List D)} (R : POk names r rws) : BadRow names r rws.length ([("up" : Str)] : List Str) := by
  have nob := nob_of R.nb
  exact ⟨⟨by simp, (by show 1 ≤ 61; decide), (tk_cons (show Tok ("up" : Str) by unfold Tok; decide +kernel) tk_nil)⟩, fun last hl => .few (z := ("up" : Str)) (ws := []) (L := "B") rfl (show (lettS "B" 0).length ≠ 0 by decide +kernel)⟩
theorem bad17 {names : List Str} {r : Nat} {rws : List (List D)} (R : POk names r rws) : BadRow names r rws.length ([("up" : Str), ("Q" : Str)] : List Str) := by
  have nob := nob_of R.nb
  exact ⟨⟨by simp, (by show 2 ≤ 61; decide), (tk_cons (show Tok ("up" : Str) by unfold Tok; decide +kernel) (tk_cons (show Tok ("Q" : Str) by unfold Tok; decide +kernel) tk_nil))⟩, fun last hl => .bad (z := ("up" : Str)) (ws := [("Q" : Str)]) (L := "B") (rs := [.non]) rfl (show (lettS "B" 1).length = 1 by decide +kernel) (show PartsR names r last (lettS "B" 1).cps.toList _ _ by rw [show (lettS "B" 1).cps.toList = [66] by decide +kernel]; exact (.cons (.nobox (nob ("Q" : Str) (by unfold IsBox; decide +kernel))) .nil)) (by simp)⟩
theorem bad18 {names : List Str} {r : Nat} {rws : List (List D)} (R : POk names r rws) : BadRow names r rws.length ([("put" : Str)] : List Str) := by
  have nob := nob_of R.nb
  exact ⟨⟨by simp, (by show 1 ≤ 61; decide), (tk_cons (show Tok ("put" : Str) by unfold Tok; decide +kernel) tk_nil)⟩, fun last hl => .few (z := ("put" : Str)) (ws := []) (L := "BB") rfl (show (lettS "BB" 0).length ≠ 0 by decide +kernel)⟩
theorem bad19 {names : List Str} {r : Nat} {rws : List (List D)} (R : POk names r rws) : BadRow names r rws.length ([("refuse" : Str), ("0" : Str)] : List Str) := by
  have nob := nob_of R.nb
  exact ⟨⟨by simp, (by show 2 ≤ 61; decide), (tk_cons (show Tok ("refuse" : Str) by unfold Tok; decide +kernel) (tk_cons (show Tok ("0" : Str) by unfold Tok; decide +kernel) tk_nil))⟩, fun last hl => .few (z := ("refuse" : Str)) (ws := [("0" : Str)]) (L := "") rfl (show (lettS "" 1).length ≠ 1 by decide +kernel)⟩
theorem bad20 {names : List Str} {r : Nat} {rws : List (List D)} (R : POk names r rws) : BadRow names r rws.length ([("room" : Str), ("1" : Str)] : List Str) := by
  have nob := nob_of R.nb
  exact ⟨⟨by simp, (by show 2 ≤ 61; decide), (tk_cons (show Tok ("room" : Str) by unfold Tok; decide +kernel) (tk_cons (show Tok ("1" : Str) by unfold Tok; decide +kernel) tk_nil))⟩, fun last hl => .noword (z := ("room" : Str)) (ws := [("1" : Str)]) (is_none (by decide +kernel))⟩
theorem bad21 {names : List Str} {r : Nat} {rws : List (List D)} (R : POk names r rws) : BadRow names r rws.length ([("boxes" : Str), ("a" : Str)] : List Str) := by
  have nob := nob_of R.nb
  exact ⟨⟨by simp, (by show 2 ≤ 61; decide), (tk_cons (show Tok ("boxes" : Str) by unfold Tok; decide +kernel) (tk_cons (show Tok ("a" : Str) by unfold Tok; decide +kernel) tk_nil))⟩, fun last hl => .noword (z := ("boxes" : Str)) (ws := [("a" : Str)]) (is_none (by decide +kernel))⟩
theorem bad22 {names : List Str} {r : Nat} {rws : List (List D)} (R : POk names r rws) {box : Str} (hb : box ∈ names) : BadRow names r rws.length ([("up" : Str), box, box] : List Str) := by
  have nob := nob_of R.nb
  exact ⟨⟨by simp, (by show 3 ≤ 61; decide), (tk_cons (show Tok ("up" : Str) by unfold Tok; decide +kernel) (tk_cons (tok_nm (R.nm box hb)) (tk_cons (tok_nm (R.nm box hb)) tk_nil)))⟩, fun last hl => .few (z := ("up" : Str)) (ws := [box, box]) (L := "B") rfl (show (lettS "B" 2).length ≠ 2 by decide +kernel)⟩
theorem bad23 {names : List Str} {r : Nat} {rws : List (List D)} (R : POk names r rws) {box : Str} (hb : box ∈ names) : BadRow names r rws.length ([("put" : Str), box] : List Str) := by
  have nob := nob_of R.nb
  exact ⟨⟨by simp, (by show 2 ≤ 61; decide), (tk_cons (show Tok ("put" : Str) by unfold Tok; decide +kernel) (tk_cons (tok_nm (R.nm box hb)) tk_nil))⟩, fun last hl => .few (z := ("put" : Str)) (ws := [box]) (L := "BB") rfl (show (lettS "BB" 1).length ≠ 1 by decide +kernel)⟩
theorem bad24 {names : List Str} {r : Nat} {rws : List (List D)} (R : POk names r rws) {box : Str} (hb : box ∈ names) : BadRow names r rws.length ([("set" : Str), box, ("x" : Str)] : List Str) := by
  have nob := nob_of R.nb
  exact ⟨⟨by simp, (by show 3 ≤ 61; decide), (tk_cons (show Tok ("set" : Str) by unfold Tok; decide +kernel) (tk_cons (tok_nm (R.nm box hb)) (tk_cons (show Tok ("x" : Str) by unfold Tok; decide +kernel) tk_nil)))⟩, fun last hl => .bad (z := ("set" : Str)) (ws := [box, ("x" : Str)]) (L := "BK") (rs := [(.str box), .non]) rfl (show (lettS "BK" 2).length = 2 by decide +kernel) (show PartsR names r last (lettS "BK" 2).cps.toList _ _ by rw [show (lettS "BK" 2).cps.toList = [66, 75] by decide +kernel]; exact (.cons (.box hb) (.cons (p_not 75 (by decide) (by decide +kernel)) .nil))) (by simp)⟩
theorem bad25 {names : List Str} {r : Nat} {rws : List (List D)} (R : POk names r rws) {box : Str} (hb : box ∈ names) : BadRow names r rws.length ([("set" : Str), box, ("1000000000" : Str)] : List Str) := by
  have nob := nob_of R.nb
  exact ⟨⟨by simp, (by show 3 ≤ 61; decide), (tk_cons (show Tok ("set" : Str) by unfold Tok; decide +kernel) (tk_cons (tok_nm (R.nm box hb)) (tk_cons (show Tok ("1000000000" : Str) by unfold Tok; decide +kernel) tk_nil)))⟩, fun last hl => .bad (z := ("set" : Str)) (ws := [box, ("1000000000" : Str)]) (L := "BK") (rs := [(.str box), .non]) rfl (show (lettS "BK" 2).length = 2 by decide +kernel) (show PartsR names r last (lettS "BK" 2).cps.toList _ _ by rw [show (lettS "BK" 2).cps.toList = [66, 75] by decide +kernel]; exact (.cons (.box hb) (.cons (p_not 75 (by decide) (by decide +kernel)) .nil))) (by simp)⟩
theorem bad26 {names : List Str} {r : Nat} {rws : List (List D)} (R : POk names r rws) {box : Str} (hb : box ∈ names) : BadRow names r rws.length ([("same" : Str), box, box] : List Str) := by
  have nob := nob_of R.nb
  exact ⟨⟨by simp, (by show 3 ≤ 61; decide), (tk_cons (show Tok ("same" : Str) by unfold Tok; decide +kernel) (tk_cons (tok_nm (R.nm box hb)) (tk_cons (tok_nm (R.nm box hb)) tk_nil)))⟩, fun last hl => .few (z := ("same" : Str)) (ws := [box, box]) (L := "BBL") rfl (show (lettS "BBL" 2).length ≠ 2 by decide +kernel)⟩
theorem bad27 {names : List Str} {r : Nat} {rws : List (List D)} (R : POk names r rws) {box : Str} (hb : box ∈ names) : BadRow names r rws.length ([("is" : Str), box, ("0" : Str)] : List Str) := by
  have nob := nob_of R.nb
  exact ⟨⟨by simp, (by show 3 ≤ 61; decide), (tk_cons (show Tok ("is" : Str) by unfold Tok; decide +kernel) (tk_cons (tok_nm (R.nm box hb)) (tk_cons (show Tok ("0" : Str) by unfold Tok; decide +kernel) tk_nil)))⟩, fun last hl => .few (z := ("is" : Str)) (ws := [box, ("0" : Str)]) (L := "BKL") rfl (show (lettS "BKL" 2).length ≠ 2 by decide +kernel)⟩
theorem bad28 {names : List Str} {r : Nat} {rws : List (List D)} (R : POk names r rws) {box : Str} (hb : box ∈ names) : BadRow names r rws.length ([("within" : Str), (numS (r + 1)), box, ("0" : Str)] : List Str) := by
  have nob := nob_of R.nb
  exact ⟨⟨by simp, (by show 4 ≤ 61; decide), (tk_cons (show Tok ("within" : Str) by unfold Tok; decide +kernel) (tk_cons (tok_num (by have := R.r20; omega)) (tk_cons (tok_nm (R.nm box hb)) (tk_cons (show Tok ("0" : Str) by unfold Tok; decide +kernel) tk_nil))))⟩, fun last hl => .bad (z := ("within" : Str)) (ws := [(numS (r + 1)), box, ("0" : Str)]) (L := "QBL") (rs := [.non, (.str box), (.int 0)]) rfl (show (lettS "QBL" 3).length = 3 by decide +kernel) (show PartsR names r last (lettS "QBL" 3).cps.toList _ _ by rw [show (lettS "QBL" 3).cps.toList = [81, 66, 76] by decide +kernel]; exact (.cons (p_wide (by have := R.r20; omega) (by omega)) (.cons (.box hb) (.cons p_zero .nil)))) (by simp)⟩
theorem bad29 {names : List Str} {r : Nat} {rws : List (List D)} (R : POk names r rws) {box : Str} (hb : box ∈ names) : BadRow names r rws.length ([("take" : Str), ("1" : Str), box] : List Str) := by
  have nob := nob_of R.nb
  exact ⟨⟨by simp, (by show 3 ≤ 61; decide), (tk_cons (show Tok ("take" : Str) by unfold Tok; decide +kernel) (tk_cons (show Tok ("1" : Str) by unfold Tok; decide +kernel) (tk_cons (tok_nm (R.nm box hb)) tk_nil)))⟩, fun last hl => .noword (z := ("take" : Str)) (ws := [("1" : Str), box]) (is_none (by decide +kernel))⟩
theorem bad30 {names : List Str} {r : Nat} {rws : List (List D)} (R : POk names r rws) {box : Str} (hb : box ∈ names) : BadRow names r rws.length ([("edge" : Str), (numS (r + 1)), box, ("0" : Str)] : List Str) := by
  have nob := nob_of R.nb
  exact ⟨⟨by simp, (by show 4 ≤ 61; decide), (tk_cons (show Tok ("edge" : Str) by unfold Tok; decide +kernel) (tk_cons (tok_num (by have := R.r20; omega)) (tk_cons (tok_nm (R.nm box hb)) (tk_cons (show Tok ("0" : Str) by unfold Tok; decide +kernel) tk_nil))))⟩, fun last hl => .bad (z := ("edge" : Str)) (ws := [(numS (r + 1)), box, ("0" : Str)]) (L := "QBL") (rs := [.non, (.str box), (.int 0)]) rfl (show (lettS "QBL" 3).length = 3 by decide +kernel) (show PartsR names r last (lettS "QBL" 3).cps.toList _ _ by rw [show (lettS "QBL" 3).cps.toList = [81, 66, 76] by decide +kernel]; exact (.cons (p_wide (by have := R.r20; omega) (by omega)) (.cons (.box hb) (.cons p_zero .nil)))) (by simp)⟩
theorem bad31 {names : List Str} {r : Nat} {rws : List (List D)} (R : POk names r rws) {box : Str} (hb : box ∈ names) : BadRow names r rws.length ([("mark" : Str), ("A" : Str), box, ("0" : Str)] : List Str) := by
  have nob := nob_of R.nb
  exact ⟨⟨by simp, (by show 4 ≤ 61; decide), (tk_cons (show Tok ("mark" : Str) by unfold Tok; decide +kernel) (tk_cons (show Tok ("A" : Str) by unfold Tok; decide +kernel) (tk_cons (tok_nm (R.nm box hb)) (tk_cons (show Tok ("0" : Str) by unfold Tok; decide +kernel) tk_nil))))⟩, fun last hl => .bad (z := ("mark" : Str)) (ws := [("A" : Str), box, ("0" : Str)]) (L := "NBL") (rs := [.non, (.str box), (.int 0)]) rfl (show (lettS "NBL" 3).length = 3 by decide +kernel) (show PartsR names r last (lettS "NBL" 3).cps.toList _ _ by rw [show (lettS "NBL" 3).cps.toList = [78, 66, 76] by decide +kernel]; exact (.cons (.noname (by decide +kernel)) (.cons (.box hb) (.cons p_zero .nil)))) (by simp)⟩
theorem bad32 {names : List Str} {r : Nat} {rws : List (List D)} (R : POk names r rws) {box : Str} (hb : box ∈ names) : BadRow names r rws.length ([("arrow" : Str), ("a" : Str), box, ("0" : Str)] : List Str) := by
  have nob := nob_of R.nb
  exact ⟨⟨by simp, (by show 4 ≤ 61; decide), (tk_cons (show Tok ("arrow" : Str) by unfold Tok; decide +kernel) (tk_cons (show Tok ("a" : Str) by unfold Tok; decide +kernel) (tk_cons (tok_nm (R.nm box hb)) (tk_cons (show Tok ("0" : Str) by unfold Tok; decide +kernel) tk_nil))))⟩, fun last hl => .few (z := ("arrow" : Str)) (ws := [("a" : Str), box, ("0" : Str)]) (L := "NBBL") rfl (show (lettS "NBBL" 3).length ≠ 3 by decide +kernel)⟩
theorem bad33 {names : List Str} {r : Nat} {rws : List (List D)} (R : POk names r rws) {box : Str} (hb : box ∈ names) : BadRow names r rws.length ([("call" : Str), ("0" : Str), ("" : Str), box] : List Str) := by
  have nob := nob_of R.nb
  exact ⟨⟨by simp, (by show 4 ≤ 61; decide), (tk_cons (show Tok ("call" : Str) by unfold Tok; decide +kernel) (tk_cons (show Tok ("0" : Str) by unfold Tok; decide +kernel) (tk_cons (show Tok ("" : Str) by unfold Tok; decide +kernel) (tk_cons (tok_nm (R.nm box hb)) tk_nil))))⟩, fun last hl => .bad (z := ("call" : Str)) (ws := [("0" : Str), ("" : Str), box]) (L := "LM") (rs := [(.int 0), .non, (.str box)]) rfl (show (lettS "LM" 3).length = 3 by decide +kernel) (show PartsR names r last (lettS "LM" 3).cps.toList _ _ by rw [show (lettS "LM" 3).cps.toList = [76, 66, 66] by decide +kernel]; exact (.cons p_zero (.cons (.nobox (nob ("" : Str) (by unfold IsBox; decide +kernel))) (.cons (.box hb) .nil)))) (by simp)⟩
theorem bad34 {names : List Str} {r : Nat} {rws : List (List D)} (R : POk names r rws) {box : Str} (hb : box ∈ names) : BadRow names r rws.length ([("less" : Str), box, box, (numS (rws.length + 1))] : List Str) := by
  have nob := nob_of R.nb
  exact ⟨⟨by simp, (by show 4 ≤ 61; decide), (tk_cons (show Tok ("less" : Str) by unfold Tok; decide +kernel) (tk_cons (tok_nm (R.nm box hb)) (tk_cons (tok_nm (R.nm box hb)) (tk_cons (tok_num (by have := R.r99; omega)) tk_nil))))⟩, fun last hl => .bad (z := ("less" : Str)) (ws := [box, box, (numS (rws.length + 1))]) (L := "BBL") (rs := [(.str box), (.str box), .non]) rfl (show (lettS "BBL" 3).length = 3 by decide +kernel) (show PartsR names r last (lettS "BBL" 3).cps.toList _ _ by rw [show (lettS "BBL" 3).cps.toList = [66, 66, 76] by decide +kernel]; exact (.cons (.box hb) (.cons (.box hb) (.cons (p_far (by have := R.r99; omega) (by omega)) .nil)))) (by simp)⟩
theorem bad35 {names : List Str} {r : Nat} {rws : List (List D)} (R : POk names r rws) {box : Str} (hb : box ∈ names) : BadRow names r rws.length ([("mark" : Str), ("abcdefghi" : Str), box, ("0" : Str)] : List Str) := by
  have nob := nob_of R.nb
  exact ⟨⟨by simp, (by show 4 ≤ 61; decide), (tk_cons (show Tok ("mark" : Str) by unfold Tok; decide +kernel) (tk_cons (show Tok ("abcdefghi" : Str) by unfold Tok; decide +kernel) (tk_cons (tok_nm (R.nm box hb)) (tk_cons (show Tok ("0" : Str) by unfold Tok; decide +kernel) tk_nil))))⟩, fun last hl => .bad (z := ("mark" : Str)) (ws := [("abcdefghi" : Str), box, ("0" : Str)]) (L := "NBL") (rs := [.non, (.str box), (.int 0)]) rfl (show (lettS "NBL" 3).length = 3 by decide +kernel) (show PartsR names r last (lettS "NBL" 3).cps.toList _ _ by rw [show (lettS "NBL" 3).cps.toList = [78, 66, 76] by decide +kernel]; exact (.cons (.noname (by decide +kernel)) (.cons (.box hb) (.cons p_zero .nil)))) (by simp)⟩
theorem bad36 {names : List Str} {r : Nat} {rws : List (List D)} (R : POk names r rws) {box : Str} (hb : box ∈ names) : BadRow names r rws.length ([("call" : Str), ("0" : Str), box, ("nobox" : Str)] : List Str) := by
  have nob := nob_of R.nb
  exact ⟨⟨by simp, (by show 4 ≤ 61; decide), (tk_cons (show Tok ("call" : Str) by unfold Tok; decide +kernel) (tk_cons (show Tok ("0" : Str) by unfold Tok; decide +kernel) (tk_cons (tok_nm (R.nm box hb)) (tk_cons (show Tok ("nobox" : Str) by unfold Tok; decide +kernel) tk_nil))))⟩, fun last hl => .bad (z := ("call" : Str)) (ws := [("0" : Str), box, ("nobox" : Str)]) (L := "LM") (rs := [(.int 0), (.str box), .non]) rfl (show (lettS "LM" 3).length = 3 by decide +kernel) (show PartsR names r last (lettS "LM" 3).cps.toList _ _ by rw [show (lettS "LM" 3).cps.toList = [76, 66, 66] by decide +kernel]; exact (.cons p_zero (.cons (.box hb) (.cons (.nobox (nob ("nobox" : Str) (by unfold IsBox; decide +kernel))) .nil)))) (by simp)⟩
end L77
end
section
set_option Elab.async false
set_option linter.all false
set_option maxRecDepth 100000
set_option autoImplicit false
set_option maxHeartbeats 1000000
namespace L77
open PySem L2 Vb Vd
theorem scLawBadRow : FnScope ["pot", "own", "many", "room", "some", "box"] ["pot", "own"] (defScope sLawBadRow) := ⟨rfl, rfl, rfl, by decide +kernel, rfl, by decide +kernel, by decide +kernel⟩
/-- what is read as a text of at most so many signs -/
def EvB (ρ : Rho) (t : TD) (z : Str) (n : Nat) : Prop := (∀ m (Q : D → Nat → Prop), Q (.str z) m → t ρ m Q) ∧ z.length ≤ n
theorem eb_c {ρ : Rho} {z : Str} (n : Nat) (h : z.length ≤ n) : EvB ρ (dC (.str z)) z n := ⟨fun m Q q => q, h⟩
theorem eb_v {ρ : Rho} {z : Str} {i n : Nat} (e : ρ[i]? = some (some (.d (.str z)))) (h : z.length ≤ n) : EvB ρ (dVar i) z n := ⟨fun m Q q => ⟨_, e, q⟩, h⟩
theorem eb_add {ρ : Rho} {a b : Str} {ta tb : TD} {n k : Nat} (ha : EvB ρ ta a n) (hb : EvB ρ tb b k) (h : n + k ≤ 16777216) : EvB ρ (dOp2 fAdd ta tb) (a ++ b) (n + k) :=
  ⟨fun m Q q => ha.1 _ _ (hb.1 _ _ ⟨_, fAdd_str (by rw [sizeLine_eq]; have := ha.2; have := hb.2; omega), q⟩), by
    have e : (a ++ b).length = a.length + b.length := Array.size_append
    have := ha.2
    have := hb.2
    omega⟩
theorem eb_as {ρ : Rho} {t : TD} {z z' : Str} {n : Nat} (h : EvB ρ t z n) (e : z = z') : EvB ρ t z' n := e ▸ h
def EvL (ρ : Rho) (t : TDA) (zs : List Str) : Prop := ∀ m (Q : List D → Nat → Prop), Q (zs.map .str) m → t ρ m Q
theorem es_nil {ρ : Rho} : EvL ρ aNil [] := fun m Q q => q
theorem es_cons {ρ : Rho} {t : TD} {ts : TDA} {z : Str} {zs : List Str} {n : Nat} (h : EvB ρ t z n) (r : EvL ρ ts zs) : EvL ρ (aCons t ts) (z :: zs) := fun m Q q => h.1 _ _ (r _ _ q)
theorem st_own {i : Nat} {t : TDA} {rest : TSD} {D : Ed} {ρ : Rho} {m : Nat} {zs : List Str} (h : EvL ρ t zs) (hl : zs.length ≤ 100) (li : i < ρ.length) (k : ∀ a, rest D (ρ.set i (some (.own a (zs.map .str)))) m) : sSeq (sOwn i t) rest D ρ m :=
  h m _ ⟨by rw [List.length_map]; exact Nat.le_trans hl (by decide), li, fun a _ => k a⟩
theorem st_last {i : Nat} {t : TDA} {D : Ed} {ρ : Rho} {m : Nat} {zs ys : List Str} {a : Addr} (e : ρ[i]? = some (some (.own a (ys.map .str)))) (h : EvL ρ t zs) (hl : zs.length ≤ 100) (hy : ys.length ≤ 100) (k : D.nx (ρ.set i (some (.own a ((ys ++ zs).map .str)))) m) : sExt i (dLst t) D ρ m :=
  ⟨a, _, e, h m _ ⟨by rw [List.length_map]; exact Nat.le_trans hl (by decide), _, rfl, by rw [List.length_map, List.length_map]; exact Nat.le_trans (show ys.length + zs.length ≤ 200 by omega) (by decide), by rw [← List.map_append]; exact k⟩⟩
theorem st_ext {i : Nat} {t : TDA} {rest : TSD} {D : Ed} {ρ : Rho} {m : Nat} {zs ys : List Str} {a : Addr} (e : ρ[i]? = some (some (.own a (ys.map .str)))) (h : EvL ρ t zs) (hl : zs.length ≤ 100) (hy : ys.length ≤ 100) (k : rest D (ρ.set i (some (.own a ((ys ++ zs).map .str)))) m) : sSeq (sExt i (dLst t)) rest D ρ m :=
  st_last e h hl hy k
theorem st_app {i : Nat} {t : TD} {rest : TSD} {D : Ed} {ρ : Rho} {m n : Nat} {z : Str} {ys : List Str} {a : Addr} (e : ρ[i]? = some (some (.own a (ys.map .str)))) (h : EvB ρ t z n) (hy : ys.length ≤ 100) (k : rest D (ρ.set i (some (.own a ((ys ++ [z]).map .str)))) m) : sSeq (sApp i t) rest D ρ m :=
  ⟨a, _, e, h.1 m _ ⟨by rw [List.length_map]; exact Nat.lt_of_le_of_lt hy (by decide), by rw [List.map_append] at k; exact k⟩⟩
def FLawBadRow : FD := fun ds m Q => ∃ (r : Nat) (names : List Str) (rws : List (List D)), ds = [.pot, .dk (own3 (.int (r : Int)) (.lst (names.map .str)) (.lst (rws.map .tup)))] ∧ POk names r rws ∧ 5 ≤ m ∧ ∀ ws m', BadRow names r rws.length ws → m ≤ m' + 5 → Q (.str (lineW ws)) m'
theorem mnLawBadRow : MnF FLawBadRow := fun ds m Q Q' w ⟨a, b, c, h1, h2, h3, q⟩ => ⟨a, b, c, h1, h2, h3, fun z m' g g' => w _ _ (q z m' g g')⟩
theorem calLawBadRow {P : Program} {w : World} {K : PySem.W.Frag} {mg : Str → Option Value} {base : Heap} (D : Df K mg "_law_bad_row" sLawBadRow) (T : Bi mg) (G : Gi mg) (cT : Cal P w K mg base 1 "_law_take" (spD K fTake)) (cO : Cal P w K mg base 2 "_law_of" (spD K fOf)) : Cal P w K mg base 3 "_law_bad_row" (spD K FLawBadRow) :=
  D.cal ["pot", "own"] (fun f fd Fu => Fun.okD Fu scLawBadRow (fun ds m Q h => by obtain ⟨_, _, _, rfl, _⟩ := h; rfl) (fun cdv A outer s H E hr =>
  dss_cons (ds_par (i := 2) (j := 3) rfl scLawBadRow.nd (da_cons (de_callTy call_str_int s_str (by rfl) T.str (by decide +kernel) (da_cons (de_op op_addA s_add (de_callB call_len s_len (by rfl) T.len (by decide +kernel) (da_cons (de_dget (hu_of hr) (dv 1) de_str (fun _ _ => rfl)) da_nil)) de_int) da_nil)) (da_cons (de_callTy call_str_int s_str (by rfl) T.str (by decide +kernel) (da_cons (de_op op_addA s_add (de_dget (hu_of hr) (dv 1) de_str (fun _ _ => rfl)) de_int) da_nil)) da_nil)))
    (dss_cons (ds_own (i := 4) scLawBadRow.nd rfl (by first | exact Or.inl rfl | exact Or.inr rfl) (da_cons de_str (da_cons de_str (da_cons de_str (da_cons de_str (da_cons de_str (da_cons de_str (da_cons de_str (da_cons de_str (da_cons de_str (da_cons de_str (da_cons (de_op op_addA s_add de_str (dv 2)) da_nil))))))))))))
    (dss_cons (ds_ext (i := 4) (pv 4) (de_lst (da_cons de_str (da_cons de_str (da_cons de_str (da_cons (de_op op_addA s_add de_str (dv 2)) (da_cons de_str (da_cons de_str (da_cons de_str (da_cons de_str (da_cons de_str (da_cons de_str da_nil))))))))))))
    (dss_cons (ds_app (i := 4) (pv 4) de_str)
    (dss_cons (ds_if (dt_cmp (op_neD hr.units) s_neD (de_dget (hu_of hr) (dv 1) de_str (fun _ _ => rfl)) (de_lst da_nil) (nomark _))
      (dss_cons (ds_set (i := 5) scLawBadRow.nd rfl (by first | exact Or.inl rfl | exact Or.inr rfl) (de_ix ix_seq s_ix (de_dget (hu_of hr) (dv 1) de_str (fun _ _ => rfl)) de_int (fun _ _ => rfl)))
    (dss_cons (ds_ext (i := 4) (pv 4) (de_lst (da_cons (de_op op_addA s_add (de_op op_addA s_add (de_op op_addA s_add de_str (dv 5)) de_str) (dv 5)) (da_cons (de_op op_addA s_add de_str (dv 5)) (da_cons (de_op op_addA s_add (de_op op_addA s_add de_str (dv 5)) de_str) (da_cons (de_op op_addA s_add (de_op op_addA s_add de_str (dv 5)) de_str) da_nil))))))
    (dss_cons (ds_ext (i := 4) (pv 4) (de_lst (da_cons (de_op op_addA s_add (de_op op_addA s_add (de_op op_addA s_add de_str (dv 5)) de_str) (dv 5)) (da_cons (de_op op_addA s_add (de_op op_addA s_add de_str (dv 5)) de_str) (da_cons (de_op op_addA s_add (de_op op_addA s_add (de_op op_addA s_add (de_op op_addA s_add de_str (dv 3)) de_str) (dv 5)) de_str) da_nil)))))
    (dss_cons (ds_ext (i := 4) (pv 4) (de_lst (da_cons (de_op op_addA s_add de_str (dv 5)) (da_cons (de_op op_addA s_add (de_op op_addA s_add (de_op op_addA s_add (de_op op_addA s_add de_str (dv 3)) de_str) (dv 5)) de_str) (da_cons (de_op op_addA s_add (de_op op_addA s_add de_str (dv 5)) de_str) da_nil)))))
    (dss_cons (ds_ext (i := 4) (pv 4) (de_lst (da_cons (de_op op_addA s_add (de_op op_addA s_add de_str (dv 5)) de_str) (da_cons (de_op op_addA s_add de_str (dv 5)) (da_cons (de_op op_addA s_add (de_op op_addA s_add (de_op op_addA s_add (de_op op_addA s_add (de_op op_addA s_add de_str (dv 5)) de_str) (dv 5)) de_str) (dv 2)) da_nil)))))
    (dss_one (ds_ext (i := 4) (pv 4) (de_lst (da_cons (de_op op_addA s_add (de_op op_addA s_add de_str (dv 5)) de_str) (da_cons (de_op op_addA s_add (de_op op_addA s_add de_str (dv 5)) de_str) da_nil))))))))))
      (dss_nil))
    (dss_frz 4 (dss_one (ds_ret (de_c mn_of cO hr (by decide) rfl (da_cons (dv 0) (da_cons (dv 4) da_nil))))))))))) (fun ds m Q h => by
    obtain ⟨r, names, rws, rfl, R, hm, q⟩ := h
    have h80 := R.r99
    have h19 := R.r20
    have lm := num_len (n := rws.length + 1) (by omega)
    have lr := num_len (n := r + 1) (by omega)
    have en : (((rws.map Vd.D.tup).length : Nat) : Int) + 1 = ((rws.length + 1 : Nat) : Int) := by rw [List.length_map]; omega
    have er : (r : Int) + 1 = ((r + 1 : Nat) : Int) := by omega
    refine ⟨_, rfl, .lst (rws.map .tup), rfl, _, fLen_lst, _, (congrArg (fun i => some (Vd.D.int i)) en : _), _, fStr_num (by omega), _, rfl, .int (r : Int), rfl, _, (congrArg (fun i => some (Vd.D.int i)) er : _), _, fStr_num (by omega), _, _, rfl, ?_⟩
    dsimp only
    have nN := fNeD_nil fun z h => nm_ok (R.nm z h)
    have fin : ∀ (zs : List Str) (n : Nat) (ρ : Rho) (a : Addr), (∀ z ∈ zs, ∃ ws, z = lineW ws ∧ BadRow names r rws.length ws) → zs ≠ [] → zs.length ≤ 100 → m ≤ n → ρ[0]? = some (some (.d .pot)) → ρ[4]? = some (some (.own a (zs.map .str))) → sFrz 4 (sRet (dCal fOf (aCons (dVar 0) (aCons (dVar 4) aNil)))) { nx := fun x m' => Q Vd.D.non m', rt := Q } ρ n := fun zs n ρ a hz ne hl hn e0 e4 => by
      obtain ⟨l4, _⟩ := List.getElem?_eq_some_iff.mp e4
      refine ⟨a, _, e4, _, by simpa [List.getElem?_set] using e0, _, List.getElem?_set_self l4, of_step rfl (by rw [List.length_map]; exact List.length_pos_iff.mpr ne) (by rw [List.length_map]; omega) (by omega) fun d hd n2 e2 => ?_⟩
      obtain ⟨z, hz', rfl⟩ := List.mem_map.mp hd
      obtain ⟨ws, rfl, hb⟩ := hz z hz'
      exact q ws n2 hb (by omega)
    generalize hρ : List.set _ 3 _ = ρ
    have e0 : ρ[0]? = some (some (.d .pot)) := by rw [← hρ]; rfl
    have e1 : ρ[1]? = some (some (.d (.dk (own3 (.int (r : Int)) (.lst (names.map .str)) (.lst (rws.map .tup)))))) := by rw [← hρ]; rfl
    have e2 : ρ[2]? = some (some (.d (.str (numS (rws.length + 1))))) := by rw [← hρ]; rfl
    have e3 : ρ[3]? = some (some (.d (.str (numS (r + 1))))) := by rw [← hρ]; rfl
    have l6 : ρ.length = 6 := by rw [← hρ]; rfl
    clear hρ
    refine st_own (es_cons (eb_as (eb_c 1 (by decide +kernel)) (sq0 (box := Str.empty) (many := numS (rws.length + 1)) (room := numS (r + 1)))) (es_cons (eb_as (eb_c 8 (by decide +kernel)) (sq1 (box := Str.empty) (many := numS (rws.length + 1)) (room := numS (r + 1)))) (es_cons (eb_as (eb_c 8 (by decide +kernel)) (sq2 (box := Str.empty) (many := numS (rws.length + 1)) (room := numS (r + 1)))) (es_cons (eb_as (eb_c 3 (by decide +kernel)) (sq3 (box := Str.empty) (many := numS (rws.length + 1)) (room := numS (r + 1)))) (es_cons (eb_as (eb_c 4 (by decide +kernel)) (sq4 (box := Str.empty) (many := numS (rws.length + 1)) (room := numS (r + 1)))) (es_cons (eb_as (eb_c 4 (by decide +kernel)) (sq5 (box := Str.empty) (many := numS (rws.length + 1)) (room := numS (r + 1)))) (es_cons (eb_as (eb_c 7 (by decide +kernel)) (sq6 (box := Str.empty) (many := numS (rws.length + 1)) (room := numS (r + 1)))) (es_cons (eb_as (eb_c 2 (by decide +kernel)) (sq7 (box := Str.empty) (many := numS (rws.length + 1)) (room := numS (r + 1)))) (es_cons (eb_as (eb_c 5 (by decide +kernel)) (sq8 (box := Str.empty) (many := numS (rws.length + 1)) (room := numS (r + 1)))) (es_cons (eb_as (eb_c 5 (by decide +kernel)) (sq9 (box := Str.empty) (many := numS (rws.length + 1)) (room := numS (r + 1)))) (es_cons (eb_as (eb_add (eb_c 3 (by decide +kernel)) (eb_v e2 lm) (by decide)) (sq10 (box := Str.empty) (many := numS (rws.length + 1)) (room := numS (r + 1)))) es_nil))))))))))) (by show 11 ≤ 100; decide) (by omega) fun a => ?_
    generalize hσ : List.set ρ 4 _ = σ
    have f4 : σ[4]? = some (some (.own a (([lineW ([("" : Str)] : List Str), lineW ([("take" : Str), ("1" : Str), ("a" : Str)] : List Str), lineW ([("either" : Str), ("0" : Str)] : List Str), lineW ([("Let" : Str)] : List Str), lineW ([("let" : Str), ("" : Str)] : List Str), lineW ([("" : Str), ("let" : Str)] : List Str), lineW ([("let" : Str), ("let" : Str)] : List Str), lineW ([("go" : Str)] : List Str), lineW ([("go" : Str), ("-1" : Str)] : List Str), lineW ([("go" : Str), ("01" : Str)] : List Str), lineW ([("go" : Str), (numS (rws.length + 1))] : List Str)] : List Str).map .str))) := by rw [← hσ]; exact List.getElem?_set_self (by omega)
    replace e0 : σ[0]? = some (some (.d .pot)) := by rw [← hσ]; simpa [List.getElem?_set] using e0
    replace e1 : σ[1]? = some (some (.d (.dk (own3 (.int (r : Int)) (.lst (names.map .str)) (.lst (rws.map .tup)))))) := by rw [← hσ]; simpa [List.getElem?_set] using e1
    replace e2 : σ[2]? = some (some (.d (.str (numS (rws.length + 1))))) := by rw [← hσ]; simpa [List.getElem?_set] using e2
    replace e3 : σ[3]? = some (some (.d (.str (numS (r + 1))))) := by rw [← hσ]; simpa [List.getElem?_set] using e3
    replace l6 : σ.length = 6 := by rw [← hσ]; simp [l6]
    clear hσ
    clear ρ
    rename Rho => ρ
    refine st_ext f4 (es_cons (eb_as (eb_c 6 (by decide +kernel)) (sq11 (box := Str.empty) (many := numS (rws.length + 1)) (room := numS (r + 1)))) (es_cons (eb_as (eb_c 4 (by decide +kernel)) (sq12 (box := Str.empty) (many := numS (rws.length + 1)) (room := numS (r + 1)))) (es_cons (eb_as (eb_c 6 (by decide +kernel)) (sq13 (box := Str.empty) (many := numS (rws.length + 1)) (room := numS (r + 1)))) (es_cons (eb_as (eb_add (eb_c 5 (by decide +kernel)) (eb_v e2 lm) (by decide)) (sq14 (box := Str.empty) (many := numS (rws.length + 1)) (room := numS (r + 1)))) (es_cons (eb_as (eb_c 8 (by decide +kernel)) (sq15 (box := Str.empty) (many := numS (rws.length + 1)) (room := numS (r + 1)))) (es_cons (eb_as (eb_c 2 (by decide +kernel)) (sq16 (box := Str.empty) (many := numS (rws.length + 1)) (room := numS (r + 1)))) (es_cons (eb_as (eb_c 4 (by decide +kernel)) (sq17 (box := Str.empty) (many := numS (rws.length + 1)) (room := numS (r + 1)))) (es_cons (eb_as (eb_c 3 (by decide +kernel)) (sq18 (box := Str.empty) (many := numS (rws.length + 1)) (room := numS (r + 1)))) (es_cons (eb_as (eb_c 8 (by decide +kernel)) (sq19 (box := Str.empty) (many := numS (rws.length + 1)) (room := numS (r + 1)))) (es_cons (eb_as (eb_c 6 (by decide +kernel)) (sq20 (box := Str.empty) (many := numS (rws.length + 1)) (room := numS (r + 1)))) es_nil)))))))))) (by show 10 ≤ 100; decide) (by show 11 ≤ 100; decide) ?_
    generalize hσ : List.set ρ 4 _ = σ
    replace f4 : σ[4]? = some (some (.own a (([lineW ([("" : Str)] : List Str), lineW ([("take" : Str), ("1" : Str), ("a" : Str)] : List Str), lineW ([("either" : Str), ("0" : Str)] : List Str), lineW ([("Let" : Str)] : List Str), lineW ([("let" : Str), ("" : Str)] : List Str), lineW ([("" : Str), ("let" : Str)] : List Str), lineW ([("let" : Str), ("let" : Str)] : List Str), lineW ([("go" : Str)] : List Str), lineW ([("go" : Str), ("-1" : Str)] : List Str), lineW ([("go" : Str), ("01" : Str)] : List Str), lineW ([("go" : Str), (numS (rws.length + 1))] : List Str)] ++ [lineW ([("back" : Str), ("0" : Str)] : List Str), lineW ([("call" : Str)] : List Str), lineW ([("call" : Str), ("x" : Str)] : List Str), lineW ([("call" : Str), (numS (rws.length + 1))] : List Str), lineW ([("call" : Str), ("0" : Str), ("Q" : Str)] : List Str), lineW ([("up" : Str)] : List Str), lineW ([("up" : Str), ("Q" : Str)] : List Str), lineW ([("put" : Str)] : List Str), lineW ([("refuse" : Str), ("0" : Str)] : List Str), lineW ([("room" : Str), ("1" : Str)] : List Str)] : List Str).map .str))) := by rw [← hσ]; exact List.getElem?_set_self (by omega)
    replace e0 : σ[0]? = some (some (.d .pot)) := by rw [← hσ]; simpa [List.getElem?_set] using e0
    replace e1 : σ[1]? = some (some (.d (.dk (own3 (.int (r : Int)) (.lst (names.map .str)) (.lst (rws.map .tup)))))) := by rw [← hσ]; simpa [List.getElem?_set] using e1
    replace e2 : σ[2]? = some (some (.d (.str (numS (rws.length + 1))))) := by rw [← hσ]; simpa [List.getElem?_set] using e2
    replace e3 : σ[3]? = some (some (.d (.str (numS (r + 1))))) := by rw [← hσ]; simpa [List.getElem?_set] using e3
    replace l6 : σ.length = 6 := by rw [← hσ]; simp [l6]
    clear hσ
    clear ρ
    rename Rho => ρ
    refine st_app f4 (eb_as (eb_c 7 (by decide +kernel)) (sq21 (box := Str.empty) (many := numS (rws.length + 1)) (room := numS (r + 1)))) (by show 21 ≤ 100; decide) ?_
    generalize hσ : List.set ρ 4 _ = σ
    replace f4 : σ[4]? = some (some (.own a (([lineW ([("" : Str)] : List Str), lineW ([("take" : Str), ("1" : Str), ("a" : Str)] : List Str), lineW ([("either" : Str), ("0" : Str)] : List Str), lineW ([("Let" : Str)] : List Str), lineW ([("let" : Str), ("" : Str)] : List Str), lineW ([("" : Str), ("let" : Str)] : List Str), lineW ([("let" : Str), ("let" : Str)] : List Str), lineW ([("go" : Str)] : List Str), lineW ([("go" : Str), ("-1" : Str)] : List Str), lineW ([("go" : Str), ("01" : Str)] : List Str), lineW ([("go" : Str), (numS (rws.length + 1))] : List Str)] ++ [lineW ([("back" : Str), ("0" : Str)] : List Str), lineW ([("call" : Str)] : List Str), lineW ([("call" : Str), ("x" : Str)] : List Str), lineW ([("call" : Str), (numS (rws.length + 1))] : List Str), lineW ([("call" : Str), ("0" : Str), ("Q" : Str)] : List Str), lineW ([("up" : Str)] : List Str), lineW ([("up" : Str), ("Q" : Str)] : List Str), lineW ([("put" : Str)] : List Str), lineW ([("refuse" : Str), ("0" : Str)] : List Str), lineW ([("room" : Str), ("1" : Str)] : List Str)] ++ [lineW ([("boxes" : Str), ("a" : Str)] : List Str)] : List Str).map .str))) := by rw [← hσ]; exact List.getElem?_set_self (by omega)
    replace e0 : σ[0]? = some (some (.d .pot)) := by rw [← hσ]; simpa [List.getElem?_set] using e0
    replace e1 : σ[1]? = some (some (.d (.dk (own3 (.int (r : Int)) (.lst (names.map .str)) (.lst (rws.map .tup)))))) := by rw [← hσ]; simpa [List.getElem?_set] using e1
    replace e2 : σ[2]? = some (some (.d (.str (numS (rws.length + 1))))) := by rw [← hσ]; simpa [List.getElem?_set] using e2
    replace e3 : σ[3]? = some (some (.d (.str (numS (r + 1))))) := by rw [← hσ]; simpa [List.getElem?_set] using e3
    replace l6 : σ.length = 6 := by rw [← hσ]; simp [l6]
    clear hσ
    clear ρ
    rename Rho => ρ
    refine ⟨_, e1, .lst (names.map .str), rfl, (by show 0 ≤ sizeLine; decide), _, nN, _, rfl, ?_⟩
    cases names with
    | nil =>
      refine fin ([lineW ([("" : Str)] : List Str), lineW ([("take" : Str), ("1" : Str), ("a" : Str)] : List Str), lineW ([("either" : Str), ("0" : Str)] : List Str), lineW ([("Let" : Str)] : List Str), lineW ([("let" : Str), ("" : Str)] : List Str), lineW ([("" : Str), ("let" : Str)] : List Str), lineW ([("let" : Str), ("let" : Str)] : List Str), lineW ([("go" : Str)] : List Str), lineW ([("go" : Str), ("-1" : Str)] : List Str), lineW ([("go" : Str), ("01" : Str)] : List Str), lineW ([("go" : Str), (numS (rws.length + 1))] : List Str)] ++ [lineW ([("back" : Str), ("0" : Str)] : List Str), lineW ([("call" : Str)] : List Str), lineW ([("call" : Str), ("x" : Str)] : List Str), lineW ([("call" : Str), (numS (rws.length + 1))] : List Str), lineW ([("call" : Str), ("0" : Str), ("Q" : Str)] : List Str), lineW ([("up" : Str)] : List Str), lineW ([("up" : Str), ("Q" : Str)] : List Str), lineW ([("put" : Str)] : List Str), lineW ([("refuse" : Str), ("0" : Str)] : List Str), lineW ([("room" : Str), ("1" : Str)] : List Str)] ++ [lineW ([("boxes" : Str), ("a" : Str)] : List Str)]) _ ρ a (fun z hz => ?_) (by simp) (by show 22 ≤ 100; decide) (Nat.le_refl _) e0 f4
      simp only [List.cons_append, List.nil_append, List.mem_cons, List.not_mem_nil, or_false] at hz
      rcases hz with rfl | rfl | rfl | rfl | rfl | rfl | rfl | rfl | rfl | rfl | rfl | rfl | rfl | rfl | rfl | rfl | rfl | rfl | rfl | rfl | rfl | rfl
      · exact ⟨_, rfl, bad0 R⟩
      · exact ⟨_, rfl, bad1 R⟩
      · exact ⟨_, rfl, bad2 R⟩
      · exact ⟨_, rfl, bad3 R⟩
      · exact ⟨_, rfl, bad4 R⟩
      · exact ⟨_, rfl, bad5 R⟩
      · exact ⟨_, rfl, bad6 R⟩
      · exact ⟨_, rfl, bad7 R⟩
      · exact ⟨_, rfl, bad8 R⟩
      · exact ⟨_, rfl, bad9 R⟩
      · exact ⟨_, rfl, bad10 R⟩
      · exact ⟨_, rfl, bad11 R⟩
      · exact ⟨_, rfl, bad12 R⟩
      · exact ⟨_, rfl, bad13 R⟩
      · exact ⟨_, rfl, bad14 R⟩
      · exact ⟨_, rfl, bad15 R⟩
      · exact ⟨_, rfl, bad16 R⟩
      · exact ⟨_, rfl, bad17 R⟩
      · exact ⟨_, rfl, bad18 R⟩
      · exact ⟨_, rfl, bad19 R⟩
      · exact ⟨_, rfl, bad20 R⟩
      · exact ⟨_, rfl, bad21 R⟩
    | cons box names' =>
      have hb : box ∈ box :: names' := List.mem_cons_self
      have lb := (R.nm box hb).2.2
      refine ⟨_, e1, .lst ((box :: names').map .str), rfl, _, ixl0, _, rfl, ?_⟩
      generalize hσ : List.set ρ 5 _ = σ
      replace f4 : σ[4]? = some (some (.own a (([lineW ([("" : Str)] : List Str), lineW ([("take" : Str), ("1" : Str), ("a" : Str)] : List Str), lineW ([("either" : Str), ("0" : Str)] : List Str), lineW ([("Let" : Str)] : List Str), lineW ([("let" : Str), ("" : Str)] : List Str), lineW ([("" : Str), ("let" : Str)] : List Str), lineW ([("let" : Str), ("let" : Str)] : List Str), lineW ([("go" : Str)] : List Str), lineW ([("go" : Str), ("-1" : Str)] : List Str), lineW ([("go" : Str), ("01" : Str)] : List Str), lineW ([("go" : Str), (numS (rws.length + 1))] : List Str)] ++ [lineW ([("back" : Str), ("0" : Str)] : List Str), lineW ([("call" : Str)] : List Str), lineW ([("call" : Str), ("x" : Str)] : List Str), lineW ([("call" : Str), (numS (rws.length + 1))] : List Str), lineW ([("call" : Str), ("0" : Str), ("Q" : Str)] : List Str), lineW ([("up" : Str)] : List Str), lineW ([("up" : Str), ("Q" : Str)] : List Str), lineW ([("put" : Str)] : List Str), lineW ([("refuse" : Str), ("0" : Str)] : List Str), lineW ([("room" : Str), ("1" : Str)] : List Str)] ++ [lineW ([("boxes" : Str), ("a" : Str)] : List Str)] : List Str).map .str))) := by rw [← hσ]; simpa [List.getElem?_set] using f4
      replace e0 : σ[0]? = some (some (.d .pot)) := by rw [← hσ]; simpa [List.getElem?_set] using e0
      replace e2 : σ[2]? = some (some (.d (.str (numS (rws.length + 1))))) := by rw [← hσ]; simpa [List.getElem?_set] using e2
      replace e3 : σ[3]? = some (some (.d (.str (numS (r + 1))))) := by rw [← hσ]; simpa [List.getElem?_set] using e3
      have e5 : σ[5]? = some (some (.d (.str box))) := by rw [← hσ]; exact List.getElem?_set_self (by omega)
      replace l6 : σ.length = 6 := by rw [← hσ]; simp [l6]
      clear hσ e1
      clear ρ
      rename Rho => ρ
      refine st_ext f4 (es_cons (eb_as (eb_add (eb_add (eb_add (eb_c 3 (by decide +kernel)) (eb_v e5 lb) (by decide)) (eb_c 1 (by decide +kernel)) (by decide)) (eb_v e5 lb) (by decide)) (sq22 (box := box) (many := numS (rws.length + 1)) (room := numS (r + 1)))) (es_cons (eb_as (eb_add (eb_c 4 (by decide +kernel)) (eb_v e5 lb) (by decide)) (sq23 (box := box) (many := numS (rws.length + 1)) (room := numS (r + 1)))) (es_cons (eb_as (eb_add (eb_add (eb_c 4 (by decide +kernel)) (eb_v e5 lb) (by decide)) (eb_c 2 (by decide +kernel)) (by decide)) (sq24 (box := box) (many := numS (rws.length + 1)) (room := numS (r + 1)))) (es_cons (eb_as (eb_add (eb_add (eb_c 4 (by decide +kernel)) (eb_v e5 lb) (by decide)) (eb_c 11 (by decide +kernel)) (by decide)) (sq25 (box := box) (many := numS (rws.length + 1)) (room := numS (r + 1)))) es_nil)))) (by show 4 ≤ 100; decide) (by show 22 ≤ 100; decide) ?_
      generalize hσ : List.set ρ 4 _ = σ
      replace f4 : σ[4]? = some (some (.own a (([lineW ([("" : Str)] : List Str), lineW ([("take" : Str), ("1" : Str), ("a" : Str)] : List Str), lineW ([("either" : Str), ("0" : Str)] : List Str), lineW ([("Let" : Str)] : List Str), lineW ([("let" : Str), ("" : Str)] : List Str), lineW ([("" : Str), ("let" : Str)] : List Str), lineW ([("let" : Str), ("let" : Str)] : List Str), lineW ([("go" : Str)] : List Str), lineW ([("go" : Str), ("-1" : Str)] : List Str), lineW ([("go" : Str), ("01" : Str)] : List Str), lineW ([("go" : Str), (numS (rws.length + 1))] : List Str)] ++ [lineW ([("back" : Str), ("0" : Str)] : List Str), lineW ([("call" : Str)] : List Str), lineW ([("call" : Str), ("x" : Str)] : List Str), lineW ([("call" : Str), (numS (rws.length + 1))] : List Str), lineW ([("call" : Str), ("0" : Str), ("Q" : Str)] : List Str), lineW ([("up" : Str)] : List Str), lineW ([("up" : Str), ("Q" : Str)] : List Str), lineW ([("put" : Str)] : List Str), lineW ([("refuse" : Str), ("0" : Str)] : List Str), lineW ([("room" : Str), ("1" : Str)] : List Str)] ++ [lineW ([("boxes" : Str), ("a" : Str)] : List Str)] ++ [lineW ([("up" : Str), box, box] : List Str), lineW ([("put" : Str), box] : List Str), lineW ([("set" : Str), box, ("x" : Str)] : List Str), lineW ([("set" : Str), box, ("1000000000" : Str)] : List Str)] : List Str).map .str))) := by rw [← hσ]; exact List.getElem?_set_self (by omega)
      replace e0 : σ[0]? = some (some (.d .pot)) := by rw [← hσ]; simpa [List.getElem?_set] using e0
      replace e2 : σ[2]? = some (some (.d (.str (numS (rws.length + 1))))) := by rw [← hσ]; simpa [List.getElem?_set] using e2
      replace e3 : σ[3]? = some (some (.d (.str (numS (r + 1))))) := by rw [← hσ]; simpa [List.getElem?_set] using e3
      replace e5 : σ[5]? = some (some (.d (.str box))) := by rw [← hσ]; simpa [List.getElem?_set] using e5
      replace l6 : σ.length = 6 := by rw [← hσ]; simp [l6]
      clear hσ
      clear ρ
      rename Rho => ρ
      refine st_ext f4 (es_cons (eb_as (eb_add (eb_add (eb_add (eb_c 5 (by decide +kernel)) (eb_v e5 lb) (by decide)) (eb_c 1 (by decide +kernel)) (by decide)) (eb_v e5 lb) (by decide)) (sq26 (box := box) (many := numS (rws.length + 1)) (room := numS (r + 1)))) (es_cons (eb_as (eb_add (eb_add (eb_c 3 (by decide +kernel)) (eb_v e5 lb) (by decide)) (eb_c 2 (by decide +kernel)) (by decide)) (sq27 (box := box) (many := numS (rws.length + 1)) (room := numS (r + 1)))) (es_cons (eb_as (eb_add (eb_add (eb_add (eb_add (eb_c 7 (by decide +kernel)) (eb_v e3 lr) (by decide)) (eb_c 1 (by decide +kernel)) (by decide)) (eb_v e5 lb) (by decide)) (eb_c 2 (by decide +kernel)) (by decide)) (sq28 (box := box) (many := numS (rws.length + 1)) (room := numS (r + 1)))) es_nil))) (by show 3 ≤ 100; decide) (by show 26 ≤ 100; decide) ?_
      generalize hσ : List.set ρ 4 _ = σ
      replace f4 : σ[4]? = some (some (.own a (([lineW ([("" : Str)] : List Str), lineW ([("take" : Str), ("1" : Str), ("a" : Str)] : List Str), lineW ([("either" : Str), ("0" : Str)] : List Str), lineW ([("Let" : Str)] : List Str), lineW ([("let" : Str), ("" : Str)] : List Str), lineW ([("" : Str), ("let" : Str)] : List Str), lineW ([("let" : Str), ("let" : Str)] : List Str), lineW ([("go" : Str)] : List Str), lineW ([("go" : Str), ("-1" : Str)] : List Str), lineW ([("go" : Str), ("01" : Str)] : List Str), lineW ([("go" : Str), (numS (rws.length + 1))] : List Str)] ++ [lineW ([("back" : Str), ("0" : Str)] : List Str), lineW ([("call" : Str)] : List Str), lineW ([("call" : Str), ("x" : Str)] : List Str), lineW ([("call" : Str), (numS (rws.length + 1))] : List Str), lineW ([("call" : Str), ("0" : Str), ("Q" : Str)] : List Str), lineW ([("up" : Str)] : List Str), lineW ([("up" : Str), ("Q" : Str)] : List Str), lineW ([("put" : Str)] : List Str), lineW ([("refuse" : Str), ("0" : Str)] : List Str), lineW ([("room" : Str), ("1" : Str)] : List Str)] ++ [lineW ([("boxes" : Str), ("a" : Str)] : List Str)] ++ [lineW ([("up" : Str), box, box] : List Str), lineW ([("put" : Str), box] : List Str), lineW ([("set" : Str), box, ("x" : Str)] : List Str), lineW ([("set" : Str), box, ("1000000000" : Str)] : List Str)] ++ [lineW ([("same" : Str), box, box] : List Str), lineW ([("is" : Str), box, ("0" : Str)] : List Str), lineW ([("within" : Str), (numS (r + 1)), box, ("0" : Str)] : List Str)] : List Str).map .str))) := by rw [← hσ]; exact List.getElem?_set_self (by omega)
      replace e0 : σ[0]? = some (some (.d .pot)) := by rw [← hσ]; simpa [List.getElem?_set] using e0
      replace e2 : σ[2]? = some (some (.d (.str (numS (rws.length + 1))))) := by rw [← hσ]; simpa [List.getElem?_set] using e2
      replace e3 : σ[3]? = some (some (.d (.str (numS (r + 1))))) := by rw [← hσ]; simpa [List.getElem?_set] using e3
      replace e5 : σ[5]? = some (some (.d (.str box))) := by rw [← hσ]; simpa [List.getElem?_set] using e5
      replace l6 : σ.length = 6 := by rw [← hσ]; simp [l6]
      clear hσ
      clear ρ
      rename Rho => ρ
      refine st_ext f4 (es_cons (eb_as (eb_add (eb_c 7 (by decide +kernel)) (eb_v e5 lb) (by decide)) (sq29 (box := box) (many := numS (rws.length + 1)) (room := numS (r + 1)))) (es_cons (eb_as (eb_add (eb_add (eb_add (eb_add (eb_c 5 (by decide +kernel)) (eb_v e3 lr) (by decide)) (eb_c 1 (by decide +kernel)) (by decide)) (eb_v e5 lb) (by decide)) (eb_c 2 (by decide +kernel)) (by decide)) (sq30 (box := box) (many := numS (rws.length + 1)) (room := numS (r + 1)))) (es_cons (eb_as (eb_add (eb_add (eb_c 7 (by decide +kernel)) (eb_v e5 lb) (by decide)) (eb_c 2 (by decide +kernel)) (by decide)) (sq31 (box := box) (many := numS (rws.length + 1)) (room := numS (r + 1)))) es_nil))) (by show 3 ≤ 100; decide) (by show 29 ≤ 100; decide) ?_
      generalize hσ : List.set ρ 4 _ = σ
      replace f4 : σ[4]? = some (some (.own a (([lineW ([("" : Str)] : List Str), lineW ([("take" : Str), ("1" : Str), ("a" : Str)] : List Str), lineW ([("either" : Str), ("0" : Str)] : List Str), lineW ([("Let" : Str)] : List Str), lineW ([("let" : Str), ("" : Str)] : List Str), lineW ([("" : Str), ("let" : Str)] : List Str), lineW ([("let" : Str), ("let" : Str)] : List Str), lineW ([("go" : Str)] : List Str), lineW ([("go" : Str), ("-1" : Str)] : List Str), lineW ([("go" : Str), ("01" : Str)] : List Str), lineW ([("go" : Str), (numS (rws.length + 1))] : List Str)] ++ [lineW ([("back" : Str), ("0" : Str)] : List Str), lineW ([("call" : Str)] : List Str), lineW ([("call" : Str), ("x" : Str)] : List Str), lineW ([("call" : Str), (numS (rws.length + 1))] : List Str), lineW ([("call" : Str), ("0" : Str), ("Q" : Str)] : List Str), lineW ([("up" : Str)] : List Str), lineW ([("up" : Str), ("Q" : Str)] : List Str), lineW ([("put" : Str)] : List Str), lineW ([("refuse" : Str), ("0" : Str)] : List Str), lineW ([("room" : Str), ("1" : Str)] : List Str)] ++ [lineW ([("boxes" : Str), ("a" : Str)] : List Str)] ++ [lineW ([("up" : Str), box, box] : List Str), lineW ([("put" : Str), box] : List Str), lineW ([("set" : Str), box, ("x" : Str)] : List Str), lineW ([("set" : Str), box, ("1000000000" : Str)] : List Str)] ++ [lineW ([("same" : Str), box, box] : List Str), lineW ([("is" : Str), box, ("0" : Str)] : List Str), lineW ([("within" : Str), (numS (r + 1)), box, ("0" : Str)] : List Str)] ++ [lineW ([("take" : Str), ("1" : Str), box] : List Str), lineW ([("edge" : Str), (numS (r + 1)), box, ("0" : Str)] : List Str), lineW ([("mark" : Str), ("A" : Str), box, ("0" : Str)] : List Str)] : List Str).map .str))) := by rw [← hσ]; exact List.getElem?_set_self (by omega)
      replace e0 : σ[0]? = some (some (.d .pot)) := by rw [← hσ]; simpa [List.getElem?_set] using e0
      replace e2 : σ[2]? = some (some (.d (.str (numS (rws.length + 1))))) := by rw [← hσ]; simpa [List.getElem?_set] using e2
      replace e3 : σ[3]? = some (some (.d (.str (numS (r + 1))))) := by rw [← hσ]; simpa [List.getElem?_set] using e3
      replace e5 : σ[5]? = some (some (.d (.str box))) := by rw [← hσ]; simpa [List.getElem?_set] using e5
      replace l6 : σ.length = 6 := by rw [← hσ]; simp [l6]
      clear hσ
      clear ρ
      rename Rho => ρ
      refine st_ext f4 (es_cons (eb_as (eb_add (eb_add (eb_c 8 (by decide +kernel)) (eb_v e5 lb) (by decide)) (eb_c 2 (by decide +kernel)) (by decide)) (sq32 (box := box) (many := numS (rws.length + 1)) (room := numS (r + 1)))) (es_cons (eb_as (eb_add (eb_c 8 (by decide +kernel)) (eb_v e5 lb) (by decide)) (sq33 (box := box) (many := numS (rws.length + 1)) (room := numS (r + 1)))) (es_cons (eb_as (eb_add (eb_add (eb_add (eb_add (eb_add (eb_c 5 (by decide +kernel)) (eb_v e5 lb) (by decide)) (eb_c 1 (by decide +kernel)) (by decide)) (eb_v e5 lb) (by decide)) (eb_c 1 (by decide +kernel)) (by decide)) (eb_v e2 lm) (by decide)) (sq34 (box := box) (many := numS (rws.length + 1)) (room := numS (r + 1)))) es_nil))) (by show 3 ≤ 100; decide) (by show 32 ≤ 100; decide) ?_
      generalize hσ : List.set ρ 4 _ = σ
      replace f4 : σ[4]? = some (some (.own a (([lineW ([("" : Str)] : List Str), lineW ([("take" : Str), ("1" : Str), ("a" : Str)] : List Str), lineW ([("either" : Str), ("0" : Str)] : List Str), lineW ([("Let" : Str)] : List Str), lineW ([("let" : Str), ("" : Str)] : List Str), lineW ([("" : Str), ("let" : Str)] : List Str), lineW ([("let" : Str), ("let" : Str)] : List Str), lineW ([("go" : Str)] : List Str), lineW ([("go" : Str), ("-1" : Str)] : List Str), lineW ([("go" : Str), ("01" : Str)] : List Str), lineW ([("go" : Str), (numS (rws.length + 1))] : List Str)] ++ [lineW ([("back" : Str), ("0" : Str)] : List Str), lineW ([("call" : Str)] : List Str), lineW ([("call" : Str), ("x" : Str)] : List Str), lineW ([("call" : Str), (numS (rws.length + 1))] : List Str), lineW ([("call" : Str), ("0" : Str), ("Q" : Str)] : List Str), lineW ([("up" : Str)] : List Str), lineW ([("up" : Str), ("Q" : Str)] : List Str), lineW ([("put" : Str)] : List Str), lineW ([("refuse" : Str), ("0" : Str)] : List Str), lineW ([("room" : Str), ("1" : Str)] : List Str)] ++ [lineW ([("boxes" : Str), ("a" : Str)] : List Str)] ++ [lineW ([("up" : Str), box, box] : List Str), lineW ([("put" : Str), box] : List Str), lineW ([("set" : Str), box, ("x" : Str)] : List Str), lineW ([("set" : Str), box, ("1000000000" : Str)] : List Str)] ++ [lineW ([("same" : Str), box, box] : List Str), lineW ([("is" : Str), box, ("0" : Str)] : List Str), lineW ([("within" : Str), (numS (r + 1)), box, ("0" : Str)] : List Str)] ++ [lineW ([("take" : Str), ("1" : Str), box] : List Str), lineW ([("edge" : Str), (numS (r + 1)), box, ("0" : Str)] : List Str), lineW ([("mark" : Str), ("A" : Str), box, ("0" : Str)] : List Str)] ++ [lineW ([("arrow" : Str), ("a" : Str), box, ("0" : Str)] : List Str), lineW ([("call" : Str), ("0" : Str), ("" : Str), box] : List Str), lineW ([("less" : Str), box, box, (numS (rws.length + 1))] : List Str)] : List Str).map .str))) := by rw [← hσ]; exact List.getElem?_set_self (by omega)
      replace e0 : σ[0]? = some (some (.d .pot)) := by rw [← hσ]; simpa [List.getElem?_set] using e0
      replace e2 : σ[2]? = some (some (.d (.str (numS (rws.length + 1))))) := by rw [← hσ]; simpa [List.getElem?_set] using e2
      replace e3 : σ[3]? = some (some (.d (.str (numS (r + 1))))) := by rw [← hσ]; simpa [List.getElem?_set] using e3
      replace e5 : σ[5]? = some (some (.d (.str box))) := by rw [← hσ]; simpa [List.getElem?_set] using e5
      replace l6 : σ.length = 6 := by rw [← hσ]; simp [l6]
      clear hσ
      clear ρ
      rename Rho => ρ
      refine st_last f4 (es_cons (eb_as (eb_add (eb_add (eb_c 15 (by decide +kernel)) (eb_v e5 lb) (by decide)) (eb_c 2 (by decide +kernel)) (by decide)) (sq35 (box := box) (many := numS (rws.length + 1)) (room := numS (r + 1)))) (es_cons (eb_as (eb_add (eb_add (eb_c 7 (by decide +kernel)) (eb_v e5 lb) (by decide)) (eb_c 6 (by decide +kernel)) (by decide)) (sq36 (box := box) (many := numS (rws.length + 1)) (room := numS (r + 1)))) es_nil)) (by show 2 ≤ 100; decide) (by show 35 ≤ 100; decide) ?_
      generalize hσ : List.set ρ 4 _ = σ
      replace f4 : σ[4]? = some (some (.own a (([lineW ([("" : Str)] : List Str), lineW ([("take" : Str), ("1" : Str), ("a" : Str)] : List Str), lineW ([("either" : Str), ("0" : Str)] : List Str), lineW ([("Let" : Str)] : List Str), lineW ([("let" : Str), ("" : Str)] : List Str), lineW ([("" : Str), ("let" : Str)] : List Str), lineW ([("let" : Str), ("let" : Str)] : List Str), lineW ([("go" : Str)] : List Str), lineW ([("go" : Str), ("-1" : Str)] : List Str), lineW ([("go" : Str), ("01" : Str)] : List Str), lineW ([("go" : Str), (numS (rws.length + 1))] : List Str)] ++ [lineW ([("back" : Str), ("0" : Str)] : List Str), lineW ([("call" : Str)] : List Str), lineW ([("call" : Str), ("x" : Str)] : List Str), lineW ([("call" : Str), (numS (rws.length + 1))] : List Str), lineW ([("call" : Str), ("0" : Str), ("Q" : Str)] : List Str), lineW ([("up" : Str)] : List Str), lineW ([("up" : Str), ("Q" : Str)] : List Str), lineW ([("put" : Str)] : List Str), lineW ([("refuse" : Str), ("0" : Str)] : List Str), lineW ([("room" : Str), ("1" : Str)] : List Str)] ++ [lineW ([("boxes" : Str), ("a" : Str)] : List Str)] ++ [lineW ([("up" : Str), box, box] : List Str), lineW ([("put" : Str), box] : List Str), lineW ([("set" : Str), box, ("x" : Str)] : List Str), lineW ([("set" : Str), box, ("1000000000" : Str)] : List Str)] ++ [lineW ([("same" : Str), box, box] : List Str), lineW ([("is" : Str), box, ("0" : Str)] : List Str), lineW ([("within" : Str), (numS (r + 1)), box, ("0" : Str)] : List Str)] ++ [lineW ([("take" : Str), ("1" : Str), box] : List Str), lineW ([("edge" : Str), (numS (r + 1)), box, ("0" : Str)] : List Str), lineW ([("mark" : Str), ("A" : Str), box, ("0" : Str)] : List Str)] ++ [lineW ([("arrow" : Str), ("a" : Str), box, ("0" : Str)] : List Str), lineW ([("call" : Str), ("0" : Str), ("" : Str), box] : List Str), lineW ([("less" : Str), box, box, (numS (rws.length + 1))] : List Str)] ++ [lineW ([("mark" : Str), ("abcdefghi" : Str), box, ("0" : Str)] : List Str), lineW ([("call" : Str), ("0" : Str), box, ("nobox" : Str)] : List Str)] : List Str).map .str))) := by rw [← hσ]; exact List.getElem?_set_self (by omega)
      replace e0 : σ[0]? = some (some (.d .pot)) := by rw [← hσ]; simpa [List.getElem?_set] using e0
      replace e2 : σ[2]? = some (some (.d (.str (numS (rws.length + 1))))) := by rw [← hσ]; simpa [List.getElem?_set] using e2
      replace e3 : σ[3]? = some (some (.d (.str (numS (r + 1))))) := by rw [← hσ]; simpa [List.getElem?_set] using e3
      replace e5 : σ[5]? = some (some (.d (.str box))) := by rw [← hσ]; simpa [List.getElem?_set] using e5
      replace l6 : σ.length = 6 := by rw [← hσ]; simp [l6]
      clear hσ
      clear ρ
      rename Rho => ρ
      refine fin ([lineW ([("" : Str)] : List Str), lineW ([("take" : Str), ("1" : Str), ("a" : Str)] : List Str), lineW ([("either" : Str), ("0" : Str)] : List Str), lineW ([("Let" : Str)] : List Str), lineW ([("let" : Str), ("" : Str)] : List Str), lineW ([("" : Str), ("let" : Str)] : List Str), lineW ([("let" : Str), ("let" : Str)] : List Str), lineW ([("go" : Str)] : List Str), lineW ([("go" : Str), ("-1" : Str)] : List Str), lineW ([("go" : Str), ("01" : Str)] : List Str), lineW ([("go" : Str), (numS (rws.length + 1))] : List Str)] ++ [lineW ([("back" : Str), ("0" : Str)] : List Str), lineW ([("call" : Str)] : List Str), lineW ([("call" : Str), ("x" : Str)] : List Str), lineW ([("call" : Str), (numS (rws.length + 1))] : List Str), lineW ([("call" : Str), ("0" : Str), ("Q" : Str)] : List Str), lineW ([("up" : Str)] : List Str), lineW ([("up" : Str), ("Q" : Str)] : List Str), lineW ([("put" : Str)] : List Str), lineW ([("refuse" : Str), ("0" : Str)] : List Str), lineW ([("room" : Str), ("1" : Str)] : List Str)] ++ [lineW ([("boxes" : Str), ("a" : Str)] : List Str)] ++ [lineW ([("up" : Str), box, box] : List Str), lineW ([("put" : Str), box] : List Str), lineW ([("set" : Str), box, ("x" : Str)] : List Str), lineW ([("set" : Str), box, ("1000000000" : Str)] : List Str)] ++ [lineW ([("same" : Str), box, box] : List Str), lineW ([("is" : Str), box, ("0" : Str)] : List Str), lineW ([("within" : Str), (numS (r + 1)), box, ("0" : Str)] : List Str)] ++ [lineW ([("take" : Str), ("1" : Str), box] : List Str), lineW ([("edge" : Str), (numS (r + 1)), box, ("0" : Str)] : List Str), lineW ([("mark" : Str), ("A" : Str), box, ("0" : Str)] : List Str)] ++ [lineW ([("arrow" : Str), ("a" : Str), box, ("0" : Str)] : List Str), lineW ([("call" : Str), ("0" : Str), ("" : Str), box] : List Str), lineW ([("less" : Str), box, box, (numS (rws.length + 1))] : List Str)] ++ [lineW ([("mark" : Str), ("abcdefghi" : Str), box, ("0" : Str)] : List Str), lineW ([("call" : Str), ("0" : Str), box, ("nobox" : Str)] : List Str)]) _ ρ a (fun z hz => ?_) (by simp) (by show 37 ≤ 100; decide) (Nat.le_refl _) e0 f4
      simp only [List.cons_append, List.nil_append, List.mem_cons, List.not_mem_nil, or_false] at hz
      rcases hz with rfl | rfl | rfl | rfl | rfl | rfl | rfl | rfl | rfl | rfl | rfl | rfl | rfl | rfl | rfl | rfl | rfl | rfl | rfl | rfl | rfl | rfl | rfl | rfl | rfl | rfl | rfl | rfl | rfl | rfl | rfl | rfl | rfl | rfl | rfl | rfl | rfl
      · exact ⟨_, rfl, bad0 R⟩
      · exact ⟨_, rfl, bad1 R⟩
      · exact ⟨_, rfl, bad2 R⟩
      · exact ⟨_, rfl, bad3 R⟩
      · exact ⟨_, rfl, bad4 R⟩
      · exact ⟨_, rfl, bad5 R⟩
      · exact ⟨_, rfl, bad6 R⟩
      · exact ⟨_, rfl, bad7 R⟩
      · exact ⟨_, rfl, bad8 R⟩
      · exact ⟨_, rfl, bad9 R⟩
      · exact ⟨_, rfl, bad10 R⟩
      · exact ⟨_, rfl, bad11 R⟩
      · exact ⟨_, rfl, bad12 R⟩
      · exact ⟨_, rfl, bad13 R⟩
      · exact ⟨_, rfl, bad14 R⟩
      · exact ⟨_, rfl, bad15 R⟩
      · exact ⟨_, rfl, bad16 R⟩
      · exact ⟨_, rfl, bad17 R⟩
      · exact ⟨_, rfl, bad18 R⟩
      · exact ⟨_, rfl, bad19 R⟩
      · exact ⟨_, rfl, bad20 R⟩
      · exact ⟨_, rfl, bad21 R⟩
      · exact ⟨_, rfl, bad22 R hb⟩
      · exact ⟨_, rfl, bad23 R hb⟩
      · exact ⟨_, rfl, bad24 R hb⟩
      · exact ⟨_, rfl, bad25 R hb⟩
      · exact ⟨_, rfl, bad26 R hb⟩
      · exact ⟨_, rfl, bad27 R hb⟩
      · exact ⟨_, rfl, bad28 R hb⟩
      · exact ⟨_, rfl, bad29 R hb⟩
      · exact ⟨_, rfl, bad30 R hb⟩
      · exact ⟨_, rfl, bad31 R hb⟩
      · exact ⟨_, rfl, bad32 R hb⟩
      · exact ⟨_, rfl, bad33 R hb⟩
      · exact ⟨_, rfl, bad34 R hb⟩
      · exact ⟨_, rfl, bad35 R hb⟩
      · exact ⟨_, rfl, bad36 R hb⟩)) fun _ _ _ _ _ _ us hl => match us, hl with | [_, _], _ => rfl
end L77
end
section
set_option Elab.async false
set_option linter.all false
set_option maxRecDepth 100000
set_option autoImplicit false
set_option maxHeartbeats 1000000
namespace L77
open PySem L2 Vb Vd
theorem PartOk.mono {c : Nat} {boxes : List Str} {room last last' : Nat} {d : D} (h : PartOk c boxes room last d) (hl : last ≤ last') : PartOk c boxes room last' d := by
  rcases h with h | ⟨n, rfl, h | h | h⟩
  · exact .inl h
  · exact .inr ⟨n, rfl, .inl h⟩
  · exact .inr ⟨n, rfl, .inr (.inl h)⟩
  · exact .inr ⟨n, rfl, .inr (.inr ⟨h.1, by omega⟩)⟩
theorem AllParts.mono {boxes : List Str} {room last last' : Nat} (hl : last ≤ last') : ∀ {cs : List Nat} {ps : List D}, AllParts boxes room last cs ps → AllParts boxes room last' cs ps
  | [], [], _ => trivial
  | _ :: _, _ :: _, h => ⟨h.1.mono hl, AllParts.mono hl h.2⟩
  | [], _ :: _, h => h.elim
  | _ :: _, [], h => h.elim
theorem PRow.mono {boxes : List Str} {room last last' : Nat} {row : List D} (h : PRow boxes room last row) (hl : last ≤ last') : PRow boxes room last' row := by
  obtain ⟨z, L, ps, e, h1, h2, h3, h4⟩ := h
  exact ⟨z, L, ps, e, h1, h2, h3, h4.mono hl⟩
theorem rows_bad {names : List Str} {room last : Nat} (h1 : room ≤ 20) (h2 : last < 40000) {ws : List Str} {B : List (List Str)} (hb : RowR pileD names room last ws .non) : ∀ (A : List (List D)) (k : Nat), (∀ r ∈ A, PRow names room last r) → RowsR pileD names room last ((A.map fun row => row.map txt) ++ ws :: B) k (.inr (k + A.length + 3))
  | [], k, _ => .bad hb
  | a :: A, k, h => by
    have := rows_bad (B := B) h1 h2 hb A (k + 1) fun r hr => h r (List.mem_cons_of_mem _ hr)
    rw [List.length_cons, show k + (A.length + 1) + 3 = k + 1 + A.length + 3 by omega]
    exact .late ((h a List.mem_cons_self).tells h1 h2) this
theorem rows_ok {names : List Str} {room last : Nat} (h1 : room ≤ 20) (h2 : last < 40000) : ∀ (A : List (List D)) (k : Nat), (∀ r ∈ A, PRow names room last r) → RowsR pileD names room last (A.map fun row => row.map txt) k (.inl (A.map .tup))
  | [], k, _ => .nil
  | a :: A, k, h => .cons ((h a List.mem_cons_self).tells h1 h2) (rows_ok h1 h2 A (k + 1) fun r hr => h r (List.mem_cons_of_mem _ hr))
theorem POk.room {names : List Str} {r : Nat} {rws : List (List D)} (h : POk names r rws) : RoomR ["room", numS r] (.int (r : Int)) := by
  have := h.r1
  have := h.r20
  exact .inr ⟨_, _, rfl, .num (n := r) rfl (by omega), by rw [if_pos ⟨by omega, by omega⟩]⟩
theorem POk.boxes {names : List Str} {r : Nat} {rws : List (List D)} (h : POk names r rws) : BoxesR ("boxes" :: names) (.tup (names.map .str)) := .ok (List.all_eq_true.mpr fun z hz => isName_of (h.nm z hz)) h.nd
theorem POk.reads {names : List Str} {r : Nat} {rws : List (List D)} (h : POk names r rws) : ReadsR pileD (linesP names r rws) (.inl (r, names, rws.map .tup)) := by
  have h20 := h.r20
  have h80 := h.r99
  have hr := h.rows
  unfold linesP
  cases rws with
  | nil => exact absurd rfl h.ne
  | cons a A =>
    refine .ok h.room h.boxes ?_
    rw [List.length_map]
    exact rows_ok (by omega) (by simp at h80; omega) (a :: A) 0 hr
/-- lines that are no pile reader, and the number of the first one that cannot stand -/
structure Spoilt (lines : List (List Str)) (n : Nat) : Prop where
  few : lines.length ≤ 100
  wk : ∀ ws ∈ lines, WsOk ws
  tells : ReadsR pileD lines (.inr n)
  low : n < 1000
/-- a bad row among the rows -/
theorem spoilt_row {names : List Str} {r : Nat} {rws : List (List D)} (h : POk names r rws) {ws : List Str} {A : List (List D)} {B : List (List Str)} (hb : BadRow names r rws.length ws) (hA : ∀ x ∈ A, x ∈ rws) (hB : ∀ w ∈ B, WsOk w) (hl : A.length + B.length ≤ rws.length) (hl2 : rws.length ≤ A.length + B.length + 1) :
    Spoilt (["room", numS r] :: ("boxes" :: names) :: ((A.map fun row => row.map txt) ++ ws :: B)) (A.length + 3) := by
  have h20 := h.r20
  have h80 := h.r99
  have hg := h.lines
  have w0 : WsOk ["room", numS r] := hg _ (by unfold linesP; simp)
  have w1 : WsOk ("boxes" :: names) := hg _ (by unfold linesP; simp)
  have wA : ∀ x ∈ A, WsOk (x.map txt) := fun x hx => hg _ (by unfold linesP; exact List.mem_cons_of_mem _ (List.mem_cons_of_mem _ (List.mem_map.mpr ⟨x, hA x hx, rfl⟩)))
  refine ⟨by simp; omega, fun w hw => ?_, ?_, by omega⟩
  · rcases List.mem_cons.mp hw with rfl | hw
    · exact w0
    · rcases List.mem_cons.mp hw with rfl | hw
      · exact w1
      · rcases List.mem_append.mp hw with hw | hw
        · obtain ⟨x, hx, rfl⟩ := List.mem_map.mp hw
          exact wA x hx
        · rcases List.mem_cons.mp hw with rfl | hw
          · exact hb.wk
          · exact hB w hw
  · have rows := rows_bad (names := names) (room := r) (last := A.length + B.length) (B := B) (by omega) (by omega) (hb.no _ (by omega)) A 0 fun x hx => (h.rows x (hA x hx)).mono (by omega)
    rw [Nat.zero_add] at rows
    cases hs : (A.map fun row => row.map txt) ++ ws :: B with
    | nil => simp at hs
    | cons l2 ls =>
      rw [hs] at rows
      have hls : ls.length = A.length + B.length := by
        have := congrArg List.length hs
        simp at this
        omega
      exact .bad h.room h.boxes (by rw [hls]; exact rows)
theorem rest_ws {names : List Str} {r : Nat} {rws : List (List D)} (h : POk names r rws) : ∀ w ∈ (rws.map fun row => row.map txt), WsOk w := fun w hw => h.lines w (by unfold linesP; exact List.mem_cons_of_mem _ (List.mem_cons_of_mem _ hw))
theorem rs0 : ("room" : Str) = lineW ([("room" : Str)] : List Str) := by decide +kernel
theorem rb0 : WsOk ([("room" : Str)] : List Str) ∧ RoomR ([("room" : Str)] : List Str) .non := ⟨⟨by simp, by decide, (tk_cons (show Tok ("room" : Str) by unfold Tok; decide +kernel) tk_nil)⟩, .inl ⟨fun w h => by simp at h, rfl⟩⟩
theorem rs1 : ("room 0" : Str) = lineW ([("room" : Str), ("0" : Str)] : List Str) := by decide +kernel
theorem rb1 : WsOk ([("room" : Str), ("0" : Str)] : List Str) ∧ RoomR ([("room" : Str), ("0" : Str)] : List Str) .non := ⟨⟨by simp, by decide, (tk_cons (show Tok ("room" : Str) by unfold Tok; decide +kernel) (tk_cons (show Tok ("0" : Str) by unfold Tok; decide +kernel) tk_nil))⟩, .inr ⟨("0" : Str), (0 : Int), rfl, .num (n := 0) zero_num (by decide), (if_neg (by decide)).symm⟩⟩
theorem rs2 : ("room 21" : Str) = lineW ([("room" : Str), ("21" : Str)] : List Str) := by decide +kernel
theorem rb2 : WsOk ([("room" : Str), ("21" : Str)] : List Str) ∧ RoomR ([("room" : Str), ("21" : Str)] : List Str) .non := ⟨⟨by simp, by decide, (tk_cons (show Tok ("room" : Str) by unfold Tok; decide +kernel) (tk_cons (show Tok ("21" : Str) by unfold Tok; decide +kernel) tk_nil))⟩, .inr ⟨("21" : Str), (21 : Int), rfl, .num (n := 21) (by decide +kernel) (by decide), (if_neg (by decide)).symm⟩⟩
theorem rs3 : ("room x" : Str) = lineW ([("room" : Str), ("x" : Str)] : List Str) := by decide +kernel
theorem rb3 : WsOk ([("room" : Str), ("x" : Str)] : List Str) ∧ RoomR ([("room" : Str), ("x" : Str)] : List Str) .non := ⟨⟨by simp, by decide, (tk_cons (show Tok ("room" : Str) by unfold Tok; decide +kernel) (tk_cons (show Tok ("x" : Str) by unfold Tok; decide +kernel) tk_nil))⟩, .inr ⟨("x" : Str), (-1 : Int), rfl, .not (by decide +kernel), (if_neg (by decide)).symm⟩⟩
theorem rs4 : ("Room 1" : Str) = lineW ([("Room" : Str), ("1" : Str)] : List Str) := by decide +kernel
theorem rb4 : WsOk ([("Room" : Str), ("1" : Str)] : List Str) ∧ RoomR ([("Room" : Str), ("1" : Str)] : List Str) .non := ⟨⟨by simp, by decide, (tk_cons (show Tok ("Room" : Str) by unfold Tok; decide +kernel) (tk_cons (show Tok ("1" : Str) by unfold Tok; decide +kernel) tk_nil))⟩, .inl ⟨fun w h => by injection h with h _; revert h; decide +kernel, rfl⟩⟩
theorem rs5 : ("room 1 1" : Str) = lineW ([("room" : Str), ("1" : Str), ("1" : Str)] : List Str) := by decide +kernel
theorem rb5 : WsOk ([("room" : Str), ("1" : Str), ("1" : Str)] : List Str) ∧ RoomR ([("room" : Str), ("1" : Str), ("1" : Str)] : List Str) .non := ⟨⟨by simp, by decide, (tk_cons (show Tok ("room" : Str) by unfold Tok; decide +kernel) (tk_cons (show Tok ("1" : Str) by unfold Tok; decide +kernel) (tk_cons (show Tok ("1" : Str) by unfold Tok; decide +kernel) tk_nil)))⟩, .inl ⟨fun w h => by simp at h, rfl⟩⟩
theorem rs6 : ("" : Str) = lineW ([("" : Str)] : List Str) := by decide +kernel
theorem rb6 : WsOk ([("" : Str)] : List Str) ∧ RoomR ([("" : Str)] : List Str) .non := ⟨⟨by simp, by decide, (tk_cons (show Tok ("" : Str) by unfold Tok; decide +kernel) tk_nil)⟩, .inl ⟨fun w h => by simp at h, rfl⟩⟩
theorem rs7 : ("room 01" : Str) = lineW ([("room" : Str), ("01" : Str)] : List Str) := by decide +kernel
theorem rb7 : WsOk ([("room" : Str), ("01" : Str)] : List Str) ∧ RoomR ([("room" : Str), ("01" : Str)] : List Str) .non := ⟨⟨by simp, by decide, (tk_cons (show Tok ("room" : Str) by unfold Tok; decide +kernel) (tk_cons (show Tok ("01" : Str) by unfold Tok; decide +kernel) tk_nil))⟩, .inr ⟨("01" : Str), (-1 : Int), rfl, .odd (n := 1) (by decide +kernel) (by decide +kernel) (by decide +kernel) (by decide +kernel) (by decide) (by decide +kernel), (if_neg (by decide)).symm⟩⟩
theorem rs8 : ("boxes" : Str) = lineW ([("boxes" : Str)] : List Str) := by decide +kernel
theorem rb8 : WsOk ([("boxes" : Str)] : List Str) ∧ RoomR ([("boxes" : Str)] : List Str) .non := ⟨⟨by simp, by decide, (tk_cons (show Tok ("boxes" : Str) by unfold Tok; decide +kernel) tk_nil)⟩, .inl ⟨fun w h => by simp at h, rfl⟩⟩
theorem bs0 : ("boxes A" : Str) = lineW ([("boxes" : Str), ("A" : Str)] : List Str) := by decide +kernel
theorem bb0 : WsOk ([("boxes" : Str), ("A" : Str)] : List Str) ∧ BoxesR ([("boxes" : Str), ("A" : Str)] : List Str) .non := ⟨⟨by simp, by decide, (tk_cons (show Tok ("boxes" : Str) by unfold Tok; decide +kernel) (tk_cons (show Tok ("A" : Str) by unfold Tok; decide +kernel) tk_nil))⟩, .noname (names := [("A" : Str)]) (by decide +kernel)⟩
theorem bs1 : ("boxes a a" : Str) = lineW ([("boxes" : Str), ("a" : Str), ("a" : Str)] : List Str) := by decide +kernel
theorem bb1 : WsOk ([("boxes" : Str), ("a" : Str), ("a" : Str)] : List Str) ∧ BoxesR ([("boxes" : Str), ("a" : Str), ("a" : Str)] : List Str) .non := ⟨⟨by simp, by decide, (tk_cons (show Tok ("boxes" : Str) by unfold Tok; decide +kernel) (tk_cons (show Tok ("a" : Str) by unfold Tok; decide +kernel) (tk_cons (show Tok ("a" : Str) by unfold Tok; decide +kernel) tk_nil)))⟩, .dup (names := [("a" : Str), ("a" : Str)]) (by decide +kernel) (by decide +kernel)⟩
theorem bs2 : ("box a" : Str) = lineW ([("box" : Str), ("a" : Str)] : List Str) := by decide +kernel
theorem bb2 : WsOk ([("box" : Str), ("a" : Str)] : List Str) ∧ BoxesR ([("box" : Str), ("a" : Str)] : List Str) .non := ⟨⟨by simp, by decide, (tk_cons (show Tok ("box" : Str) by unfold Tok; decide +kernel) (tk_cons (show Tok ("a" : Str) by unfold Tok; decide +kernel) tk_nil))⟩, .nohead (by decide +kernel)⟩
theorem bs3 : ("boxes " : Str) = lineW ([("boxes" : Str), ("" : Str)] : List Str) := by decide +kernel
theorem bb3 : WsOk ([("boxes" : Str), ("" : Str)] : List Str) ∧ BoxesR ([("boxes" : Str), ("" : Str)] : List Str) .non := ⟨⟨by simp, by decide, (tk_cons (show Tok ("boxes" : Str) by unfold Tok; decide +kernel) (tk_cons (show Tok ("" : Str) by unfold Tok; decide +kernel) tk_nil))⟩, .noname (names := [("" : Str)]) (by decide +kernel)⟩
theorem bs4 : ("boxes a  b" : Str) = lineW ([("boxes" : Str), ("a" : Str), ("" : Str), ("b" : Str)] : List Str) := by decide +kernel
theorem bb4 : WsOk ([("boxes" : Str), ("a" : Str), ("" : Str), ("b" : Str)] : List Str) ∧ BoxesR ([("boxes" : Str), ("a" : Str), ("" : Str), ("b" : Str)] : List Str) .non := ⟨⟨by simp, by decide, (tk_cons (show Tok ("boxes" : Str) by unfold Tok; decide +kernel) (tk_cons (show Tok ("a" : Str) by unfold Tok; decide +kernel) (tk_cons (show Tok ("" : Str) by unfold Tok; decide +kernel) (tk_cons (show Tok ("b" : Str) by unfold Tok; decide +kernel) tk_nil))))⟩, .noname (names := [("a" : Str), ("" : Str), ("b" : Str)]) (by decide +kernel)⟩
theorem bs5 : ("" : Str) = lineW ([("" : Str)] : List Str) := by decide +kernel
theorem bb5 : WsOk ([("" : Str)] : List Str) ∧ BoxesR ([("" : Str)] : List Str) .non := ⟨⟨by simp, by decide, (tk_cons (show Tok ("" : Str) by unfold Tok; decide +kernel) tk_nil)⟩, .nohead (by decide +kernel)⟩
theorem bs6 : ("boxes abcdefghi" : Str) = lineW ([("boxes" : Str), ("abcdefghi" : Str)] : List Str) := by decide +kernel
theorem bb6 : WsOk ([("boxes" : Str), ("abcdefghi" : Str)] : List Str) ∧ BoxesR ([("boxes" : Str), ("abcdefghi" : Str)] : List Str) .non := ⟨⟨by simp, by decide, (tk_cons (show Tok ("boxes" : Str) by unfold Tok; decide +kernel) (tk_cons (show Tok ("abcdefghi" : Str) by unfold Tok; decide +kernel) tk_nil))⟩, .noname (names := [("abcdefghi" : Str)]) (by decide +kernel)⟩
theorem bs7 : ("let" : Str) = lineW ([("let" : Str)] : List Str) := by decide +kernel
theorem bb7 : WsOk ([("let" : Str)] : List Str) ∧ BoxesR ([("let" : Str)] : List Str) .non := ⟨⟨by simp, by decide, (tk_cons (show Tok ("let" : Str) by unfold Tok; decide +kernel) tk_nil)⟩, .nohead (by decide +kernel)⟩
def roomsBad : List Str := ["room", "room 0", "room 21", "room x", "Room 1", "room 1 1", "", "room 01", "boxes"]
def boxesBad : List Str := ["boxes A", "boxes a a", "box a", "boxes ", "boxes a  b", "", "boxes abcdefghi", "let"]
theorem rooms_bad : ∀ z ∈ roomsBad, ∃ ws, z = lineW ws ∧ WsOk ws ∧ RoomR ws .non := by
  intro z hz
  unfold roomsBad at hz
  simp only [List.mem_cons, List.not_mem_nil, or_false] at hz
  rcases hz with rfl | rfl | rfl | rfl | rfl | rfl | rfl | rfl | rfl
  · exact ⟨_, rs0, rb0⟩
  · exact ⟨_, rs1, rb1⟩
  · exact ⟨_, rs2, rb2⟩
  · exact ⟨_, rs3, rb3⟩
  · exact ⟨_, rs4, rb4⟩
  · exact ⟨_, rs5, rb5⟩
  · exact ⟨_, rs6, rb6⟩
  · exact ⟨_, rs7, rb7⟩
  · exact ⟨_, rs8, rb8⟩
theorem boxes_bad : ∀ z ∈ boxesBad, ∃ ws, z = lineW ws ∧ WsOk ws ∧ BoxesR ws .non := by
  intro z hz
  unfold boxesBad at hz
  simp only [List.mem_cons, List.not_mem_nil, or_false] at hz
  rcases hz with rfl | rfl | rfl | rfl | rfl | rfl | rfl | rfl
  · exact ⟨_, bs0, bb0⟩
  · exact ⟨_, bs1, bb1⟩
  · exact ⟨_, bs2, bb2⟩
  · exact ⟨_, bs3, bb3⟩
  · exact ⟨_, bs4, bb4⟩
  · exact ⟨_, bs5, bb5⟩
  · exact ⟨_, bs6, bb6⟩
  · exact ⟨_, bs7, bb7⟩
end L77
end
section
set_option Elab.async false
set_option linter.all false
set_option maxRecDepth 100000
set_option autoImplicit false
set_option maxHeartbeats 1000000
namespace L77
open PySem L2 Vb Vd
theorem scLawSpoilt : FnScope ["pot", "own", "rows", "way", "at", "bad"] ["pot", "own"] (defScope sLawSpoilt) := ⟨rfl, rfl, rfl, by decide +kernel, rfl, by decide +kernel, by decide +kernel⟩
def FLawSpoilt : FD := fun ds m Q => ∃ (r : Nat) (names : List Str) (rws : List (List D)), ds = [.pot, .dk (own3 (.int (r : Int)) (.lst (names.map .str)) (.lst (rws.map .tup)))] ∧ POk names r rws ∧ 10 ≤ m ∧ ∀ (lines : List (List Str)) (n k : Nat) m', Spoilt lines k → (n = k ∧ 0 < n) ∨ (n = 0 ∧ k = lines.length + 1) → m ≤ m' + 10 → Q (.tup [.lst (lines.map fun ws => .str (lineW ws)), .int (n : Int)]) m'
theorem mnLawSpoilt : MnF FLawSpoilt := fun ds m Q Q' w ⟨a, b, c, h1, h2, h3, q⟩ => ⟨a, b, c, h1, h2, h3, fun l n k m' g g' g'' => w _ _ (q l n k m' g g' g'')⟩
theorem calLawSpoilt {P : Program} {w : World} {K : PySem.W.Frag} {mg : Str → Option Value} {base : Heap} (D : Df K mg "_law_spoilt" sLawSpoilt) (T : Bi mg) (G : Gi mg) (cT : Cal P w K mg base 1 "_law_take" (spD K fTake)) (cO : Cal P w K mg base 2 "_law_of" (spD K fOf)) (cTx : Cal P w K mg base 1 "_law_reader_text" (spD K FLawReaderText)) (cB : Cal P w K mg base 3 "_law_bad_row" (spD K FLawBadRow)) : Cal P w K mg base 4 "_law_spoilt" (spD K FLawSpoilt) :=
  D.cal ["pot", "own"] (fun f fd Fu => Fun.okD Fu scLawSpoilt (fun ds m Q h => by obtain ⟨_, _, _, rfl, _⟩ := h; rfl) (fun cdv A outer s H E hr =>
  dss_cons (ds_par (i := 2) (j := 3) rfl scLawSpoilt.nd (da_cons (de_m PySem.F.plainAttrs_str PySem.F.slot_str_split PySem.F.type_str_split mt_split s_split (de_c mnLawReaderText cTx hr (by decide) rfl (da_cons (dv 1) da_nil)) (da_cons de_str da_nil)) (da_cons (de_c mn_take cT hr (by decide) rfl (da_cons (dv 0) (da_cons de_int da_nil))) da_nil)))
    (dss_cons (ds_set (i := 4) scLawSpoilt.nd rfl (by first | exact Or.inl rfl | exact Or.inr rfl) (de_op op_addA s_add de_int (de_c mn_take cT hr (by decide) rfl (da_cons (dv 0) (da_cons (de_op op_sub s_sub (de_callB call_len s_len (by rfl) T.len (by decide +kernel) (da_cons (dv 2) da_nil)) de_int) da_nil)))))
    (dss_cons (ds_if (dt_cmp op_eq s_eq (dv 3) de_int (nomark _))
      (dss_cons (ds_set (i := 5) scLawSpoilt.nd rfl (by first | exact Or.inl rfl | exact Or.inr rfl) (de_c mn_of cO hr (by decide) rfl (da_cons (dv 0) (da_cons (de_lst (da_cons de_str (da_cons de_str (da_cons de_str (da_cons de_str (da_cons de_str (da_cons de_str (da_cons de_str (da_cons de_str (da_cons de_str da_nil)))))))))) da_nil))))
    (dss_one (ds_ret (de_tup (da_cons (de_op op_addA s_add (de_lst (da_cons (dv 5) da_nil)) (de_slice sl_all s_sl (dv 2) (do_some de_int) do_none)) (da_cons de_int da_nil))))))
      (dss_nil))
    (dss_cons (ds_if (dt_cmp op_eq s_eq (dv 3) de_int (nomark _))
      (dss_cons (ds_set (i := 5) scLawSpoilt.nd rfl (by first | exact Or.inl rfl | exact Or.inr rfl) (de_c mn_of cO hr (by decide) rfl (da_cons (dv 0) (da_cons (de_lst (da_cons de_str (da_cons de_str (da_cons de_str (da_cons de_str (da_cons de_str (da_cons de_str (da_cons de_str (da_cons de_str da_nil))))))))) da_nil))))
    (dss_one (ds_ret (de_tup (da_cons (de_op op_addA s_add (de_op op_addA s_add (de_slice sl_all s_sl (dv 2) do_none (do_some de_int)) (de_lst (da_cons (dv 5) da_nil))) (de_slice sl_all s_sl (dv 2) (do_some de_int) do_none)) (da_cons de_int da_nil))))))
      (dss_nil))
    (dss_cons (ds_if (dt_cmp op_eq s_eq (dv 3) de_int (nomark _))
      (dss_one (ds_ret (de_tup (da_cons (de_slice sl_all s_sl (dv 2) do_none (do_some (de_op op_addA s_add de_int (de_c mn_take cT hr (by decide) rfl (da_cons (dv 0) (da_cons de_int da_nil)))))) (da_cons de_int da_nil)))))
      (dss_nil))
    (dss_cons (ds_if (dt_cmp op_eq s_eq (dv 3) de_int (nomark _))
      (dss_one (ds_ret (de_tup (da_cons (de_op op_addA s_add (de_op op_addA s_add (de_op op_addA s_add (de_slice sl_all s_sl (dv 2) do_none (do_some (dv 4))) (de_lst (da_cons (de_c mnLawBadRow cB hr (by decide) rfl (da_cons (dv 0) (da_cons (dv 1) da_nil))) da_nil))) (de_slice sl_all s_sl (dv 2) (do_some (de_op op_addA s_add (dv 4) de_int)) do_none)) (de_lst (da_cons de_str da_nil))) (da_cons (de_op op_addA s_add (dv 4) de_int) da_nil)))))
      (dss_nil))
    (dss_cons (ds_if (dt_cmp op_eq s_eq (dv 3) de_int (nomark _))
      (dss_one (ds_ret (de_tup (da_cons (de_op op_addA s_add (dv 2) (de_lst (da_cons (de_c mnLawBadRow cB hr (by decide) rfl (da_cons (dv 0) (da_cons (dv 1) da_nil))) da_nil))) (da_cons (de_op op_addA s_add (de_callB call_len s_len (by rfl) T.len (by decide +kernel) (da_cons (dv 2) da_nil)) de_int) da_nil)))))
      (dss_nil))
    (dss_one (ds_ret (de_tup (da_cons (de_op op_addA s_add (de_op op_addA s_add (de_slice sl_all s_sl (dv 2) do_none (do_some (dv 4))) (de_lst (da_cons (de_c mnLawBadRow cB hr (by decide) rfl (da_cons (dv 0) (da_cons (dv 1) da_nil))) da_nil))) (de_slice sl_all s_sl (dv 2) (do_some (de_op op_addA s_add (dv 4) de_int)) do_none)) (da_cons (de_op op_addA s_add (dv 4) de_int) da_nil)))))))))))) (fun ds m Q h => by
    obtain ⟨r, names, rws, rfl, R, hm, q⟩ := h
    have h80 := R.r99
    have hne : 1 ≤ rws.length := List.length_pos_iff.mpr R.ne
    have s1 := (text_split (lines := linesP names r rws) (by unfold linesP; simp) (by unfold linesP; simp; omega) R.lines).1
    have ll : ((linesP names r rws).map fun ws => Vd.D.str (lineW ws)).length = rws.length + 2 := by unfold linesP; simp
    have big : ∀ {xs ys : List Vd.D}, xs.length + ys.length ≤ 1000 → xs.length + ys.length ≤ sizeLine := fun h => Nat.le_trans h (by decide)
    have slt : ∀ {xs : List Vd.D} {n : Nat}, fSl (.lst xs) none (some (n : Int)) = some (.lst (xs.take n)) := fun {xs n} => congrArg (fun z => some (Vd.D.lst z)) (cutD_to xs n)
    have fin : ∀ {xs : List Vd.D} {i : Int} (lines : List (List Str)) (n k : Nat) (m' : Nat), Spoilt lines k → (n = k ∧ 0 < n) ∨ (n = 0 ∧ k = lines.length + 1) → m ≤ m' + 10 → xs = lines.map (fun ws => Vd.D.str (lineW ws)) → i = (n : Int) → Q (.tup [.lst xs, .int i]) m' := fun lines n k m' h1 h2 h3 e1 e2 => by
      subst e1 e2
      exact q lines n k m' h1 h2 h3
    refine ⟨_, rfl, r, names, rws, rfl, R, rfl, _, s1, _, rfl, take_step (by decide) (by decide) (by omega) fun way n1 iw e1 => ⟨_, _, rfl, ?_⟩⟩
    dsimp only
    have el : ((((linesP names r rws).map fun ws => Vd.D.str (lineW ws)).length : Nat) : Int) - 2 = ((rws.length : Nat) : Int) := by rw [ll]; omega
    refine ⟨_, rfl, _, rfl, _, fLen_lst, _, (congrArg (fun i => some (Vd.D.int i)) el : _), take_step (by omega) (by omega) (by omega) fun j n2 ij e2 => ?_⟩
    have ij : j < rws.length := by omega
    have ea : (2 : Int) + (j : Int) = ((2 + j : Nat) : Int) := by omega
    refine ⟨_, (congrArg (fun i => some (Vd.D.int i)) ea : fAdd (.int 2) (.int (j : Int)) = _), _, rfl, ?_⟩
    dsimp only
    have eb : ((2 + j : Nat) : Int) + 1 = ((2 + j + 1 : Nat) : Int) := by omega
    have fb : fAdd (.int ((2 + j : Nat) : Int)) (.int 1) = some (.int ((2 + j + 1 : Nat) : Int)) := congrArg (fun i => some (Vd.D.int i)) eb
    have g := R.lines
    have hr0 : WsOk (["room", numS r] : List Str) := g _ (by unfold linesP; simp)
    have hr1 : WsOk ("boxes" :: names : List Str) := g _ (by unfold linesP; simp)
    have hrr := rest_ws R
    refine seq_ret (decide ((way : Int) = 0)) (fun R hR => ⟨_, rfl, _, fEq_int, _, rfl, hR⟩) (fun c => ?_) fun _ => seq_ret (decide ((way : Int) = 1)) (fun R hR => ⟨_, rfl, _, fEq_int, _, rfl, hR⟩) (fun c => ?_) fun _ => seq_ret (decide ((way : Int) = 2)) (fun R hR => ⟨_, rfl, _, fEq_int, _, rfl, hR⟩) (fun c => ?_) fun _ => seq_ret (decide ((way : Int) = 3)) (fun R hR => ⟨_, rfl, _, fEq_int, _, rfl, hR⟩) (fun c => ?_) fun _ => seq_ret (decide ((way : Int) = 4)) (fun R hR => ⟨_, rfl, _, fEq_int, _, rfl, hR⟩) (fun c => ?_) fun _ => ?_
    · refine ⟨_, rfl, (by show 9 ≤ sizeLine; decide), of_step (xs := roomsBad.map .str) rfl (by decide) (by decide) (by omega) fun d hd n3 e3 => ?_⟩
      obtain ⟨z, hz, rfl⟩ := List.mem_map.mp hd
      obtain ⟨ws, rfl, wk, hw⟩ := rooms_bad z hz
      refine ⟨_, rfl, _, rfl, (by show 1 ≤ sizeLine; decide), _, rfl, 1, rfl, _, sll1, _, fAdd_lst (big (by rw [List.length_drop, ll]; show 1 + _ ≤ _; omega)), (by show 2 ≤ sizeLine; decide), ?_⟩
      refine fin (ws :: ("boxes" :: names) :: rws.map fun row => row.map txt) 1 1 n3 ⟨by simp; omega, fun w hw' => ?_, .room hw, by decide⟩ (.inl ⟨rfl, by decide⟩) (by omega) rfl rfl
      rcases List.mem_cons.mp hw' with rfl | hw'
      · exact wk
      · rcases List.mem_cons.mp hw' with rfl | hw'
        · exact hr1
        · exact hrr w hw'
    · refine ⟨_, rfl, (by show 8 ≤ sizeLine; decide), of_step (xs := boxesBad.map .str) rfl (by decide) (by decide) (by omega) fun d hd n3 e3 => ?_⟩
      obtain ⟨z, hz, rfl⟩ := List.mem_map.mp hd
      obtain ⟨ws, rfl, wk, hw⟩ := boxes_bad z hz
      refine ⟨_, rfl, _, rfl, 1, rfl, _, slt (n := 1), _, rfl, (by show 1 ≤ sizeLine; decide), _, fAdd_lst (big (by rw [List.length_take, ll]; show _ + 1 ≤ _; omega)), _, rfl, 2, rfl, _, sll2, _, fAdd_lst (big (by rw [List.length_append, List.length_take, List.length_drop, ll]; show _ + 1 + _ ≤ _; omega)), (by show 2 ≤ sizeLine; decide), ?_⟩
      refine fin (["room", numS r] :: ws :: rws.map fun row => row.map txt) 2 2 n3 ⟨by simp; omega, fun w hw' => ?_, .boxes R.room hw, by decide⟩ (.inl ⟨rfl, by decide⟩) (by omega) rfl rfl
      rcases List.mem_cons.mp hw' with rfl | hw'
      · exact hr0
      · rcases List.mem_cons.mp hw' with rfl | hw'
        · exact wk
        · exact hrr w hw'
    · refine ⟨_, rfl, _, rfl, take_step (by decide) (by decide) (by omega) fun k n3 ik e3 => ?_⟩
      have ek : (1 : Int) + (k : Int) = ((1 + k : Nat) : Int) := by omega
      refine ⟨_, (congrArg (fun i => some (Vd.D.int i)) ek : fAdd (.int 1) (.int (k : Int)) = _), _, rfl, _, slt (n := 1 + k), (by show 2 ≤ sizeLine; decide), ?_⟩
      have hk : k = 0 ∨ k = 1 := by omega
      rcases hk with rfl | rfl
      · exact fin [["room", numS r]] 0 2 n3 ⟨by simp, fun w hw' => by rw [List.mem_singleton.mp hw']; exact hr0, .short R.room, by decide⟩ (.inr ⟨rfl, rfl⟩) (by omega) rfl rfl
      · refine fin [["room", numS r], "boxes" :: names] 0 3 n3 ⟨by simp, fun w hw' => ?_, .norows R.room R.boxes, by decide⟩ (.inr ⟨rfl, rfl⟩) (by omega) rfl rfl
        rcases List.mem_cons.mp hw' with rfl | hw'
        · exact hr0
        · rw [List.mem_singleton.mp hw']
          exact hr1
    · refine ⟨_, rfl, _, rfl, _, rfl, _, slt (n := 2 + j), _, rfl, _, rfl, r, names, rws, rfl, R, by omega, fun ws n3 hb e3 => ?_⟩
      refine ⟨(by show 1 ≤ sizeLine; decide), _, fAdd_lst (big (by rw [List.length_take, ll]; show _ + 1 ≤ _; omega)), _, rfl, _, rfl, _, fb, _, rfl, _, sll (n := 2 + j + 1), _, fAdd_lst (big (by rw [List.length_append, List.length_take, List.length_drop, ll]; show _ + 1 + _ ≤ _; omega)), (by show 1 ≤ sizeLine; decide), _, fAdd_lst (big (by rw [List.length_append, List.length_append, List.length_take, List.length_drop, ll]; show _ + 1 + _ + 1 ≤ _; omega)), _, rfl, _, fb, (by show 2 ≤ sizeLine; decide), ?_⟩
      have lA : (rws.take j).length = j := by rw [List.length_take]; omega
      refine fin _ (j + 3) (j + 3) n3 (by
        have := spoilt_row R (A := rws.take j) (B := ((rws.drop (j + 1)).map fun row => row.map txt) ++ ([["x"]] : List (List Str))) hb (fun x hx => List.mem_of_mem_take hx) (fun w hw => ?_) (by rw [lA]; simp; omega) (by rw [lA]; simp; omega)
        · rw [lA] at this
          exact this
        · rcases List.mem_append.mp hw with hw | hw
          · obtain ⟨x, hx, rfl⟩ := List.mem_map.mp hw
            exact hrr _ (List.mem_map.mpr ⟨x, List.mem_of_mem_drop hx, rfl⟩)
          · rw [List.mem_singleton.mp hw]
            exact ⟨by simp, by decide, tk_cons (show Tok ("x" : Str) by unfold Tok; decide +kernel) tk_nil⟩) (.inl ⟨rfl, by omega⟩) (by omega) ?_ (by omega)
      have ex : lineW ["x"] = ("x" : Str) := by decide +kernel
      unfold linesP
      rw [show 2 + j + 1 = (j + 1) + 1 + 1 by omega, show 2 + j = j + 1 + 1 by omega]
      simp [List.map_append, List.map_take, List.map_drop, ex]
    · refine ⟨_, rfl, _, rfl, _, rfl, r, names, rws, rfl, R, by omega, fun ws n3 hb e3 => ?_⟩
      have en : ((((linesP names r rws).map fun ws => Vd.D.str (lineW ws)).length : Nat) : Int) + 1 = ((rws.length + 3 : Nat) : Int) := by rw [ll]; omega
      refine ⟨(by show 1 ≤ sizeLine; decide), _, fAdd_lst (big (by rw [ll]; show _ + 1 ≤ _; omega)), _, rfl, _, fLen_lst, _, (congrArg (fun i => some (Vd.D.int i)) en : _), (by show 2 ≤ sizeLine; decide), ?_⟩
      refine fin _ (rws.length + 3) (rws.length + 3) n3 (spoilt_row R (A := rws) (B := []) hb (fun x hx => hx) (fun w hw => nomatch hw) (by simp) (by simp)) (.inl ⟨rfl, by omega⟩) (by omega) ?_ rfl
      unfold linesP
      simp [List.map_append]
    · refine ⟨_, rfl, _, rfl, _, rfl, _, slt (n := 2 + j), _, rfl, _, rfl, r, names, rws, rfl, R, by omega, fun ws n3 hb e3 => ?_⟩
      refine ⟨(by show 1 ≤ sizeLine; decide), _, fAdd_lst (big (by rw [List.length_take, ll]; show _ + 1 ≤ _; omega)), _, rfl, _, rfl, _, fb, _, rfl, _, sll (n := 2 + j + 1), _, fAdd_lst (big (by rw [List.length_append, List.length_take, List.length_drop, ll]; show _ + 1 + _ ≤ _; omega)), _, rfl, _, fb, (by show 2 ≤ sizeLine; decide), ?_⟩
      have lA : (rws.take j).length = j := by rw [List.length_take]; omega
      refine fin _ (j + 3) (j + 3) n3 (by
        have := spoilt_row R (A := rws.take j) (B := (rws.drop (j + 1)).map fun row => row.map txt) hb (fun x hx => List.mem_of_mem_take hx) (fun w hw => ?_) (by rw [lA]; simp; omega) (by rw [lA]; simp; omega)
        · rw [lA] at this
          exact this
        · obtain ⟨x, hx, rfl⟩ := List.mem_map.mp hw
          exact hrr _ (List.mem_map.mpr ⟨x, List.mem_of_mem_drop hx, rfl⟩)) (.inl ⟨rfl, by omega⟩) (by omega) ?_ (by omega)
      unfold linesP
      rw [show 2 + j + 1 = (j + 1) + 1 + 1 by omega, show 2 + j = j + 1 + 1 by omega]
      simp [List.map_append, List.map_take, List.map_drop])) fun _ _ _ _ _ _ us hl => match us, hl with | [_, _], _ => rfl
end L77
end
section
set_option Elab.async false
set_option linter.all false
set_option maxRecDepth 100000
set_option autoImplicit false
set_option maxHeartbeats 1000000
namespace Vd
open PySem L2 PySem.Spec Vb
open PyProof.Rows hiding St
/-- {} -/
def dEmpty : TD := fun _ m Q => Q (.dk []) m
theorem de_empty {X : Cx} {pos : Pos} : DE X (.Dict [] [] pos) dEmpty := by
  refine ⟨pe_wk' pe_dnewK ?_, fun ρ m Q Q' w q => w _ _ q⟩
  rintro σ H Q ⟨pt, S0, H0, S, ρ, m, E, h⟩ p hp
  exact h _ _ (.of (Same.new hp)) (E.same (Same.new hp)) (.dk' (wo_new E.dom hp) .nil)
end Vd
namespace L77
open PySem L2 Vb Vd
theorem line_chars {ws : List Str} (h : ∀ w ∈ ws, ∀ c ∈ w.cps.toList, c ≤ 122) : ∀ c ∈ (lineW ws).cps.toList, c ≤ 122 := by
  intro c hc
  rcases mem_join hc with z | ⟨p, hp, z⟩
  · have z : c ∈ TL.tl (" " : Str) := z
    rw [blank_tl] at z
    simp at z
    omega
  · exact h p hp c z
theorem POk.chars {names : List Str} {r : Nat} {rws : List (List D)} (h : POk names r rws) : ∀ c ∈ (readerS names r rws).cps.toList, c < 1114112 := by
  have h20 := h.r20
  have h80 := h.r99
  intro c hc
  rcases mem_join hc with z | ⟨p, hp, z⟩
  · have z : c ∈ TL.tl ("\n" : Str) := z
    rw [nl_tl] at z
    simp at z
    omega
  · obtain ⟨ws, hw, rfl⟩ := List.mem_map.mp hp
    have := line_chars (ws := ws) (fun w hw' x hx => ?_) c z
    · omega
    · rcases List.mem_cons.mp hw with rfl | hw
      · have := (room_parts (n := r) (by omega) w hw').2 x hx
        omega
      · rcases List.mem_cons.mp hw with rfl | hw
        · have := (boxes_parts h.nm w hw').2 x hx
          omega
        · obtain ⟨row, hrow, rfl⟩ := List.mem_map.mp hw
          obtain ⟨d, hd, rfl⟩ := List.mem_map.mp hw'
          have := (((h.rows row hrow).txts h.nm (by omega) (by omega)).2.2 d hd).2 x hx
          omega
theorem POk.len {names : List Str} {r : Nat} {rws : List (List D)} (h : POk names r rws) : (readerS names r rws).length ≤ 200000 := by
  have h80 := h.r99
  exact (text_split (lines := linesP names r rws) (by unfold linesP; simp) (by unfold linesP; simp; omega) h.lines).2
theorem row_rp {boxes : List Str} {room last : Nat} (hb : ∀ z ∈ boxes, IsNm z) (h1 : room ≤ 20) (h2 : last < 40000) {row : List D} (h : PRow boxes room last row) : RpW (.tup row) 160 1 := by
  obtain ⟨n1, n2, n3⟩ := h.txts hb h1 h2
  have all : ∀ d ∈ row, RpW d 31 0 := fun d hd => by
    rcases row_kind h1 h2 h d hd with ⟨z, rfl⟩ | ⟨n, rfl, hn⟩
    · have q := n3 (.str z) hd
      have q1 : z.length ≤ 9 := q.1
      exact (rp_str (z := z) fun c hc => by have := q.2 c hc; omega).mono (by omega) (Nat.le_refl _)
    · exact rp_num hn
  have := rp_tup (rp_all all)
  exact this.mono (by omega) (Nat.le_refl _)
theorem POk.repr1 {names : List Str} {r : Nat} {rws : List (List D)} (h : POk names r rws) : ∃ z, fRepr [.lst [.str (readerS names r rws), .int (r : Int), .tup (names.map .str)]] = some (.str z) := by
  have h20 := h.r20
  have h25 := h.few
  have a1 : RpW (.str (readerS names r rws)) 200000 2 := (rp_str h.chars).mono h.len (by omega)
  have a2 : RpW (.int (r : Int)) 31 2 := (rp_num (by omega)).mono (Nat.le_refl _) (by omega)
  have a3 : RpW (.tup (names.map .str)) 600 2 := (rp_tup (rp_all (w := 8) (k := 0) fun d hd => by
    obtain ⟨z, hz, rfl⟩ := List.mem_map.mp hd
    exact (rp_str fun c hc => by have := (h.nm z hz).1 c hc; omega).mono (h.nm z hz).2.2 (Nat.le_refl _))).mono (by rw [List.length_map]; omega) (by omega)
  exact (rp_lst (rp_cons a1 (rp_cons a2 (rp_cons a3 rp_nil)))).repr (by decide) (by decide)
theorem POk.repr2 {names : List Str} {r : Nat} {rws : List (List D)} (h : POk names r rws) : ∃ z, fRepr [.tup (rws.map .tup)] = some (.str z) := by
  have h20 := h.r20
  have h80 := h.r99
  have a4 : RpW (.tup (rws.map .tup)) 16100 2 := (rp_tup (rp_all (w := 160) (k := 1) fun d hd => by
    obtain ⟨x, hx, rfl⟩ := List.mem_map.mp hd
    exact row_rp h.nm (by omega) (by omega) (h.rows x hx))).mono (by rw [List.length_map]; omega) (by omega)
  exact a4.repr (by decide) (by decide)
theorem bl5_repr (a b c d e : Bool) : ∃ z, fRepr [.lst [.bl a, .bl b, .bl c, .bl d, .bl e]] = some (.str z) := (rp_lst (rp_cons (rp_bl (b := a)) (rp_cons (rp_bl (b := b)) (rp_cons (rp_bl (b := c)) (rp_cons (rp_bl (b := d)) (rp_cons (rp_bl (b := e)) rp_nil)))))).repr (by decide) (by decide)
theorem num_repr {n : Nat} (h : n < 1000000000) : ∃ z, fRepr [.int (n : Int)] = some (.str z) := (rp_num h).repr (by decide) (by decide)
theorem num2_repr {n k : Nat} (h : n < 1000000000) (h2 : k < 1000000000) : ∃ z, fRepr [.lst [.int (n : Int), .int (k : Int)]] = some (.str z) := (rp_lst (rp_cons (rp_num h) (rp_cons (rp_num h2) rp_nil))).repr (by decide) (by decide)
/-! one row more -/
theorem join_snoc (S : List Nat) : ∀ (ps : List (List Nat)) (q : List Nat), ps ≠ [] → TL.joinL S (ps ++ [q]) = TL.joinL S ps ++ (S ++ q)
  | [], _, h => absurd rfl h
  | [p], q, _ => rfl
  | p :: a :: ps, q, _ => by
    show p ++ (S ++ TL.joinL S (a :: ps ++ [q])) = (p ++ (S ++ TL.joinL S (a :: ps))) ++ (S ++ q)
    rw [join_snoc S (a :: ps) q (List.cons_ne_nil _ _)]
    simp [List.append_assoc]
theorem text_more {lines : List (List Str)} (ne : lines ≠ []) : textW lines ++ ("\nlet" : Str) = textW (lines ++ ([["let"]] : List (List Str))) := by
  refine TL.ext_tl ?_
  show (textW lines ++ ("\nlet" : Str)).cps.toList = _
  rw [append_tl]
  unfold textW
  rw [TL.join_eq, TL.join_eq, TL.tl_join, List.map_append, List.map_append, List.map_singleton, List.map_singleton]
  rw [join_snoc _ _ _ (fun z => ne (List.map_eq_nil_iff.mp (List.map_eq_nil_iff.mp z)))]
  have e1 : (Str.join ("\n" : Str) (lines.map lineW)).cps.toList = TL.joinL (TL.tl "\n") ((lines.map lineW).map TL.tl) := TL.tl_join _ _
  have e2 : ("\nlet" : Str).cps.toList = TL.tl "\n" ++ TL.tl (lineW ["let"]) := by decide +kernel
  rw [e1, e2]
theorem let_row {fm : List (L2.Key × D)} {names : List Str} {r last : Nat} (h : lookD fm (Sum.inr "let") = some (.str "")) : RowR fm names r last ["let"] (.tup [.str "let"]) :=
  .row (z := "let") (ws := []) (L := "") (rs := []) h (by decide +kernel) (show PartsR names r last (lettS "" 0).cps.toList [] [] by rw [show (lettS "" 0).cps.toList = [] by decide +kernel]; exact .nil) (fun z => nomatch z)
theorem rows_snoc {fm : List (L2.Key × D)} {names : List Str} {r last : Nat} {ws : List Str} {row : List D} (hw : RowR fm names r last ws (.tup row)) : ∀ {lines : List (List Str)} {k : Nat} {rows : List D}, RowsR fm names r last lines k (.inl rows) → RowsR fm names r last (lines ++ [ws]) k (.inl (rows ++ [.tup row]))
  | [], k, rows, h => by
    cases h
    exact .cons hw .nil
  | l :: ls, k, rows, h => by
    cases h with
    | cons h t => exact .cons h (rows_snoc hw t)
theorem POk.more {names : List Str} {r : Nat} {rws : List (List D)} (h : POk names r rws) : ReadsR pileD (linesP names r rws ++ ([["let"]] : List (List Str))) (.inl (r, names, rws.map .tup ++ [.tup [.str "let"]])) := by
  have h20 := h.r20
  have h80 := h.r99
  have hr := h.rows
  unfold linesP
  cases rws with
  | nil => exact absurd rfl h.ne
  | cons a A =>
    refine .ok (l2 := a.map txt) (ls := (A.map fun row => row.map txt) ++ ([["let"]] : List (List Str))) h.room h.boxes ?_
    refine rows_snoc (last := ((A.map fun row => row.map txt) ++ ([["let"]] : List (List Str))).length) (lines := (a :: A).map fun row => row.map txt) (ws := ["let"]) (let_row rfl) (rows_ok (by omega) (by simp at h80 ⊢; omega) (a :: A) 0 fun x hx => (hr x hx).mono ?_)
    simp
theorem let_ws : WsOk (["let"] : List Str) := ⟨by simp, by decide, tk_cons (show Tok ("let" : Str) by unfold Tok; decide +kernel) tk_nil⟩
/-! the small reader -/
def smallL : List (List Str) := [["room", "1"], ["boxes"], ["let"]]
theorem small_text : ("room 1\nboxes\nlet" : Str) = textW smallL := by decide +kernel
theorem small_ws : ∀ ws ∈ smallL, WsOk ws := by
  intro ws h
  unfold smallL at h
  simp only [List.mem_cons, List.not_mem_nil, or_false] at h
  rcases h with rfl | rfl | rfl
  · exact ⟨by simp, by decide, tk_cons (show Tok ("room" : Str) by unfold Tok; decide +kernel) (tk_cons (show Tok ("1" : Str) by unfold Tok; decide +kernel) tk_nil)⟩
  · exact ⟨by simp, by decide, tk_cons (show Tok ("boxes" : Str) by unfold Tok; decide +kernel) tk_nil⟩
  · exact let_ws
theorem small_reads : ReadsR formsD smallL (.inl (1, [], [.tup [.str "let"]])) :=
  .ok (r := 1) (bs := []) (.inr ⟨"1", 1, rfl, .num (n := 1) (by decide +kernel) (by decide), (if_pos (by decide)).symm⟩) (.ok (names := []) rfl List.nodup_nil) (.cons (let_row rfl) .nil)
theorem empty_text : ("" : Str) = textW [[""]] := by decide +kernel
theorem empty_bad : BadX (.str "") 1 := .inr ⟨[[""]], 1, congrArg D.str empty_text, by decide, fun ws h => by rw [List.mem_singleton.mp h]; exact rb6.1, .room rb6.2, rfl⟩
theorem odd_bad : ∀ d ∈ ([.non, .int 0, .bl true, .lst [.str "room 1"], .tup [.str "room 1"], .dk []] : List D), BadX d 0 ∧ Ve.noPot d = true := by
  intro d h
  simp only [List.mem_cons, List.not_mem_nil, or_false] at h
  rcases h with rfl | rfl | rfl | rfl | rfl | rfl <;> exact ⟨.inl ⟨rfl, rfl⟩, by simp [Ve.noPot, Ve.noPots, Ve.noPotK]⟩
theorem Spoilt.bad {lines : List (List Str)} {n : Nat} (h : Spoilt lines n) : BadX (.str (textW lines)) n := .inr ⟨lines, n, rfl, h.few, h.wk, h.tells, rfl⟩
theorem lines_ne {fm : List (L2.Key × D)} {lines : List (List Str)} {o : (Nat × List Str × List D) ⊕ Nat} (h : ReadsR fm lines o) : lines ≠ [] := by cases h <;> exact fun z => nomatch z
theorem Spoilt.joined {lines : List (List Str)} {n : Nat} (h : Spoilt lines n) : fJoin (.str "\n") [.lst (lines.map fun ws => .str (lineW ws))] = some (.str (textW lines)) := by
  have := sum_join (parts := lines.map lineW) (y := "\n") (n := 1300) (fun z hz => by
    obtain ⟨ws, hw, rfl⟩ := List.mem_map.mp hz
    exact (line_split (h.wk ws hw)).2.1) nl_len (by have := h.few; rw [List.length_map]; omega)
  rw [List.map_map] at this
  exact this
end L77
end
section
set_option Elab.async false
set_option linter.all false
set_option maxRecDepth 100000
set_option autoImplicit false
set_option maxHeartbeats 1000000
namespace L77
open PySem L2 Vb Vd
theorem scLawRight : FnScope ["pot", "own", "text", "reader", "more", "some", "lap", "rows", "number", "odd"] ["pot"] (defScope sLawRight) := ⟨rfl, rfl, rfl, by decide +kernel, rfl, by decide +kernel, by decide +kernel⟩
def FLawRight : FD := fun ds m Q => ds = [.pot] ∧ 9000 ≤ m ∧ ∀ m', Q (.bl true) m'
theorem mnLawRight : MnF FLawRight := fun ds m Q Q' w ⟨h1, h2, q⟩ => ⟨h1, h2, fun m' => w _ _ (q m')⟩
theorem nf_self {K : PySem.W.Frag} {C : Addr} : PySem.W.notFirst K C (.ref C) = true := by simp [PySem.W.notFirst]
theorem mk_of {fm : List (L2.Key × D)} {C B : Addr} {lines : List (List Str)} {r m : Nat} {bs : List Str} {rows : List D} {Q : D → Nat → Prop} (h1 : lines.length ≤ 100) (h2 : ∀ ws ∈ lines, WsOk ws) (h3 : ReadsR fm lines (.inl (r, bs, rows))) (q : Q (rdD C lines r bs rows) m) : Ve.plainF (FMake fm C B) [.str (textW lines)] m Q :=
  ⟨by simp [Ve.noPots, Ve.noPot], _, rfl, rfl, .inr ⟨lines, _, rfl, h1, h2, h3, fun r' bs' rows' e => by cases e; exact q, fun n e => nomatch e⟩⟩
theorem small_of {R B : Addr} {m : Nat} {Q : D → Nat → Prop} (q : Q (rdD R smallL 1 [] [.tup [.str "let"]]) m) : Ve.plainF (FMake formsD R B) [.str "room 1\nboxes\nlet"] m Q := by
  rw [small_text]
  exact mk_of (by decide) small_ws small_reads q
theorem call_mk {fm : List (L2.Key × D)} {C B : Addr} {lines : List (List Str)} {r m i : Nat} {ρ : Rho} {bs : List Str} {rows : List D} {Q : D → Nat → Prop} (e : ρ[i]? = some (some (.d (.str (textW lines))))) (h1 : lines.length ≤ 100) (h2 : ∀ ws ∈ lines, WsOk ws) (h3 : ReadsR fm lines (.inl (r, bs, rows))) (q : Q (rdD C lines r bs rows) m) : dCal (Ve.plainF (FMake fm C B)) (aCons (dVar i) aNil) ρ m Q := ⟨_, e, mk_of h1 h2 h3 q⟩
theorem call_small {R B : Addr} {m : Nat} {ρ : Rho} {Q : D → Nat → Prop} (q : Q (rdD R smallL 1 [] [.tup [.str "let"]]) m) : dCal (Ve.plainF (FMake formsD R B)) (aCons (dC (.str "room 1\nboxes\nlet")) aNil) ρ m Q := small_of q
theorem heard_of {x : D} {n : Int} {m : Nat} {Q : D → Nat → Prop} (h : BadX x n) (np : Ve.noPot x = true) (q : Q (.int n) m) : Ve.plainF FLawHeard [x] m Q :=
  ⟨by simp [Ve.noPots, np], x, n, rfl, rfl, h, fun ν => q⟩
theorem nm_m : ∀ z ∈ (["m"] : List Str), IsNm z := by unfold IsNm; decide +kernel
theorem nm_r : ∀ z ∈ (["r"] : List Str), IsNm z := by unfold IsNm; decide +kernel
def tLapR : TSD := sSeq (sAsg (dCal FLawSpoilt (aCons (dVar 0) (aCons (dVar 1) aNil))) (fTup 2 (fCons (fName 7) (fCons (fName 8) fNil))))
  (sIf (dTst (dOp2 fNe (dCall fRepr (aCons (dCal (Ve.plainF FLawHeard) (aCons (dMt "str" fJoin (dC (.str "\n")) (aCons (dVar 7) aNil)) aNil)) aNil)) (dCall fRepr (aCons (dCall fInt (aCons (dIf (dTst (dOp2 fGt (dVar 8) (dC (.int 0)))) (dVar 8) (dOp2 fAdd (dCall fLen (aCons (dVar 7) aNil)) (dC (.int 1)))) aNil)) aNil)))) (sRet (dC (.bl false))) sNil)
theorem lap_walk {names : List Str} {r : Nat} {rws : List (List D)} (R : POk names r rws) {D0 : Ed} : ∀ (xs : List D) (ρ : Rho) (m : Nat), ρ.length = 10 → ρ[0]? = some (some (.d .pot)) → ρ[1]? = some (some (.d (.dk (own3 (.int (r : Int)) (.lst (names.map .str)) (.lst (rws.map .tup)))))) → 10 * xs.length ≤ m →
    (∀ ρ' m', ρ'.length = 10 → ρ'[0]? = some (some (.d .pot)) → m ≤ m' + 10 * xs.length → D0.nx ρ' m') → flD (fName 6) tLapR D0 xs ρ m
  | [], ρ, m, l, e0, e1, hm, q => q ρ m l e0 (by simp)
  | x :: xs, ρ, m, l, e0, e1, hm, q => by
    rw [List.length_cons] at hm
    refine ⟨_, rfl, ?_⟩
    refine ⟨_, by simpa [List.getElem?_set] using e0, _, by simpa [List.getElem?_set] using e1, r, names, rws, rfl, R, by omega, fun lines n k m' hs hn e => ⟨_, rfl, ?_⟩⟩
    have g7 : ∀ {a b c : Option C}, (((ρ.set 6 a).set 7 b).set 8 c)[7]? = some b := fun {a b c} => by simp [List.getElem?_set, l]
    have g8 : ∀ {a b c : Option C}, (((ρ.set 6 a).set 7 b).set 8 c)[8]? = some c := fun {a b c} => by simp [List.getElem?_set, l]
    obtain ⟨z, hz⟩ := num_repr (n := k) (by have := hs.low; omega)
    have next : (flD (fName 6) tLapR D0 xs) (((ρ.set 6 (some (.d x))).set 7 (some (.d (.lst (lines.map fun ws => .str (lineW ws)))))).set 8 (some (.d (.int (n : Int))))) m' := by
      refine lap_walk R xs _ m' (by simp [l]) (by simpa [List.getElem?_set] using e0) (by simpa [List.getElem?_set] using e1) (by omega) fun ρ' m2 h1 h2 h3 => q ρ' m2 h1 h2 ?_
      rw [List.length_cons]
      omega
    refine ⟨rfl, _, g7, _, hs.joined, heard_of hs.bad (by simp [Ve.noPot]) ⟨_, hz, ?_⟩⟩
    refine ⟨_, g8, _, rfl, _, rfl, ?_⟩
    rcases hn with ⟨rfl, hp⟩ | ⟨rfl, hk⟩
    · rw [decide_eq_true (show (0 : Int) < (n : Int) by omega)]
      refine ⟨_, g8, _, fInt_int, _, hz, _, fNe_str, _, rfl, ?_⟩
      rw [decide_eq_true rfl]
      exact next
    · rw [decide_eq_false (show ¬ (0 : Int) < ((0 : Nat) : Int) by decide)]
      have ek : (((lines.map fun ws => Vd.D.str (lineW ws)).length : Nat) : Int) + 1 = (k : Int) := by rw [List.length_map]; omega
      refine ⟨_, g7, _, fLen_lst, _, (congrArg (fun i => some (Vd.D.int i)) ek : _), _, fInt_int, _, hz, _, fNe_str, _, rfl, ?_⟩
      rw [decide_eq_true rfl]
      exact next

theorem calLawRight {P : Program} {w : World} {K : PySem.W.Frag} {mg : Str → Option Value} {base : Heap} (D : Df K mg "_law_right" sLawRight) (T : Bi mg) (G : Gi mg) {R C B gR gI gE aF aP aN : Addr} {fdI fdR fdE : FuncData} (M : Mo K w mg R C aF aP aN) (c : Rc K C gI) (rr : Rc K R gR) (cmp : CmpC K C gE) (FnI : FnOk P w K mg base (L2.CX P w) 6 gI fdI ["self", "text"] (Ve.spMkE K C (FMake pileD C B))) (bI : L2.Binds K fdI ["self", "text"] []) (kI : KBn K fdI ["self", "text"] 1 ["text"] (fun a b => a ++ b) fun a b => a ++ b) (FnR : FnOk P w K mg base (L2.CX P w) 6 gR fdR ["self", "text"] (Ve.spMkE K R (FMake formsD R B))) (bR : L2.Binds K fdR ["self", "text"] []) (FnE : FnOk P w K mg base CX0 1 gE fdE ["self", "other"] (spD K (FEq C R))) (bE : L2.Binds K fdE ["self", "other"] []) (nfS : PySem.W.notFirst K C (.type "str") = true) (nfR : PySem.W.notFirst K C (.ref R) = true) (cO : Cal P w K mg base 2 "_law_of" (spD K fOf)) (cTx : Cal P w K mg base 1 "_law_reader_text" (spD K FLawReaderText)) (cPr : Cal P w K mg base 6 "_law_pile_reader" (spD K FLawPileReader)) (cSp : Cal P w K mg base 4 "_law_spoilt" (spD K FLawSpoilt)) (cH : Ve.CalE P w K mg base 8 "_law_heard" FLawHeard) : CalG P w K mg base 9 "_law_right" (spD K FLawRight) :=
  D.calG ["pot"] (fun f fd Fu => okDG Fu scLawRight (fun ds m Q h => by obtain ⟨rfl, _⟩ := h; rfl) (fun cdv A outer s H E hg hr =>
  dss_cons (ds_set (i := 1) scLawRight.nd rfl (by first | exact Or.inl rfl | exact Or.inr rfl) (de_c mnLawPileReader cPr hr (by decide) rfl (da_cons (dv 0) (da_cons de_int (da_cons de_int (da_cons de_int (da_cons (de_lst (da_cons de_str da_nil)) (da_cons (de_lst (da_cons de_str da_nil)) da_nil))))))))
    (dss_cons (ds_set (i := 2) scLawRight.nd rfl (by first | exact Or.inl rfl | exact Or.inr rfl) (de_c mnLawReaderText cTx hr (by decide) rfl (da_cons (dv 1) da_nil)))
    (dss_cons (ds_set (i := 3) scLawRight.nd rfl (by first | exact Or.inl rfl | exact Or.inr rfl) (Ve.de_makeKX mnMake c.make FnI (hr.mono (by decide)) (by rfl) M.mC kI (dv 2)))
    (dss_cons (ds_if (dt_cmp op_ne s_ne (de_callB (call_repr hg hr.units) s_repr (by rfl) T.repr (by decide +kernel) (da_cons (de_lst (da_cons (de_fld ⟨c.ty.cl, c.text⟩ (dv 3)) (da_cons (de_fld ⟨c.ty.cl, c.room⟩ (dv 3)) (da_cons (de_fld ⟨c.ty.cl, c.boxes⟩ (dv 3)) da_nil)))) da_nil)) (de_callB (call_repr hg hr.units) s_repr (by rfl) T.repr (by decide +kernel) (da_cons (de_lst (da_cons (dv 2) (da_cons (de_dget (hu_of hr) (dv 1) de_str (fun _ _ => rfl)) (da_cons (de_callTy call_tuple_of s_tupOf (by rfl) T.tuple (by decide +kernel) (da_cons (de_dget (hu_of hr) (dv 1) de_str (fun _ _ => rfl)) da_nil)) da_nil)))) da_nil)) (nomark _))
      (dss_one (ds_ret de_bl))
      (dss_nil))
    (dss_cons (ds_if (dt_cmp op_ne s_ne (de_callB (call_repr hg hr.units) s_repr (by rfl) T.repr (by decide +kernel) (da_cons (de_fld ⟨c.ty.cl, c.rows⟩ (dv 3)) da_nil)) (de_callB (call_repr hg hr.units) s_repr (by rfl) T.repr (by decide +kernel) (da_cons (de_callTy call_tuple_of s_tupOf (by rfl) T.tuple (by decide +kernel) (da_cons (de_dget (hu_of hr) (dv 1) de_str (fun _ _ => rfl)) da_nil)) da_nil)) (nomark _))
      (dss_one (ds_ret de_bl))
      (dss_nil))
    (dss_cons (ds_set (i := 4) scLawRight.nd rfl (by first | exact Or.inl rfl | exact Or.inr rfl) (de_op op_addA s_add (dv 2) de_str))
    (dss_cons (ds_set (i := 5) scLawRight.nd rfl (by first | exact Or.inl rfl | exact Or.inr rfl) (de_lst (da_cons (de_eqK (K := K) rfl mnEq cmp FnE bE (hr.mono (by decide)) (dv 3) (Ve.de_makeX mnMake c.make FnI (hr.mono (by decide)) (by rfl) M.mC bI (da_cons (dv 2) da_nil)) (by rfl)) (da_cons (de_neK (K := K) rfl mnEq cmp FnE bE (hr.mono (by decide)) (dv 3) (Ve.de_makeX mnMake c.make FnI (hr.mono (by decide)) (by rfl) M.mC bI (da_cons (dv 2) da_nil)) (by rfl)) (da_cons (de_eqK (K := K) rfl mnEq cmp FnE bE (hr.mono (by decide)) (dv 3) (Ve.de_makeX mnMake c.make FnI (hr.mono (by decide)) (by rfl) M.mC bI (da_cons (dv 4) da_nil)) (by rfl)) (da_cons (de_eqK (K := K) rfl mnEq cmp FnE bE (hr.mono (by decide)) (dv 3) (dv 2) (by rfl)) da_nil))))))
    (dss_cons (ds_if (dt_cmp op_ne s_ne (de_callB (call_repr hg hr.units) s_repr (by rfl) T.repr (by decide +kernel) (da_cons (de_op op_addA s_add (dv 5) (de_lst (da_cons (de_eqK (K := K) rfl mnEq cmp FnE bE (hr.mono (by decide)) (dv 3) (Ve.de_makeX mnMake rr.make FnR (hr.mono (by decide)) (by rfl) M.mR bR (da_cons de_str da_nil)) (by rfl)) da_nil))) da_nil)) (de_callB (call_repr hg hr.units) s_repr (by rfl) T.repr (by decide +kernel) (da_cons (de_lst (da_cons de_bl (da_cons de_bl (da_cons de_bl (da_cons de_bl (da_cons de_bl da_nil)))))) da_nil)) (nomark _))
      (dss_one (ds_ret de_bl))
      (dss_nil))
    (dss_cons (ds_loop PassesOwn.never rfl (di_rg1 (by rfl) T.range (da_cons de_int da_nil)) (pg_name (i := 6) scLawRight.nd rfl (by first | exact Or.inl rfl | exact Or.inr rfl)) gs_name
      (dss_cons (ds_asg (de_c mnLawSpoilt cSp hr (by decide) rfl (da_cons (dv 0) (da_cons (dv 1) da_nil))) (pg_tup (n := 2) rfl (pgs_cons (pg_name (i := 7) scLawRight.nd rfl (by first | exact Or.inl rfl | exact Or.inr rfl)) (pgs_cons (pg_name (i := 8) scLawRight.nd rfl (by first | exact Or.inl rfl | exact Or.inr rfl)) pgs_nil))) (gs_tup (n := 2) (gs_cons gs_name (gs_cons gs_name gs_nil))))
    (dss_one (ds_if (dt_cmp op_ne s_ne (de_callB (call_repr hg hr.units) s_repr (by rfl) T.repr (by decide +kernel) (da_cons (Ve.de_x mnLawHeard cH hr (by decide) (by rfl) (da_cons (de_m PySem.F.plainAttrs_str PySem.F.slot_str_join PySem.F.type_str_join mt_join s_join de_str (da_cons (dv 7) da_nil)) da_nil)) da_nil)) (de_callB (call_repr hg hr.units) s_repr (by rfl) T.repr (by decide +kernel) (da_cons (de_callTy call_intA s_int (by rfl) T.int (by decide +kernel) (da_cons (de_if (dt_cmp op_gt s_gt (dv 8) de_int (nomark _)) (dv 8) (de_op op_addA s_add (de_callB call_len s_len (by rfl) T.len (by decide +kernel) (da_cons (dv 7) da_nil)) de_int)) da_nil)) da_nil)) (nomark _))
      (dss_one (ds_ret de_bl))
      (dss_nil)))))
    (dss_cons (ds_set (i := 9) scLawRight.nd rfl (by first | exact Or.inl rfl | exact Or.inr rfl) (de_c mn_of cO hr (by decide) rfl (da_cons (dv 0) (da_cons (de_lst (da_cons de_non (da_cons de_int (da_cons de_bl (da_cons (de_lst (da_cons de_str da_nil)) (da_cons (de_tup (da_cons de_str da_nil)) (da_cons de_empty da_nil))))))) da_nil))))
    (dss_one (ds_ret (de_cmp op_eq s_eq (de_callB (call_repr hg hr.units) s_repr (by rfl) T.repr (by decide +kernel) (da_cons (de_lst (da_cons (Ve.de_x mnLawHeard cH hr (by decide) (by rfl) (da_cons (dv 9) da_nil)) (da_cons (Ve.de_x mnLawHeard cH hr (by decide) (by rfl) (da_cons de_str da_nil)) da_nil))) da_nil)) (de_callB (call_repr hg hr.units) s_repr (by rfl) T.repr (by decide +kernel) (da_cons (de_lst (da_cons de_int (da_cons de_int da_nil))) da_nil)) (nomark _)))))))))))))) (fun ds m Q h => by
    obtain ⟨rfl, hm, q⟩ := h
    refine ⟨_, rfl, (by show 1 ≤ sizeLine; decide), (by show 1 ≤ sizeLine; decide), 3, 3, 9, ["m"], ["r"], rfl, by decide, by decide, by decide, by decide, by decide, nm_m, nm_r, by decide, by decide, by omega, fun r names rws m1 R' h1 => ⟨_, rfl, ?_⟩⟩
    have few : (linesP names r rws).length ≤ 90 := by have := R'.r99; unfold linesP; simp; omega
    have ne : linesP names r rws ≠ [] := by unfold linesP; simp
    refine ⟨_, rfl, r, names, rws, rfl, R', _, rfl, ?_⟩
    refine call_mk (Q := fun d m1 => _) rfl (by omega) R'.lines R'.reads ⟨_, rfl, ?_⟩
    dsimp only
    obtain ⟨z1, hz1⟩ := R'.repr1
    obtain ⟨z2, hz2⟩ := R'.repr2
    refine seq_ret false (fun W hW => ?_) (fun c => nomatch c) fun _ => seq_ret false (fun W hW => ?_) (fun c => nomatch c) fun _ => ?_
    · refine ⟨_, rfl, _, _, rfl, rfl, _, rfl, _, _, rfl, rfl, _, rfl, _, _, rfl, rfl, (by show 3 ≤ sizeLine; decide), _, hz1, _, rfl, _, rfl, .int (r : Int), rfl, _, rfl, .lst (names.map .str), rfl, .tup (names.map .str), rfl, (by show 3 ≤ sizeLine; decide), _, hz1, _, fNe_str, _, rfl, ?_⟩
      rw [decide_eq_true rfl]
      exact hW
    · refine ⟨_, rfl, _, _, rfl, rfl, _, hz2, _, rfl, .lst (rws.map .tup), rfl, .tup (rws.map .tup), rfl, _, hz2, _, fNe_str, _, rfl, ?_⟩
      rw [decide_eq_true rfl]
      exact hW
    have el : ("\nlet" : Str).length = 4 := by decide +kernel
    refine ⟨_, rfl, _, fAdd_str (by rw [el]; exact Nat.le_trans (show _ + 4 ≤ 200004 from Nat.add_le_add_right R'.len 4) (by decide)), _, rfl, ?_⟩
    have nt : readerS names r rws ≠ readerS names r rws ++ ("\nlet" : Str) := fun z => by
      have z1 := congrArg (fun s : Str => s.cps.toList.length) z
      have z2 : (readerS names r rws ++ ("\nlet" : Str)).cps.toList.length = (readerS names r rws).cps.toList.length + 4 := by
        rw [append_tl, List.length_append, ← len_cps ("\nlet" : Str), el]
      have z1 : (readerS names r rws).cps.toList.length = (readerS names r rws ++ ("\nlet" : Str)).cps.toList.length := z1
      omega
    rw [text_more ne] at nt ⊢
    have wm : ∀ ws ∈ linesP names r rws ++ ([["let"]] : List (List Str)), WsOk ws := fun ws hw => (List.mem_append.mp hw).elim (R'.lines ws) fun h => by rw [List.mem_singleton.mp h]; exact let_ws
    refine ⟨_, rfl, ?_⟩
    refine call_mk rfl (by omega) R'.lines R'.reads ⟨_, _, rfl, rfl, nf_self, _, _, _, _, rfl, rfl, .inl ⟨_, _, rfl, rfl, rfl⟩, _, rfl, ?_⟩
    refine ⟨_, rfl, ?_⟩
    refine call_mk rfl (by omega) R'.lines R'.reads ⟨_, _, rfl, rfl, nf_self, _, _, _, _, rfl, rfl, .inl ⟨_, _, rfl, rfl, rfl⟩, _, rfl, ?_⟩
    refine ⟨_, rfl, ?_⟩
    refine call_mk rfl (by rw [List.length_append, List.length_singleton]; omega) wm R'.more ⟨_, _, rfl, rfl, nf_self, _, _, _, _, rfl, rfl, .inl ⟨_, _, rfl, rfl, rfl⟩, _, rfl, ?_⟩
    refine ⟨_, rfl, _, rfl, _, _, rfl, rfl, nfS, _, _, _, false, rfl, rfl, .inr ⟨.inl ⟨_, rfl⟩, rfl⟩, false, rfl, (by show 4 ≤ sizeLine; decide), _, rfl, ?_⟩
    rw [decide_eq_true rfl, decide_eq_false nt]
    dsimp only
    obtain ⟨z3, hz3⟩ := bl5_repr true false false false false
    refine seq_ret false (fun W hW => ?_) (fun c => nomatch c) fun _ => ?_
    · refine ⟨_, rfl, _, rfl, ?_⟩
      refine call_small ⟨_, _, rfl, rfl, nfR, _, _, _, false, rfl, rfl, .inr ⟨.inr ⟨_, rfl⟩, rfl⟩, false, rfl, (by show 1 ≤ sizeLine; decide), _, fAdd_lst (by show 4 + 1 ≤ sizeLine; decide), _, hz3, (by show 5 ≤ sizeLine; decide), _, hz3, _, fNe_str, _, rfl, ?_⟩
      rw [decide_eq_true rfl]
      exact hW
    refine ⟨_, rfl, by decide, by decide, ?_⟩
    refine lap_walk R' (rgD 0 5) _ _ rfl rfl rfl (by show 50 ≤ _; omega) fun ρ' m2 l e0 h2 => ?_
    have h2 : m1 ≤ m2 + 50 := h2
    refine ⟨_, e0, (by show 1 ≤ sizeLine; decide), (by show 1 ≤ sizeLine; decide), (by show 6 ≤ sizeLine; decide), of_step (xs := [.non, .int 0, .bl true, .lst [.str "room 1"], .tup [.str "room 1"], .dk []]) rfl (by show 0 < 6; decide) (by show 6 < 1073741824; decide) (by omega) fun d hd n3 e3 => ⟨_, rfl, ?_⟩⟩
    obtain ⟨b1, b2⟩ := odd_bad d hd
    obtain ⟨z4, hz4⟩ := num2_repr (n := 0) (k := 1) (by decide) (by decide)
    have hz4 : fRepr [.lst [.int 0, .int 1]] = some (.str z4) := hz4
    refine ⟨_, List.getElem?_set_self (by rw [l]; decide), heard_of b1 b2 (heard_of empty_bad (by simp [Ve.noPot]) ⟨(by show 2 ≤ sizeLine; decide), _, hz4, (by show 2 ≤ sizeLine; decide), _, hz4, _, fEq_str, ?_⟩)⟩
    rw [decide_eq_true rfl]
    exact q n3)) fun _ _ _ _ _ _ us hl => match us, hl with | [_], _ => rfl
end L77
end
section
set_option Elab.async false
set_option linter.all false
set_option maxRecDepth 100000
set_option autoImplicit false
set_option maxHeartbeats 2000000
namespace L77
open PySem L2 Vb Vd
section
variable {P : Program} {w : World} {K : PySem.W.Frag} {mg : Str → Option Value} {base : Heap}
abbrev sRollError : Stmt := topS 6
abbrev sInitX : Stmt := inClass sRollError 0
theorem scInitX : FnScope ["self", "value"] ["self", "value"] (defScope sInitX) := ⟨rfl, rfl, rfl, by decide +kernel, rfl, by decide +kernel, by decide +kernel⟩
theorem ok_initX {fI : Addr} {fd : FuncData} (F : Fun K "__init__" "RollError.__init__" sInitX fI fd) : FnOk P w K mg base CX0 1 fI fd ["self", "value"] (spEInit K) := by
  refine F.ok scInitX (fun vs H Q E h => ?_) (fun cdv A outer s H vs Q E hr h => ?_)
  · obtain ⟨a, C, v, rfl, _⟩ := h
    rfl
  · obtain ⟨a, C, v, rfl, ox, nv, ha, k⟩ := h
    exact ⟨_, pss_one (ps_ost (pv 0) (pv 1)), _, rfl, _, rfl, a, C, rfl, ox, nv, .inl ⟨ha, fun dx n ne => k dx n ne⟩⟩
/-- the law over one pot -/
def spRight : Sp := fun vs H Q _ => ∃ p : Addr, vs = [.ref p] ∧ PotAt H p 9999999 ∧ ∀ H', SameBut p H H' → Q (.bl true) H'
theorem scLaw : FnScope ["script", "place"] ["script"] (defScope sLaw) := ⟨rfl, rfl, rfl, by decide +kernel, rfl, by decide +kernel, by decide +kernel⟩
def spLaw (K : PySem.W.Frag) : Sp := fun vs H Q _ => ∃ (a : Addr) (ns : List Int), vs = [.ref a] ∧ SqL K H a (ns.map V.int) ∧ ns.length ≤ 63 ∧ ∀ H', Q (.bl true) H'
theorem ok_lawG {k : Nat} {f : Addr} {fd : FuncData} (hk : 1 ≤ k) (F : Fun K "law" "law" sLaw f fd) (all : mg "all" = none) (cP : Cal P w K mg base 1 "_law_pot" (spPot K)) (cC : Cal P w K mg base 1 "_law_cells" (spCells K 2)) (cR : CalG P w K mg base k "_law_right" spRight) : FnG P w K mg base CX0 (k + 1) f fd ["script"] (spLaw K) := by
  refine okG F scLaw (fun vs H Q E h => ?_) (fun cdv A outer s H vs Q E hg hr h => ?_)
  · obtain ⟨a, ns, rfl, _⟩ := h
    rfl
  · obtain ⟨a, ns, rfl, hS, hlen, q⟩ := h
    refine ⟨_, pss_one (ps_ret (pe_callB (cr_all rfl) (by rfl) all (by decide +kernel) (pa_cons
      (pe_lc (own := [("place", 1)]) (g := gName 1) (tt := tYes) rfl scLaw.nd (pi_list (pe_c cC hr hk rfl (pa_cons (pv 0) (pa_cons pe_int pa_nil)))) (blkOk_by (N := ["script", "place"]) (sc := defScope sLaw) (by decide +kernel))
        (fun _ _ _ _ _ => pg_name (i := 1) scLaw.nd rfl (Or.inl rfl)) (fun _ _ _ _ _ => pts_nil) (fun _ _ _ _ _ => pe_g hg cR hr (Nat.le_refl _) rfl (pa_cons (pe_c cP hr hk rfl (pa_cons (pv 0) (pa_cons (pv 1) pa_nil))) pa_nil))) pa_nil))), ?_⟩
    refine ⟨_, rfl, a, ns, rfl, hS, hlen, fun n l n0 n1 hl => ?_⟩
    refine ⟨_, rfl, ⟨_, SqL.of upd_same⟩, fun D hD => ?_⟩
    have nDl : D ≠ l := fun e => by
      rw [e, upd_same] at hD
      cases hD
    refine lc_list (K := K) (a := l) (xs := (List.range n).map fun k => V.int (k : Nat)) (fun i H' => Same H H' ∧ H' l = some (.lst ((List.range n).map fun k => V.int (k : Nat))) ∧ H' D = some (.lst ((List.replicate i true).map V.bl))) ?_ (fun i H' _ h => SqL.of h.2.1) ?_ ?_
    · exact ⟨Same.trans (Same.new hl) (Same.new hD), (by rw [upd_ne nDl.symm]; exact upd_same), upd_same⟩
    · rintro i x H' hx ⟨sm, hL, hA⟩
      have hi : i < n := by
        have := (List.getElem?_eq_some_iff.mp hx).1
        rwa [List.length_map, List.length_range] at this
      obtain rfl : x = V.int (i : Nat) := by
        rw [List.getElem?_map, List.getElem?_range hi] at hx
        exact (Option.some.inj hx).symm
      refine ⟨rfl, _, rfl, _, rfl, a, ns, _, rfl, sm.seq hS, hlen, by omega, by omega, fun p H1 hp s1 hP => ?_⟩
      have nDp : D ≠ p := ne_of_none hA hp
      refine ⟨p, rfl, hP, fun H2 s2 => ⟨_, s2 _ _ nDp (s1 _ _ hA), ?_, ?_, ?_, ?_⟩⟩
      · rw [List.length_map, List.length_replicate]
        exact Nat.lt_of_lt_of_le (show i < 1000 by omega) (by decide)
      · intro b o e
        have e' := sm b o e
        have nbD : b ≠ D := fun z => by
          rw [z, (Same.new hl).free hD] at e
          cases e
        rw [upd_ne nbD]
        exact s2 _ _ (ne_of_none e' hp) (s1 _ _ e')
      · rw [upd_ne nDl.symm]
        exact s2 _ _ (ne_of_none hL hp) (s1 _ _ hL)
      · rw [upd_same, List.replicate_succ', List.map_append]
        rfl
    · rintro H' ⟨sm, hL, hA⟩
      rw [List.length_map, List.length_range] at hA
      refine ⟨D, _, rfl, SqL.of hA, ?_⟩
      have e : (List.replicate n true).all id = true := by simp
      rw [e]
      exact q _

theorem fnG_more {k : Nat} {f : Addr} {fd : FuncData} {ps : List Str} {sp sp' : Sp} (F : FnG P w K mg base CX0 k f fd ps sp) (h : ∀ vs H Q E, sp' vs H Q E → sp vs H Q E) : FnG P w K mg base CX0 k f fd ps sp' :=
  ⟨fun vs H Q E q => F.len vs H Q E (h _ _ _ _ q), fun A outer s H args us vs Q E hg hr e0 hb r q => F.run A outer s H args us vs Q E hg hr e0 hb r (h _ _ _ _ q)⟩
theorem calG_more {k : Nat} {x : Str} {sp sp' : Sp} (c : CalG P w K mg base k x sp) (h : ∀ vs H Q E, sp' vs H Q E → sp vs H Q E) : CalG P w K mg base k x sp' := by
  obtain ⟨f, fd, ps, F, r⟩ := c.ex
  exact ⟨f, fd, ps, fnG_more F h, r⟩
theorem right_of : ∀ vs H Q E, spRight vs H Q E → spD K FLawRight vs H Q E := by
  rintro vs H Q E ⟨p, rfl, hP, q⟩
  have hp : H p ≠ none := by
    obtain ⟨a, b, c, z, _⟩ := hP
    rw [z]
    exact fun z => nomatch z
  refine ⟨some p, [p], [.pot], 9999999, fun b hb => by rw [List.mem_singleton.mp hb]; exact hp, fun x e => by cases e; exact List.mem_singleton.mpr rfl, fun x e => by cases e; exact hP, .cons (.pot rfl) .nil, rfl, by decide, fun m' v H' sx _ d => ?_⟩
  cases d
  exact q H' fun b o nb e => sx b o (fun z => nb (by cases z; rfl)) e
end
section
theorem kit_self {K : PySem.W.Frag} {C : Addr} : PySem.W.kitOne K (.ref C) (.ref C) = some true := by
  unfold PySem.W.kitOne
  rw [if_pos (beq_self_eq_true _)]
theorem kit_no {K : PySem.W.Frag} {C : Addr} {n : String} (h1 : (PySem.W.clsIn K C).isSome = true) (h2 : PySem.W.typeIn K (.ref C) = some (.type "type")) (h3 : PySem.W.subIn K (.type n) (.ref C) = some false) : PySem.W.kitOne K (.type n) (.ref C) = some false := by
  unfold PySem.W.kitOne
  rw [if_neg (show ¬ ((Value.type n : Value) == .ref C) = true from fun z => by have y := beq_iff_eq.mp z; cases y)]
  show (if ((PySem.W.clsIn K C).isSome && PySem.W.typeIn K (.ref C) == some (.type "type")) = true then PySem.W.subIn K (.type n) (.ref C) else none) = _
  rw [if_pos (by rw [h1, h2]; exact beq_self_eq_true _), h3]
/-- how an error's class stands: its own bases, its type -/
structure Shaped (K : PySem.W.Frag) (R C : Addr) : Prop where
  lk : ∃ nm q N bs sn sub ab col dd k0 k1 k2 k3 k5, K.lookup C = some (excClassObj nm q C N bs [.ref R, .type "ValueError", .type "Exception", .type "BaseException", .type "object"] true sn sub ab col dd k0 k1 k2 k3 k5 "ValueError.__new__")
  ty : PySem.W.typeIn K (.ref C) = some (.type "type")
theorem cls_of {K : PySem.W.Frag} {C N : Addr} {nm q : Str} {bs bm sub : List Value} {sn : List Str} {ab : Bool} {col : Option Bool} {dd : Option Addr} {k0 k1 k2 k3 k5 : Option Value} {b : Bool} {nid : String} (h : K.lookup C = some (excClassObj nm q C N bs bm b sn sub ab col dd k0 k1 k2 k3 k5 nid)) :
    PySem.W.clsIn K C = some { name := nm, bases := bs, mro := .ref C :: bm, ns := N, qualname := q, hasDict := b, slotNames := sn, subclasses := sub, abstract := ab, collection := col, hasDel := false } := by
  unfold PySem.W.clsIn
  rw [h]
theorem errC_mk {K : PySem.W.Frag} {C N fI : Addr} {nm q : Str} {bs bm sub : List Value} {sn : List Str} {ab : Bool} {col : Option Bool} {dd : Option Addr} {k0 k1 k2 k3 k5 : Option Value} (h : K.lookup C = some (excClassObj nm q C N bs bm true sn sub ab col dd k0 k1 k2 k3 k5 "ValueError.__new__"))
    (sa : PySem.W.findIn K (.ref C) "__setattr__" = some (some (.builtin "object.__setattr__"))) (ga : PySem.W.findIn K (.ref C) "__getattribute__" = some (some (.builtin "BaseException.__getattribute__"))) (gg : PySem.W.findIn K (.ref C) "__getattr__" = some none)
    (ini : PySem.W.findIn K (.ref C) "__init__" = some (some (.ref fI))) (nv : PySem.W.findIn K (.ref C) "value" = some none) (kC : PySem.W.keepIn K (.ref C) = true) (eC : PySem.W.subIn K (.ref C) (.type "BaseException") = some true) (tC : PySem.W.typeIn K (.ref C) = some (.type "type"))
    (dC : PySem.W.hasDictIn K C = true) (cC : PySem.W.findIn K (.ref C) "__class__" = some (some (.builtin "object.__class__"))) (oC : PySem.W.mroIn K C (.type "object") = some true) (sp : PySem.W.specialIn K (.builtin "object.__class__") "__get__" = some (some (.builtin "getset_descriptor.__get__"))) (tk : PySem.W.takesIn K (.builtin "object.__class__") = some true)
    (hb : PySem.HandSPX.refsVE bm = true) : ErrC K fI C :=
  { ox := ⟨⟨_, _, _, _, _, _, _, _, _, _, _, _, _, _, _, h, hb⟩, sa, eC, tC, kC⟩, init := ini, xf := ⟨ga, gg, eC, dC⟩, ex := ⟨ga, gg, eC, dC, cC, sp, tk, oC⟩, nv := nv }

theorem exm_yes {K : PySem.W.Frag} {B E : Addr} (h1 : (PySem.W.clsIn K E).isSome = true) (h2 : PySem.W.typeIn K (.ref E) = some (.type "type")) (h3 : PySem.W.subIn K (.ref B) (.ref E) = some true) (h4 : PySem.W.subIn K (.ref E) (.type "BaseException") = some true) : PySem.W.exmOne K (.ref B) (.ref E) = some true := by
  unfold PySem.W.exmOne
  rw [h4]
  show (if ((PySem.W.clsIn K E).isSome && PySem.W.typeIn K (.ref E) == some (.type "type")) = true then PySem.W.subIn K (.ref B) (.ref E) else none) = _
  rw [if_pos (by rw [h1, h2]; exact beq_self_eq_true _), h3]
theorem kit_far {K : PySem.W.Frag} {R C : Addr} (ne : R ≠ C) (h1 : (PySem.W.clsIn K C).isSome = true) (h2 : PySem.W.typeIn K (.ref C) = some (.type "type")) (h3 : PySem.W.subIn K (.ref R) (.ref C) = some false) : PySem.W.kitOne K (.ref R) (.ref C) = some false := by
  unfold PySem.W.kitOne
  rw [if_neg (show ¬ ((Value.ref R : Value) == .ref C) = true from fun z => ne (Value.ref.inj (beq_iff_eq.mp z)))]
  show (if ((PySem.W.clsIn K C).isSome && PySem.W.typeIn K (.ref C) == some (.type "type")) = true then PySem.W.subIn K (.ref R) (.ref C) else none) = _
  rw [if_pos (by rw [h1, h2]; exact beq_self_eq_true _), h3]
end
theorem all_mk {l : PySem.W.OpenLaw} {w : World} {K : PySem.W.Frag} {h : Heap} {mg : Str → Option Value} {fa : Addr} (X : K.In h) (G : h.Ns mainGlobals mg) (hfa : mg "law" = some (.ref fa))
    {aF aP aN : Addr} {nF nP nN : Nat} {es ps : Array DictEntry} {dN : Option Addr} {slN : Array (Option Value)} {tN1 tN2 : PySem.Tok}
    {C NC gI : Addr} {nmC qC : Str} {bsC subC : List Value} {hdC abC : Bool} {snC : List Str} {colC : Option Bool} {ddC : Option Addr} {k0C k1C k2C k3C k5C : Option Value} {nidC : String} {cdC : ClassData}
    {R NR gR : Addr} {nmR qR : Str} {bsR subR : List Value} {hdR abR : Bool} {snR : List Str} {colR : Option Bool} {ddR : Option Addr} {k0R k1R k2R k3R k5R : Option Value} {nidR : String} {cdR : ClassData}
    {gE : Addr}
    {odI_ anI_ : Option Addr} {slI_ : Array (Option Value)} {ocI_ kVI_ dcI_ pmI_ cdI_ ctI_ : Value}
    {odE_ anE_ : Option Addr} {slE_ : Array (Option Value)} {ocE_ kVE_ dcE_ pmE_ cdE_ ctE_ : Value}
    {odR_ anR_ : Option Addr} {slR_ : Array (Option Value)} {ocR_ kVR_ dcR_ pmR_ cdR_ ctR_ : Value}
    {odX_ anX_ : Option Addr} {slX_ : Array (Option Value)} {ocX_ kVX_ dcX_ pmX_ cdX_ ctX_ : Value} {fX : Addr}
    {XE NXE : Addr} {nmXE qXE : Str} {bsXE subXE : List Value} {snXE : List Str} {abXE : Bool} {colXE : Option Bool} {ddXE : Option Addr} {m0XE m1XE m2XE m3XE m5XE : Option Value} {cdXE : ClassData}
    {XB NXB : Addr} {nmXB qXB : Str} {bsXB subXB : List Value} {snXB : List Str} {abXB : Bool} {colXB : Option Bool} {ddXB : Option Addr} {m0XB m1XB m2XB m3XB m5XB : Option Value} {cdXB : ClassData}
    {f0 : Addr} {od0 an0 : Option Addr} {sl0 : Array (Option Value)} {oc0 kV0 dc0 pm0 cd0 ct0 : Value}
    {f1 : Addr} {od1 an1 : Option Addr} {sl1 : Array (Option Value)} {oc1 kV1 dc1 pm1 cd1 ct1 : Value}
    {f2 : Addr} {od2 an2 : Option Addr} {sl2 : Array (Option Value)} {oc2 kV2 dc2 pm2 cd2 ct2 : Value}
    {f3 : Addr} {od3 an3 : Option Addr} {sl3 : Array (Option Value)} {oc3 kV3 dc3 pm3 cd3 ct3 : Value}
    {f4 : Addr} {od4 an4 : Option Addr} {sl4 : Array (Option Value)} {oc4 kV4 dc4 pm4 cd4 ct4 : Value}
    {f5 : Addr} {od5 an5 : Option Addr} {sl5 : Array (Option Value)} {oc5 kV5 dc5 pm5 cd5 ct5 : Value}
    {f6 : Addr} {od6 an6 : Option Addr} {sl6 : Array (Option Value)} {oc6 kV6 dc6 pm6 cd6 ct6 : Value}
    {f7 : Addr} {od7 an7 : Option Addr} {sl7 : Array (Option Value)} {oc7 kV7 dc7 pm7 cd7 ct7 : Value}
    {f8 : Addr} {od8 an8 : Option Addr} {sl8 : Array (Option Value)} {oc8 kV8 dc8 pm8 cd8 ct8 : Value}
    {f9 : Addr} {od9 an9 : Option Addr} {sl9 : Array (Option Value)} {oc9 kV9 dc9 pm9 cd9 ct9 : Value}
    {f10 : Addr} {od10 an10 : Option Addr} {sl10 : Array (Option Value)} {oc10 kV10 dc10 pm10 cd10 ct10 : Value}
    {f11 : Addr} {od11 an11 : Option Addr} {sl11 : Array (Option Value)} {oc11 kV11 dc11 pm11 cd11 ct11 : Value}
    {f12 : Addr} {od12 an12 : Option Addr} {sl12 : Array (Option Value)} {oc12 kV12 dc12 pm12 cd12 ct12 : Value}
    {f13 : Addr} {od13 an13 : Option Addr} {sl13 : Array (Option Value)} {oc13 kV13 dc13 pm13 cd13 ct13 : Value}
    {f14 : Addr} {od14 an14 : Option Addr} {sl14 : Array (Option Value)} {oc14 kV14 dc14 pm14 cd14 ct14 : Value}
    {f15 : Addr} {od15 an15 : Option Addr} {sl15 : Array (Option Value)} {oc15 kV15 dc15 pm15 cd15 ct15 : Value}
    {f16 : Addr} {od16 an16 : Option Addr} {sl16 : Array (Option Value)} {oc16 kV16 dc16 pm16 cd16 ct16 : Value}
    {f17 : Addr} {od17 an17 : Option Addr} {sl17 : Array (Option Value)} {oc17 kV17 dc17 pm17 cd17 ct17 : Value}
    {f18 : Addr} {od18 an18 : Option Addr} {sl18 : Array (Option Value)} {oc18 kV18 dc18 pm18 cd18 ct18 : Value}
    {f19 : Addr} {od19 an19 : Option Addr} {sl19 : Array (Option Value)} {oc19 kV19 dc19 pm19 cd19 ct19 : Value}
    {f20 : Addr} {od20 an20 : Option Addr} {sl20 : Array (Option Value)} {oc20 kV20 dc20 pm20 cd20 ct20 : Value}
    {f21 : Addr} {od21 an21 : Option Addr} {sl21 : Array (Option Value)} {oc21 kV21 dc21 pm21 cd21 ct21 : Value}
    {f22 : Addr} {od22 an22 : Option Addr} {sl22 : Array (Option Value)} {oc22 kV22 dc22 pm22 cd22 ct22 : Value}
    {f23 : Addr} {od23 an23 : Option Addr} {sl23 : Array (Option Value)} {oc23 kV23 dc23 pm23 cd23 ct23 : Value}
    {tLONGEST_NAME : PySem.Tok}
    {tMOST_FIGURES : PySem.Tok}
    {tMOST_ROOM : PySem.Tok}
    {tMOST_BOXES : PySem.Tok}
    {tMOST_ROWS : PySem.Tok}
    {tMOST_NUMBER : PySem.Tok}
    (aC : PySem.W.nsIn K mainGlobals "PileReader" = some (some (.ref C)))
    (xC : K.lookup C = some (excClassObj nmC qC C NC bsC [.type "object"] hdC snC subC abC colC ddC k0C k1C k2C k3C k5C nidC))
    (icC : PySem.W.clsIn K C = some cdC)
    (tyC : PySem.W.typeIn K (.ref C) = some (.type "type"))
    (pgC : PySem.W.plainGet K C Str.empty = true)
    (hd_C : PySem.W.hasDictIn K C = true)
    (poC : PySem.W.plainOver K C = true)
    (saC : PySem.W.findIn K (.ref C) "__setattr__" = some (some (.builtin "object.__setattr__")))
    (ntextC : PySem.W.findIn K (.ref C) "text" = some none)
    (nroomC : PySem.W.findIn K (.ref C) "room" = some none)
    (nboxesC : PySem.W.findIn K (.ref C) "boxes" = some none)
    (nrowsC : PySem.W.findIn K (.ref C) "rows" = some none)
    (mkC : PySem.W.makesIn K C = true)
    (iniC : PySem.W.findIn K (.ref C) "__init__" = some (some (.ref gI)))
    (fnIC : PySem.W.isFn K (.ref gI) = true)
    (kpC : PySem.W.keepIn K (.ref C) = true)
    (clC : PySem.W.findIn K (.ref C) "__class__" = some (some (.builtin "object.__class__")))
    (omC : PySem.W.mroIn K C (.type "object") = some true)
    (sbSC : PySem.W.subIn K (.type "str") (.ref C) = some false)
    (sbTC : PySem.W.subIn K (.type "tuple") (.ref C) = some false)
    (aR : PySem.W.nsIn K mainGlobals "Reader" = some (some (.ref R)))
    (xR : K.lookup R = some (excClassObj nmR qR R NR bsR [.type "object"] hdR snR subR abR colR ddR k0R k1R k2R k3R k5R nidR))
    (icR : PySem.W.clsIn K R = some cdR)
    (tyR : PySem.W.typeIn K (.ref R) = some (.type "type"))
    (pgR : PySem.W.plainGet K R Str.empty = true)
    (hd_R : PySem.W.hasDictIn K R = true)
    (poR : PySem.W.plainOver K R = true)
    (saR : PySem.W.findIn K (.ref R) "__setattr__" = some (some (.builtin "object.__setattr__")))
    (ntextR : PySem.W.findIn K (.ref R) "text" = some none)
    (nroomR : PySem.W.findIn K (.ref R) "room" = some none)
    (nboxesR : PySem.W.findIn K (.ref R) "boxes" = some none)
    (nrowsR : PySem.W.findIn K (.ref R) "rows" = some none)
    (mkR : PySem.W.makesIn K R = true)
    (iniR : PySem.W.findIn K (.ref R) "__init__" = some (some (.ref gR)))
    (fnIR : PySem.W.isFn K (.ref gR) = true)
    (kpR : PySem.W.keepIn K (.ref R) = true)
    (clR : PySem.W.findIn K (.ref R) "__class__" = some (some (.builtin "object.__class__")))
    (omR : PySem.W.mroIn K R (.type "object") = some true)
    (sbSR : PySem.W.subIn K (.type "str") (.ref R) = some false)
    (sbTR : PySem.W.subIn K (.type "tuple") (.ref R) = some false)
    (eq : PySem.W.findIn K (.ref C) "__eq__" = some (some (.ref gE)))
    (ne_ : PySem.W.findIn K (.ref C) "__ne__" = some (some (.builtin "object.__ne__")))
    (fnE : PySem.W.isFn K (.ref gE) = true)
    (sbR : PySem.W.subIn K (.ref R) (.ref C) = some false)
    (spc : PySem.W.specialIn K (.builtin "object.__class__") "__get__" = some (some (.builtin "getset_descriptor.__get__")))
    (tks : PySem.W.takesIn K (.builtin "object.__class__") = some true)
    (lI_ : K.lookup gI = some ⟨ocI_, odI_, .func (PySem.W.fnOf "__init__" "PileReader.__init__" (defArgs sInitP) (defBody sInitP) (defScope sInitP) .none kVI_ dcI_ pmI_ anI_ cdI_ ctI_), slI_⟩)
    (cI_ : PySem.W.codeIn K cdI_ "PileReader.__init__" = true)
    (kI_ : PySem.W.keepIn K (.ref gI) = true)
    (lE_ : K.lookup gE = some ⟨ocE_, odE_, .func (PySem.W.fnOf "__eq__" "PileReader.__eq__" (defArgs sEqP) (defBody sEqP) (defScope sEqP) .none kVE_ dcE_ pmE_ anE_ cdE_ ctE_), slE_⟩)
    (cE_ : PySem.W.codeIn K cdE_ "PileReader.__eq__" = true)
    (kE_ : PySem.W.keepIn K (.ref gE) = true)
    (lR_ : K.lookup gR = some ⟨ocR_, odR_, .func (PySem.W.fnOf "__init__" "Reader.__init__" (defArgs sInitR) (defBody sInitR) (defScope sInitR) .none kVR_ dcR_ pmR_ anR_ cdR_ ctR_), slR_⟩)
    (cR_ : PySem.W.codeIn K cdR_ "Reader.__init__" = true)
    (kR_ : PySem.W.keepIn K (.ref gR) = true)
    (aXE : PySem.W.nsIn K mainGlobals "RollError" = some (some (.ref XE)))
    (xXE : K.lookup XE = some (excClassObj nmXE qXE XE NXE bsXE [.type "ValueError", .type "Exception", .type "BaseException", .type "object"] true snXE subXE abXE colXE ddXE m0XE m1XE m2XE m3XE m5XE "ValueError.__new__"))
    (sXE : PySem.W.findIn K (.ref XE) "__setattr__" = some (some (.builtin "object.__setattr__")))
    (gXE : PySem.W.findIn K (.ref XE) "__getattribute__" = some (some (.builtin "BaseException.__getattribute__")))
    (hXE : PySem.W.findIn K (.ref XE) "__getattr__" = some none)
    (iXE : PySem.W.findIn K (.ref XE) "__init__" = some (some (.ref fX)))
    (vXE : PySem.W.findIn K (.ref XE) "value" = some none)
    (kXE : PySem.W.keepIn K (.ref XE) = true)
    (eXE : PySem.W.subIn K (.ref XE) (.type "BaseException") = some true)
    (tXE : PySem.W.typeIn K (.ref XE) = some (.type "type"))
    (dXE : PySem.W.hasDictIn K XE = true)
    (cXE : PySem.W.findIn K (.ref XE) "__class__" = some (some (.builtin "object.__class__")))
    (oXE : PySem.W.mroIn K XE (.type "object") = some true)
    (icXE : PySem.W.clsIn K XE = some cdXE)
    (aXB : PySem.W.nsIn K mainGlobals "BadReader" = some (some (.ref XB)))
    (xXB : K.lookup XB = some (excClassObj nmXB qXB XB NXB bsXB [.ref XE, .type "ValueError", .type "Exception", .type "BaseException", .type "object"] true snXB subXB abXB colXB ddXB m0XB m1XB m2XB m3XB m5XB "ValueError.__new__"))
    (sXB : PySem.W.findIn K (.ref XB) "__setattr__" = some (some (.builtin "object.__setattr__")))
    (gXB : PySem.W.findIn K (.ref XB) "__getattribute__" = some (some (.builtin "BaseException.__getattribute__")))
    (hXB : PySem.W.findIn K (.ref XB) "__getattr__" = some none)
    (iXB : PySem.W.findIn K (.ref XB) "__init__" = some (some (.ref fX)))
    (vXB : PySem.W.findIn K (.ref XB) "value" = some none)
    (kXB : PySem.W.keepIn K (.ref XB) = true)
    (eXB : PySem.W.subIn K (.ref XB) (.type "BaseException") = some true)
    (tXB : PySem.W.typeIn K (.ref XB) = some (.type "type"))
    (dXB : PySem.W.hasDictIn K XB = true)
    (cXB : PySem.W.findIn K (.ref XB) "__class__" = some (some (.builtin "object.__class__")))
    (oXB : PySem.W.mroIn K XB (.type "object") = some true)
    (icXB : PySem.W.clsIn K XB = some cdXB)
    (lX_ : K.lookup fX = some ⟨ocX_, odX_, .func (PySem.W.fnOf "__init__" "RollError.__init__" (defArgs sInitX) (defBody sInitX) (defScope sInitX) .none kVX_ dcX_ pmX_ anX_ cdX_ ctX_), slX_⟩)
    (cX_ : PySem.W.codeIn K cdX_ "RollError.__init__" = true)
    (kX_ : PySem.W.keepIn K (.ref fX) = true)
    (tX_ : PySem.W.typeIn K (.ref fX) = some (.type "function"))
    (sbX : PySem.W.subIn K (.ref XB) (.ref XE) = some true)
    (aFF : PySem.W.nsIn K mainGlobals "FORMS" = some (some (.ref aF)))
    (lF : K.lookup aF = some ⟨.type "dict", none, .dict es nF, #[]⟩)
    (aPP : PySem.W.nsIn K mainGlobals "PILE_FORMS" = some (some (.ref aP)))
    (lP : K.lookup aP = some ⟨.type "dict", none, .dict ps nP, #[]⟩)
    (aNN : PySem.W.nsIn K mainGlobals "NOT_THERE" = some (some (.ref aN)))
    (lN : K.lookup aN = some ⟨.type "tuple", dN, .seq #[.str "take" tN1, .str "either" tN2] nN, slN⟩)
    (fa0 : PySem.W.nsIn K mainGlobals "is_name" = some (some (.ref f0)))
    (fl0 : K.lookup f0 = some ⟨oc0, od0, .func (PySem.W.fnOf "is_name" "is_name" (defArgs sIsName) (defBody sIsName) (defScope sIsName) .none kV0 dc0 pm0 an0 cd0 ct0), sl0⟩)
    (fc0 : PySem.W.codeIn K cd0 "is_name" = true)
    (fk0 : PySem.W.keepIn K (.ref f0) = true)
    (fa1 : PySem.W.nsIn K mainGlobals "number_in" = some (some (.ref f1)))
    (fl1 : K.lookup f1 = some ⟨oc1, od1, .func (PySem.W.fnOf "number_in" "number_in" (defArgs sNumberIn) (defBody sNumberIn) (defScope sNumberIn) .none kV1 dc1 pm1 an1 cd1 ct1), sl1⟩)
    (fc1 : PySem.W.codeIn K cd1 "number_in" = true)
    (fk1 : PySem.W.keepIn K (.ref f1) = true)
    (fa2 : PySem.W.nsIn K mainGlobals "reader_parts" = some (some (.ref f2)))
    (fl2 : K.lookup f2 = some ⟨oc2, od2, .func (PySem.W.fnOf "reader_parts" "reader_parts" (defArgs sReaderParts) (defBody sReaderParts) (defScope sReaderParts) .none kV2 dc2 pm2 an2 cd2 ct2), sl2⟩)
    (fc2 : PySem.W.codeIn K cd2 "reader_parts" = true)
    (fk2 : PySem.W.keepIn K (.ref f2) = true)
    (fa3 : PySem.W.nsIn K mainGlobals "room_line" = some (some (.ref f3)))
    (fl3 : K.lookup f3 = some ⟨oc3, od3, .func (PySem.W.fnOf "room_line" "room_line" (defArgs sRoomLine) (defBody sRoomLine) (defScope sRoomLine) .none kV3 dc3 pm3 an3 cd3 ct3), sl3⟩)
    (fc3 : PySem.W.codeIn K cd3 "room_line" = true)
    (fk3 : PySem.W.keepIn K (.ref f3) = true)
    (fa4 : PySem.W.nsIn K mainGlobals "boxes_line" = some (some (.ref f4)))
    (fl4 : K.lookup f4 = some ⟨oc4, od4, .func (PySem.W.fnOf "boxes_line" "boxes_line" (defArgs sBoxesLine) (defBody sBoxesLine) (defScope sBoxesLine) .none kV4 dc4 pm4 an4 cd4 ct4), sl4⟩)
    (fc4 : PySem.W.codeIn K cd4 "boxes_line" = true)
    (fk4 : PySem.W.keepIn K (.ref f4) = true)
    (fa5 : PySem.W.nsIn K mainGlobals "row_lines" = some (some (.ref f5)))
    (fl5 : K.lookup f5 = some ⟨oc5, od5, .func (PySem.W.fnOf "row_lines" "row_lines" (defArgs sRowLines) (defBody sRowLines) (defScope sRowLines) .none kV5 dc5 pm5 an5 cd5 ct5), sl5⟩)
    (fc5 : PySem.W.codeIn K cd5 "row_lines" = true)
    (fk5 : PySem.W.keepIn K (.ref f5) = true)
    (fa6 : PySem.W.nsIn K mainGlobals "row_line" = some (some (.ref f6)))
    (fl6 : K.lookup f6 = some ⟨oc6, od6, .func (PySem.W.fnOf "row_line" "row_line" (defArgs sRowLine) (defBody sRowLine) (defScope sRowLine) .none kV6 dc6 pm6 an6 cd6 ct6), sl6⟩)
    (fc6 : PySem.W.codeIn K cd6 "row_line" = true)
    (fk6 : PySem.W.keepIn K (.ref f6) = true)
    (fa7 : PySem.W.nsIn K mainGlobals "letters_for" = some (some (.ref f7)))
    (fl7 : K.lookup f7 = some ⟨oc7, od7, .func (PySem.W.fnOf "letters_for" "letters_for" (defArgs sLettersFor) (defBody sLettersFor) (defScope sLettersFor) .none kV7 dc7 pm7 an7 cd7 ct7), sl7⟩)
    (fc7 : PySem.W.codeIn K cd7 "letters_for" = true)
    (fk7 : PySem.W.keepIn K (.ref f7) = true)
    (fa8 : PySem.W.nsIn K mainGlobals "row_part" = some (some (.ref f8)))
    (fl8 : K.lookup f8 = some ⟨oc8, od8, .func (PySem.W.fnOf "row_part" "row_part" (defArgs sRowPart) (defBody sRowPart) (defScope sRowPart) .none kV8 dc8 pm8 an8 cd8 ct8), sl8⟩)
    (fc8 : PySem.W.codeIn K cd8 "row_part" = true)
    (fk8 : PySem.W.keepIn K (.ref f8) = true)
    (fa9 : PySem.W.nsIn K mainGlobals "_law_pot" = some (some (.ref f9)))
    (fl9 : K.lookup f9 = some ⟨oc9, od9, .func (PySem.W.fnOf "_law_pot" "_law_pot" (defArgs sLawPot) (defBody sLawPot) (defScope sLawPot) .none kV9 dc9 pm9 an9 cd9 ct9), sl9⟩)
    (fc9 : PySem.W.codeIn K cd9 "_law_pot" = true)
    (fk9 : PySem.W.keepIn K (.ref f9) = true)
    (fa10 : PySem.W.nsIn K mainGlobals "_law_take" = some (some (.ref f10)))
    (fl10 : K.lookup f10 = some ⟨oc10, od10, .func (PySem.W.fnOf "_law_take" "_law_take" (defArgs sLawTake) (defBody sLawTake) (defScope sLawTake) .none kV10 dc10 pm10 an10 cd10 ct10), sl10⟩)
    (fc10 : PySem.W.codeIn K cd10 "_law_take" = true)
    (fk10 : PySem.W.keepIn K (.ref f10) = true)
    (fa11 : PySem.W.nsIn K mainGlobals "_law_of" = some (some (.ref f11)))
    (fl11 : K.lookup f11 = some ⟨oc11, od11, .func (PySem.W.fnOf "_law_of" "_law_of" (defArgs sLawOf) (defBody sLawOf) (defScope sLawOf) .none kV11 dc11 pm11 an11 cd11 ct11), sl11⟩)
    (fc11 : PySem.W.codeIn K cd11 "_law_of" = true)
    (fk11 : PySem.W.keepIn K (.ref f11) = true)
    (fa12 : PySem.W.nsIn K mainGlobals "_law_cells" = some (some (.ref f12)))
    (fl12 : K.lookup f12 = some ⟨oc12, od12, .func (PySem.W.fnOf "_law_cells" "_law_cells" (defArgs sLawCells) (defBody sLawCells) (defScope sLawCells) .none kV12 dc12 pm12 an12 cd12 ct12), sl12⟩)
    (fc12 : PySem.W.codeIn K cd12 "_law_cells" = true)
    (fk12 : PySem.W.keepIn K (.ref f12) = true)
    (fa13 : PySem.W.nsIn K mainGlobals "_law_names" = some (some (.ref f13)))
    (fl13 : K.lookup f13 = some ⟨oc13, od13, .func (PySem.W.fnOf "_law_names" "_law_names" (defArgs sLawNames) (defBody sLawNames) (defScope sLawNames) .none kV13 dc13 pm13 an13 cd13 ct13), sl13⟩)
    (fc13 : PySem.W.codeIn K cd13 "_law_names" = true)
    (fk13 : PySem.W.keepIn K (.ref f13) = true)
    (fa14 : PySem.W.nsIn K mainGlobals "_law_test_row" = some (some (.ref f14)))
    (fl14 : K.lookup f14 = some ⟨oc14, od14, .func (PySem.W.fnOf "_law_test_row" "_law_test_row" (defArgs sLawTestRow) (defBody sLawTestRow) (defScope sLawTestRow) .none kV14 dc14 pm14 an14 cd14 ct14), sl14⟩)
    (fc14 : PySem.W.codeIn K cd14 "_law_test_row" = true)
    (fk14 : PySem.W.keepIn K (.ref f14) = true)
    (fa15 : PySem.W.nsIn K mainGlobals "_law_row" = some (some (.ref f15)))
    (fl15 : K.lookup f15 = some ⟨oc15, od15, .func (PySem.W.fnOf "_law_row" "_law_row" (defArgs sLawRow) (defBody sLawRow) (defScope sLawRow) .none kV15 dc15 pm15 an15 cd15 ct15), sl15⟩)
    (fc15 : PySem.W.codeIn K cd15 "_law_row" = true)
    (fk15 : PySem.W.keepIn K (.ref f15) = true)
    (fa16 : PySem.W.nsIn K mainGlobals "_law_reader_text" = some (some (.ref f16)))
    (fl16 : K.lookup f16 = some ⟨oc16, od16, .func (PySem.W.fnOf "_law_reader_text" "_law_reader_text" (defArgs sLawReaderText) (defBody sLawReaderText) (defScope sLawReaderText) .none kV16 dc16 pm16 an16 cd16 ct16), sl16⟩)
    (fc16 : PySem.W.codeIn K cd16 "_law_reader_text" = true)
    (fk16 : PySem.W.keepIn K (.ref f16) = true)
    (fa17 : PySem.W.nsIn K mainGlobals "_law_pile_row" = some (some (.ref f17)))
    (fl17 : K.lookup f17 = some ⟨oc17, od17, .func (PySem.W.fnOf "_law_pile_row" "_law_pile_row" (defArgs sLawPileRow) (defBody sLawPileRow) (defScope sLawPileRow) .none kV17 dc17 pm17 an17 cd17 ct17), sl17⟩)
    (fc17 : PySem.W.codeIn K cd17 "_law_pile_row" = true)
    (fk17 : PySem.W.keepIn K (.ref f17) = true)
    (fa18 : PySem.W.nsIn K mainGlobals "_law_pile_reader" = some (some (.ref f18)))
    (fl18 : K.lookup f18 = some ⟨oc18, od18, .func (PySem.W.fnOf "_law_pile_reader" "_law_pile_reader" (defArgs sLawPileReader) (defBody sLawPileReader) (defScope sLawPileReader) .none kV18 dc18 pm18 an18 cd18 ct18), sl18⟩)
    (fc18 : PySem.W.codeIn K cd18 "_law_pile_reader" = true)
    (fk18 : PySem.W.keepIn K (.ref f18) = true)
    (fa19 : PySem.W.nsIn K mainGlobals "_law_heard" = some (some (.ref f19)))
    (fl19 : K.lookup f19 = some ⟨oc19, od19, .func (PySem.W.fnOf "_law_heard" "_law_heard" (defArgs sLawHeard) (defBody sLawHeard) (defScope sLawHeard) .none kV19 dc19 pm19 an19 cd19 ct19), sl19⟩)
    (fc19 : PySem.W.codeIn K cd19 "_law_heard" = true)
    (fk19 : PySem.W.keepIn K (.ref f19) = true)
    (fa20 : PySem.W.nsIn K mainGlobals "_law_bad_row" = some (some (.ref f20)))
    (fl20 : K.lookup f20 = some ⟨oc20, od20, .func (PySem.W.fnOf "_law_bad_row" "_law_bad_row" (defArgs sLawBadRow) (defBody sLawBadRow) (defScope sLawBadRow) .none kV20 dc20 pm20 an20 cd20 ct20), sl20⟩)
    (fc20 : PySem.W.codeIn K cd20 "_law_bad_row" = true)
    (fk20 : PySem.W.keepIn K (.ref f20) = true)
    (fa21 : PySem.W.nsIn K mainGlobals "_law_spoilt" = some (some (.ref f21)))
    (fl21 : K.lookup f21 = some ⟨oc21, od21, .func (PySem.W.fnOf "_law_spoilt" "_law_spoilt" (defArgs sLawSpoilt) (defBody sLawSpoilt) (defScope sLawSpoilt) .none kV21 dc21 pm21 an21 cd21 ct21), sl21⟩)
    (fc21 : PySem.W.codeIn K cd21 "_law_spoilt" = true)
    (fk21 : PySem.W.keepIn K (.ref f21) = true)
    (fa22 : PySem.W.nsIn K mainGlobals "_law_right" = some (some (.ref f22)))
    (fl22 : K.lookup f22 = some ⟨oc22, od22, .func (PySem.W.fnOf "_law_right" "_law_right" (defArgs sLawRight) (defBody sLawRight) (defScope sLawRight) .none kV22 dc22 pm22 an22 cd22 ct22), sl22⟩)
    (fc22 : PySem.W.codeIn K cd22 "_law_right" = true)
    (fk22 : PySem.W.keepIn K (.ref f22) = true)
    (fa23 : PySem.W.nsIn K mainGlobals "law" = some (some (.ref f23)))
    (fl23 : K.lookup f23 = some ⟨oc23, od23, .func (PySem.W.fnOf "law" "law" (defArgs sLaw) (defBody sLaw) (defScope sLaw) .none kV23 dc23 pm23 an23 cd23 ct23), sl23⟩)
    (fc23 : PySem.W.codeIn K cd23 "law" = true)
    (fk23 : PySem.W.keepIn K (.ref f23) = true)
    (mLONGEST_NAME : PySem.W.nsIn K mainGlobals "LONGEST_NAME" = some (some (.int 8 tLONGEST_NAME)))
    (mMOST_FIGURES : PySem.W.nsIn K mainGlobals "MOST_FIGURES" = some (some (.int 9 tMOST_FIGURES)))
    (mMOST_ROOM : PySem.W.nsIn K mainGlobals "MOST_ROOM" = some (some (.int 20 tMOST_ROOM)))
    (mMOST_BOXES : PySem.W.nsIn K mainGlobals "MOST_BOXES" = some (some (.int 120 tMOST_BOXES)))
    (mMOST_ROWS : PySem.W.nsIn K mainGlobals "MOST_ROWS" = some (some (.int 40000 tMOST_ROWS)))
    (mMOST_NUMBER : PySem.W.nsIn K mainGlobals "MOST_NUMBER" = some (some (.int 999999999 tMOST_NUMBER)))
    (zint : PySem.W.nsIn K mainGlobals "int" = some none)
    (zabs : PySem.W.nsIn K mainGlobals "abs" = some none)
    (zlen : PySem.W.nsIn K mainGlobals "len" = some none)
    (zsum : PySem.W.nsIn K mainGlobals "sum" = some none)
    (zlist : PySem.W.nsIn K mainGlobals "list" = some none)
    (zrange : PySem.W.nsIn K mainGlobals "range" = some none)
    (zmax : PySem.W.nsIn K mainGlobals "max" = some none)
    (zmin : PySem.W.nsIn K mainGlobals "min" = some none)
    (zisinstance : PySem.W.nsIn K mainGlobals "isinstance" = some none)
    (zstr : PySem.W.nsIn K mainGlobals "str" = some none)
    (ztuple : PySem.W.nsIn K mainGlobals "tuple" = some none)
    (zall : PySem.W.nsIn K mainGlobals "all" = some none)
    (zzip : PySem.W.nsIn K mainGlobals "zip" = some none)
    (zenumerate : PySem.W.nsIn K mainGlobals "enumerate" = some none)
    (zset : PySem.W.nsIn K mainGlobals "set" = some none)
    (zdict : PySem.W.nsIn K mainGlobals "dict" = some none)
    (zrepr : PySem.W.nsIn K mainGlobals "repr" = some none)
    (klF : PySem.W.KeysLit w.params es.toList)
    (roF : rowsOf es.toList = some formsV)
    (loF : (aF == sysModules) = false)
    (klP : PySem.W.KeysLit w.params ps.toList)
    (roP : rowsOf ps.toList = some moreV)
    (loP : (aP == sysModules) = false)
    (neRC : R ≠ C) :
    ∃ fd : FuncData, (∀ (s : Shared) (v : Value), BindsTo s fd ⟨[v], []⟩ [("script", v)]) ∧ ∀ base : Heap, K.In base → base.Ns mainGlobals mg → FnG l.prog w K mg base CX0 10 fa fd ["script"] (spLaw K) := by
  have e := hfa.symm.trans (PySem.W.mg_of X G fa23)
  cases e
  have B : Bi mg := { int := PySem.W.mg_none_of X G zint, abs := PySem.W.mg_none_of X G zabs, len := PySem.W.mg_none_of X G zlen, sum := PySem.W.mg_none_of X G zsum, list := PySem.W.mg_none_of X G zlist, range := PySem.W.mg_none_of X G zrange, max := PySem.W.mg_none_of X G zmax, min := PySem.W.mg_none_of X G zmin, isinstance := PySem.W.mg_none_of X G zisinstance, str := PySem.W.mg_none_of X G zstr, tuple := PySem.W.mg_none_of X G ztuple, all := PySem.W.mg_none_of X G zall, zip := PySem.W.mg_none_of X G zzip, enumerate := PySem.W.mg_none_of X G zenumerate, set := PySem.W.mg_none_of X G zset, dict := PySem.W.mg_none_of X G zdict, repr := PySem.W.mg_none_of X G zrepr }
  have Gc : Gi mg := { longest_name := ⟨_, PySem.W.mg_of X G mLONGEST_NAME⟩, most_figures := ⟨_, PySem.W.mg_of X G mMOST_FIGURES⟩, most_room := ⟨_, PySem.W.mg_of X G mMOST_ROOM⟩, most_boxes := ⟨_, PySem.W.mg_of X G mMOST_BOXES⟩, most_rows := ⟨_, PySem.W.mg_of X G mMOST_ROWS⟩, most_number := ⟨_, PySem.W.mg_of X G mMOST_NUMBER⟩ }
  have icc : (PySem.W.clsIn K C).isSome = true := by rw [icC]; rfl
  have kF : KDic K w aF formsV := ⟨⟨es, nF, lF, klF, roF⟩, by decide +kernel, by decide +kernel, loF⟩
  have kP : KDic K w aP moreV := ⟨⟨ps, nP, lP, klP, roP⟩, by decide +kernel, by decide +kernel, loP⟩
  have kN : KTup K aN [.str "take", .str "either"] := ⟨_, _, _, lN, rfl, rfl, by show 2 ≤ sizeLine; decide, .cons ⟨_, rfl⟩ (.cons ⟨_, rfl⟩ .nil)⟩
  have M : Mo K w mg R C aF aP aN := ⟨PySem.W.mg_of X G aR, PySem.W.mg_of X G aC, PySem.W.mg_of X G aFF, PySem.W.mg_of X G aPP, PySem.W.mg_of X G aNN, kF, kP, kN⟩
  have c : Rc K C gI := { ty := ⟨⟨pgC, hd_C, poC, saC⟩, clC, spc, tks, omC, kit_self, kit_no (by rw [icC]; rfl) tyC sbSC, kit_no (by rw [icC]; rfl) tyC sbTC⟩, text := ntextC, room := nroomC, boxes := nboxesC, rows := nrowsC, make := ⟨mkC, iniC, fnIC, kpC⟩ }
  have rr : Rc K R gR := { ty := ⟨⟨pgR, hd_R, poR, saR⟩, clR, spc, tks, omR, kit_self, kit_no (by rw [icR]; rfl) tyR sbSR, kit_no (by rw [icR]; rfl) tyR sbTR⟩, text := ntextR, room := nroomR, boxes := nboxesR, rows := nrowsR, make := ⟨mkR, iniR, fnIR, kpR⟩ }
  have cmp : CmpC K C gE := ⟨⟨_, _, _, _, _, _, _, _, _, _, _, _, _, _, _, _, xC⟩, eq, ne_, fnE⟩
  have nfS : PySem.W.notFirst K C (.type "str") = true := by unfold PySem.W.notFirst; rw [sbSC]; simp
  have nfR : PySem.W.notFirst K C (.ref R) = true := by unfold PySem.W.notFirst; rw [sbR]; simp
  have no : PySem.W.kitOne K (.ref R) (.ref C) = some false := kit_far neRC icc tyC sbR
  have EC : ErrC K fX XB := errC_mk xXB sXB gXB hXB iXB vXB kXB eXB tXB dXB cXB oXB spc tks rfl
  have hx : PySem.W.exmOne K (.ref XB) (.ref XE) = some true := exm_yes (by rw [icXE]; rfl) tXE sbX eXE
  have mB := PySem.W.mg_of X G aXB
  have mE := PySem.W.mg_of X G aXE
  have FI := fun_mk (st := sInitP) lI_ cI_ kI_
  have FE := fun_mk (st := sEqP) lE_ cE_ kE_
  have FR := fun_mk (st := sInitR) lR_ cR_ kR_
  have FX := fun_mk (st := sInitX) lX_ cX_ kX_
  have D0 : Df K mg "is_name" sIsName := ⟨f0, _, fun_mk fl0 fc0 fk0, PySem.W.mg_of X G fa0⟩
  have D1 : Df K mg "number_in" sNumberIn := ⟨f1, _, fun_mk fl1 fc1 fk1, PySem.W.mg_of X G fa1⟩
  have D2 : Df K mg "reader_parts" sReaderParts := ⟨f2, _, fun_mk fl2 fc2 fk2, PySem.W.mg_of X G fa2⟩
  have D3 : Df K mg "room_line" sRoomLine := ⟨f3, _, fun_mk fl3 fc3 fk3, PySem.W.mg_of X G fa3⟩
  have D4 : Df K mg "boxes_line" sBoxesLine := ⟨f4, _, fun_mk fl4 fc4 fk4, PySem.W.mg_of X G fa4⟩
  have D5 : Df K mg "row_lines" sRowLines := ⟨f5, _, fun_mk fl5 fc5 fk5, PySem.W.mg_of X G fa5⟩
  have D6 : Df K mg "row_line" sRowLine := ⟨f6, _, fun_mk fl6 fc6 fk6, PySem.W.mg_of X G fa6⟩
  have D7 : Df K mg "letters_for" sLettersFor := ⟨f7, _, fun_mk fl7 fc7 fk7, PySem.W.mg_of X G fa7⟩
  have D8 : Df K mg "row_part" sRowPart := ⟨f8, _, fun_mk fl8 fc8 fk8, PySem.W.mg_of X G fa8⟩
  have D9 : Df K mg "_law_pot" sLawPot := ⟨f9, _, fun_mk fl9 fc9 fk9, PySem.W.mg_of X G fa9⟩
  have D10 : Df K mg "_law_take" sLawTake := ⟨f10, _, fun_mk fl10 fc10 fk10, PySem.W.mg_of X G fa10⟩
  have D11 : Df K mg "_law_of" sLawOf := ⟨f11, _, fun_mk fl11 fc11 fk11, PySem.W.mg_of X G fa11⟩
  have D12 : Df K mg "_law_cells" sLawCells := ⟨f12, _, fun_mk fl12 fc12 fk12, PySem.W.mg_of X G fa12⟩
  have D13 : Df K mg "_law_names" sLawNames := ⟨f13, _, fun_mk fl13 fc13 fk13, PySem.W.mg_of X G fa13⟩
  have D14 : Df K mg "_law_test_row" sLawTestRow := ⟨f14, _, fun_mk fl14 fc14 fk14, PySem.W.mg_of X G fa14⟩
  have D15 : Df K mg "_law_row" sLawRow := ⟨f15, _, fun_mk fl15 fc15 fk15, PySem.W.mg_of X G fa15⟩
  have D16 : Df K mg "_law_reader_text" sLawReaderText := ⟨f16, _, fun_mk fl16 fc16 fk16, PySem.W.mg_of X G fa16⟩
  have D17 : Df K mg "_law_pile_row" sLawPileRow := ⟨f17, _, fun_mk fl17 fc17 fk17, PySem.W.mg_of X G fa17⟩
  have D18 : Df K mg "_law_pile_reader" sLawPileReader := ⟨f18, _, fun_mk fl18 fc18 fk18, PySem.W.mg_of X G fa18⟩
  have D19 : Df K mg "_law_heard" sLawHeard := ⟨f19, _, fun_mk fl19 fc19 fk19, PySem.W.mg_of X G fa19⟩
  have D20 : Df K mg "_law_bad_row" sLawBadRow := ⟨f20, _, fun_mk fl20 fc20 fk20, PySem.W.mg_of X G fa20⟩
  have D21 : Df K mg "_law_spoilt" sLawSpoilt := ⟨f21, _, fun_mk fl21 fc21 fk21, PySem.W.mg_of X G fa21⟩
  have D22 : Df K mg "_law_right" sLawRight := ⟨f22, _, fun_mk fl22 fc22 fk22, PySem.W.mg_of X G fa22⟩
  refine ⟨PySem.W.fnOf "law" "law" (defArgs sLaw) (defBody sLaw) (defScope sLaw) .none kV23 dc23 pm23 an23 cd23 ct23, fun s v => .of_eq rfl, fun base _ _ => ?_⟩
  have GI : InitE l.prog w K mg base fX := ⟨_, ok_initX FX, FX.binds (ps := ["self", "value"]) fun _ _ _ _ _ _ us hl => (match us, hl with | [_, _], _ => rfl), tX_⟩
  have cT0 : Cal l.prog w K mg base 1 "_law_take" spTake := cal_take D10 B
  have cT : Cal l.prog w K mg base 1 "_law_take" (spD K fTake) := Vd.Cal.more cT0 take_of
  have cO : Cal l.prog w K mg base 2 "_law_of" (spD K fOf) := calLawOf D11 B Gc cT
  have cP : Cal l.prog w K mg base 1 "_law_pot" (spPot K) := cal_pot D9 B
  have cC : Cal l.prog w K mg base 1 "_law_cells" (spCells K 2) := cal_cells (by decide) (by decide) D12 B
  have cIs := calIsName (P := l.prog) (w := w) (base := base) D0 B Gc
  have cNu := calNumberIn (P := l.prog) (w := w) (base := base) D1 B Gc
  have cRo := calRoomLine D3 B Gc cNu
  have cPa := calRowPart D8 B Gc cNu cIs
  have cLf := calLettersFor (P := l.prog) (w := w) (base := base) D7 B Gc
  have cLi := calRowLine D6 B Gc cPa cLf
  have cLs := calRowLines D5 B Gc cLi EC GI mB
  have cBo := calBoxesLine D4 B Gc cIs
  have cPs := calReaderParts D2 B Gc cRo cBo EC GI mB cLs
  have FnI := ok_initP (gR := gR) B M c cPs FI
  have FnR := ok_initR (gI := gI) B M rr cPs FR
  have FnE := ok_eqP (P := l.prog) (w := w) (base := base) (B := XB) B M c rr neRC no FE
  have bI : L2.Binds K _ ["self", "text"] [] := FI.binds (ps := ["self", "text"]) fun _ _ _ _ _ _ us hl => (match us, hl with | [_, _], _ => rfl)
  have bR : L2.Binds K _ ["self", "text"] [] := FR.binds (ps := ["self", "text"]) fun _ _ _ _ _ _ us hl => (match us, hl with | [_, _], _ => rfl)
  have bE : L2.Binds K _ ["self", "other"] [] := FE.binds (ps := ["self", "other"]) fun _ _ _ _ _ _ us hl => (match us, hl with | [_, _], _ => rfl)
  have cN := calLawNames D13 B Gc cT cO
  have cTR := calLawTestRow D14 B Gc cT cO
  have cRow := calLawRow D15 B Gc cT cO cTR
  have cPRow := calLawPileRow D17 B Gc cT cO cRow
  have cPr := calLawPileReader D18 B Gc cT cO cN cPRow
  have cTx := calLawReaderText (P := l.prog) (w := w) (base := base) D16 B Gc
  have cH := calLawHeard D19 B M c EC mB mE hx FnI bI
  have cBd := calLawBadRow D20 B Gc cT cO
  have cSp := calLawSpoilt D21 B Gc cT cO cTx cBd
  have cRt := calLawRight D22 B Gc M c rr cmp FnI bI ⟨fun s us ws _ h1 h2 => (match us, h1, ws, h2 with | [_], _, [_], _ => .of_eq rfl), fun a b => a.append b⟩ FnR bR FnE bE nfS nfR cO cTx cPr cSp cH
  exact ok_lawG (by decide) (fun_mk (st := sLaw) fl23 fc23 fk23) B.all cP cC (calG_more cRt right_of)

theorem walk {l : PySem.W.OpenLaw} {q : Program} {loose : List Str} {XP : (Str → Option Value) → Heap → Prop} {YP : World → Heap → Prop} {d : DefRec} {K : Params → PySem.W.Frag} (hn : l.most = some 63) (hdf : d.params.defaults = [])
    (hY : ∀ (w : World) (h : Heap), YP w h → (K w.params).In h)
    (F : ∀ (w : World) (mg : Str → Option Value) (fa : Addr) (h : Heap), (K w.params).In h → h.Ns mainGlobals mg → mg d.name = some (.ref fa) →
      ∃ fd : FuncData, (∀ (s : Shared) (u : Value), BindsTo s fd ⟨[u], []⟩ [("script", u)]) ∧ ∀ base : Heap, (K w.params).In base → base.Ns mainGlobals mg → FnG l.prog w (K w.params) mg base CX0 10 fa fd ["script"] (spLaw (K w.params))) :
    PySem.W.WalkO q loose XP YP l.row.toRowW d [] (fun f vs => PySem.call f vs) :=
  walkG (n := 63) (k := 10) (x := "script") (sp := fun w => spLaw (K w.params)) hn (by decide) hdf ⟨rfl, by decide, by decide⟩ hY F fun _ _ a ns hl hS => ⟨a, ns, rfl, hS, hl, fun _ => rfl⟩
end L77
end
section
set_option Elab.async false
open PySem PySem.W PyProof.Rows in
set_option maxRecDepth 100000 in
set_option maxHeartbeats 0 in
theorem PySem.Challenge.cw_contraryrolls_k77_pile_readers_and_lines_holds : PySem.Challenge.rw_contraryrolls_k77_pile_readers_and_lines.Holds := by
  w_on; o_law; k_head; (case hw => w_witness2)
  k_fill
  refine L77.walk (l := PySem.Challenge.rw_contraryrolls_k77_pile_readers_and_lines) rfl rfl (fun w h Y => PySem.W.kIn_of Y) ?F
  case F =>
    intro w mg fa h KX G hmg
    refine' L77.all_mk KX G hmg ?aC ?xC ?icC ?tyC ?pgC ?hd_C ?poC ?saC ?ntextC ?nroomC ?nboxesC ?nrowsC ?mkC ?iniC ?fnIC ?kpC ?clC ?omC ?sbSC ?sbTC ?aR ?xR ?icR ?tyR ?pgR ?hd_R ?poR ?saR ?ntextR ?nroomR ?nboxesR ?nrowsR ?mkR ?iniR ?fnIR ?kpR ?clR ?omR ?sbSR ?sbTR ?eq ?ne_ ?fnE ?sbR ?spc ?tks ?lI_ ?cI_ ?kI_ ?lE_ ?cE_ ?kE_ ?lR_ ?cR_ ?kR_ ?aXE ?xXE ?sXE ?gXE ?hXE ?iXE ?vXE ?kXE ?eXE ?tXE ?dXE ?cXE ?oXE ?icXE ?aXB ?xXB ?sXB ?gXB ?hXB ?iXB ?vXB ?kXB ?eXB ?tXB ?dXB ?cXB ?oXB ?icXB ?lX_ ?cX_ ?kX_ ?tX_ ?sbX ?aFF ?lF ?aPP ?lP ?aNN ?lN ?fa0 ?fl0 ?fc0 ?fk0 ?fa1 ?fl1 ?fc1 ?fk1 ?fa2 ?fl2 ?fc2 ?fk2 ?fa3 ?fl3 ?fc3 ?fk3 ?fa4 ?fl4 ?fc4 ?fk4 ?fa5 ?fl5 ?fc5 ?fk5 ?fa6 ?fl6 ?fc6 ?fk6 ?fa7 ?fl7 ?fc7 ?fk7 ?fa8 ?fl8 ?fc8 ?fk8 ?fa9 ?fl9 ?fc9 ?fk9 ?fa10 ?fl10 ?fc10 ?fk10 ?fa11 ?fl11 ?fc11 ?fk11 ?fa12 ?fl12 ?fc12 ?fk12 ?fa13 ?fl13 ?fc13 ?fk13 ?fa14 ?fl14 ?fc14 ?fk14 ?fa15 ?fl15 ?fc15 ?fk15 ?fa16 ?fl16 ?fc16 ?fk16 ?fa17 ?fl17 ?fc17 ?fk17 ?fa18 ?fl18 ?fc18 ?fk18 ?fa19 ?fl19 ?fc19 ?fk19 ?fa20 ?fl20 ?fc20 ?fk20 ?fa21 ?fl21 ?fc21 ?fk21 ?fa22 ?fl22 ?fc22 ?fk22 ?fa23 ?fl23 ?fc23 ?fk23 ?mLONGEST_NAME ?mMOST_FIGURES ?mMOST_ROOM ?mMOST_BOXES ?mMOST_ROWS ?mMOST_NUMBER ?zint ?zabs ?zlen ?zsum ?zlist ?zrange ?zmax ?zmin ?zisinstance ?zstr ?ztuple ?zall ?zzip ?zenumerate ?zset ?zdict ?zrepr ?klF ?roF ?loF ?klP ?roP ?loP ?neRC
    (case aC => k_is)
    (case xC => k_is)
    (case icC => k_is)
    (case tyC => k_is)
    (case pgC => k_is)
    (case hd_C => k_is)
    (case poC => k_is)
    (case saC => k_is)
    (case ntextC => k_is)
    (case nroomC => k_is)
    (case nboxesC => k_is)
    (case nrowsC => k_is)
    (case mkC => k_is)
    (case iniC => k_is)
    (case fnIC => k_is)
    (case kpC => k_is)
    (case clC => k_is)
    (case omC => k_is)
    (case sbSC => k_is)
    (case sbTC => k_is)
    (case aR => k_is)
    (case xR => k_is)
    (case icR => k_is)
    (case tyR => k_is)
    (case pgR => k_is)
    (case hd_R => k_is)
    (case poR => k_is)
    (case saR => k_is)
    (case ntextR => k_is)
    (case nroomR => k_is)
    (case nboxesR => k_is)
    (case nrowsR => k_is)
    (case mkR => k_is)
    (case iniR => k_is)
    (case fnIR => k_is)
    (case kpR => k_is)
    (case clR => k_is)
    (case omR => k_is)
    (case sbSR => k_is)
    (case sbTR => k_is)
    (case eq => k_is)
    (case ne_ => k_is)
    (case fnE => k_is)
    (case sbR => k_is)
    (case spc => k_is)
    (case tks => k_is)
    (case lI_ => k_is)
    (case cI_ => k_is)
    (case kI_ => k_is)
    (case lE_ => k_is)
    (case cE_ => k_is)
    (case kE_ => k_is)
    (case lR_ => k_is)
    (case cR_ => k_is)
    (case kR_ => k_is)
    (case aXE => k_is)
    (case xXE => k_is)
    (case sXE => k_is)
    (case gXE => k_is)
    (case hXE => k_is)
    (case iXE => k_is)
    (case vXE => k_is)
    (case kXE => k_is)
    (case eXE => k_is)
    (case tXE => k_is)
    (case dXE => k_is)
    (case cXE => k_is)
    (case oXE => k_is)
    (case icXE => k_is)
    (case aXB => k_is)
    (case xXB => k_is)
    (case sXB => k_is)
    (case gXB => k_is)
    (case hXB => k_is)
    (case iXB => k_is)
    (case vXB => k_is)
    (case kXB => k_is)
    (case eXB => k_is)
    (case tXB => k_is)
    (case dXB => k_is)
    (case cXB => k_is)
    (case oXB => k_is)
    (case icXB => k_is)
    (case lX_ => k_is)
    (case cX_ => k_is)
    (case kX_ => k_is)
    (case tX_ => k_is)
    (case sbX => k_is)
    (case aFF => k_is)
    (case lF => k_is)
    (case aPP => k_is)
    (case lP => k_is)
    (case aNN => k_is)
    (case lN => k_is)
    (case fa0 => k_is)
    (case fl0 => k_is)
    (case fc0 => k_is)
    (case fk0 => k_is)
    (case fa1 => k_is)
    (case fl1 => k_is)
    (case fc1 => k_is)
    (case fk1 => k_is)
    (case fa2 => k_is)
    (case fl2 => k_is)
    (case fc2 => k_is)
    (case fk2 => k_is)
    (case fa3 => k_is)
    (case fl3 => k_is)
    (case fc3 => k_is)
    (case fk3 => k_is)
    (case fa4 => k_is)
    (case fl4 => k_is)
    (case fc4 => k_is)
    (case fk4 => k_is)
    (case fa5 => k_is)
    (case fl5 => k_is)
    (case fc5 => k_is)
    (case fk5 => k_is)
    (case fa6 => k_is)
    (case fl6 => k_is)
    (case fc6 => k_is)
    (case fk6 => k_is)
    (case fa7 => k_is)
    (case fl7 => k_is)
    (case fc7 => k_is)
    (case fk7 => k_is)
    (case fa8 => k_is)
    (case fl8 => k_is)
    (case fc8 => k_is)
    (case fk8 => k_is)
    (case fa9 => k_is)
    (case fl9 => k_is)
    (case fc9 => k_is)
    (case fk9 => k_is)
    (case fa10 => k_is)
    (case fl10 => k_is)
    (case fc10 => k_is)
    (case fk10 => k_is)
    (case fa11 => k_is)
    (case fl11 => k_is)
    (case fc11 => k_is)
    (case fk11 => k_is)
    (case fa12 => k_is)
    (case fl12 => k_is)
    (case fc12 => k_is)
    (case fk12 => k_is)
    (case fa13 => k_is)
    (case fl13 => k_is)
    (case fc13 => k_is)
    (case fk13 => k_is)
    (case fa14 => k_is)
    (case fl14 => k_is)
    (case fc14 => k_is)
    (case fk14 => k_is)
    (case fa15 => k_is)
    (case fl15 => k_is)
    (case fc15 => k_is)
    (case fk15 => k_is)
    (case fa16 => k_is)
    (case fl16 => k_is)
    (case fc16 => k_is)
    (case fk16 => k_is)
    (case fa17 => k_is)
    (case fl17 => k_is)
    (case fc17 => k_is)
    (case fk17 => k_is)
    (case fa18 => k_is)
    (case fl18 => k_is)
    (case fc18 => k_is)
    (case fk18 => k_is)
    (case fa19 => k_is)
    (case fl19 => k_is)
    (case fc19 => k_is)
    (case fk19 => k_is)
    (case fa20 => k_is)
    (case fl20 => k_is)
    (case fc20 => k_is)
    (case fk20 => k_is)
    (case fa21 => k_is)
    (case fl21 => k_is)
    (case fc21 => k_is)
    (case fk21 => k_is)
    (case fa22 => k_is)
    (case fl22 => k_is)
    (case fc22 => k_is)
    (case fk22 => k_is)
    (case fa23 => k_is)
    (case fl23 => k_is)
    (case fc23 => k_is)
    (case fk23 => k_is)
    (case mLONGEST_NAME => k_is)
    (case mMOST_FIGURES => k_is)
    (case mMOST_ROOM => k_is)
    (case mMOST_BOXES => k_is)
    (case mMOST_ROWS => k_is)
    (case mMOST_NUMBER => k_is)
    (case zint => k_is)
    (case zabs => k_is)
    (case zlen => k_is)
    (case zsum => k_is)
    (case zlist => k_is)
    (case zrange => k_is)
    (case zmax => k_is)
    (case zmin => k_is)
    (case zisinstance => k_is)
    (case zstr => k_is)
    (case ztuple => k_is)
    (case zall => k_is)
    (case zzip => k_is)
    (case zenumerate => k_is)
    (case zset => k_is)
    (case zdict => k_is)
    (case zrepr => k_is)
    (case klF => repeat (first | exact trivial | refine ⟨⟨_, _, rfl, rfl⟩, ?_⟩))
    (case roF => rfl)
    (case loF => decide +kernel)
    (case klP => repeat (first | exact trivial | refine ⟨⟨_, _, rfl, rfl⟩, ?_⟩))
    (case roP => rfl)
    (case loP => decide +kernel)
    (case neRC => decide +kernel)
end
