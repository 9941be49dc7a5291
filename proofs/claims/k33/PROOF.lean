import PyProof.Rows.All
import Wide.All
import OpenK.AllK
import Wide.FinOn
import HandS.ForMost
import HandS.More
import HandS.IsInst
import HandS.Walk
import HandS.Zip
import HandS.Defaults
import HandS.MakeKwOnly
import HandS.ExcInit
import KE.KExcInit
import KE.KExcIs
import HandS.Evl
import HandS.Style
import HandS.CallSlots
import HandS.TryOnly
import HandS.WordsExc
import KE.KTryMore
import HandS.TupAny
import HandS.Ends
import HandS.SetFor
import HandS.TupSets
import HandS.DictComp
import HandS.Iter
import KE.KRevSl
import KE.GoesEnumKw
import KE.GoesMore
import HandS.SortInts
import PyProof.ListCopy
import PyProof.ReprLen
import PyProof.Rows.ReprOcc
import PyProof.StrLawsRepr
import HandS.DictTup
import KE.KeyNested
import KE.KDictDisplayH
import HandS.Deep
import HandS.Conv
import HandS.Rev
import KE.GoesEnum
import KE.KDictZip
import PyProof.Rows.RuleDivmod
import HandS.TupMul
import HandS.Wide
import HandS.SortRule
import HandS.NoneIn
import HandS.SortKw
import HandS.NamedTupSort
import KE.DataMinMax
import KE.SortData
import KE.KDictWalk
import HandS.DictSubView
import HandS.TupLen
import KE.KDictSum
import PyProof.Rows.SetFrom
import HandS.Set
import PySem.Challenge.RW_overlooks_k33_comparisons_of_reports
set_option Elab.async false
set_option linter.all false
set_option maxRecDepth 100000
set_option maxHeartbeats 4000000
/-! exceptions of the program's own classes as values -/
namespace OvX
open PySem PySem.W PySem.Calls PyProof.Rows PySem.HandSPX PySem.Builtin PySem.Builtin.ObjectAttr
/-- what the written part says of an own class of exceptions -/
structure ExK (K : Frag) (C : Addr) (bmB : List Value) (newId : String) : Prop where
  over : excOver K C bmB = true
  ini : excInitIn K C bmB newId = true
  sa : findIn K (.ref C) "__setattr__" = some (some (.builtin "object.__setattr__"))
  ga : findIn K (.ref C) "__getattribute__" = some (some (.builtin "BaseException.__getattribute__"))
  gg : findIn K (.ref C) "__getattr__" = some none
  exC : subIn K (.ref C) (.type "BaseException") = some true
  hd : hasDictIn K C = true
  kC : keepIn K (.ref C) = true
  ca : findIn K (.ref C) "__class__" = some (some (.builtin "object.__class__"))
  sp : specialIn K (.builtin "object.__class__") "__get__" = some (some (.builtin "getset_descriptor.__get__"))
  tk : takesIn K (.builtin "object.__class__") = some true
  mr : mroIn K C (.type "object") = some true
end OvX
set_option Elab.async false
set_option linter.all false
set_option maxRecDepth 100000
set_option maxHeartbeats 4000000
namespace Ov
open PySem L2
section
variable {X : Cx} {CX : CXT} {k n : Nat} {fI C : Addr} {fd : FuncData} {ps ks : List Str} {sp : Sp} {E : XK} {x : Str} {p pos : Pos} {e o : Expr} {es : List Expr} {kws : List Keyword} {t tk : TA} {te : TE} {g : List Value → List Value → List Value} {gV : List V → List V → List V} {B newId initId : String} {bmB : List Value}
/-- an exception of the class at C at a, with the attributes fs -/
def Exc (K : PySem.W.Frag) (H : Hp) (a C : Addr) (fs : List (Str × V)) : Prop := ∃ bmB newId, OvX.ExK K C bmB newId ∧ ((fs = [] ∧ H a = some (exo a C none)) ∨ ∃ dx, H a = some (exo a C (some dx)) ∧ H dx = some (exd dx fs))
theorem Exc.same {K : PySem.W.Frag} {H H' : Hp} {a C : Addr} {fs : List (Str × V)} (h : Exc K H a C fs) (s : Same H H') : Exc K H' a C fs := by
  obtain ⟨b, m, T, h⟩ := h
  rcases h with ⟨e, h⟩ | ⟨dx, h1, h2⟩
  · exact ⟨b, m, T, .inl ⟨e, s _ _ h⟩⟩
  · exact ⟨b, m, T, .inr ⟨dx, s _ _ h1, s _ _ h2⟩⟩
end
end Ov
set_option Elab.async false
set_option linter.all false
set_option maxRecDepth 100000
set_option maxHeartbeats 4000000
namespace Ov
open PySem L2
/-! heaps -/
def SameB (p : Addr) (H H' : Hp) : Prop := ∀ b o, b ≠ p → H b = some o → H' b = some o
theorem SameB.refl (p : Addr) (H : Hp) : SameB p H H := fun _ _ _ h => h
theorem SameB.trans {p : Addr} {H H1 H2 : Hp} (a : SameB p H H1) (b : SameB p H1 H2) : SameB p H H2 := fun c o n h => b c o n (a c o n h)
theorem SameB.of {p : Addr} {H H' : Hp} (a : Same H H') : SameB p H H' := fun c o _ h => a c o h
theorem same_new {H : Hp} {p : Addr} (h : H p = none) (o : HO) : Same H (upd H p o) := fun b u q => by rw [upd_ne (ne_of_none q h)]; exact q
def Bx (H : Hp) (p : Addr) (n : Int) : Prop := ∃ b0 b1 b2 : Int, H p = some (.lst [.int b0, .int b1, .int b2]) ∧ 0 ≤ b0 ∧ 0 ≤ b1 ∧ b1 < 2 ^ 62 ∧ 0 ≤ b2 ∧ b2 ≤ n
theorem Bx.mono {H : Hp} {p : Addr} {n m : Int} (h : Bx H p n) (e : n ≤ m) : Bx H p m := by
  obtain ⟨b0, b1, b2, h1, h2, h3, h4, h5, h6⟩ := h
  exact ⟨b0, b1, b2, h1, h2, h3, h4, h5, by omega⟩
theorem Bx.same {H H' : Hp} {p : Addr} {n : Int} (h : Bx H p n) (e : Same H H') : Bx H' p n := by
  obtain ⟨b0, b1, b2, h1, h2⟩ := h
  exact ⟨b0, b1, b2, e _ _ h1, h2⟩
theorem small {n : Nat} (h : n ≤ 1000) : n ≤ sizeLine := Nat.le_of_lt (small1000 h)
theorem same_refl (H : Hp) : Same H H := fun _ _ h => h
theorem smallB {n : Nat} (h : Nat.ble n 1000 = true) : n ≤ sizeLine := small (Nat.le_of_ble_eq_true h)
theorem Exc.mut {K : PySem.W.Frag} {H H' : Hp} {a C p : Addr} {fs : List (Str × V)} {xs : List V} (h : Exc K H a C fs) (hp : H p = some (.lst xs)) (s : SameB p H H') : Exc K H' a C fs := by
  obtain ⟨b, m, T, h⟩ := h
  have n1 : ∀ q d, exo q C d ≠ .lst xs := fun q d z => by
    have z' : HO.ext _ = HO.lst xs := z
    cases z'
  rcases h with ⟨e, h⟩ | ⟨dx, h1, h2⟩
  · exact ⟨b, m, T, .inl ⟨e, s _ _ (fun z => by rw [z, hp] at h; exact n1 _ _ (Option.some.inj h).symm) h⟩⟩
  · refine ⟨b, m, T, .inr ⟨dx, s _ _ (fun z => by rw [z, hp] at h1; exact n1 _ _ (Option.some.inj h1).symm) h1, s _ _ (fun z => ?_) h2⟩⟩
    rw [z, hp] at h2
    have z' : HO.lst xs = HO.ext _ := Option.some.inj h2
    cases z'
/-! values that are the same data, of depth below n -/
def flat : V → Bool
  | .non | .bl _ | .int _ | .str _ => true
  | _ => false
def Sm (K : PySem.W.Frag) : Nat → Hp → V → V → Prop
  | 0, _, _, _ => False
  | n + 1, H, x, y => (x = y ∧ flat x = true) ∨ (∃ (a b : Addr) (xs ys : List V), x = .ref a ∧ y = .ref b ∧ ((SqL K H a xs ∧ SqL K H b ys) ∨ (SqT K H a xs ∧ SqT K H b ys)) ∧ xs.length = ys.length ∧ xs.length ≤ 1000 ∧
      ∀ (i : Nat) (u v : V), xs[i]? = some u → ys[i]? = some v → Sm K n H u v)
theorem seqT {K : PySem.W.Frag} {H H' : Hp} {a : Addr} {xs : List V} (e : Same H H') (h : SqT K H a xs) : SqT K H' a xs := by
  rcases h with (h | ⟨o, h⟩) | h
  · exact .inl (.inl (e _ _ h))
  · exact .inl (.inr ⟨o, e _ _ h⟩)
  · exact .inr h
theorem Sm.same {K : PySem.W.Frag} {H H' : Hp} (e : Same H H') : ∀ {n : Nat} {x y : V}, Sm K n H x y → Sm K n H' x y := by
  intro n
  induction n with
  | zero => intro x y h; exact h
  | succ n ih =>
    intro x y h
    unfold Sm at h ⊢
    rcases h with h | ⟨a, b, xs, ys, h1, h2, h3, h4, h5, h6⟩
    · exact .inl h
    · exact .inr ⟨a, b, xs, ys, h1, h2, h3.imp (fun z => ⟨e.seq z.1, e.seq z.2⟩) (fun z => ⟨seqT e z.1, seqT e z.2⟩), h4, h5, fun i u v p q => ih (h6 i u v p q)⟩
theorem walk_zipT {K : PySem.W.Frag} {a b : Addr} {xs ys : List V} {n : Nat} (hn : n = min xs.length ys.length) : Walk (RZ.ItzT K a b) n (fun H => SqT K H a xs ∧ SqT K H b ys) (YPair (fun i => xs[i]?) (fun i => ys[i]?)) := by
  subst hn
  refine ⟨fun i H hi q => ?_, fun H q => ⟨xs, ys, q.1, q.2, by omega⟩, fun i H x H' hi q y => ?_⟩
  · have h1 : i < xs.length := by omega
    have h2 : i < ys.length := by omega
    exact ⟨xs, ys, xs[i], ys[i], q.1, q.2, List.getElem?_eq_getElem h1, List.getElem?_eq_getElem h2⟩
  · obtain ⟨T, u, v, e1, e2, e3, e4, e5⟩ := y
    exact ⟨T, u, v, e1, e2, e3, e4 _ q.1, e5 _ q.2⟩
theorem tyL {K : PySem.W.Frag} {H : Hp} {a : Addr} {xs : List V} (h : SqL K H a xs) : TyX K H (.ref a) (.type "list") := by
  rcases h with (h | ⟨o, h⟩) | ⟨o, its, n, h1, h2, _⟩
  · exact .base (.lst h)
  · exact .base (.frz h)
  · exact .kList h1 h2
theorem tyT {K : PySem.W.Frag} {H : Hp} {a : Addr} {xs : List V} (h : SqT K H a xs) : TyX K H (.ref a) (.type "tuple") := by
  rcases h with (h | ⟨o, h⟩) | ⟨o, its, n, h1, h2, _⟩
  · exact .base (.tup h)
  · exact .fTuple h
  · exact .kTuple h1 h2
theorem kit2 {K : PySem.W.Frag} {a b c : String} {r1 r2 : Bool} (h1 : kitB a b = some r1) (h2 : kitB a c = some r2) : PySem.W.kitAny K (.type a) [.type b, .type c] = some (r1 || r2) :=
  kitAny_cons (kit_ty h1) (fun e => by subst e; exact kitAny_cons (kit_ty h2) (fun e => by subst e; exact kitAny_nil) (fun e => by subst e; rfl)) (fun e => by subst e; rfl)
/-! list.count of flat items -/
/-- built-in names that the module does not bind -/
structure Blt (mg : Str → Option Value) : Prop where
  isinstance : mg "isinstance" = none
  list : mg "list" = none
  tuple : mg "tuple" = none
  len : mg "len" = none
  all : mg "all" = none
  any : mg "any" = none
  zip : mg "zip" = none
  bool : mg "bool" = none
  str : mg "str" = none
  int : mg "int" = none
  abs : mg "abs" = none
  max : mg "max" = none
  min : mg "min" = none
  range : mg "range" = none
  sorted : mg "sorted" = none
  enumerate : mg "enumerate" = none
  set : mg "set" = none
  sum : mg "sum" = none
  reversed : mg "reversed" = none
  repr : mg "repr" = none
  dict : mg "dict" = none
  ValueError : mg "ValueError" = none
  LookupError : mg "LookupError" = none
  RuntimeError : mg "RuntimeError" = none
  OverflowError : mg "OverflowError" = none
  IndexError : mg "IndexError" = none
  KeyError : mg "KeyError" = none
  NotImplementedError : mg "NotImplementedError" = none
end Ov
set_option Elab.async false
set_option linter.all false
set_option maxRecDepth 100000
set_option maxHeartbeats 4000000
namespace Ov
open PySem L2
/-! lists, numbers -/
theorem erase_perm : ∀ (l : List Int) (j : Nat) (y : Int), l[j]? = some y → (y :: l.eraseIdx j).Perm l
  | [], j, y, h => by simp at h
  | a :: r, 0, y, h => by
    simp at h
    subst h
    exact List.Perm.refl _
  | a :: r, j + 1, y, h => by
    rw [List.getElem?_cons_succ] at h
    rw [List.eraseIdx_cons_succ]
    exact (List.Perm.swap a y _).trans ((erase_perm r j y h).cons a)
/-! ints as data -/
def dInts (ns : List Int) : PyData := .list (ns.map .int)
theorem lay_ints : ∀ ns : List Int, PyData.canLayAll0 (ns.map PyData.int) = true
  | [] => rfl
  | n :: r => by
    show (PyData.canLay0 (.int n) && PyData.canLayAll0 (r.map PyData.int)) = true
    rw [lay_ints r]
    rfl
theorem depth_ints : ∀ ns : List Int, PyData.depthAll (ns.map PyData.int) ≤ 1
  | [] => Nat.zero_le _
  | n :: r => by
    have ih := depth_ints r
    show max (PyData.depth (.int n)) (PyData.depthAll (r.map PyData.int)) ≤ 1
    have e : PyData.depth (.int n) ≤ 1 := by
      first
        | exact Nat.zero_le _
        | exact Nat.le_refl _
    omega
theorem sh_ints (ns : List Int) : SeqAt.shaped (dInts ns) = true := by
  unfold SeqAt.shaped
  have h1 : PyData.canLay0 (dInts ns) = true := lay_ints ns
  have h2 : PyData.depth (dInts ns) ≤ 64 := by
    have := depth_ints ns
    show PyData.depthAll (ns.map PyData.int) + 1 ≤ 64
    omega
  rw [h1, decide_eq_true h2]
  rfl
theorem eqv_nil (ns : List Int) : PyData.eqv (dInts ns) (.list []) = ns.isEmpty := by
  cases ns with
  | nil => rfl
  | cons n r => rfl
/-! dicts of numbers, all True -/
def kvs (ks : List Int) : List (Key × V) := ks.map fun k => (Sum.inl k, .bl true)
end Ov
set_option Elab.async false
set_option linter.all false
set_option maxRecDepth 100000
set_option maxHeartbeats 4000000
namespace Ov
open PySem L2
/-- an exception that was caught, of the class at C, its dict d -/
def exg (a C : Addr) (d : Option Addr) : HO := .ext fun h => ∃ (oe : Obj) (vs : Array Value), h.get? a = some oe ∧ oe.cls = .ref C ∧ oe.dict = d ∧ oe.data = .fields vs
/-- names of classes, one after the other -/
inductive Nms (X : Cx) : List Expr → List Value → Prop where
  | nil : Nms X [] []
  | cons {x : Str} {p : Pos} {c : Value} {es : List Expr} {cs : List Value} (hg : Gl X x) (hd : (x == ("__debug__" : Str)) = false) (hm : X.mg x = some c) (he : starEach (.Name x p :: es) X.env = (false, eval (.Name x p) X.env) :: starEach es X.env) (r : Nms X es cs) : Nms X (.Name x p :: es) (c :: cs)
theorem Nms.run {X : Cx} {pins : List (Addr × Obj)} {σ : L2.St} {H : Hp} {s : Shared} {E : Value → Shared → Prop} {pos : Pos} (I : Inv X pins σ H s) : ∀ {es : List Expr} {cs : List Value} {Q : List Value → Shared → Prop}, Nms X es cs → Q cs s → wpAny (model X.prog X.w) X.A (spliced (backTo pos (starEach es X.env))) Q E s
  | _, _, _, .nil, q => wpAny_items_nil q
  | _, _, _, .cons hg hd hm he r, q => wpAny_items_cons (ld_glob I hg hm (Nms.run I r q) hd) he
/-- what such a try wishes of an exception of the body: it is caught, held by slot i in the suite, and kept behind it -/
def wKeep (t : Value → Value → Bool) (K : PySem.W.Frag) (cs : List Value) (i : Nat) (ts : Addr → Value → Option Addr → TS) (D : Ends) : WX := fun cls d σ H =>
  ∃ C : Addr, cls = .ref C ∧ (∀ c ∈ cs, PySem.W.exmOne K cls c = some (t cls c)) ∧ cs.any (t cls) = true ∧
    ∀ a, H a = none → ts a cls d { nx := fun σ' H' => D.nx (σ'.set i none) (upd H' a (exg a C d)), rt := fun _ _ => False, bk := fun _ _ => False, ct := fun _ _ => False } (σ.set i (some (.ref a))) H
end Ov
set_option Elab.async false
set_option linter.all false
set_option maxRecDepth 100000
set_option maxHeartbeats 4000000
namespace Ov
open PySem L2
abbrev tlValueError : List Value := [.type "ValueError", .type "Exception", .type "BaseException", .type "object"]
abbrev tlLookupError : List Value := [.type "LookupError", .type "Exception", .type "BaseException", .type "object"]
abbrev tlRuntimeError : List Value := [.type "RuntimeError", .type "Exception", .type "BaseException", .type "object"]
abbrev tlOverflowError : List Value := [.type "OverflowError", .type "ArithmeticError", .type "Exception", .type "BaseException", .type "object"]
def tl : Nat → List Value
  | 0 => tlValueError
  | 1 => tlLookupError
  | 2 => tlRuntimeError
  | _ => tlOverflowError
def nw : Nat → String
  | 0 => "ValueError.__new__"
  | 1 => "LookupError.__new__"
  | 2 => "RuntimeError.__new__"
  | _ => "OverflowError.__new__"
structure Cl (K : PySem.W.Frag) (C : Addr) (k : Nat) : Prop where
  ex : OvX.ExK K C (tl k) (nw k)
  mro : (PySem.W.clsIn K C).map (·.mro) = some (.ref C :: tl k)
  ty : PySem.W.typeIn K (.ref C) = some (.type "type")
theorem tl_ref (k : Nat) (D : Addr) : (tl k).contains (.ref D) = false := by
  match k with
  | 0 => rfl
  | 1 => rfl
  | 2 => rfl
  | _ + 3 => rfl
theorem Cl.sub {K : PySem.W.Frag} {C : Addr} {k : Nat} (x : Cl K C k) (v : Value) : PySem.W.subIn K (.ref C) v = some ((Value.ref C :: tl k).contains v) := by
  obtain ⟨cd, h1, h2⟩ := Option.map_eq_some_iff.mp x.mro
  show PySem.W.mroIn K C v = _
  unfold PySem.W.mroIn
  rw [h1, Option.bind_some, h2]
  rfl
theorem Cl.own {K : PySem.W.Frag} {C D : Addr} {k j : Nat} (x : Cl K C k) (y : Cl K D j) : PySem.W.kitOne K (.ref C) (.ref D) = some (decide (C = D)) := by
  unfold PySem.W.kitOne
  by_cases h : C = D
  · subst h
    rw [if_pos (beq_self_eq_true _), decide_eq_true rfl]
  · have e : (Value.ref C == Value.ref D) = false := beq_eq_false_iff_ne.mpr fun z => h (Value.ref.inj z)
    rw [e, if_neg Bool.false_ne_true, decide_eq_false h]
    obtain ⟨cd, h1, h2⟩ := Option.map_eq_some_iff.mp y.mro
    show (if ((PySem.W.clsIn K D).isSome && PySem.W.typeIn K (.ref D) == some (.type "type")) = true then PySem.W.subIn K (.ref C) (.ref D) else none) = some false
    rw [h1, y.ty, if_pos (by rfl), x.sub, List.contains_cons, tl_ref]
    rw [show (Value.ref D == Value.ref C) = false from beq_eq_false_iff_ne.mpr fun z => h (Value.ref.inj z).symm]
    rfl
def E0 : XK := fun _ _ _ => False
/-! the three ways -/
theorem laid {H : Hp} {a dx C : Addr} {f : Str} {v : V} (na : H a = none) (nd : upd H a (exo a C none) dx = none) (ne : dx ≠ a) :
    Same H (upd (upd (upd H a (exo a C none)) dx (exd dx [(f, v)])) a (exo a C (some dx))) := fun b o h => by
  have hb : b ≠ a := ne_of_none h na
  have hd : b ≠ dx := ne_of_none h (by rw [upd_ne ne] at nd; exact nd)
  rw [upd_ne hb, upd_ne hd, upd_ne hb]
  exact h
/-! raise C(e) -/
/-! a caught exception -/
def Cau (K : PySem.W.Frag) (H : Hp) (a C : Addr) (fs : List (Str × V)) : Prop := ∃ (k : Nat) (d : Addr), Cl K C k ∧ H a = some (exg a C (some d)) ∧ H d = some (.xd fs)
theorem Cau.same {K : PySem.W.Frag} {H H' : Hp} {a C : Addr} {fs : List (Str × V)} (h : Cau K H a C fs) (s : Same H H') : Cau K H' a C fs := by
  obtain ⟨k, d, x, h1, h2⟩ := h
  exact ⟨k, d, x, s _ _ h1, s _ _ h2⟩
/-! f(k = v, ..): keywords alone -/
section
variable {X : Cx} {CX : CXT} {k : Nat} {f : Addr} {fd : FuncData} {ps ks : List Str} {sp : Sp} {x : Str} {p pos : Pos} {kws : List Keyword} {tk : TA} {g : List Value → List Value → List Value} {gV : List V → List V → List V}
theorem pe_callK0 {E : XK} (F : FnOk X.prog X.w X.K X.mg X.base CX k f fd ps sp) (hr : Room k X.A) (hg : Gl X x) (hm : X.mg x = some (.ref f)) (hk : PySem.W.keepIn X.K (.ref f) = true) (hb : KBn X.K fd ps 0 ks g gV) (hx : Passes CX X E) (hkw : PK X kws tk)
    (hall : (backToKw pos (keywordEach kws X.env)).all (·.1.isSome) = true := by rfl) (hks : (backToKw pos (keywordEach kws X.env)).filterMap (·.1) = ks := by rfl) (hdb : (x == ("__debug__" : Str)) = false := by decide)
    (hpl : ((backTo pos (starEach [] X.env)).any (·.1) || (backToKw pos (keywordEach kws X.env)).any (·.1.isNone)) = false := by rfl) :
    PE X (.Call (.Name x p) [] kws pos) (tCallN 0 ks.length sp gV E tNil tk) := by
  refine ⟨fun pins s σ H Q I h => ?_⟩
  refine wpAny_Call_Name_kw (ld_glob I hg hm ?_ hdb)
  refine PySem.W.callWith_KW0 (h₀ := X.base) I.ok.mod.kin hk hall ?_ hpl
  refine thn (hkw.run pos pins s σ H _ I h) fun ws s2 ⟨zs, H2, I2, rz, l1, l2, q2⟩ => ⟨I2.kIn, ?_⟩
  rw [hks]
  exact run_fnN (us := []) (vs := []) F hr hb hx I2 .nil rz rfl l2 q2
end
end Ov
set_option Elab.async false
set_option linter.all false
set_option maxRecDepth 100000
set_option maxHeartbeats 4000000
namespace Ov
open PySem L2
/-! sequences that are lists or tuples -/
/-- a tuple that stands in the written part -/
def TP (H : Hp) (a : Addr) (xs : List V) : Prop := H a = some (.tup xs)
theorem TP.sq {K : PySem.W.Frag} {H : Hp} {a : Addr} {xs : List V} (h : TP H a xs) : SqT K H a xs := .inl (.inl h)
theorem TP.same {H H' : Hp} {a : Addr} {xs : List V} (h : TP H a xs) (s : Same H H') : TP H' a xs := s _ _ h
theorem seqP {K : PySem.W.Frag} {H H' : Hp} {a : Addr} {xs : List V} (s : Same H H') (h : TP H a xs) : SqT K H' a xs := (h.same s).sq
def Sq (K : PySem.W.Frag) (H : Hp) (a : Addr) (xs : List V) : Prop := SqL K H a xs ∨ SqT K H a xs
theorem Sq.same {K : PySem.W.Frag} {H H' : Hp} {a : Addr} {xs : List V} (h : Sq K H a xs) (s : Same H H') : Sq K H' a xs := h.imp (fun z => s.seq z) (fun z => seqT s z)
theorem cut_all {xs : List V} {lo hi : Option Int} (h : HT.sIx xs.length 0 lo = 0 ∧ HT.sIx xs.length xs.length hi = xs.length) : cutV xs lo hi = xs := by
  unfold cutV
  rw [h.1, h.2]
  simp
section
variable {X : Cx}
/-- a slice of a list or a tuple, by its items -/
def rCut (K : PySem.W.Frag) : V → Option Int → Option Int → Hp → VK → Prop := fun x lo hi H Q => ∃ (a : Addr) (xs : List V), x = .ref a ∧
  ((SqL K H a xs ∧ ∀ p H', Same H H' → H p = none → H' p = some (.lst (cutV xs lo hi)) → Q (.ref p) H') ∨ (TP H a xs ∧ ∀ p H', Same H H' → TP H' p (cutV xs lo hi) → Q (.ref p) H'))
theorem sl_cut : SlR X (rCut X.K) := by
  intro pins s σ H x v vl vu lo hi sl Q I rx hs pl pu q
  obtain ⟨a, xs, rfl, ⟨h, q⟩ | ⟨h, q⟩⟩ := q
  · exact sl_list pins s σ H _ v vl vu lo hi sl Q I rx hs pl pu ⟨a, xs, rfl, h, fun p hp => q p _ (same_new hp _) hp upd_same⟩
  · exact sl_tupA pins s σ H _ v vl vu lo hi sl Q I rx hs pl pu ⟨a, xs, rfl, h.sq, fun z => q a H (same_refl H) (by rw [cut_all z]; exact h), fun _ p hp => q p _ (same_new hp _) upd_same⟩
/-- t + u, by its items -/
def rCatW (K : PySem.W.Frag) : R2 := fun x y H Q => ∃ (a b : Addr) (xs ys : List V), x = .ref a ∧ y = .ref b ∧ TP H a xs ∧ TP H b ys ∧ xs.length + ys.length ≤ sizeLine ∧ ∀ p H', Same H H' → TP H' p (xs ++ ys) → Q (.ref p) H'
theorem op_catW : OpR X (binaryOp .Add) (rCatW X.K) := by
  intro pins s σ H x y v u Q I rx ry h
  obtain ⟨a, b, xs, ys, rfl, rfl, ha, hb, hl, q⟩ := h
  refine op_catA pins s σ H _ _ v u Q I rx ry ⟨a, b, xs, ys, rfl, rfl, ha.sq, hb.sq, hl, fun e => q b H (same_refl H) ?_, fun _ e => q a H (same_refl H) ?_, fun _ _ p hp => q p _ (same_new hp _) upd_same⟩
  · rw [e]
    exact hb
  · rw [e, List.append_nil]
    exact ha
/-- tuple(x), by its items -/
def rTupW (K : PySem.W.Frag) : List V → Hp → VK → Prop := fun vs H Q => ∃ (a : Addr) (xs : List V), vs = [.ref a] ∧ (SqL K H a xs ∨ TP H a xs) ∧ ∀ p H', Same H H' → TP H' p xs → Q (.ref p) H'
theorem call_tupW : CallR X (.type "tuple") (rTupW X.K) := by
  intro pins s σ H vs us Q I r h
  obtain ⟨a, xs, rfl, hs, q⟩ := h
  refine call_tuple_of pins s σ H _ us Q I r ⟨a, xs, rfl, ?_⟩
  rcases hs with hs | hs
  · exact .inl ⟨hs, fun l hl => q l _ (same_new hl _) upd_same⟩
  · exact .inr ⟨hs.sq, q a H (same_refl H) hs⟩
end
/-! numbers among numbers -/
end Ov
set_option Elab.async false
set_option linter.all false
set_option maxRecDepth 100000
set_option maxHeartbeats 4000000
namespace Ov
open PySem L2 PySem.Spec PyProof.Rows
/-! Calls where no repr is under way around: as FnOk, but the guards around are known to be none. -/
structure FnG (P : Program) (w : World) (K : PySem.W.Frag) (mg : Str → Option Value) (base : Heap) (k : Nat) (f : Addr) (fd : FuncData) (ps : List Str) (sp : Sp) : Prop where
  count : ∀ {vs H Q E}, sp vs H Q E → vs.length = ps.length
  go : ∀ {A : Around} {outer : List Env} {s : Shared} {H : Hp} {args : Args} {us : List Value} {vs : List V} {Q : VK} {E : XK}, A.guards = some [] → Room k A → Env0 P w K mg base A outer s H →
    BindsTo s fd args (ps.zip us) → Vals vs us → sp vs H Q E → codeAny (model P w) A (.call (.ref f) args) (CR L2.CX0 outer P w H s Q E) s
section
variable {P : Program} {w : World} {K : PySem.W.Frag} {mg : Str → Option Value} {base : Heap}
theorem Fun.okG {x qual : Str} {st : Stmt} {f : Addr} {fd : FuncData} {N ps : List Str} {k : Nat} {sp : Sp} (F : Fun K x qual st f fd) (S : FnScope N ps (defScope st))
    (len : ∀ vs H Q E, sp vs H Q E → vs.length = ps.length)
    (body : ∀ (cd : Value) (A : Around) (outer : List Env) (s : Shared) (H : Hp) (vs : List V) (Q : VK) (E : XK), A.guards = some [] →
      Room k (A.deeper (envOfC qual (defScope st) s.heap.objs.size f cd)) → sp vs H Q E →
      ∃ t, PSs (cxOf L2.CX0 P w K mg base N qual (defScope st) f cd A outer s H E).nox (defBody st) t ∧ t { nx := fun _ H' => Q .non H', rt := Q } (start N vs) H) :
    FnG P w K mg base (k + 1) f fd ps sp := by
  obtain ⟨_, _, _, _, _, _, cd, _, _, rfl, lk, hcd⟩ := F.ex
  refine ⟨fun h => len _ _ _ _ h, ?_⟩
  intro A outer s H args us vs Q E hg hr e0 hb r hsp
  have up : ∀ b o, base.get? b = some o → s.heap.get? b = some o := fun b o e => (e0.bs b o e).1
  have kin := e0.mod.kin.keeps up
  refine codeAny_call_function hr.depth (kin _ _ lk) rfl S.co S.gen rfl (PySem.W.codeRec_of kin hcd) (hb _ _ _ _ ?_)
  refine wpAny_newFunctionEnv_cells S.kind (fun y hy => (S.par y.1 (List.of_mem_zip hy).1).imp id fun q => And.intro q (PySem.W.cellsFrom_some _ _ _ (.inl q))) ?_
  intro env he s1 x
  cases he
  refine ⟨(e0.mod.nolimit.keeps up).keeps x.toInCall.keep, codeAny_func ?_⟩
  obtain ⟨t, ht, hq⟩ := body cd A outer s H vs Q E hg (hr.deeper _) hsp
  refine wpAny_mono (ht.nox.run _ _ _ _ _ (inv_start S hr.hd e0 (len _ _ _ _ hsp) r x) hq) ?_ fun _ _ z => z
  intro fl s' hs
  match fl, hs with
  | .ret u, ⟨v, _, H', J, rv, q⟩ => exact ⟨v, H', J.os, J.bare, J.base, J.hok, rv, q⟩
  | .next, ⟨_, H', J, q⟩ => exact ⟨.non, H', J.os, J.bare, J.base, J.hok, rfl, q⟩
  | .brk, ⟨_, _, _, q⟩ => exact q.elim
  | .cont, ⟨_, _, _, q⟩ => exact q.elim
end
section
variable {X : Cx} {k : Nat} {f : Addr} {fd : FuncData} {ps : List Str} {sp : Sp} {x : Str} {p pos : Pos} {e : Expr} {es : List Expr} {t : TA}
def tCallG (sp : Sp) (t : TA) : TE := fun σ H Q => t σ H fun vs H1 => sp vs H1 Q L2.E0
theorem pe_callG (F : FnG X.prog X.w X.K X.mg X.base k f fd ps sp) (hg : X.A.guards = some []) (hr : Room k X.A) (gl : Gl X x) (hm : X.mg x = some (.ref f)) (hk : PySem.W.keepIn X.K (.ref f) = true) (hb : Binds X.K fd ps [])
    (ha : PA X (e :: es) t) (hdb : (x == ("__debug__" : Str)) = false := by decide) (he : starEach (e :: es) X.env = (false, eval e X.env) :: starEach es X.env := by rfl) (hpl : (backTo pos (starEach es X.env)).any (·.1) = false := by rfl) :
    PE X (.Call (.Name x p) (e :: es) [] pos) (tCallG sp t) := by
  refine ⟨fun pins s σ H Q I h => wpAny_Call_Name_kw (ld_glob I gl hm ?_ hdb)⟩
  refine PySem.W.callWith_K (h₀ := X.base) I.ok.mod.kin hk (thn (ha.run pos pins s σ H _ I h) ?_) he hpl
  rintro us s1 ⟨vs, H1, J, r, q⟩
  refine ⟨J.kIn, ?_⟩
  have n : us.length = ps.length := r.length.symm.trans (F.count q)
  have b := hb s1 us J.kIn (by rw [List.append_nil, n])
  rw [List.append_nil] at b
  refine wpAny_call (codeAny_mono (F.go hg hr J.env0 b r q) ?_)
  intro z s' hz
  match z, hz with
  | .error _, hz => exact False.elim hz
  | .ok (.ret _), hz => exact J.after hz
  | .ok .next, hz => exact False.elim hz
  | .ok .brk, hz => exact False.elim hz
  | .ok .cont, hz => exact False.elim hz
end
/-! repr of data -/
/-! the head, for FnG: the script alone is tracked (or it is one of the module's own objects) -/
section
variable {P : Program} {w : World} {K : PySem.W.Frag} {mg mb : Str → Option Value} {k : Nat} {fa a : Addr} {fd : FuncData} {x : Str} {sp : Sp} {s : Shared} {vs : List Value} {ns : List Int}
def scriptH (K : PySem.W.Frag) (a : Addr) (vs : List Value) (ns : List Int) : Hp := fun b => if b = a ∧ K.lookup a = none then some (.frz { cls := .type "list", data := .seq vs.toArray } (.lst (ns.map V.int))) else none
theorem scriptH_at {b : Addr} {o : HO} (h : scriptH K a vs ns b = some o) : b = a ∧ K.lookup a = none ∧ o = .frz { cls := .type "list", data := .seq vs.toArray } (.lst (ns.map V.int)) := by
  unfold scriptH at h
  split at h
  · rename_i q
    cases h
    exact ⟨q.1, q.2, rfl⟩
  · cases h
theorem headG (kin : K.In s.heap) (hns : s.heap.Ns mainGlobals mg) (hb : s.heap.Ns builtinsNs mb) (hbb : ∀ y : Str, y ≠ "__name__" → mb y = bootBuiltins y) (lim : s.heap.NoLimit) (hg : s.gens = #[])
    (ha : s.heap.get? a = some { cls := .type "list", data := .seq vs.toArray }) (hi : IntsAre vs ns) (hl : ns.length ≤ sizeLine) (hr : Room k callerA)
    (F : ∀ base : Heap, K.In base → base.Ns mainGlobals mg → FnG P w K mg base k fa fd [x] sp) (bind : ∀ (s : Shared) (u : Value), BindsTo s fd ⟨[u], []⟩ [(x, u)])
    (hsp : ∀ H : Hp, SqL K H a (ns.map V.int) → sp [.ref a] H (fun v _ => v = .bl true) fun _ _ _ => False) :
    codeAny (model P w) callerA (.call (.ref fa) ⟨[.ref a], []⟩) (fun r s' => r = .ok (.ret (.bool true)) ∧ OldK s.heap s'.heap ∧ s'.os = s.os ∧ AllBare s'.gens) s := by
  have rv := vals_ints hi
  have nk : ∀ {b o}, scriptH K a vs ns b = some o → K.lookup b = none := fun h => by
    obtain ⟨rfl, q, _⟩ := scriptH_at h
    exact q
  have hok : HOk P w (scriptH K a vs ns) s.heap := by
    intro b o h
    obtain ⟨rfl, _, rfl⟩ := scriptH_at h
    exact ⟨ha, by rw [List.length_map]; exact hl, vs, _, rv, ha⟩
  have hS : SqL K (scriptH K a vs ns) a (ns.map V.int) := by
    cases q : K.lookup a with
    | none => exact .inl (.inr ⟨_, if_pos ⟨rfl, q⟩⟩)
    | some o =>
      have e := kin a o q
      rw [ha] at e
      cases e
      exact .inr ⟨_, vs.toArray, _, q, rfl, rfl, rfl, by rw [List.size_toArray, hi.length]; exact hl, by simpa using rv⟩
  have dict : ∀ {b : Addr} {o : Obj} {es : Array DictEntry} {ep : Nat}, s.heap.get? b = some o → o.data = .dict es ep → scriptH K a vs ns b = none := fun {b o es ep} e d => by
    cases q : scriptH K a vs ns b with
    | none => rfl
    | some z =>
      obtain ⟨rfl, _, _⟩ := scriptH_at q
      rw [ha] at e
      cases e
      have d' : Data.seq vs.toArray _ = Data.dict es ep := d
      cases d'
  have ns' : ∀ {b : Addr} {m : Str → Option Value}, s.heap.Ns b m → (hidT s.heap (scriptH K a vs ns)).Ns b m := fun {b m} h => by
    obtain ⟨o, es, ep, e, d, r⟩ := h
    exact ⟨o, es, ep, hidT_get e (dict e d), d, r⟩
  have kin' : K.In (hidT s.heap (scriptH K a vs ns)) := fun b o e => by
    refine hidT_get (kin b o e) ?_
    cases q : scriptH K a vs ns b with
    | none => rfl
    | some z =>
      rw [nk q] at e
      cases e
  have e0 : Env0 P w K mg (hidT s.heap (scriptH K a vs ns)) callerA [] s (scriptH K a vs ns) := by
    obtain ⟨mc, h1, h2⟩ := lim
    exact ⟨rfl, ⟨kin', ns' hns, ⟨mb, ns' hb, hbb⟩, ⟨mc, ns' h1, h2⟩⟩, fun _ _ e => of_hidT e, Nat.le_of_eq (hidT_size _ _), trivial, (fun _ z => nomatch z), hok, .of_eq hg⟩
  refine codeAny_mono ((F _ kin' (ns' hns)).go (us := [.ref a]) (vs := [.ref a]) rfl hr e0 (bind s (.ref a)) (.cons rfl .nil) (hsp _ hS)) fun r s' h => ?_
  match r, h with
  | .error _, h => exact False.elim h
  | .ok .next, h => exact False.elim h
  | .ok .brk, h => exact False.elim h
  | .ok .cont, h => exact False.elim h
  | .ok (.ret u), ⟨v, H', os, bare, un, hok', r', q⟩ =>
    obtain rfl : v = .bl true := q
    obtain rfl : u = Value.bool true := r'
    refine ⟨rfl, OldK.of_keep fun b o e => ?_, os, bare⟩
    cases q : scriptH K a vs ns b with
    | none => exact un.keep b o e q (fun z => nomatch z) (fun z => nomatch z)
    | some z =>
      obtain ⟨rfl, _, rfl⟩ := scriptH_at q
      have e2 := (hok' _ _ (un.frzs _ _ _ q)).1
      rw [ha] at e
      cases e
      exact e2
theorem walkG {l : PySem.W.OpenLaw} {n k : Nat} {q : Program} {loose : List Str} {XP : (Str → Option Value) → Heap → Prop} {YP : World → Heap → Prop} {d : DefRec} {K : Params → PySem.W.Frag} {sp : World → Sp} {x : Str}
    (hn : l.most = some n) (hn2 : n ≤ sizeLine) (hdf : d.params.defaults = []) (hr : Room k callerA) (hY : ∀ (w : World) (h : Heap), YP w h → (K w.params).In h)
    (F : ∀ (w : World) (mg : Str → Option Value) (fa : Addr) (h : Heap), (K w.params).In h → h.Ns mainGlobals mg → mg d.name = some (.ref fa) →
      ∃ fd : FuncData, (∀ (s : Shared) (u : Value), BindsTo s fd ⟨[u], []⟩ [(x, u)]) ∧ ∀ base : Heap, (K w.params).In base → base.Ns mainGlobals mg → FnG l.prog w (K w.params) mg base k fa fd [x] (sp w))
    (hsp : ∀ (w : World) (H : Hp) (a : Addr) (ns : List Int), ns.length ≤ n → SqL (K w.params) H a (ns.map V.int) → sp w [.ref a] H (fun v _ => v = .bl true) fun _ _ _ => False) :
    PySem.W.WalkO q loose XP YP l.row.toRowW d [] (fun f vs => PySem.call f vs) := by
  refine Att.attach_call hn hdf ?_
  intro w s₀ s₁ mg mb fa o pm cd doc a vs ns G Y ho hd hcd hmg hobj hi hlen hg
  obtain ⟨fd, hb, hF⟩ := F w mg fa _ (hY w _ Y) G.T.g hmg
  exact headG (hY w _ Y) G.T.g G.T.b G.T.builtins G.T.nolimit hg hobj hi (Nat.le_trans hlen hn2) hr hF hb fun H hS => hsp w H a ns hlen hS
end
end Ov
set_option Elab.async false
set_option linter.all false
set_option maxRecDepth 100000
set_option maxHeartbeats 4000000
set_option Elab.async false
set_option linter.all false
set_option maxRecDepth 100000
set_option maxHeartbeats 4000000
namespace Ov
open PySem L2 PySem.Spec PyProof.Rows
/-! enumerate(v), enumerate(v, start=k), v a list or a tuple that stays as it is -/
section
variable {X : Cx} {pins : List (Addr × Obj)} {σ : L2.St} {elts : List Expr} {kk : Nat} {tpos : Pos} {R : It → Hp → Prop} {s : Shared} {H : Hp} {a : Addr} {k : Int} {xs : List V} {h' : Heap}
theorem fp2 (I : L2.Inv X pins σ H s) : ∀ b ∈ [s.heap.objs.size + 1, s.heap.objs.size], FpOk X pins H b := fun b hb => by
  have le : s.heap.objs.size ≤ b := by
    rcases List.mem_cons.mp hb with z | z
    · rw [z]; exact Nat.le_succ _
    · rw [List.mem_singleton.mp z]; exact Nat.le_refl _
  exact I.fpOk le (I.hok.fresh le)
end
end Ov
set_option Elab.async false
set_option linter.all false
set_option maxRecDepth 100000
set_option maxHeartbeats 4000000
set_option Elab.async false
set_option linter.all false
set_option maxRecDepth 100000
set_option maxHeartbeats 4000000
namespace Ov
open PySem L2
/-! data: their types, numbers, rows -/
def tyD : PyData → String
  | .none => "NoneType"
  | .bool _ => "bool"
  | .int _ => "int"
  | .str _ => "str"
  | .list _ => "list"
  | .tuple _ => "tuple"
  | .dict _ => "dict"
theorem dp_ty {K : PySem.W.Frag} {H : Hp} {v : V} {d : PyData} (h : Dp K H v d) : TyX K H v (.type (tyD d)) := by
  cases h with
  | non => exact .base .non
  | bl b => exact .base (.bl b)
  | int i => exact .base (.int i)
  | str x => exact .base (.str x)
  | lst h _ => exact tyL h
  | tup h _ => exact tyT h
def isI : PyData → Bool
  | .int _ => true
  | _ => false
def isB : PyData → Bool
  | .bool _ => true
  | _ => false
def isT : PyData → Bool
  | .tuple _ => true
  | _ => false
def isL : PyData → Bool
  | .list _ => true
  | _ => false
theorem kit_int : ∀ d : PyData, kitB (tyD d) "int" = some (isI d || isB d)
  | .none => (by decide +kernel : kitB "NoneType" "int" = some false)
  | .bool _ => (by decide +kernel : kitB "bool" "int" = some true)
  | .int _ => (by decide +kernel : kitB "int" "int" = some true)
  | .str _ => (by decide +kernel : kitB "str" "int" = some false)
  | .list _ => (by decide +kernel : kitB "list" "int" = some false)
  | .tuple _ => (by decide +kernel : kitB "tuple" "int" = some false)
  | .dict _ => (by decide +kernel : kitB "dict" "int" = some false)
theorem kit_bool : ∀ d : PyData, kitB (tyD d) "bool" = some (isB d)
  | .none => (by decide +kernel : kitB "NoneType" "bool" = some false)
  | .bool _ => (by decide +kernel : kitB "bool" "bool" = some true)
  | .int _ => (by decide +kernel : kitB "int" "bool" = some false)
  | .str _ => (by decide +kernel : kitB "str" "bool" = some false)
  | .list _ => (by decide +kernel : kitB "list" "bool" = some false)
  | .tuple _ => (by decide +kernel : kitB "tuple" "bool" = some false)
  | .dict _ => (by decide +kernel : kitB "dict" "bool" = some false)
theorem kit_tuple : ∀ d : PyData, kitB (tyD d) "tuple" = some (isT d)
  | .none => (by decide +kernel : kitB "NoneType" "tuple" = some false)
  | .bool _ => (by decide +kernel : kitB "bool" "tuple" = some false)
  | .int _ => (by decide +kernel : kitB "int" "tuple" = some false)
  | .str _ => (by decide +kernel : kitB "str" "tuple" = some false)
  | .list _ => (by decide +kernel : kitB "list" "tuple" = some false)
  | .tuple _ => (by decide +kernel : kitB "tuple" "tuple" = some true)
  | .dict _ => (by decide +kernel : kitB "dict" "tuple" = some false)
theorem kit_list : ∀ d : PyData, kitB (tyD d) "list" = some (isL d)
  | .none => (by decide +kernel : kitB "NoneType" "list" = some false)
  | .bool _ => (by decide +kernel : kitB "bool" "list" = some false)
  | .int _ => (by decide +kernel : kitB "int" "list" = some false)
  | .str _ => (by decide +kernel : kitB "str" "list" = some false)
  | .list _ => (by decide +kernel : kitB "list" "list" = some true)
  | .tuple _ => (by decide +kernel : kitB "tuple" "list" = some false)
  | .dict _ => (by decide +kernel : kitB "dict" "list" = some false)
def intsOf : List PyData → List Int
  | [] => []
  | .int i :: r => i :: intsOf r
  | _ :: r => intsOf r
mutual
theorem Dp.same {K : PySem.W.Frag} {H H' : Hp} (s : Same H H') : ∀ {v : V} (d : PyData), Dp K H v d → Dp K H' v d
  | _, .none, h => by cases h; exact .non
  | _, .bool b, h => by cases h; exact .bl b
  | _, .int i, h => by cases h; exact .int i
  | _, .str x, h => by cases h; exact .str x
  | _, .list ds, h => by cases h with | lst q t => exact .lst (s.seq q) (DpAll.same s ds t)
  | _, .tuple ds, h => by cases h with | tup q t => exact .tup (seqT s q) (DpAll.same s ds t)
  | _, .dict _, h => by cases h
theorem DpAll.same {K : PySem.W.Frag} {H H' : Hp} (s : Same H H') : ∀ {xs : List V} (ds : List PyData), DpAll K H xs ds → DpAll K H' xs ds
  | _, [], h => by cases h; exact .nil
  | _, d :: ds, h => by cases h with | cons q t => exact .cons (Dp.same s d q) (DpAll.same s ds t)
end
end Ov
set_option Elab.async false
set_option linter.all false
set_option maxRecDepth 100000
set_option maxHeartbeats 4000000
set_option Elab.async false
set_option linter.all false
set_option maxRecDepth 100000
set_option maxHeartbeats 4000000
set_option Elab.async false
set_option linter.all false
set_option maxRecDepth 100000
set_option maxHeartbeats 4000000
namespace Ov
open PySem L2
/-! a heap without the box, and without what else is set aside -/
open Classical in
noncomputable def off (S : Addr → Prop) (H : Hp) : Hp := fun b => if S b then none else H b
theorem off_ne {S : Addr → Prop} {b : Addr} {H : Hp} (h : ¬ S b) : off S H b = H b := if_neg h
theorem off_at {S : Addr → Prop} {H : Hp} {b : Addr} {o : HO} (h : off S H b = some o) : ¬ S b ∧ H b = some o := by
  unfold off at h
  split at h
  · cases h
  · exact ⟨by assumption, h⟩
theorem off_sub (S : Addr → Prop) (H : Hp) : Same (off S H) H := fun b o h => (off_at h).2
/-! data of a bounded form -/
def leaf (m : Nat) : PyData → Prop
  | .none => True
  | .bool _ => True
  | .int i => -(10 ^ 30 + (m : Int)) ≤ i ∧ i ≤ 10 ^ 30 + (m : Int)
  | .str x => (reprText x).length ≤ 1100
  | _ => False
def Bd (m : Nat) : Nat → PyData → Prop
  | 0, d => leaf m d
  | n + 1, d => leaf m d ∨ ∃ ds : List PyData, (d = .list ds ∨ d = .tuple ds) ∧ ds.length ≤ 16 + m ∧ ∀ e ∈ ds, Bd m n e
theorem leaf.mono {m k : Nat} (h : m ≤ k) : ∀ {d : PyData}, leaf m d → leaf k d
  | .none, _ => trivial
  | .bool _, _ => trivial
  | .int i, z => by
    obtain ⟨a, b⟩ := z
    exact ⟨by omega, by omega⟩
  | .str _, z => z
theorem Bd.mono {m k : Nat} (h : m ≤ k) : ∀ {n j : Nat} {d : PyData}, n ≤ j → Bd m n d → Bd k j d
  | 0, 0, _, _, z => leaf.mono h z
  | 0, j + 1, _, _, z => .inl (leaf.mono h z)
  | n + 1, j + 1, d, le, z => by
    rcases z with z | ⟨ds, e, l, a⟩
    · exact .inl (leaf.mono h z)
    · exact .inr ⟨ds, e, by omega, fun x hx => Bd.mono h (by omega) (a x hx)⟩
def Ln : Nat → Nat
  | 0 => 2000
  | n + 1 => 18 * (Ln n + 2) + 3
def Fits (n : Nat) (d : PyData) : Prop := d.hasDict = false ∧ d.depth ≤ n + 1 ∧ d.showable = true ∧ d.shown.length ≤ Ln n
theorem log_small {i : Int} (h : -(10 ^ 30 + 2) ≤ i ∧ i ≤ 10 ^ 30 + 2) : i.natAbs.log2 < 1920 := by
  by_cases z : i.natAbs = 0
  · rw [z]
    decide
  · have lt : i.natAbs < 2 ^ 100 := by omega
    exact Nat.lt_trans ((Nat.log2_lt z).mpr lt) (by decide)
theorem leaf_fits {m : Nat} (hm : m ≤ 2) : ∀ {d : PyData}, leaf m d → Fits 0 d
  | .none, _ => ⟨rfl, by decide, rfl, by decide⟩
  | .bool b, _ => ⟨rfl, by show _ ≤ 1; simp [PyData.depth], rfl, by cases b <;> decide⟩
  | .int i, z => by
    have l := log_small (i := i) (by obtain ⟨a, b⟩ := z; exact ⟨by omega, by omega⟩)
    refine ⟨rfl, by simp [PyData.depth], decide_eq_true l, ?_⟩
    have := PyProof.Rows.int_text_len_1921 l
    show (Str.ofString (toString i)).length ≤ 2000
    omega
  | .str x, z => ⟨rfl, by simp [PyData.depth], rfl, by
    have : (reprText x).length ≤ 1100 := z
    show (reprText x).length ≤ 2000
    omega⟩
theorem all_fits {n : Nat} : ∀ {ds : List PyData}, (∀ e ∈ ds, Fits n e) → PyData.hasDictAll ds = false ∧ PyData.depthAll ds ≤ n + 1 ∧ PyData.showableAll ds = true ∧ ((PyData.shownAll ds).map (·.length)).sum ≤ ds.length * Ln n ∧ (PyData.shownAll ds).length = ds.length
  | [], _ => ⟨rfl, Nat.zero_le _, rfl, Nat.zero_le _, rfl⟩
  | d :: r, h => by
    obtain ⟨a1, a2, a3, a4⟩ := h d (List.mem_cons_self ..)
    obtain ⟨b1, b2, b3, b4, b5⟩ := all_fits (ds := r) fun e he => h e (List.mem_cons_of_mem _ he)
    refine ⟨?_, ?_, ?_, ?_, ?_⟩
    · show (PyData.hasDict d || PyData.hasDictAll r) = false
      rw [a1, b1]
      rfl
    · show max d.depth (PyData.depthAll r) ≤ n + 1
      omega
    · show (PyData.showable d && PyData.showableAll r) = true
      rw [a3, b3]
      rfl
    · show d.shown.length + ((PyData.shownAll r).map (·.length)).sum ≤ (r.length + 1) * Ln n
      rw [Nat.succ_mul]
      omega
    · show (PyData.shownAll r).length + 1 = r.length + 1
      rw [b5]
theorem Bd.fits {m : Nat} (hm : m ≤ 2) : ∀ {n : Nat} {d : PyData}, Bd m n d → Fits n d
  | 0, d, h => leaf_fits hm h
  | n + 1, d, h => by
    rcases h with h | ⟨ds, e, l, a⟩
    · obtain ⟨a1, a2, a3, a4⟩ := leaf_fits hm h
      refine ⟨a1, by omega, a3, Nat.le_trans a4 ?_⟩
      clear a4
      show 2000 ≤ Ln (n + 1)
      have : ∀ k, 2000 ≤ Ln k := fun k => by
        induction k with
        | zero => exact Nat.le_refl _
        | succ k ih => show 2000 ≤ 18 * (Ln k + 2) + 3; omega
      exact this _
    · obtain ⟨b1, b2, b3, b4, b5⟩ := all_fits fun e he => Bd.fits hm (a e he)
      have w : ds.length * Ln n ≤ 18 * Ln n := Nat.mul_le_mul_right _ (by omega)
      have fin : ∀ x : Nat, x ≤ ((PyData.shownAll ds).map (·.length)).sum + 2 * (PyData.shownAll ds).length + 3 → x ≤ Ln (n + 1) := fun x hx => by
        show x ≤ 18 * (Ln n + 2) + 3
        omega
      rcases e with rfl | rfl
      · exact ⟨b1, by show PyData.depthAll ds + 1 ≤ _; omega, b3, fin _ (listText_len_le _)⟩
      · exact ⟨b1, by show PyData.depthAll ds + 1 ≤ _; omega, b3, fin _ (tupleText_len_le _)⟩
theorem Bd.size {n : Nat} (h : n ≤ 3) {d : PyData} (f : Fits n d) : d.shown.length ≤ sizeLine := by
  have : ∀ k, k ≤ 3 → Ln k ≤ 2 ^ 24 := fun k hk => by
    match k, hk with
    | 0, _ => decide
    | 1, _ => decide
    | 2, _ => decide
    | 3, _ => decide
  exact Nat.le_trans f.2.2.2 (this n h)
end Ov
set_option Elab.async false
set_option linter.all false
set_option maxRecDepth 100000
set_option maxHeartbeats 4000000
namespace Ov
open PySem L2
/-! data that are sequences, or not; one item less, more, another -/
section
variable {m n : Nat} {ds : List PyData}
/-- a sequence of such data, wider by one at most -/
theorem Bd.seq (l : ds.length ≤ 16 + (m + 1)) (a : ∀ e ∈ ds, Bd (m + 1) n e) : Bd (m + 1) (n + 1) (.list ds) ∧ Bd (m + 1) (n + 1) (.tuple ds) := ⟨.inr ⟨ds, .inl rfl, l, a⟩, .inr ⟨ds, .inr rfl, l, a⟩⟩
end
end Ov
set_option Elab.async false
set_option linter.all false
set_option maxRecDepth 100000
set_option maxHeartbeats 4000000
namespace Ov
open PySem PySem.Spec PyProof.Rows L2
/-! an error without fields: raised, caught, asked for its class -/
section
variable {X : Cx}
/-! caught, with a field or without -/
def Cau0 (K : PySem.W.Frag) (H : Hp) (a C : Addr) : Prop := ∃ k : Nat, Cl K C k ∧ H a = some (exg a C none)
def CauF (K : PySem.W.Frag) (H : Hp) (a C : Addr) (f : Str) (u : V) : Prop := (f ≠ "" ∧ Cau K H a C [(f, u)]) ∨ (f = "" ∧ Cau0 K H a C)
def CauX (K : PySem.W.Frag) (H : Hp) (a C : Addr) : Prop := (∃ fs, Cau K H a C fs) ∨ Cau0 K H a C
theorem CauF.same {K : PySem.W.Frag} {H H' : Hp} {a C : Addr} {f : Str} {u : V} (h : CauF K H a C f u) (s : Same H H') : CauF K H' a C f u := by
  rcases h with ⟨n, h⟩ | ⟨n, k, x, h⟩
  · exact .inl ⟨n, h.same s⟩
  · exact .inr ⟨n, k, x, s _ _ h⟩
theorem CauF.x {K : PySem.W.Frag} {H : Hp} {a C : Addr} {f : Str} {u : V} (h : CauF K H a C f u) : CauX K H a C := by
  rcases h with ⟨n, h⟩ | ⟨n, h⟩
  · exact .inl ⟨_, h⟩
  · exact .inr h
theorem CauX.same {K : PySem.W.Frag} {H H' : Hp} {a C : Addr} (h : CauX K H a C) (s : Same H H') : CauX K H' a C := by
  rcases h with ⟨fs, h⟩ | ⟨k, x, h⟩
  · exact .inl ⟨fs, h.same s⟩
  · exact .inr ⟨k, x, s _ _ h⟩
end
end Ov
set_option Elab.async false
set_option linter.all false
set_option maxRecDepth 100000
set_option maxHeartbeats 2000000
namespace L2
open PySem PySem.Spec PyProof.Rows
/-! dicts whose keys are tuples of numbers and such tuples, their values numbers -/
/-- the object at p is o -/
def objO (p : Addr) (o : Obj) : HO := .ext fun h => h.get? p = some o
mutual
inductive Nk (H : Hp) : V → NestedKey → Prop
  | int (i : Int) : Nk H (.int i) (.num i)
  | tup {a : Addr} {xs : List V} {ks : List NestedKey} : H a = some (.tup xs) → NkAll H xs ks → Nk H (.ref a) (.tup ks)
inductive NkAll (H : Hp) : List V → List NestedKey → Prop
  | nil : NkAll H [] []
  | cons {v : V} {k : NestedKey} {vs : List V} {ks : List NestedKey} : Nk H v k → NkAll H vs ks → NkAll H (v :: vs) (k :: ks)
end
section
variable {P : Program} {w : World} {H H' : Hp} {h : Heap}
mutual
theorem Nk.keep (s : ∀ b xs, H b = some (.tup xs) → H' b = some (.tup xs)) : ∀ (k : NestedKey) {v : V}, Nk H v k → Nk H' v k
  | .num i, _, h => by cases h; exact .int i
  | .tup ks, _, h => by cases h with | tup e t => exact .tup (s _ _ e) (NkAll.keep s ks t)
  | .none, _, h => by cases h
  | .text _, _, h => by cases h
theorem NkAll.keep (s : ∀ b xs, H b = some (.tup xs) → H' b = some (.tup xs)) : ∀ (ks : List NestedKey) {vs : List V}, NkAll H vs ks → NkAll H' vs ks
  | [], _, h => by cases h; exact .nil
  | k :: ks, _, h => by cases h with | cons a t => exact .cons (Nk.keep s k a) (NkAll.keep s ks t)
end
mutual
theorem Nk.hash : ∀ (k : NestedKey) {v : V}, Nk H v k → ∀ w w' : World, k.hash w = k.hash w'
  | .num i, _, _, _, _ => rfl
  | .tup ks, _, x, w, w' => by
    cases x with
    | tup e t =>
      show reduceHash (Builtin.Tuple.tupleHashOf (NestedKey.hashes w ks)) = reduceHash (Builtin.Tuple.tupleHashOf (NestedKey.hashes w' ks))
      rw [NkAll.hash ks t w w']
  | .none, _, x, _, _ => by cases x
  | .text _, _, x, _, _ => by cases x
theorem NkAll.hash : ∀ (ks : List NestedKey) {vs : List V}, NkAll H vs ks → ∀ w w' : World, NestedKey.hashes w ks = NestedKey.hashes w' ks
  | [], _, _, _, _ => rfl
  | k :: ks, _, x, w, w' => by
    cases x with
    | cons a t =>
      show NestedKey.hash w k :: NestedKey.hashes w ks = NestedKey.hash w' k :: NestedKey.hashes w' ks
      rw [Nk.hash k a w w', NkAll.hash ks t w w']
end
end
abbrev NE := NestedKey × Addr × Value
/-- the entries and what they stand for -/
def NX (H : Hp) : List NE → List (NestedKey × Int) → Prop
  | [], [] => True
  | x :: xs, kv :: kvs => (x.1 = kv.1 ∧ kv.1.depth ≤ 8 ∧ Nk H (.ref x.2.1) kv.1 ∧ ∃ t, x.2.2 = Value.int kv.2 t) ∧ NX H xs kvs
  | _, _ => False
theorem NX.keep {H H' : Hp} (s : ∀ b xs, H b = some (.tup xs) → H' b = some (.tup xs)) : ∀ {xs : List NE} {kvs : List (NestedKey × Int)}, NX H xs kvs → NX H' xs kvs
  | [], [], _ => trivial
  | _ :: _, kv :: _, ⟨⟨e, d, n, t⟩, r⟩ => ⟨⟨e, d, Nk.keep s kv.1 n, t⟩, NX.keep s r⟩
  | [], _ :: _, h => h.elim
  | _ :: _, [], h => h.elim
theorem NX.keys {H : Hp} : ∀ {xs : List NE} {kvs : List (NestedKey × Int)}, NX H xs kvs → xs.map (·.1) = kvs.map (·.1)
  | [], [], _ => rfl
  | _ :: _, kv :: _, ⟨⟨e, _⟩, r⟩ => by rw [List.map_cons, List.map_cons, e, NX.keys r]
  | [], _ :: _, h => h.elim
  | _ :: _, [], h => h.elim
theorem NX.len {H : Hp} {xs : List NE} {kvs : List (NestedKey × Int)} (h : NX H xs kvs) : xs.length = kvs.length := by
  have := congrArg List.length h.keys
  rwa [List.length_map, List.length_map] at this
theorem NX.app {H : Hp} : ∀ {xs ys : List NE} {kvs jvs : List (NestedKey × Int)}, NX H xs kvs → NX H ys jvs → NX H (xs ++ ys) (kvs ++ jvs)
  | [], _, [], _, _, h => h
  | _ :: _, _, _ :: _, _, ⟨a, r⟩, h => ⟨a, NX.app r h⟩
  | [], _, _ :: _, _, h, _ => h.elim
  | _ :: _, _, [], _, h, _ => h.elim
theorem NX.get {H : Hp} : ∀ {xs : List NE} {kvs : List (NestedKey × Int)} {i : Nat} {kv : NestedKey × Int}, NX H xs kvs → kvs[i]? = some kv → ∃ b t, xs[i]? = some (kv.1, b, Value.int kv.2 t) ∧ Nk H (.ref b) kv.1
  | (k, b, v) :: _, (k', v') :: _, 0, kv, ⟨⟨e1, e2, e3, t, e4⟩, _⟩, h => by
    cases h
    cases (show k = k' from e1)
    cases (show v = Value.int v' t from e4)
    exact ⟨b, t, rfl, e3⟩
  | _ :: _, _ :: _, i + 1, kv, ⟨_, r⟩, h => NX.get (i := i) r (by simpa using h)
  | [], [], _, _, _, h => by simp at h
  | [], _ :: _, _, _, h, _ => h.elim
  | _ :: _, [], _, _, h, _ => h.elim
/-- what the object o says of the entries -/
def NOb (p : Addr) (o : Obj) (xs : List NE) : Prop := (p == sysModules) = false ∧ o.ExactDict ∧ ∃ es ep, o.data = .dict es ep ∧ ∀ w : World, es.toList = xs.map fun x => (⟨x.1.hash w, .ref x.2.1, x.2.2⟩ : DictEntry)
theorem NX.all {H : Hp} : ∀ {xs : List NE} {kvs : List (NestedKey × Int)}, NX H xs kvs → ∀ x ∈ xs, x.1.depth ≤ 8 ∧ Nk H (.ref x.2.1) x.1
  | [], [], _, x, hx => by cases hx
  | y :: _, kv :: _, ⟨⟨e, d, n, _⟩, r⟩, x, hx => by
    rcases List.mem_cons.mp hx with rfl | hx
    · rw [e]; exact ⟨d, n⟩
    · exact NX.all r x hx
  | [], _ :: _, h, _, _ => h.elim
  | _ :: _, [], h, _, _ => h.elim
/-! look-up -/
def lookN : List (NestedKey × Int) → NestedKey → Option Int
  | [], _ => none
  | (j, v) :: r, k => if j = k then some v else lookN r k
def putN (kvs : List (NestedKey × Int)) (k : NestedKey) (v : Int) : List (NestedKey × Int) := if (lookN kvs k).isSome = true then kvs.map (fun kv => if kv.1 = k then (kv.1, v) else kv) else kvs ++ [(k, v)]
theorem NX.look {H : Hp} (k : NestedKey) : ∀ {xs : List NE} {kvs : List (NestedKey × Int)}, NX H xs kvs → (lookN kvs k = none ∧ atKey xs k = none) ∨ ∃ v b t, lookN kvs k = some v ∧ atKey xs k = some (b, Value.int v t)
  | [], [], _ => .inl ⟨rfl, rfl⟩
  | (j, b, u) :: xs, (j', v') :: kvs, ⟨⟨e1, _, _, t, e4⟩, r⟩ => by
    cases (show j = j' from e1)
    cases (show u = Value.int v' t from e4)
    by_cases e : j = k
    · exact .inr ⟨v', b, t, if_pos e, by unfold atKey; rw [List.find?_cons_of_pos (by simpa using e)]; rfl⟩
    · have e2 : atKey ((j, b, Value.int v' t) :: xs) k = atKey xs k := by unfold atKey; rw [List.find?_cons_of_neg (by simpa using e)]
      have e3 : lookN ((j, v') :: kvs) k = lookN kvs k := if_neg e
      rw [e2, e3]
      exact NX.look k r
  | [], _ :: _, h => h.elim
  | _ :: _, [], h => h.elim
theorem NX.map {H : Hp} {k : NestedKey} {v : Int} {t : Tok} : ∀ {xs : List NE} {kvs : List (NestedKey × Int)}, NX H xs kvs → NX H (xs.map (putAt k (Value.int v t))) (kvs.map fun kv => if kv.1 = k then (kv.1, v) else kv)
  | [], [], _ => trivial
  | (j, b, u) :: xs, (j', v') :: kvs, ⟨⟨e1, e2, e3, e4⟩, r⟩ => by
    cases (show j = j' from e1)
    refine ⟨?_, NX.map r⟩
    show (putAt k (Value.int v t) (j, b, u)).1 = (if j = k then (j, v) else (j, v')).1 ∧ _
    by_cases e : j = k
    · rw [show putAt k (Value.int v t) (j, b, u) = (j, b, Value.int v t) from if_pos e]
      simp only [if_pos e]
      exact ⟨trivial, e2, e3, t, rfl⟩
    · rw [show putAt k (Value.int v t) (j, b, u) = (j, b, u) from if_neg e]
      simp only [if_neg e]
      exact ⟨trivial, e2, e3, e4⟩
  | [], _ :: _, h => h.elim
  | _ :: _, [], h => h.elim
theorem NX.put {H : Hp} {xs : List NE} {kvs : List (NestedKey × Int)} {k : NestedKey} {b : Addr} {v : Int} {t : Tok} (r : NX H xs kvs) (d : k.depth ≤ 8) (n : Nk H (.ref b) k) : NX H (storedH xs k b (Value.int v t)) (putN kvs k v) := by
  unfold storedH putN
  rcases r.look k with ⟨e1, e2⟩ | ⟨v', b', t', e1, e2⟩
  · rw [e1, e2]
    exact r.app ⟨⟨rfl, d, n, t, rfl⟩, trivial⟩
  · rw [e1, e2]
    exact r.map
end L2
set_option Elab.async false
set_option linter.all false
set_option maxRecDepth 100000
set_option maxHeartbeats 4000000
namespace Ov
open PySem L2
/-! Programs over plain data: what a slot holds is data, or a list that this slot alone owns.
 A reading of the hand layer is held against a plain function over the slots' data. -/
/-! data: as Dp, but no list of the written part -/
/-- a dict of numbers, its values numbers too -/
def kvI (kvs : List (Int × Int)) : List (L2.Key × V) := kvs.map fun kv => (Sum.inl kv.1, V.int kv.2)
/-- a dict of tuples of numbers, its values numbers -/
def kvK (kvs : List (List Int × Int)) : List (List L2.Key × V) := kvs.map fun kv => (kv.1.map Sum.inl, V.int kv.2)
def kvS (ks : List (List Int)) : List (List L2.Key × V) := ks.map fun k => (k.map Sum.inl, V.bl true)
def dkD (kvs : List (List Int × Int)) : PyData := .dict (kvs.map fun kv => (.tuple (kv.1.map .int), .int kv.2))
def dcD (kvs : List (Int × Int)) : PyData := .dict (kvs.map fun kv => (.int kv.1, .int kv.2))
/-- a number, or a tuple of numbers -/
def Fv (K : PySem.W.Frag) (H : Hp) (v : V) (d : PyData) : Prop := (∃ i : Int, v = .int i ∧ d = .int i) ∨ ∃ (p : Addr) (ns : List Int), v = .ref p ∧ TP H p (ns.map V.int) ∧ d = .tuple (ns.map .int)
theorem Fv.same {K : PySem.W.Frag} {H H' : Hp} (s : Same H H') {v : V} {d : PyData} (h : Fv K H v d) : Fv K H' v d := h.imp id fun ⟨p, ns, e1, e2, e3⟩ => ⟨p, ns, e1, e2.same s, e3⟩
def kvV (kvs : List (Int × V × PyData)) : List (L2.Key × V) := kvs.map fun x => (Sum.inl x.1, x.2.1)
mutual
inductive Da (K : PySem.W.Frag) (H : Hp) : V → PyData → Prop
  | non : Da K H .non .none
  | bl (b : Bool) : Da K H (.bl b) (.bool b)
  | int (i : Int) : Da K H (.int i) (.int i)
  | str (x : Str) : Da K H (.str x) (.str x)
  | lst {a : Addr} {xs : List V} {ds : List PyData} : SqL K H a xs → DaAll K H xs ds → Da K H (.ref a) (.list ds)
  | tup {a : Addr} {xs : List V} {ds : List PyData} : TP H a xs → DaAll K H xs ds → Da K H (.ref a) (.tuple ds)
  | dct {a : Addr} {d : List (PyData × PyData)} (kvs : List (Int × V × PyData)) : d = kvs.map (fun x => (.int x.1, x.2.2)) → H a = some (.dK (kvV kvs)) → (∀ x ∈ kvs, Fv K H x.2.1 x.2.2) → Da K H (.ref a) (.dict d)
  | dtk {a : Addr} {d : List (PyData × PyData)} (kvs : List (List Int × Int)) : kvs ≠ [] → d = kvs.map (fun kv => (.tuple (kv.1.map .int), .int kv.2)) → H a = some (.dT (kvK kvs)) → Da K H (.ref a) (.dict d)
inductive DaAll (K : PySem.W.Frag) (H : Hp) : List V → List PyData → Prop
  | nil : DaAll K H [] []
  | cons {v : V} {vs : List V} {d : PyData} {ds : List PyData} : Da K H v d → DaAll K H vs ds → DaAll K H (v :: vs) (d :: ds)
end
section
variable {K : PySem.W.Frag} {H H' : Hp}
theorem Da.dctI {a : Addr} {d : List (PyData × PyData)} (kvs : List (Int × Int)) (e : d = kvs.map (fun kv => (.int kv.1, .int kv.2))) (h : H a = some (.dK (kvI kvs))) : Da K H (.ref a) (.dict d) :=
  .dct (kvs.map fun kv => (kv.1, V.int kv.2, PyData.int kv.2)) (by rw [e, List.map_map]; rfl) (by rw [h]; unfold kvV kvI; rw [List.map_map]; rfl) fun x hx => by
    obtain ⟨kv, _, rfl⟩ := List.mem_map.mp hx
    exact .inl ⟨_, rfl, rfl⟩
theorem rd_same {a : Addr} {xs : List V} (s : Same H H') (h : SqL K H a xs) : SqL K H' a xs := h.imp (fun h => h.imp (fun z => s _ _ z) fun ⟨u, z⟩ => ⟨u, s _ _ z⟩) id
theorem rd_sq {a : Addr} {xs : List V} (h : SqL K H a xs) : SqL K H a xs := h
mutual
theorem Da.same (s : Same H H') : ∀ {v : V} (d : PyData), Da K H v d → Da K H' v d
  | _, .none, h => by cases h; exact .non
  | _, .bool b, h => by cases h; exact .bl b
  | _, .int i, h => by cases h; exact .int i
  | _, .str x, h => by cases h; exact .str x
  | _, .list ds, h => by cases h with | lst q t => exact .lst (rd_same s q) (DaAll.same s ds t)
  | _, .tuple ds, h => by cases h with | tup q t => exact .tup (q.same s) (DaAll.same s ds t)
  | _, .dict _, h => by cases h with
    | dct kvs e q f => exact .dct kvs e (s _ _ q) fun x hx => (f x hx).same s
    | dtk kvs n e q => exact .dtk kvs n e (s _ _ q)
theorem DaAll.same (s : Same H H') : ∀ {xs : List V} (ds : List PyData), DaAll K H xs ds → DaAll K H' xs ds
  | _, [], h => by cases h; exact .nil
  | _, d :: ds, h => by cases h with | cons q t => exact .cons (Da.same s d q) (DaAll.same s ds t)
end
mutual
theorem Da.dp : ∀ {v : V} (d : PyData), d.hasDict = false → Da K H v d → Dp K H v d
  | _, .none, _, h => by cases h; exact .non
  | _, .bool b, _, h => by cases h; exact .bl b
  | _, .int i, _, h => by cases h; exact .int i
  | _, .str x, _, h => by cases h; exact .str x
  | _, .list ds, n, h => by cases h with | lst q t => exact .lst (rd_sq q) (DaAll.dp ds n t)
  | _, .tuple ds, n, h => by cases h with | tup q t => exact .tup q.sq (DaAll.dp ds n t)
  | _, .dict _, n, h => by cases n
theorem DaAll.dp : ∀ {xs : List V} (ds : List PyData), PyData.hasDictAll ds = false → DaAll K H xs ds → DpAll K H xs ds
  | _, [], _, h => by cases h; exact .nil
  | _, d :: ds, n, h => by cases h with | cons q t => exact .cons (Da.dp d (Bool.or_eq_false_iff.mp n).1 q) (DaAll.dp ds (Bool.or_eq_false_iff.mp n).2 t)
end
theorem da_ty {v : V} {d : PyData} (h : Da K H v d) : TyX K H v (Value.type (tyD d)) := by
  cases h with
  | non => exact dp_ty .non
  | bl b => exact dp_ty (.bl b)
  | int i => exact dp_ty (.int i)
  | str x => exact dp_ty (.str x)
  | lst q t => exact tyL q
  | tup q t => exact tyT q.sq
  | dct kvs e q _ => exact .base (.dK q)
  | dtk kvs n e q => exact .base (.dT q)
mutual
theorem lay_nd : ∀ (d : PyData), d.canLay0 = true → d.hasDict = false
  | .none, _ => rfl
  | .bool _, _ => rfl
  | .int _, _ => rfl
  | .str _, _ => rfl
  | .list ds, h => lay_ndAll ds h
  | .tuple ds, h => lay_ndAll ds h
  | .dict _, h => by cases h
theorem lay_ndAll : ∀ (ds : List PyData), PyData.canLayAll0 ds = true → PyData.hasDictAll ds = false
  | [], _ => rfl
  | d :: ds, h => by
    have h' : (PyData.canLay0 d && PyData.canLayAll0 ds) = true := h
    rw [Bool.and_eq_true] at h'
    exact Bool.or_eq_false_iff.mpr ⟨lay_nd d h'.1, lay_ndAll ds h'.2⟩
end
theorem shp_nd {d : PyData} (h : SeqAt.shaped d = true) : d.hasDict = false := by
  have h' : (d.canLay0 && decide (d.depth ≤ 64)) = true := h
  rw [Bool.and_eq_true] at h'
  exact lay_nd d h'.1
theorem daAll_len : ∀ {xs : List V} {ds : List PyData}, DaAll K H xs ds → xs.length = ds.length
  | _, _, .nil => rfl
  | _, _, .cons _ t => congrArg (· + 1) (daAll_len t)
theorem daAll_get : ∀ {xs : List V} {ds : List PyData}, DaAll K H xs ds → ∀ {i : Nat} {d : PyData}, ds[i]? = some d → ∃ x, xs[i]? = some x ∧ Da K H x d
  | _, _, .nil, i, d, h => by simp at h
  | _, _, .cons h t, 0, d, e => by cases e; exact ⟨_, rfl, h⟩
  | _, _, .cons h t, i + 1, d, e => daAll_get t (i := i) e
theorem daAll_append : ∀ {xs ys : List V} {ds es : List PyData}, DaAll K H xs ds → DaAll K H ys es → DaAll K H (xs ++ ys) (ds ++ es)
  | _, _, _, _, .nil, t => t
  | _, _, _, _, .cons h r, t => .cons h (daAll_append r t)
theorem daAll_drop : ∀ {xs : List V} {ds : List PyData}, DaAll K H xs ds → ∀ i : Nat, DaAll K H (xs.drop i) (ds.drop i)
  | _, _, t, 0 => t
  | _, _, .nil, i + 1 => .nil
  | _, _, .cons _ r, i + 1 => daAll_drop r i
theorem daAll_take : ∀ {xs : List V} {ds : List PyData}, DaAll K H xs ds → ∀ i : Nat, DaAll K H (xs.take i) (ds.take i)
  | _, _, _, 0 => by rw [List.take_zero, List.take_zero]; exact .nil
  | _, _, .nil, i + 1 => .nil
  | _, _, .cons h r, i + 1 => .cons h (daAll_take r i)
theorem daAll_erase : ∀ {xs : List V} {ds : List PyData}, DaAll K H xs ds → ∀ i : Nat, DaAll K H (xs.eraseIdx i) (ds.eraseIdx i)
  | _, _, .nil, i => .nil
  | _, _, .cons _ r, 0 => r
  | _, _, .cons h r, i + 1 => .cons h (daAll_erase r i)
theorem daAll_set {v : V} {d : PyData} (z : Da K H v d) : ∀ {xs : List V} {ds : List PyData}, DaAll K H xs ds → ∀ i : Nat, DaAll K H (xs.set i v) (ds.set i d)
  | _, _, .nil, i => .nil
  | _, _, .cons _ r, 0 => .cons z r
  | _, _, .cons h r, i + 1 => .cons h (daAll_set z r i)
end
/-- no tuple, and not locked -/
def NT : HO → Prop
  | .tup _ => False
  | .frz _ _ => False
  | _ => True
theorem off_P {S : Addr → Prop} {a : Addr} {H : Hp} {xs : List V} (hS : ∀ b, S b → ∃ o, H b = some o ∧ NT o) (h : TP H a xs) : TP (off S H) a xs := by
  refine (off_ne fun z => ?_).trans h
  obtain ⟨ys, e, n⟩ := hS a z
  rw [h] at e
  cases e
  exact n
theorem TP.off {S : Addr → Prop} {a : Addr} {H : Hp} {xs : List V} (h : TP (off S H) a xs) : TP H a xs := off_sub S H _ _ h
inductive It1 where
  | dat (d : PyData)
  | own (ds : List PyData)
inductive Wv where
  | dat (d : PyData)
  | own (xs : List It1)
  | exc (C : Addr) (f : Str) (d : PyData)
  /-- a dict of numbers, each True -/
  | dct (ks : List Int)
  /-- a dict of numbers, its values numbers too -/
  | dci (kvs : List (Int × Int))
  /-- a dict of tuples of numbers, its values numbers -/
  | dtk (kvs : List (List Int × Int))
  /-- a dict of tuples of numbers, its values True -/
  | dts (ks : List (List Int))
  /-- data that stands at a known value -/
  | pin (u : V) (d : PyData)
  /-- a dict of nested keys, its values numbers: one's own -/
  | dtn (kvs : List (NestedKey × Int))
  /-- the same, read only -/
  | nd (kvs : List (NestedKey × Int))
  /-- a dict of numbers, its values numbers, that nobody writes any more -/
  | lkd (kvs : List (Int × Int))
abbrev En := List (Option Wv)
def un (B : Addr → Prop) (l : List Addr) : Addr → Prop := fun b => B b ∨ b ∈ l
/-- all but what stands at l is kept -/
def Fr (l : List Addr) (H H' : Hp) : Prop := ∀ b o, b ∉ l → H b = some o → H' b = some o
def kvT (ks : List Int) : List (L2.Key × V) := ks.map fun k => (Sum.inl k, V.bl true)
/-- the dict of nested keys at p -/
def NdR (G : Hp) (p : Addr) (kvs : List (NestedKey × Int)) : Prop := ∃ o xs, G p = some (objO p o) ∧ NOb p o xs ∧ NX G xs kvs ∧ (kvs.map (·.1)).Nodup
theorem NdR.same {G G' : Hp} (s : Same G G') {p : Addr} {kvs : List (NestedKey × Int)} (h : NdR G p kvs) : NdR G' p kvs := by
  obtain ⟨o, xs, h1, h2, h3, h4⟩ := h
  exact ⟨o, xs, s _ _ h1, h2, h3.keep fun b xs e => s _ _ e, h4⟩
section
variable {K : PySem.W.Frag}
def Rp1 (K : PySem.W.Frag) (H G : Hp) (v : V) (x : It1) (l : List Addr) : Prop :=
  match x with
  | .dat d => l = [] ∧ Da K G v d
  | .own ds => ∃ q us, v = .ref q ∧ l = [q] ∧ H q = some (.lst us) ∧ DaAll K G us ds
def Rp1s (K : PySem.W.Frag) (H G : Hp) : List V → List It1 → List Addr → Prop
  | [], [], l => l = []
  | v :: vs, x :: xs, l => ∃ a b, l = a ++ b ∧ Rp1 K H G v x a ∧ Rp1s K H G vs xs b
  | _, _, _ => False
def RpW (K : PySem.W.Frag) (H G : Hp) (v : V) (w : Wv) (l : List Addr) : Prop :=
  match w with
  | .dat d => l = [] ∧ Da K G v d
  | .own xs => ∃ p vs b, v = .ref p ∧ l = p :: b ∧ H p = some (.lst vs) ∧ Rp1s K H G vs xs b
  | .exc C f d => l = [] ∧ ∃ a u, v = .ref a ∧ CauF K G a C f u ∧ (f ≠ "" → Da K G u d)
  | .dct ks => ∃ p, v = .ref p ∧ l = [p] ∧ H p = some (.dK (kvT ks))
  | .dci kvs => ∃ p, v = .ref p ∧ l = [p] ∧ H p = some (.dK (kvI kvs))
  | .dtk kvs => ∃ p, v = .ref p ∧ l = [p] ∧ H p = some (.dT (kvK kvs))
  | .dts ks => ∃ p, v = .ref p ∧ l = [p] ∧ H p = some (.dT (kvS ks))
  | .pin u d => l = [] ∧ v = u ∧ Da K G v d
  | .dtn kvs => ∃ p o xs, v = .ref p ∧ l = [p] ∧ H p = some (objO p o) ∧ NOb p o xs ∧ NX G xs kvs ∧ (kvs.map (·.1)).Nodup
  | .nd kvs => l = [] ∧ ∃ p, v = .ref p ∧ NdR G p kvs
  | .lkd kvs => l = [] ∧ ∃ p od, v = .ref p ∧ G p = some (.frz od (.dK (kvI kvs)))
def RpS (K : PySem.W.Frag) (H G : Hp) (s : Option V) (e : Option Wv) (l : List Addr) : Prop :=
  match e with
  | none => l = []
  | some w => ∃ v, s = some v ∧ RpW K H G v w l
def RpE (K : PySem.W.Frag) (H G : Hp) : St → En → List Addr → Prop
  | [], [], l => l = []
  | s :: σ, e :: env, l => ∃ a b, l = a ++ b ∧ RpS K H G s e a ∧ RpE K H G σ env b
  | _, _, _ => False
variable {H H' G G' : Hp}
theorem Rp1.mv (s : Same G G') {v : V} {x : It1} {l : List Addr} (k : ∀ q ∈ l, H' q = H q) (h : Rp1 K H G v x l) : Rp1 K H' G' v x l := by
  cases x with
  | dat d => exact ⟨h.1, Da.same s d h.2⟩
  | own ds =>
    obtain ⟨q, us, e1, e2, e3, e4⟩ := h
    exact ⟨q, us, e1, e2, (k q (by rw [e2]; exact List.mem_cons_self ..)).trans e3, DaAll.same s ds e4⟩
theorem Rp1s.mv (s : Same G G') : ∀ {vs : List V} {xs : List It1} {l : List Addr}, (∀ q ∈ l, H' q = H q) → Rp1s K H G vs xs l → Rp1s K H' G' vs xs l
  | [], [], l, _, h => h
  | v :: vs, x :: xs, l, k, ⟨a, b, e, h1, h2⟩ => ⟨a, b, e, h1.mv s fun q z => k q (by rw [e]; exact List.mem_append_left _ z), Rp1s.mv s (fun q z => k q (by rw [e]; exact List.mem_append_right _ z)) h2⟩
theorem RpW.mv (s : Same G G') {v : V} {w : Wv} {l : List Addr} (k : ∀ q ∈ l, H' q = H q) (h : RpW K H G v w l) : RpW K H' G' v w l := by
  cases w with
  | dat d => exact ⟨h.1, Da.same s d h.2⟩
  | own xs =>
    obtain ⟨p, vs, b, e1, e2, e3, e4⟩ := h
    exact ⟨p, vs, b, e1, e2, (k p (by rw [e2]; exact List.mem_cons_self ..)).trans e3, Rp1s.mv s (fun q z => k q (by rw [e2]; exact List.mem_cons_of_mem _ z)) e4⟩
  | exc C f d =>
    obtain ⟨e, a, u, e1, e2, e3⟩ := h
    exact ⟨e, a, u, e1, e2.same s, fun z => Da.same s d (e3 z)⟩
  | dct ks =>
    obtain ⟨p, e1, e2, e3⟩ := h
    exact ⟨p, e1, e2, (k p (by rw [e2]; exact List.mem_cons_self ..)).trans e3⟩
  | dci ks =>
    obtain ⟨p, e1, e2, e3⟩ := h
    exact ⟨p, e1, e2, (k p (by rw [e2]; exact List.mem_cons_self ..)).trans e3⟩
  | dtk ks =>
    obtain ⟨p, e1, e2, e3⟩ := h
    exact ⟨p, e1, e2, (k p (by rw [e2]; exact List.mem_cons_self ..)).trans e3⟩
  | pin u d => exact ⟨h.1, h.2.1, Da.same s d h.2.2⟩
  | nd kvs => obtain ⟨e1, p, e2, e3⟩ := h; exact ⟨e1, p, e2, e3.same s⟩
  | lkd kvs => obtain ⟨e1, p, od, e2, e3⟩ := h; exact ⟨e1, p, od, e2, s _ _ e3⟩
  | dtn kvs =>
    obtain ⟨p, o, xs, e1, e2, e3, e4, e5, e6⟩ := h
    exact ⟨p, o, xs, e1, e2, (k p (by rw [e2]; exact List.mem_cons_self ..)).trans e3, e4, e5.keep fun b xs e => s _ _ e, e6⟩
  | dts ks =>
    obtain ⟨p, e1, e2, e3⟩ := h
    exact ⟨p, e1, e2, (k p (by rw [e2]; exact List.mem_cons_self ..)).trans e3⟩
theorem RpS.mv (s : Same G G') {v : Option V} {e : Option Wv} {l : List Addr} (k : ∀ q ∈ l, H' q = H q) (h : RpS K H G v e l) : RpS K H' G' v e l := by
  cases e with
  | none => exact h
  | some w =>
    obtain ⟨x, e1, e2⟩ := h
    exact ⟨x, e1, e2.mv s k⟩
theorem RpE.mv (s : Same G G') : ∀ {σ : St} {env : En} {l : List Addr}, (∀ q ∈ l, H' q = H q) → RpE K H G σ env l → RpE K H' G' σ env l
  | [], [], l, _, h => h
  | v :: σ, e :: env, l, k, ⟨a, b, z, h1, h2⟩ => ⟨a, b, z, h1.mv s fun q y => k q (by rw [z]; exact List.mem_append_left _ y), RpE.mv s (fun q y => k q (by rw [z]; exact List.mem_append_right _ y)) h2⟩
theorem Rp1.trk {v : V} {x : It1} {l : List Addr} (h : Rp1 K H G v x l) : ∀ q ∈ l, ∃ o, H q = some o ∧ NT o := by
  cases x with
  | dat d => intro q z; rw [h.1] at z; cases z
  | own ds =>
    obtain ⟨p, us, e1, e2, e3, e4⟩ := h
    intro q z
    rw [e2] at z
    cases List.mem_singleton.mp z
    exact ⟨_, e3, trivial⟩
theorem Rp1s.trk : ∀ {vs : List V} {xs : List It1} {l : List Addr}, Rp1s K H G vs xs l → ∀ q ∈ l, ∃ o, H q = some o ∧ NT o
  | [], [], l, h => fun q z => by rw [show l = [] from h] at z; cases z
  | v :: vs, x :: xs, l, ⟨a, b, e, h1, h2⟩ => fun q z => by
    rw [e] at z
    exact (List.mem_append.mp z).elim (h1.trk q) (Rp1s.trk h2 q)
theorem RpW.trk {v : V} {w : Wv} {l : List Addr} (h : RpW K H G v w l) : ∀ q ∈ l, ∃ o, H q = some o ∧ NT o := by
  cases w with
  | dat d => intro q z; rw [h.1] at z; cases z
  | own xs =>
    obtain ⟨p, vs, b, e1, e2, e3, e4⟩ := h
    intro q z
    rw [e2] at z
    rcases List.mem_cons.mp z with z | z
    · cases z; exact ⟨_, e3, trivial⟩
    · exact e4.trk q z
  | exc C f d => intro q z; rw [h.1] at z; cases z
  | dct ks =>
    obtain ⟨p, e1, e2, e3⟩ := h
    intro q z
    rw [e2] at z
    cases List.mem_singleton.mp z
    exact ⟨_, e3, trivial⟩
  | dci ks =>
    obtain ⟨p, e1, e2, e3⟩ := h
    intro q z
    rw [e2] at z
    cases List.mem_singleton.mp z
    exact ⟨_, e3, trivial⟩
  | dtk ks =>
    obtain ⟨p, e1, e2, e3⟩ := h
    intro q z
    rw [e2] at z
    cases List.mem_singleton.mp z
    exact ⟨_, e3, trivial⟩
  | pin u d => intro q z; rw [h.1] at z; cases z
  | nd kvs => intro q z; rw [h.1] at z; cases z
  | lkd kvs => intro q z; rw [h.1] at z; cases z
  | dtn kvs =>
    obtain ⟨p, o, xs, e1, e2, e3, _⟩ := h
    intro q z
    rw [e2] at z
    cases List.mem_singleton.mp z
    exact ⟨_, e3, trivial⟩
  | dts ks =>
    obtain ⟨p, e1, e2, e3⟩ := h
    intro q z
    rw [e2] at z
    cases List.mem_singleton.mp z
    exact ⟨_, e3, trivial⟩
theorem RpE.trk : ∀ {σ : St} {env : En} {l : List Addr}, RpE K H G σ env l → ∀ q ∈ l, ∃ o, H q = some o ∧ NT o
  | [], [], l, h => fun q z => by rw [show l = [] from h] at z; cases z
  | s :: σ, e :: env, l, ⟨a, b, z, h1, h2⟩ => fun q y => by
    rw [z] at y
    refine (List.mem_append.mp y).elim (fun y => ?_) (RpE.trk h2 q)
    cases e with
    | none => rw [show a = [] from h1] at y; cases y
    | some w => obtain ⟨v, _, h1⟩ := h1; exact h1.trk q y
/-- one slot, and what may come in its place -/
theorem RpE.focus : ∀ {σ : St} {env : En} {l : List Addr} {i : Nat} {e : Option Wv}, RpE K H G σ env l → env[i]? = some e → ∃ s a lx ly, σ[i]? = some s ∧ l = lx ++ (a ++ ly) ∧ RpS K H G s e a ∧
    ∀ {H' G' : Hp} {s' : Option V} {e' : Option Wv} {a' : List Addr}, Same G G' → (∀ q ∈ lx, H' q = H q) → (∀ q ∈ ly, H' q = H q) → RpS K H' G' s' e' a' → RpE K H' G' (σ.set i s') (env.set i e') (lx ++ (a' ++ ly))
  | [], [], l, i, e, h, q => by simp at q
  | s :: σ, e :: env, l, 0, _, ⟨a, b, z, h1, h2⟩, q => by
    cases q
    refine ⟨s, a, [], b, rfl, z, h1, fun {H' G' s' e' a'} sg kx ky h' => ⟨a', b, rfl, h', h2.mv sg ky⟩⟩
  | s :: σ, e :: env, l, i + 1, e0, ⟨a, b, z, h1, h2⟩, q => by
    obtain ⟨s0, a0, lx, ly, q1, q2, q3, q4⟩ := RpE.focus (i := i) (e := e0) h2 q
    refine ⟨s0, a0, a ++ lx, ly, q1, by rw [z, q2, List.append_assoc], q3, fun {H' G' s' e' a'} sg kx ky h' => ?_⟩
    refine ⟨a, lx ++ (a' ++ ly), by rw [List.append_assoc], h1.mv sg fun q y => kx q (List.mem_append_left _ y), q4 sg (fun q y => kx q (List.mem_append_right _ y)) ky h'⟩
theorem RpE.len : ∀ {σ : St} {env : En} {l : List Addr}, RpE K H G σ env l → σ.length = env.length
  | [], [], _, _ => rfl
  | _ :: _, _ :: _, _, ⟨_, _, _, _, h⟩ => congrArg (· + 1) (RpE.len h)
end
/-- the slots hold what env says, the lists owned standing at l, beside the lists B of others -/
structure Rep (K : PySem.W.Frag) (B : Addr → Prop) (σ : St) (H : Hp) (env : En) (l : List Addr) : Prop where
  rp : RpE K H (off (un B l) H) σ env l
  nd : l.Nodup
  out : ∀ b ∈ l, ¬ B b
  tb : ∀ b, B b → ∃ o, H b = some o ∧ NT o
section
variable {K : PySem.W.Frag} {B B' : Addr → Prop} {σ : St} {H H' H1 H2 : Hp} {env : En} {l l' : List Addr}
theorem off_mono {S S' : Addr → Prop} {H H' : Hp} (hS : ∀ b, S' b → ¬ S b → H b = none) (s : ∀ b o, ¬ S b → H b = some o → H' b = some o) : Same (off S H) (off S' H') := fun b o h => by
  obtain ⟨n, e⟩ := off_at h
  rw [off_ne fun z => by rw [hS b z n] at e; cases e]
  exact s b o n e
theorem Fr.refl (l : List Addr) (H : Hp) : Fr l H H := fun _ _ _ h => h
theorem Fr.of {l : List Addr} (s : Same H H') : Fr l H H' := fun b o _ h => s b o h
theorem Fr.trans (a : Fr l H H1) (b : Fr l H1 H2) : Fr l H H2 := fun c o n h => b c o n (a c o n h)
theorem Fr.keep (f : Fr l H H') : Same (off (un B l) H) (off (un B l) H') := off_mono (fun b z n => absurd z n) fun b o n h => f b o (fun z => n (.inr z)) h
theorem Rep.tl (r : Rep K B σ H env l) : ∀ b, un B l b → ∃ o, H b = some o ∧ NT o := fun b z => z.elim (r.tb b) fun z => r.rp.trk b z
theorem Rep.fresh (r : Rep K B σ H env l) {p : Addr} (h : H p = none) : ¬ un B l p := fun z => by
  obtain ⟨o, e, _⟩ := r.tl p z
  rw [h] at e
  cases e
/-- the heap grows; more lists may stand beside -/
theorem Rep.grow (r : Rep K B σ H env l) (s : Same H H') (h1 : ∀ b, B b → B' b) (h2 : ∀ b, B' b → B b ∨ H b = none) (h3 : ∀ b, B' b → ∃ o, H' b = some o ∧ NT o) : Rep K B' σ H' env l := by
  have t := r.rp.trk
  refine ⟨r.rp.mv ?_ fun q z => ?_, r.nd, fun b z y => (h2 b y).elim (r.out b z) fun e => r.fresh e (.inr z), h3⟩
  · exact off_mono (fun b z n => z.elim (fun z => (h2 b z).elim (fun z => absurd (.inl z) n) id) fun z => absurd (.inr z) n) fun b o n h => s b o h
  · obtain ⟨us, e, _⟩ := t q z
    rw [e, s _ _ e]
theorem Rep.same (r : Rep K B σ H env l) (s : Same H H') : Rep K B σ H' env l := r.grow s (fun _ z => z) (fun _ z => .inl z) fun b z => by
  obtain ⟨o, e, n⟩ := r.tb b z
  exact ⟨o, s _ _ e, n⟩
/-- fewer lists beside -/
theorem Rep.less (r : Rep K B' σ H env l) (h : ∀ b, B b → B' b) : Rep K B σ H env l :=
  ⟨r.rp.mv (off_mono (fun b z n => absurd (z.elim (fun z => .inl (h b z)) .inr) n) fun b o n e => e) fun _ _ => rfl, r.nd, fun b z y => r.out b z (h b y), fun b z => r.tb b (h b z)⟩
theorem Rep.len (r : Rep K B σ H env l) : σ.length = env.length := r.rp.len
end
/-! results -/
inductive R where
  | dat (d : PyData)
  | slot (i : Nat)
  | exc (C : Addr) (f : Str) (d : PyData)
def RpR (K : PySem.W.Frag) (G : Hp) (σ : St) (v : V) (r : R) : Prop :=
  match r with
  | .dat d => Da K G v d
  | .slot i => σ[i]? = some (some v)
  | .exc C f d => ∃ a u, v = .ref a ∧ CauF K G a C f u ∧ (f ≠ "" → Da K G u d)
theorem RpR.mv {K : PySem.W.Frag} {G G' : Hp} {σ : St} {v : V} {r : R} (s : Same G G') (h : RpR K G σ v r) : RpR K G' σ v r := by
  cases r with
  | dat d => exact Da.same s d h
  | slot i => exact h
  | exc C f d =>
    obtain ⟨a, u, e1, e2, e3⟩ := h
    exact ⟨a, u, e1, e2.same s, fun z => Da.same s d (e3 z)⟩
inductive Rs (α : Type) where
  | ok (a : α) (env : En)
  | ex (C : Addr) (f : Str) (d : PyData)
def M (α : Type) := En → Option (Rs α)
def M.bind {α β : Type} (x : M α) (f : α → M β) : M β := fun env =>
  match x env with
  | none => none
  | some (.ok a e) => f a e
  | some (.ex C g d) => some (.ex C g d)
def M.pure {α : Type} (a : α) : M α := fun env => some (.ok a env)
instance : Monad M where
  pure := M.pure
  bind := M.bind
def lift {α : Type} (o : Option α) : M α := fun env => o.map fun a => .ok a env
def itds : List It1 → Option (List PyData)
  | [] => some []
  | .dat d :: r => (itds r).map (d :: ·)
  | .own _ :: _ => none
/-- a list of data as a list owned -/
def dats (ds : List PyData) : List It1 := ds.map .dat
theorem itds_dats (ds : List PyData) : itds (dats ds) = some ds := by
  induction ds with
  | nil => rfl
  | cons d r ih => show (itds (dats r)).map (d :: ·) = _; rw [ih]; rfl
theorem itds_eq : ∀ {xs : List It1} {ds : List PyData}, itds xs = some ds → xs = dats ds
  | [], ds, h => by cases h; rfl
  | .dat d :: r, ds, h => by
    obtain ⟨q, e1, e2⟩ := Option.map_eq_some_iff.mp (show (itds r).map (d :: ·) = some ds from h)
    subst e2
    rw [itds_eq e1]
    rfl
  | .own _ :: _, ds, h => by cases h
/-- the data of a result, as it stands -/
def vw (r : R) : M PyData := fun env =>
  match r with
  | .dat d => some (.ok d env)
  | .slot i =>
    match env[i]? with
    | some (some (.own xs)) => (itds xs).map fun ds => .ok (.list ds) env
    | _ => none
  | .exc _ _ _ => none
/-- data to be read: the outermost list may be one that is owned -/
def Vw (K : PySem.W.Frag) (S : Addr → Prop) (H : Hp) (v : V) (d : PyData) : Prop :=
  Da K (off S H) v d ∨ ∃ p vs ds, v = .ref p ∧ d = .list ds ∧ H p = some (.lst vs) ∧ DaAll K (off S H) vs ds
theorem rp1s_dats {K : PySem.W.Frag} {H G : Hp} : ∀ {vs : List V} {ds : List PyData} {l : List Addr}, Rp1s K H G vs (dats ds) l → l = [] ∧ DaAll K G vs ds
  | [], [], l, h => ⟨h, .nil⟩
  | v :: vs, d :: ds, l, ⟨a, b, e, h1, h2⟩ => by
    obtain ⟨e2, h3⟩ := rp1s_dats h2
    exact ⟨by rw [e, h1.1, e2]; rfl, .cons h1.2 h3⟩
  | [], _ :: _, _, h => h.elim
  | _ :: _, [], _, h => h.elim
theorem rp1s_of {K : PySem.W.Frag} {H G : Hp} : ∀ {vs : List V} {ds : List PyData}, DaAll K G vs ds → Rp1s K H G vs (dats ds) []
  | _, _, .nil => rfl
  | _, _, .cons h t => ⟨[], [], rfl, ⟨rfl, h⟩, rp1s_of t⟩
theorem vw_ok {K : PySem.W.Frag} {B : Addr → Prop} {σ : St} {H : Hp} {env env' : En} {l : List Addr} {v : V} {r : R} {d : PyData} (h : Rep K B σ H env l) (q : RpR K (off (un B l) H) σ v r) (e : vw r env = some (.ok d env')) : env' = env ∧ Vw K (un B l) H v d := by
  cases r with
  | dat d' => cases e; exact ⟨rfl, .inl q⟩
  | exc _ _ _ => cases e
  | slot i =>
    unfold vw at e
    simp only at e
    split at e
    · rename_i xs hx
      obtain ⟨ds, e1, e2⟩ := Option.map_eq_some_iff.mp e
      cases e2
      have hx2 := itds_eq e1
      subst hx2
      obtain ⟨s, a, lx, ly, q1, q2, ⟨v', q3, p, vs, b, q4, q5, q6, q7⟩, _⟩ := h.rp.focus hx
      rw [show σ[i]? = some (some v) from q] at q1
      cases q1
      cases q3
      exact ⟨rfl, .inr ⟨p, vs, ds, q4, rfl, q6, (rp1s_dats q7).2⟩⟩
    · cases e
theorem vw_noex {r : R} {env : En} {C : Addr} {f : Str} {d : PyData} : vw r env ≠ some (.ex C f d) := by
  unfold vw
  intro e
  split at e
  · cases e
  · split at e
    · obtain ⟨_, _, e2⟩ := Option.map_eq_some_iff.mp e
      cases e2
    · cases e
  · cases e
end Ov
set_option Elab.async false
set_option linter.all false
set_option maxRecDepth 100000
set_option maxHeartbeats 4000000
namespace Ov
open PySem L2
/-! readings held against plain functions: expressions -/
def Exn (K : PySem.W.Frag) (E : XK) (B : Addr → Prop) (H : Hp) (l : List Addr) (C : Addr) (f : Str) (d : PyData) : Prop :=
  (f ≠ "" → ∀ dx H' v, Fr l H H' → ¬ B dx → H' dx = some (.xd [(f, v)]) → Da K (off B H') v d → E (.ref C) (some dx) H') ∧ (f = "" → ∀ H', Fr l H H' → E (.ref C) none H')
theorem Exn.later {K : PySem.W.Frag} {E : XK} {B : Addr → Prop} {H H1 : Hp} {l : List Addr} {C : Addr} {f : Str} {d : PyData} (x : Exn K E B H l C f d) (s : Fr l H H1) : Exn K E B H1 l C f d :=
  ⟨fun hf dx H' v fr n h q => x.1 hf dx H' v (s.trans fr) n h q, fun hf H' fr => x.2 hf H' (s.trans fr)⟩
theorem Exn.wide {K : PySem.W.Frag} {E : XK} {B : Addr → Prop} {H : Hp} {l l1 : List Addr} {C : Addr} {f : Str} {d : PyData} (x : Exn K E B H l C f d) : Exn K E (un B l1) H l C f d :=
  ⟨fun hf dx H' v fr n hh q => x.1 hf dx H' v fr (fun z => n (.inl z)) hh (Da.same (off_mono (fun b z n => absurd (.inl z) n) fun b o n e => e) d q), x.2⟩
def PostE (K : PySem.W.Frag) (E : XK) (B : Addr → Prop) (σ : St) (H : Hp) (l : List Addr) (rs : Rs R) (Q : VK) : Prop :=
  match rs with
  | .ok r env' => ∀ v H', Rep K B σ H' env' l → Fr l H H' → RpR K (off (un B l) H') σ v r → Q v H'
  | .ex C f d => Exn K E B H l C f d
def PostT (K : PySem.W.Frag) (E : XK) (B : Addr → Prop) (σ : St) (H : Hp) (l : List Addr) (rs : Rs Bool) (Q : Bool → Hp → Prop) : Prop :=
  match rs with
  | .ok b env' => ∀ H', Rep K B σ H' env' l → Fr l H H' → Q b H'
  | .ex C f d => Exn K E B H l C f d
def RpRs (K : PySem.W.Frag) (G : Hp) (σ : St) : List V → List R → Prop
  | [], [] => True
  | v :: vs, r :: rs => RpR K G σ v r ∧ RpRs K G σ vs rs
  | _, _ => False
theorem RpRs.mv {K : PySem.W.Frag} {G G' : Hp} {σ : St} (s : Same G G') : ∀ {vs : List V} {rs : List R}, RpRs K G σ vs rs → RpRs K G' σ vs rs
  | [], [], _ => trivial
  | _ :: _, _ :: _, h => ⟨h.1.mv s, h.2.mv s⟩
def PostA (K : PySem.W.Frag) (E : XK) (B : Addr → Prop) (σ : St) (H : Hp) (l : List Addr) (rs : Rs (List R)) (Q : List V → Hp → Prop) : Prop :=
  match rs with
  | .ok r env' => ∀ vs H', Rep K B σ H' env' l → Fr l H H' → RpRs K (off (un B l) H') σ vs r → Q vs H'
  | .ex C f d => Exn K E B H l C f d
structure OkE (K : PySem.W.Frag) (E : XK) (t : TE) (f : M R) : Prop where
  run : ∀ {B : Addr → Prop} {σ : St} {H : Hp} {env : En} {l : List Addr} {rs : Rs R}, Rep K B σ H env l → f env = some rs → ∀ {Q : VK}, PostE K E B σ H l rs Q → t σ H Q
structure OkT (K : PySem.W.Frag) (E : XK) (t : TT) (f : M Bool) : Prop where
  run : ∀ {B : Addr → Prop} {σ : St} {H : Hp} {env : En} {l : List Addr} {rs : Rs Bool}, Rep K B σ H env l → f env = some rs → ∀ {Q : Bool → Hp → Prop}, PostT K E B σ H l rs Q → t σ H Q
structure OkA (K : PySem.W.Frag) (E : XK) (t : TA) (f : M (List R)) : Prop where
  run : ∀ {B : Addr → Prop} {σ : St} {H : Hp} {env : En} {l : List Addr} {rs : Rs (List R)}, Rep K B σ H env l → f env = some rs → ∀ {Q : List V → Hp → Prop}, PostA K E B σ H l rs Q → t σ H Q
theorem bind_some {α β : Type} {x : M α} {f : α → M β} {env : En} {rs : Rs β} (h : (M.bind x f) env = some rs) : (∃ a e, x env = some (.ok a e) ∧ f a e = some rs) ∨ ∃ C g d, x env = some (.ex C g d) ∧ rs = .ex C g d := by
  unfold M.bind at h
  split at h
  · cases h
  · exact .inl ⟨_, _, by assumption, h⟩
  · cases h
    exact .inr ⟨_, _, _, by assumption, rfl⟩
theorem lift_some {α : Type} {o : Option α} {env : En} {rs : Rs α} (h : lift o env = some rs) : ∃ a, o = some a ∧ rs = .ok a env := by
  obtain ⟨a, e1, e2⟩ := Option.map_eq_some_iff.mp h
  exact ⟨a, e1, e2.symm⟩
section
variable {K : PySem.W.Frag} {E : XK}
/-- take the first step of a bind: its exception is passed on -/
theorem OkE.seq {α : Type} {ta : TE} {fa : M R} {g : R → M α} (oa : OkE K E ta fa) {B : Addr → Prop} {σ : St} {H : Hp} {env : En} {l : List Addr} {rs : Rs α} (r : Rep K B σ H env l) (h : (M.bind fa g) env = some rs) {Q : VK}
    (hx : ∀ C f d, rs = .ex C f d → Exn K E B H l C f d) (hq : ∀ a e v H', g a e = some rs → Rep K B σ H' e l → Fr l H H' → RpR K (off (un B l) H') σ v a → Q v H') : ta σ H Q := by
  rcases bind_some h with ⟨a, e, h1, h2⟩ | ⟨C, f, d, h1, h2⟩
  · exact oa.run r h1 (fun v H' r' fr q => hq a e v H' h2 r' fr q)
  · exact oa.run r h1 (hx C f d h2)
theorem OkA.seq {α : Type} {ta : TA} {fa : M (List R)} {g : List R → M α} (oa : OkA K E ta fa) {B : Addr → Prop} {σ : St} {H : Hp} {env : En} {l : List Addr} {rs : Rs α} (r : Rep K B σ H env l) (h : (M.bind fa g) env = some rs) {Q : List V → Hp → Prop}
    (hx : ∀ C f d, rs = .ex C f d → Exn K E B H l C f d) (hq : ∀ a e v H', g a e = some rs → Rep K B σ H' e l → Fr l H H' → RpRs K (off (un B l) H') σ v a → Q v H') : ta σ H Q := by
  rcases bind_some h with ⟨a, e, h1, h2⟩ | ⟨C, f, d, h1, h2⟩
  · exact oa.run r h1 (fun v H' r' fr q => hq a e v H' h2 r' fr q)
  · exact oa.run r h1 (hx C f d h2)
theorem OkT.seq {α : Type} {ta : TT} {fa : M Bool} {g : Bool → M α} (oa : OkT K E ta fa) {B : Addr → Prop} {σ : St} {H : Hp} {env : En} {l : List Addr} {rs : Rs α} (r : Rep K B σ H env l) (h : (M.bind fa g) env = some rs) {Q : Bool → Hp → Prop}
    (hx : ∀ C f d, rs = .ex C f d → Exn K E B H l C f d) (hq : ∀ a e H', g a e = some rs → Rep K B σ H' e l → Fr l H H' → Q a H') : ta σ H Q := by
  rcases bind_some h with ⟨a, e, h1, h2⟩ | ⟨C, f, d, h1, h2⟩
  · exact oa.run r h1 (fun H' r' fr => hq a e H' h2 r' fr)
  · exact oa.run r h1 (hx C f d h2)
theorem PostE.exn {B : Addr → Prop} {σ : St} {H : Hp} {l : List Addr} {rs : Rs R} {Q : VK} (h : PostE K E B σ H l rs Q) : ∀ C f d, rs = .ex C f d → Exn K E B H l C f d := fun C f d e => by subst e; exact h
theorem PostT.exn {B : Addr → Prop} {σ : St} {H : Hp} {l : List Addr} {rs : Rs Bool} {Q : Bool → Hp → Prop} (h : PostT K E B σ H l rs Q) : ∀ C f d, rs = .ex C f d → Exn K E B H l C f d := fun C f d e => by subst e; exact h
theorem PostA.exn {B : Addr → Prop} {σ : St} {H : Hp} {l : List Addr} {rs : Rs (List R)} {Q : List V → Hp → Prop} (h : PostA K E B σ H l rs Q) : ∀ C f d, rs = .ex C f d → Exn K E B H l C f d := fun C f d e => by subst e; exact h
theorem exn_later {α : Type} {B : Addr → Prop} {H H1 : Hp} {l : List Addr} {rs : Rs α} (h : ∀ C f d, rs = .ex C f d → Exn K E B H l C f d) (s : Fr l H H1) : ∀ C f d, rs = .ex C f d → Exn K E B H1 l C f d := fun C f d e => (h C f d e).later s
theorem PostE.later {B : Addr → Prop} {σ : St} {H H1 : Hp} {l : List Addr} {rs : Rs R} {Q : VK} (h : PostE K E B σ H l rs Q) (s : Fr l H H1) : PostE K E B σ H1 l rs Q := by
  cases rs with
  | ok r env => exact fun v H' r' fr q => h v H' r' (s.trans fr) q
  | ex C f d => exact Exn.later h s
theorem PostT.later {B : Addr → Prop} {σ : St} {H H1 : Hp} {l : List Addr} {rs : Rs Bool} {Q : Bool → Hp → Prop} (h : PostT K E B σ H l rs Q) (s : Fr l H H1) : PostT K E B σ H1 l rs Q := by
  cases rs with
  | ok r env => exact fun H' r' fr => h H' r' (s.trans fr)
  | ex C f d => exact Exn.later h s
/-! names, constants -/
def get (i : Nat) : M R := fun env =>
  match env[i]? with
  | some (some (.dat d)) => some (.ok (.dat d) env)
  | some (some (.own _)) => some (.ok (.slot i) env)
  | some (some (.exc C f d)) => some (.ok (.exc C f d) env)
  | some (some (.dct _)) => some (.ok (.slot i) env)
  | some (some (.dci _)) => some (.ok (.slot i) env)
  | some (some (.dtk _)) => some (.ok (.slot i) env)
  | some (some (.dts _)) => some (.ok (.slot i) env)
  | some (some (.pin _ d)) => some (.ok (.dat d) env)
  | _ => none
theorem OkE.var (i : Nat) : OkE K E (tVar i) (get i) := by
  refine ⟨?_⟩
  intro B σ H env l rs r h Q post
  unfold get at h
  cases q : env[i]? with
  | none => rw [q] at h; cases h
  | some e =>
    cases e with
    | none => rw [q] at h; cases h
    | some w =>
      rw [q] at h
      obtain ⟨s, a, lx, ly, q1, q2, ⟨v, q3, q4⟩, _⟩ := r.rp.focus q
      subst q3
      refine ⟨v, q1, ?_⟩
      cases w with
      | dat d => cases h; exact post v H r (Fr.refl _ _) q4.2
      | own xs => cases h; exact post v H r (Fr.refl _ _) q1
      | exc C f d => cases h; exact post v H r (Fr.refl _ _) q4.2
      | dct ks => cases h; exact post v H r (Fr.refl _ _) q1
      | dci ks => cases h; exact post v H r (Fr.refl _ _) q1
      | dtk ks => cases h; exact post v H r (Fr.refl _ _) q1
      | dts ks => cases h; exact post v H r (Fr.refl _ _) q1
      | pin u d => cases h; exact post v H r (Fr.refl _ _) q4.2.2
      | dtn _ => cases h
      | nd _ => cases h
      | lkd _ => cases h
def con (d : PyData) : M R := M.pure (.dat d)
theorem OkE.con {v : V} {d : PyData} (hd : ∀ H : Hp, Da K H v d) : OkE K E (fun _ H Q => Q v H) (con d) := by
  refine ⟨?_⟩
  intro B σ H env l rs r h Q post
  cases h
  exact post v H r (Fr.refl _ _) (hd _)
/-! operations -/
def OpOk (K : PySem.W.Frag) (r : R2) (fo : PyData → PyData → Option PyData) : Prop := ∀ {S : Addr → Prop} {H : Hp} {x y : V} {a b d : PyData}, (∀ q, S q → ∃ o, H q = some o ∧ NT o) → Vw K S H x a → Vw K S H y b → fo a b = some d →
  ∀ {Q : VK}, (∀ v H', Same H H' → Da K (off S H') v d → Q v H') → r x y H Q
def UnOk (K : PySem.W.Frag) (r : V → Hp → VK → Prop) (fo : PyData → Option PyData) : Prop := ∀ {S : Addr → Prop} {H : Hp} {x : V} {a d : PyData}, (∀ q, S q → ∃ o, H q = some o ∧ NT o) → Vw K S H x a → fo a = some d →
  ∀ {Q : VK}, (∀ v H', Same H H' → Da K (off S H') v d → Q v H') → r x H Q
inductive VwAll (K : PySem.W.Frag) (S : Addr → Prop) (H : Hp) : List V → List PyData → Prop
  | nil : VwAll K S H [] []
  | cons {v : V} {vs : List V} {d : PyData} {ds : List PyData} : Vw K S H v d → VwAll K S H vs ds → VwAll K S H (v :: vs) (d :: ds)
def CbOk (K : PySem.W.Frag) (r : List V → Hp → VK → Prop) (fo : List PyData → Option PyData) : Prop := ∀ {S : Addr → Prop} {H : Hp} {xs : List V} {as : List PyData} {d : PyData}, (∀ q, S q → ∃ o, H q = some o ∧ NT o) → VwAll K S H xs as → fo as = some d →
  ∀ {Q : VK}, (∀ v H', Same H H' → Da K (off S H') v d → Q v H') → r xs H Q
def op2 (fo : PyData → PyData → Option PyData) (fa fb : M R) : M R := M.bind fa fun a => M.bind fb fun b => M.bind (vw a) fun x => M.bind (vw b) fun y => M.bind (lift (fo x y)) fun d => M.pure (.dat d)
def op1 (fo : PyData → Option PyData) (fa : M R) : M R := M.bind fa fun a => M.bind (vw a) fun x => M.bind (lift (fo x)) fun d => M.pure (.dat d)
theorem vw_step {α : Type} {B : Addr → Prop} {σ : St} {H : Hp} {env : En} {l : List Addr} {v : V} {r : R} {g : PyData → M α} {rs : Rs α} (h : Rep K B σ H env l) (q : RpR K (off (un B l) H) σ v r) (e : (M.bind (vw r) g) env = some rs) :
    ∃ d, g d env = some rs ∧ Vw K (un B l) H v d := by
  rcases bind_some e with ⟨a, e1, h1, h2⟩ | ⟨C, f, d, h1, _⟩
  · obtain ⟨rfl, q2⟩ := vw_ok h q h1
    exact ⟨a, h2, q2⟩
  · exact absurd h1 vw_noex
theorem lift_step {α β : Type} {o : Option α} {g : α → M β} {env : En} {rs : Rs β} (e : (M.bind (lift o) g) env = some rs) : ∃ a, o = some a ∧ g a env = some rs := by
  rcases bind_some e with ⟨a, e1, h1, h2⟩ | ⟨C, f, d, h1, _⟩
  · obtain ⟨b, e2, e3⟩ := lift_some h1
    cases e3
    exact ⟨a, e2, h2⟩
  · obtain ⟨b, e2, e3⟩ := lift_some h1
    cases e3
theorem OkE.op {r : R2} {fo : PyData → PyData → Option PyData} {ta tb : TE} {fa fb : M R} (o : OpOk K r fo) (oa : OkE K E ta fa) (ob : OkE K E tb fb) : OkE K E (tOp r ta tb) (op2 fo fa fb) := by
  refine ⟨?_⟩
  intro B σ H env l rs rp h Q post
  refine oa.seq rp h post.exn fun a e v1 H1 h1 r1 f1 q1 => ?_
  refine ob.seq r1 h1 (exn_later post.exn f1) fun b e2 v2 H2 h2 r2 f2 q2 => ?_
  obtain ⟨x, h3, w1⟩ := vw_step r2 (q1.mv f2.keep) h2
  obtain ⟨y, h4, w2⟩ := vw_step r2 q2 h3
  obtain ⟨d, h5, h6⟩ := lift_step h4
  cases h6
  exact o r2.tl w1 w2 h5 fun v H' s q => post v H' (r2.same s) ((f1.trans f2).trans (Fr.of s)) q
theorem OkE.un {r : V → Hp → VK → Prop} {fo : PyData → Option PyData} {ta : TE} {fa : M R} (o : UnOk K r fo) (oa : OkE K E ta fa) : OkE K E (tUn r ta) (op1 fo fa) := by
  refine ⟨?_⟩
  intro B σ H env l rs rp h Q post
  refine oa.seq rp h post.exn fun a e v1 H1 h1 r1 f1 q1 => ?_
  obtain ⟨x, h3, w1⟩ := vw_step r1 q1 h1
  obtain ⟨d, h5, h6⟩ := lift_step h3
  cases h6
  exact o r1.tl w1 h5 fun v H' s q => post v H' (r1.same s) (f1.trans (Fr.of s)) q
/-! arguments -/
def anil : M (List R) := M.pure []
def acons (fa : M R) (fr : M (List R)) : M (List R) := M.bind fa fun a => M.bind fr fun r => M.pure (a :: r)
theorem OkA.nil : OkA K E tNil anil := by
  refine ⟨?_⟩
  intro B σ H env l rs rp h Q post
  cases h
  exact post [] H rp (Fr.refl _ _) trivial
theorem OkA.cons {ta : TE} {tr : TA} {fa : M R} {fr : M (List R)} (oa : OkE K E ta fa) (or : OkA K E tr fr) : OkA K E (tCons ta tr) (acons fa fr) := by
  refine ⟨?_⟩
  intro B σ H env l rs rp h Q post
  refine oa.seq rp h post.exn fun a e v1 H1 h1 r1 f1 q1 => ?_
  refine or.seq r1 h1 (exn_later post.exn f1) fun b e2 v2 H2 h2 r2 f2 q2 => ?_
  cases h2
  exact post (v1 :: v2) H2 r2 (f1.trans f2) ⟨q1.mv f2.keep, q2⟩
def vws : List R → M (List PyData)
  | [] => M.pure []
  | r :: rs => M.bind (vw r) fun d => M.bind (vws rs) fun ds => M.pure (d :: ds)
theorem vws_ok {B : Addr → Prop} {σ : St} {H : Hp} {env : En} {l : List Addr} (h : Rep K B σ H env l) : ∀ {vs : List V} {rs : List R} {α : Type} {g : List PyData → M α} {z : Rs α}, RpRs K (off (un B l) H) σ vs rs → (M.bind (vws rs) g) env = some z → ∃ ds, g ds env = some z ∧ VwAll K (un B l) H vs ds
  | [], [], α, g, z, _, e => ⟨[], e, .nil⟩
  | v :: vs, r :: rs, α, g, z, q, e => by
    have e' : (M.bind (vw r) fun d => M.bind (vws rs) fun ds => g (d :: ds)) env = some z := by
      rw [← e]
      show _ = (M.bind (M.bind (vw r) fun d => M.bind (vws rs) fun ds => M.pure (d :: ds)) g) env
      unfold M.bind
      cases vw r env with
      | none => rfl
      | some a =>
        cases a with
        | ok a e2 =>
          simp only
          cases vws rs e2 with
          | none => rfl
          | some b => cases b <;> rfl
        | ex _ _ _ => rfl
    obtain ⟨d, e2, w⟩ := vw_step h q.1 e'
    obtain ⟨ds, e3, w2⟩ := vws_ok h q.2 e2
    exact ⟨d :: ds, e3, .cons w w2⟩
def cb (fo : List PyData → Option PyData) (fa : M (List R)) : M R := M.bind fa fun a => M.bind (vws a) fun ds => M.bind (lift (fo ds)) fun d => M.pure (.dat d)
theorem OkE.cb {r : List V → Hp → VK → Prop} {fo : List PyData → Option PyData} {t : TA} {fa : M (List R)} (o : CbOk K r fo) (oa : OkA K E t fa) : OkE K E (tCB r t) (Ov.cb fo fa) := by
  refine ⟨?_⟩
  intro B σ H env l rs rp h Q post
  refine oa.seq rp h post.exn fun a e vs H1 h1 r1 f1 q1 => ?_
  obtain ⟨ds, h2, w⟩ := vws_ok r1 q1 h1
  obtain ⟨d, h5, h6⟩ := lift_step h2
  cases h6
  exact o r1.tl w h5 fun v H' s q => post v H' (r1.same s) (f1.trans (Fr.of s)) q
/-! data that a new object holds -/
theorem Vw.da {S : Addr → Prop} {H : Hp} {v : V} {d : PyData} (h : Vw K S H v d) : Da K H v d := by
  rcases h with h | ⟨p, vs, ds, e1, e2, e3, e4⟩
  · exact Da.same (off_sub S H) d h
  · subst e1 e2
    exact .lst (SqL.of e3) (DaAll.same (off_sub S H) ds e4)
/-- results that are data through and through -/
def dds : List R → Option (List PyData)
  | [] => some []
  | .dat d :: r => (dds r).map (d :: ·)
  | _ :: _ => none
theorem dds_ok {G : Hp} {σ : St} : ∀ {vs : List V} {rs : List R} {ds : List PyData}, RpRs K G σ vs rs → dds rs = some ds → DaAll K G vs ds
  | [], [], ds, _, e => by cases e; exact .nil
  | v :: vs, .dat d :: rs, ds, q, e => by
    obtain ⟨x, e1, e2⟩ := Option.map_eq_some_iff.mp (show (dds rs).map (d :: ·) = some ds from e)
    subst e2
    exact .cons q.1 (dds_ok q.2 e1)
  | v :: vs, .slot i :: rs, ds, q, e => by cases e
  | v :: vs, .exc _ _ _ :: rs, ds, q, e => by cases e
theorem new_dp {S : Addr → Prop} {H : Hp} {p : Addr} {vs : List V} {ds : List PyData} (hS : ∀ q, S q → ∃ o, H q = some o ∧ NT o) (hp : H p = none) (h : DaAll K (off S H) vs ds) :
    Da K (off S (upd H p (.lst vs))) (.ref p) (.list ds) ∧ Da K (off S (upd H p (.tup vs))) (.ref p) (.tuple ds) := by
  have np : ¬ S p := fun z => by obtain ⟨o, e, _⟩ := hS p z; rw [hp] at e; cases e
  have k : ∀ o, Same (off S H) (off S (upd H p o)) := fun o => off_mono (fun b z n => absurd z n) fun b u n e => by rw [upd_ne (ne_of_none e hp)]; exact e
  exact ⟨.lst (SqL.of ((off_ne np).trans upd_same)) (DaAll.same (k _) ds h), .tup ((off_ne np).trans upd_same) (DaAll.same (k _) ds h)⟩
def sz (n : Nat) : Option Unit := if n ≤ 1000000 then some () else none
theorem sz_ok {n : Nat} {u : Unit} (h : sz n = some u) : n ≤ sizeLine := by
  unfold sz at h
  split at h
  · exact Nat.le_trans (by assumption) (by decide)
  · cases h
def tupD (fa : M (List R)) : M R := M.bind fa fun a => M.bind (lift (dds a)) fun ds => M.bind (lift (sz ds.length)) fun _ => M.pure (.dat (.tuple ds))
def lstD (fa : M (List R)) : M R := M.bind fa fun a => M.bind (lift (dds a)) fun ds => M.bind (lift (sz ds.length)) fun _ => M.pure (.dat (.list ds))
theorem OkE.tup {t : TA} {fa : M (List R)} (oa : OkA K E t fa) : OkE K E (tTup t) (tupD fa) := by
  refine ⟨?_⟩
  intro B σ H env l rs rp h Q post
  refine oa.seq rp h post.exn fun a e vs H1 h1 r1 f1 q1 => ?_
  obtain ⟨ds, e1, h2⟩ := lift_step h1
  obtain ⟨u, e2, h3⟩ := lift_step h2
  cases h3
  have dp := dds_ok q1 e1
  refine ⟨by rw [daAll_len dp]; exact sz_ok e2, fun p hp => ?_⟩
  exact post _ _ (r1.same (same_new hp _)) (f1.trans (Fr.of (same_new hp _))) (new_dp r1.tl hp dp).2
theorem OkE.lst {t : TA} {fa : M (List R)} (oa : OkA K E t fa) : OkE K E (tLst t) (lstD fa) := by
  refine ⟨?_⟩
  intro B σ H env l rs rp h Q post
  refine oa.seq rp h post.exn fun a e vs H1 h1 r1 f1 q1 => ?_
  obtain ⟨ds, e1, h2⟩ := lift_step h1
  obtain ⟨u, e2, h3⟩ := lift_step h2
  cases h3
  have dp := dds_ok q1 e1
  refine ⟨by rw [daAll_len dp]; exact sz_ok e2, fun p hp => ?_⟩
  exact post _ _ (r1.same (same_new hp _)) (f1.trans (Fr.of (same_new hp _))) (new_dp r1.tl hp dp).1
/-! truth, and, or, not, if *)-/
def tb1 (fa : M R) : M Bool := M.bind fa fun a => M.bind (vw a) fun d => match d with
  | .bool b => M.pure b
  | _ => fun _ => none
theorem OkT.val {t : TE} {fa : M R} (oa : OkE K E t fa) : OkT K E (tB t) (tb1 fa) := by
  refine ⟨?_⟩
  intro B σ H env l rs rp h Q post
  refine oa.seq rp h post.exn fun a e v1 H1 h1 r1 f1 q1 => ?_
  obtain ⟨d, h2, w⟩ := vw_step r1 q1 h1
  cases d with
  | bool b =>
    cases h2
    have := w.da
    cases this
    exact ⟨b, rfl, post H1 r1 f1⟩
  | none => cases h2
  | int _ => cases h2
  | str _ => cases h2
  | list _ => cases h2
  | tuple _ => cases h2
  | dict _ => cases h2
theorem OkT.test {t : TE} {fa : M R} (oa : OkE K E t fa) : OkT K E (tTest t) (tb1 fa) := OkT.val oa
def andT (fa fb : M Bool) : M Bool := M.bind fa fun a => if a = true then fb else M.pure false
def orT (fa fb : M Bool) : M Bool := M.bind fa fun a => if a = true then M.pure true else fb
def notT (fa : M Bool) : M Bool := M.bind fa fun a => M.pure (!a)
theorem OkT.or {ta tb : TT} {fa fb : M Bool} (oa : OkT K E ta fa) (ob : OkT K E tb fb) : OkT K E (tOr ta tb) (orT fa fb) := by
  refine ⟨?_⟩
  intro B σ H env l rs rp h Q post
  refine oa.seq rp h post.exn fun a e H1 h1 r1 f1 => ?_
  cases a with
  | true => refine iteT ?_; simp only [if_true] at h1; cases h1; exact post H1 r1 f1
  | false => exact iteF (ob.run r1 (by simpa using h1) (post.later f1))
theorem OkT.not {ta : TT} {fa : M Bool} (oa : OkT K E ta fa) : OkT K E (tNot ta) (notT fa) := by
  refine ⟨?_⟩
  intro B σ H env l rs rp h Q post
  refine oa.seq rp h post.exn fun a e H1 h1 r1 f1 => ?_
  cases h1
  exact post H1 r1 f1
def ofB (b : Bool) : R := .dat (.bool b)
def andV (fa fb : M R) : M R := M.bind (tb1 fa) fun a => if a = true then fb else M.pure (ofB false)
def orV (fa fb : M R) : M R := M.bind (tb1 fa) fun a => if a = true then M.pure (ofB true) else fb
def notV (fa : M R) : M R := M.bind (tb1 fa) fun a => M.pure (ofB !a)
theorem OkE.and {ta tb : TE} {fa fb : M R} (oa : OkE K E ta fa) (ob : OkE K E tb fb) : OkE K E (tAndV ta tb) (andV fa fb) := by
  refine ⟨?_⟩
  intro B σ H env l rs rp h Q post
  refine (OkT.val oa).seq rp h post.exn fun a e H1 h1 r1 f1 => ?_
  cases a with
  | true => exact iteT (ob.run r1 (by simpa using h1) (post.later f1))
  | false => refine iteF ?_; simp only [Bool.false_eq_true, if_false] at h1; cases h1; exact post _ H1 r1 f1 (.bl false)
theorem OkE.not {ta : TE} {fa : M R} (oa : OkE K E ta fa) : OkE K E (tNotV ta) (notV fa) := by
  refine ⟨?_⟩
  intro B σ H env l rs rp h Q post
  refine (OkT.val oa).seq rp h post.exn fun a e H1 h1 r1 f1 => ?_
  cases h1
  exact post _ H1 r1 f1 (.bl _)
def ifE (ft : M Bool) (fa fb : M R) : M R := M.bind ft fun c => if c = true then fa else fb
theorem OkE.ife {tt : TT} {ta tb : TE} {ft : M Bool} {fa fb : M R} (ot : OkT K E tt ft) (oa : OkE K E ta fa) (ob : OkE K E tb fb) : OkE K E (tIf tt ta tb) (ifE ft fa fb) := by
  refine ⟨?_⟩
  intro B σ H env l rs rp h Q post
  refine ot.seq rp h post.exn fun c e H1 h1 r1 f1 => ?_
  cases c with
  | true => exact iteT (oa.run r1 (by simpa using h1) (post.later f1))
  | false => exact iteF (ob.run r1 (by simpa using h1) (post.later f1))
def chainE (fo fo' : PyData → PyData → Option PyData) (fa fb fc : M R) : M R := M.bind fa fun a => M.bind fb fun b => M.bind (vw a) fun x => M.bind (vw b) fun y => M.bind (lift (fo x y)) fun d => match d with
  | .bool k => if k = true then M.bind fc fun c => M.bind (vw b) fun y' => M.bind (vw c) fun z => M.bind (lift (fo' y' z)) fun d' => M.pure (.dat d') else M.pure (ofB false)
  | _ => fun _ => none
end
end Ov
set_option Elab.async false
set_option linter.all false
set_option maxRecDepth 100000
set_option maxHeartbeats 4000000
namespace Ov
open PySem L2
/-! operators by data -/
section
variable {K : PySem.W.Frag} {S : Addr → Prop} {H : Hp} {x y : V}
theorem vw_int {i : Int} (h : Vw K S H x (.int i)) : x = .int i := by have := h.da; cases this; rfl
theorem vw_bool {b : Bool} (h : Vw K S H x (.bool b)) : x = .bl b := by have := h.da; cases this; rfl
theorem vw_str {z : Str} (h : Vw K S H x (.str z)) : x = .str z := by have := h.da; cases this; rfl
theorem vw_none (h : Vw K S H x .none) : x = .non := by have := h.da; cases this; rfl
theorem vw_list {ds : List PyData} (h : Vw K S H x (.list ds)) : ∃ p vs, x = .ref p ∧ SqL K H p vs ∧ DaAll K (off S H) vs ds := by
  rcases h with h | ⟨p, vs, es, e1, e2, e3, e4⟩
  · cases h with | lst q t => exact ⟨_, _, rfl, rd_same (off_sub S H) q, t⟩
  · cases e2; exact ⟨p, vs, e1, .inl (.inl e3), e4⟩
theorem vw_tup {ds : List PyData} (h : Vw K S H x (.tuple ds)) : ∃ p vs, x = .ref p ∧ SqT K (off S H) p vs ∧ DaAll K (off S H) vs ds := by
  rcases h with h | ⟨p, vs, es, e1, e2, e3, e4⟩
  · cases h with | tup q t => exact ⟨_, _, rfl, q.sq, t⟩
  · cases e2
theorem vw_tupP {ds : List PyData} (h : Vw K S H x (.tuple ds)) : ∃ p vs, x = .ref p ∧ TP (off S H) p vs ∧ DaAll K (off S H) vs ds := by
  rcases h with h | ⟨p, vs, es, e1, e2, e3, e4⟩
  · cases h with | tup q t => exact ⟨_, _, rfl, q, t⟩
  · cases e2
end
def seqD : PyData → Option (List PyData)
  | .list ds => some ds
  | .tuple ds => some ds
  | _ => none
theorem vw_seq {K : PySem.W.Frag} {S : Addr → Prop} {H : Hp} {x : V} {d : PyData} {ds : List PyData} (h : Vw K S H x d) (e : seqD d = some ds) : ∃ p vs, x = .ref p ∧ (SqL K H p vs ∨ SqT K H p vs) ∧ DaAll K (off S H) vs ds := by
  cases d with
  | list es => cases e; obtain ⟨p, vs, e1, e2, e3⟩ := vw_list h; exact ⟨p, vs, e1, .inl (rd_sq e2), e3⟩
  | tuple es => cases e; obtain ⟨p, vs, e1, e2, e3⟩ := vw_tup h; exact ⟨p, vs, e1, .inr (seqT (off_sub S H) e2), e3⟩
  | none => cases e
  | bool _ => cases e
  | int _ => cases e
  | str _ => cases e
  | dict _ => cases e
theorem vw_seqP {K : PySem.W.Frag} {S : Addr → Prop} {H : Hp} {x : V} {d : PyData} {ds : List PyData} (h : Vw K S H x d) (e : seqD d = some ds) : ∃ p vs, x = .ref p ∧ (SqL K H p vs ∨ TP H p vs) ∧ DaAll K (off S H) vs ds := by
  cases d with
  | list es => cases e; obtain ⟨p, vs, e1, e2, e3⟩ := vw_list h; exact ⟨p, vs, e1, .inl (rd_sq e2), e3⟩
  | tuple es => cases e; obtain ⟨p, vs, e1, e2, e3⟩ := vw_tupP h; exact ⟨p, vs, e1, .inr e2.off, e3⟩
  | none => cases e
  | bool _ => cases e
  | int _ => cases e
  | str _ => cases e
  | dict _ => cases e
def iI (h : Int → Int → Int) (a b : PyData) : Option PyData :=
  match a, b with
  | .int i, .int j => some (.int (h i j))
  | _, _ => none
def iIc (p : Int → Int → Bool) (h : Int → Int → Int) (a b : PyData) : Option PyData :=
  match a, b with
  | .int i, .int j => if p i j = true then some (.int (h i j)) else none
  | _, _ => none
def iB (h : Int → Int → Bool) (a b : PyData) : Option PyData :=
  match a, b with
  | .int i, .int j => some (.bool (h i j))
  | _, _ => none
section
variable {K : PySem.W.Frag}
theorem iI_some {h : Int → Int → Int} {a b d : PyData} (e : iI h a b = some d) : ∃ i j, a = .int i ∧ b = .int j ∧ d = .int (h i j) := by
  unfold iI at e
  split at e
  · cases e; exact ⟨_, _, rfl, rfl, rfl⟩
  · cases e
theorem iB_some {h : Int → Int → Bool} {a b d : PyData} (e : iB h a b = some d) : ∃ i j, a = .int i ∧ b = .int j ∧ d = .bool (h i j) := by
  unfold iB at e
  split at e
  · cases e; exact ⟨_, _, rfl, rfl, rfl⟩
  · cases e
theorem iIc_some {p : Int → Int → Bool} {h : Int → Int → Int} {a b d : PyData} (e : iIc p h a b = some d) : ∃ i j, a = .int i ∧ b = .int j ∧ p i j = true ∧ d = .int (h i j) := by
  unfold iIc at e
  split at e
  · split at e
    · cases e; exact ⟨_, _, rfl, rfl, by assumption, rfl⟩
    · cases e
  · cases e
theorem okI {h : Int → Int → Int} : OpOk K (rI0 fun i j => .int (h i j)) (iI h) := by
  intro S H x y a b d hS wa wb e Q q
  obtain ⟨i, j, rfl, rfl, rfl⟩ := iI_some e
  exact ⟨i, j, vw_int wa, vw_int wb, q _ _ (same_refl _) (.int _)⟩
theorem okB {h : Int → Int → Bool} : OpOk K (rI0 fun i j => .bl (h i j)) (iB h) := by
  intro S H x y a b d hS wa wb e Q q
  obtain ⟨i, j, rfl, rfl, rfl⟩ := iB_some e
  exact ⟨i, j, vw_int wa, vw_int wb, q _ _ (same_refl _) (.bl _)⟩
theorem okC {C : Int → Int → Prop} {p : Int → Int → Bool} {h : Int → Int → Int} (hp : ∀ i j, p i j = true → C i j) : OpOk K (rI C fun i j => .int (h i j)) (iIc p h) := by
  intro S H x y a b d hS wa wb e Q q
  obtain ⟨i, j, rfl, rfl, hc, rfl⟩ := iIc_some e
  exact ⟨i, j, vw_int wa, vw_int wb, hp i j hc, q _ _ (same_refl _) (.int _)⟩
def addD := iI (· + ·)
def subD := iI (· - ·)
def pMul (i j : Int) : Bool := decide (-(2 ^ 64) < i ∧ i < 2 ^ 64) || decide (-(2 ^ 64) < j ∧ j < 2 ^ 64)
def pDiv (_ j : Int) : Bool := decide (0 < j ∧ j < 1073741824)
def pMod (_ j : Int) : Bool := decide (0 < j)
def pPow (i j : Int) : Bool := decide (0 ≤ j ∧ j ≤ 1000000 ∧ i.natAbs < 2 ^ 64)
def mulD := iIc pMul (· * ·)
def divD := iIc pDiv (· / ·)
def modD := iIc pMod (· % ·)
def powD := iIc pPow (fun i j => i ^ j.toNat)
def ltD := iB fun i j => decide (i < j)
def leD := iB fun i j => decide (i ≤ j)
def gtD := iB fun i j => decide (j < i)
def geD := iB fun i j => decide (j ≤ i)
theorem ok_add : OpOk K (rI0 fun i j => .int (i + j)) addD := okI
theorem ok_lt : OpOk K (rI0 fun i j => .bl (decide (i < j))) ltD := okB
theorem ok_gt : OpOk K (rI0 fun i j => .bl (decide (j < i))) gtD := okB
theorem ok_ge : OpOk K (rI0 fun i j => .bl (decide (j ≤ i))) geD := okB
theorem ok_mul : OpOk K (rI CMul fun i j => .int (i * j)) mulD := okC fun i j h => (Bool.or_eq_true_iff.mp h).imp of_decide_eq_true of_decide_eq_true
theorem ok_div : OpOk K (rI CDiv fun i j => .int (i / j)) divD := okC fun i j h => of_decide_eq_true h
theorem ok_mod : OpOk K (rI (fun _ j => 0 < j) fun i j => .int (i % j)) modD := okC fun i j h => of_decide_eq_true h
theorem ok_pow : OpOk K (rI CPow fun i j => .int (i ^ j.toNat)) powD := okC fun i j h => of_decide_eq_true h
def negD : PyData → Option PyData
  | .int i => some (.int (-i))
  | _ => none
theorem ok_neg : UnOk K (rU fun i => .int (-i)) negD := by
  intro S H x a d hS wa e Q q
  cases a with
  | int i => cases e; exact ⟨i, vw_int wa, q _ _ (same_refl _) (.int _)⟩
  | none => cases e
  | bool _ => cases e
  | str _ => cases e
  | list _ => cases e
  | tuple _ => cases e
  | dict _ => cases e
/-! == of atoms alike; of data -/
def eqA (n : Bool) (a b : PyData) : Option PyData :=
  match a, b with
  | .int i, .int j => some (.bool (n ^^ decide (i = j)))
  | .bool i, .bool j => some (.bool (n ^^ decide (i = j)))
  | .str i, .str j => some (.bool (n ^^ decide (i = j)))
  | .none, .none => some (.bool (n ^^ true))
  | _, _ => none
theorem eqA_some {n : Bool} {a b d : PyData} {S : Addr → Prop} {H : Hp} {x y : V} (wa : Vw K S H x a) (wb : Vw K S H y b) (e : eqA n a b = some d) : scal x y = true ∧ d = .bool (n ^^ decide (x = y)) := by
  unfold eqA at e
  split at e
  · rw [vw_int wa, vw_int wb]; cases e; exact ⟨rfl, by simp⟩
  · rw [vw_bool wa, vw_bool wb]; cases e; exact ⟨rfl, by simp⟩
  · rw [vw_str wa, vw_str wb]; cases e; exact ⟨rfl, by simp⟩
  · rw [vw_none wa, vw_none wb]; cases e; exact ⟨rfl, by simp⟩
  · cases e
theorem ok_eq : OpOk K rEq (eqA false) := by
  intro S H x y a b d hS wa wb e Q q
  obtain ⟨h1, rfl⟩ := eqA_some wa wb e
  exact ⟨h1, q _ _ (same_refl _) (by rw [Bool.false_xor]; exact .bl _)⟩
theorem ok_ne : OpOk K rNe (eqA true) := by
  intro S H x y a b d hS wa wb e Q q
  obtain ⟨h1, rfl⟩ := eqA_some wa wb e
  exact ⟨h1, q _ _ (same_refl _) (by rw [Bool.true_xor]; exact .bl _)⟩
def shp (d : PyData) : Bool := SeqAt.shaped d
def eqvD (n : Bool) (a b : PyData) : Option PyData := if shp a && shp b then some (.bool (n ^^ PyData.eqv a b)) else none
theorem ok_eqD : OpOk K (rEqD K) (eqvD false) := by
  intro S H x y a b d hS wa wb e Q q
  unfold eqvD at e
  split at e
  · rename_i h
    cases e
    rw [Bool.and_eq_true] at h
    exact ⟨a, b, Da.dp _ (shp_nd h.1) wa.da, Da.dp _ (shp_nd h.2) wb.da, h.1, h.2, q _ _ (same_refl _) (by rw [Bool.false_xor]; exact .bl _)⟩
  · cases e
theorem ok_neD : OpOk K (rNeD K) (eqvD true) := by
  intro S H x y a b d hS wa wb e Q q
  unfold eqvD at e
  split at e
  · rename_i h
    cases e
    rw [Bool.and_eq_true] at h
    exact ⟨a, b, Da.dp _ (shp_nd h.1) wa.da, Da.dp _ (shp_nd h.2) wb.da, h.1, h.2, q _ _ (same_refl _) (by rw [Bool.true_xor]; exact .bl _)⟩
  · cases e
/-! in -/
def atomD : PyData → Bool
  | .none | .bool _ | .int _ | .str _ => true
  | _ => false
/-! items -/
theorem atI_da {H : Hp} {vs : List V} {ds : List PyData} (h : DaAll K H vs ds) {i : Int} {d : PyData} (e : atI ds i = some d) : ∃ x, atI vs i = some x ∧ Da K H x d := by
  unfold atI at e ⊢
  rw [daAll_len h]
  cases q : ixN ds.length i with
  | none => rw [q] at e; cases e
  | some j =>
    rw [q] at e
    exact daAll_get h e
def ixD (a b : PyData) : Option PyData :=
  match seqD a, b with
  | some ds, .int i => atI ds i
  | _, _ => none
theorem ok_ix : OpOk K (rIx K) ixD := by
  intro S H x y a b d hS wa wb e Q q
  unfold ixD at e
  split at e
  · rename_i ds i h
    rw [vw_int wb]
    cases a with
    | list es =>
      cases h
      obtain ⟨p, vs, rfl, e2, e3⟩ := vw_list wa
      obtain ⟨z, e4, e5⟩ := atI_da e3 e
      exact .inl ⟨p, vs, i, z, rfl, rfl, rd_sq e2, e4, q _ _ (same_refl _) e5⟩
    | tuple es =>
      cases h
      obtain ⟨p, vs, rfl, e2, e3⟩ := vw_tup wa
      obtain ⟨z, e4, e5⟩ := atI_da e3 e
      exact .inr (.inl ⟨p, vs, i, z, rfl, rfl, seqT (off_sub S H) e2, e4, q _ _ (same_refl _) e5⟩)
    | none => cases h
    | bool _ => cases h
    | int _ => cases h
    | str _ => cases h
    | dict _ => cases h
  · cases e
/-! slices -/
def cutL {α : Type} (xs : List α) (lo hi : Option Int) : List α := (xs.drop (HT.sIx xs.length 0 lo)).take (HT.sIx xs.length xs.length hi - HT.sIx xs.length 0 lo)
theorem cut_da {H : Hp} {vs : List V} {ds : List PyData} (h : DaAll K H vs ds) (lo hi : Option Int) : DaAll K H (cutV vs lo hi) (cutL ds lo hi) := by
  unfold cutV cutL
  rw [daAll_len h]
  exact daAll_take (daAll_drop h _) _
def cutD (a : PyData) (lo hi : Option Int) : Option PyData :=
  match a with
  | .list ds => some (.list (cutL ds lo hi))
  | .tuple ds => some (.tuple (cutL ds lo hi))
  | _ => none
theorem off_new {H H' : Hp} {S : Addr → Prop} (s : Same H H') : Same (off S H) (off S H') := off_mono (fun b z n => absurd z n) fun b o n h => s b o h
theorem hS_later {H H' : Hp} {S : Addr → Prop} (hS : ∀ q, S q → ∃ o, H q = some o ∧ NT o) (s : Same H H') : ∀ q, S q → ∃ o, H' q = some o ∧ NT o := fun q z => by
  obtain ⟨o, e, n⟩ := hS q z
  exact ⟨o, s _ _ e, n⟩
theorem ok_cut {S : Addr → Prop} {H : Hp} {x : V} {a d : PyData} {lo hi : Option Int} (hS : ∀ q, S q → ∃ o, H q = some o ∧ NT o) (wa : Vw K S H x a) (e : cutD a lo hi = some d) {Q : VK} (q : ∀ v H', Same H H' → Da K (off S H') v d → Q v H') : rCut K x lo hi H Q := by
  cases a with
  | list ds =>
    cases e
    obtain ⟨p, vs, rfl, e2, e3⟩ := vw_list wa
    refine ⟨p, vs, rfl, .inl ⟨rd_sq e2, fun b H' s n h => q _ _ s ?_⟩⟩
    exact .lst (SqL.of ((off_ne fun z => by obtain ⟨o, e, _⟩ := hS b z; rw [n] at e; cases e).trans h)) (DaAll.same (off_new s) _ (cut_da e3 lo hi))
  | tuple ds =>
    cases e
    obtain ⟨p, vs, rfl, e2, e3⟩ := vw_tupP wa
    refine ⟨p, vs, rfl, .inr ⟨e2.off, fun b H' s h => q _ _ s ?_⟩⟩
    exact .tup (off_P (hS_later hS s) h) (DaAll.same (off_new s) _ (cut_da e3 lo hi))
  | none => cases e
  | bool _ => cases e
  | int _ => cases e
  | str _ => cases e
  | dict _ => cases e
end
def PostO (K : PySem.W.Frag) (E : XK) (B : Addr → Prop) (σ : St) (H : Hp) (l : List Addr) (rs : Rs (Option Int)) (Q : Option Int → Hp → Prop) : Prop :=
  match rs with
  | .ok b env' => ∀ H', Rep K B σ H' env' l → Fr l H H' → Q b H'
  | .ex C f d => Exn K E B H l C f d
structure OkP (K : PySem.W.Frag) (E : XK) (t : TO) (f : M (Option Int)) : Prop where
  run : ∀ {B : Addr → Prop} {σ : St} {H : Hp} {env : En} {l : List Addr} {rs : Rs (Option Int)}, Rep K B σ H env l → f env = some rs → ∀ {Q : Option Int → Hp → Prop}, PostO K E B σ H l rs Q → t σ H Q
section
variable {K : PySem.W.Frag} {E : XK}
theorem OkP.seq {α : Type} {ta : TO} {fa : M (Option Int)} {g : Option Int → M α} (oa : OkP K E ta fa) {B : Addr → Prop} {σ : St} {H : Hp} {env : En} {l : List Addr} {rs : Rs α} (r : Rep K B σ H env l) (h : (M.bind fa g) env = some rs) {Q : Option Int → Hp → Prop}
    (hx : ∀ C f d, rs = .ex C f d → Exn K E B H l C f d) (hq : ∀ a e H', g a e = some rs → Rep K B σ H' e l → Fr l H H' → Q a H') : ta σ H Q := by
  rcases bind_some h with ⟨a, e, h1, h2⟩ | ⟨C, f, d, h1, h2⟩
  · exact oa.run r h1 (fun H' r' fr => hq a e H' h2 r' fr)
  · exact oa.run r h1 (hx C f d h2)
def poN : M (Option Int) := M.pure none
def asI : R → Option Int
  | .dat (.int i) => some i
  | _ => none
theorem asI_some {a : R} {i : Int} (h : asI a = some i) : a = .dat (.int i) := by
  unfold asI at h
  split at h
  · cases h; rfl
  · cases h
def poS (fa : M R) : M (Option Int) := M.bind fa fun a => M.bind (lift (asI a)) fun i => M.pure (some i)
theorem OkP.none : OkP K E tNoPart poN := by
  refine ⟨?_⟩
  intro B σ H env l rs rp h Q post
  cases h
  exact post H rp (Fr.refl _ _)
theorem OkP.some {t : TE} {fa : M R} (oa : OkE K E t fa) : OkP K E (tPart t) (poS fa) := by
  refine ⟨?_⟩
  intro B σ H env l rs rp h Q post
  refine oa.seq rp h (fun C f d e => by subst e; exact post) fun a e v1 H1 h1 r1 f1 q1 => ?_
  obtain ⟨i, h2, h3⟩ := lift_step h1
  cases h3
  rw [asI_some h2] at q1
  cases q1
  exact ⟨_, rfl, post H1 r1 f1⟩
def slD (fa : M R) (fl fh : M (Option Int)) : M R := M.bind fa fun a => M.bind fl fun lo => M.bind fh fun hi => M.bind (vw a) fun x => M.bind (lift (cutD x lo hi)) fun d => M.pure (.dat d)
theorem OkE.sl {t : TE} {tl th : TO} {fa : M R} {fl fh : M (Option Int)} (oa : OkE K E t fa) (ol : OkP K E tl fl) (oh : OkP K E th fh) : OkE K E (tSl (rCut K) t tl th) (slD fa fl fh) := by
  refine ⟨?_⟩
  intro B σ H env l rs rp h Q post
  refine oa.seq rp h post.exn fun a e v1 H1 h1 r1 f1 q1 => ?_
  refine ol.seq r1 h1 (exn_later post.exn f1) fun lo e2 H2 h2 r2 f2 => ?_
  refine oh.seq r2 h2 (exn_later post.exn (f1.trans f2)) fun hi e3 H3 h3 r3 f3 => ?_
  obtain ⟨x, h4, w1⟩ := vw_step r3 (q1.mv (f2.trans f3).keep) h3
  obtain ⟨d, h5, h6⟩ := lift_step h4
  cases h6
  exact ok_cut r3.tl w1 h5 fun v H' s q => post v H' (r3.same s) (((f1.trans f2).trans f3).trans (Fr.of s)) q
end
/-! built-in calls -/
section
variable {X : Cx}
/-- xs + ys of lists that stand -/
def rCatL (K : PySem.W.Frag) : R2 := fun x y H Q => ∃ l b xs zs, x = .ref l ∧ y = .ref b ∧ SqL K H l xs ∧ SqL K H b zs ∧ xs.length + zs.length ≤ sizeLine ∧ ∀ p, H p = none → Q (.ref p) (upd H p (.lst (xs ++ zs)))
theorem op_catL : OpR X (binaryOp .Add) (rCatL X.K) := by
  intro pins s σ H x y v u Q I rx ry h
  obtain ⟨l, b, xs, zs, rfl, rfl, hH, hB, hz, q⟩ := h
  cases rx
  cases ry
  obtain ⟨its, r, e, z⟩ := I.list hH
  obtain ⟨its2, r2, e2, z2⟩ := I.list hB
  have hl := r.length
  have hl2 := r2.length
  obtain ⟨⟨cls, dd, data, sl⟩, ho, hc, n, hd⟩ := e.isList
  obtain ⟨⟨cls2, dd2, data2, sl2⟩, ho2, hc2, n2, hd2⟩ := e2.isList
  simp only at hc hd hc2 hd2
  subst hc hd hc2 hd2
  have ea : its.toArray ++ its2.toArray = (its ++ its2).toArray := by simp
  refine concat_meets ⟨_, ho, rfl⟩ ⟨_, ho2, rfl⟩ noFill_list_add seq_list_add PySem.F.slot_list_add PySem.F.entry_list_add (PySem.F.args_list_add_2 _ _) (PyProof.Rows.list_addW l b its.toArray its2.toArray n n2 dd dd2 sl sl2 (by rw [List.size_toArray, List.size_toArray]; omega)) ⟨ho, ho2, ?_⟩
  rw [ea]
  exact ⟨.ref _, _, I.lnew (t' := s.toks) (r.append r2) (by rw [List.length_append]; omega), rfl, q _ I.fresh⟩
end
section
variable {K : PySem.W.Frag}
def catD (a b : PyData) : Option PyData :=
  match a, b with
  | .list xs, .list ys => (sz (xs.length + ys.length)).map fun _ => .list (xs ++ ys)
  | _, _ => none
theorem ok_catL : OpOk K (rCatL K) catD := by
  intro S H x y a b d hS wa wb e Q q
  unfold catD at e
  split at e
  · obtain ⟨u, e1, e2⟩ := Option.map_eq_some_iff.mp e
    subst e2
    obtain ⟨p, vs, rfl, h2, h3⟩ := vw_list wa
    obtain ⟨p', vs', rfl, h2', h3'⟩ := vw_list wb
    refine ⟨p, p', vs, vs', rfl, rfl, h2, h2', by rw [daAll_len h3, daAll_len h3']; exact sz_ok e1, fun r hr => ?_⟩
    exact q _ _ (same_new hr _) (new_dp hS hr (daAll_append h3 h3')).1
  · cases e
def catT (a b : PyData) : Option PyData :=
  match a, b with
  | .tuple xs, .tuple ys => (sz (xs.length + ys.length)).map fun _ => .tuple (xs ++ ys)
  | _, _ => none
theorem ok_catT : OpOk K (rCatW K) catT := by
  intro S H x y a b d hS wa wb e Q q
  unfold catT at e
  split at e
  · obtain ⟨u, e1, e2⟩ := Option.map_eq_some_iff.mp e
    subst e2
    obtain ⟨p, vs, rfl, h2, h3⟩ := vw_tupP wa
    obtain ⟨p', vs', rfl, h2', h3'⟩ := vw_tupP wb
    refine ⟨p, p', vs, vs', rfl, rfl, h2.off, h2'.off, by rw [daAll_len h3, daAll_len h3']; exact sz_ok e1, fun r H' s hr => ?_⟩
    exact q _ _ s (.tup (off_P (hS_later hS s) hr) (DaAll.same (off_new s) _ (daAll_append h3 h3')))
  · cases e
def lenD (as : List PyData) : Option PyData :=
  match as with
  | [a] => (seqD a).map fun ds => .int ds.length
  | _ => none
theorem vwAll1 {S : Addr → Prop} {H : Hp} {xs : List V} {a : PyData} (h : VwAll K S H xs [a]) : ∃ x, xs = [x] ∧ Vw K S H x a := by
  cases h with | cons h t => cases t; exact ⟨_, rfl, h⟩
theorem vwAll2 {S : Addr → Prop} {H : Hp} {xs : List V} {a b : PyData} (h : VwAll K S H xs [a, b]) : ∃ x y, xs = [x, y] ∧ Vw K S H x a ∧ Vw K S H y b := by
  cases h with | cons h t => cases t with | cons h' t => cases t; exact ⟨_, _, rfl, h, h'⟩
theorem ok_len : CbOk K (fun xs H Q => ∃ p ys, xs = [.ref p] ∧ (SqL K H p ys ∨ SqT K H p ys) ∧ Q (.int ys.length) H) lenD := by
  intro S H xs as d hS w e Q q
  unfold lenD at e
  split at e
  · obtain ⟨ds, e1, e2⟩ := Option.map_eq_some_iff.mp e
    subst e2
    obtain ⟨x, rfl, wx⟩ := vwAll1 w
    obtain ⟨p, vs, rfl, h2, h3⟩ := vw_seq wx e1
    exact ⟨p, vs, rfl, h2, q _ _ (same_refl _) (by rw [daAll_len h3]; exact .int _)⟩
  · cases e
def tupleD (as : List PyData) : Option PyData :=
  match as with
  | [a] => (seqD a).map fun ds => .tuple ds
  | _ => none
theorem ok_tuple : CbOk K (rTupW K) tupleD := by
  intro S H xs as d hS w e Q q
  unfold tupleD at e
  split at e
  · obtain ⟨ds, e1, e2⟩ := Option.map_eq_some_iff.mp e
    subst e2
    obtain ⟨x, rfl, wx⟩ := vwAll1 w
    obtain ⟨p, vs, rfl, h2, h3⟩ := vw_seqP wx e1
    exact ⟨p, vs, rfl, h2, fun r H' s hr => q _ _ s (.tup (off_P (hS_later hS s) hr) (DaAll.same (off_new s) _ h3))⟩
  · cases e
def absD (as : List PyData) : Option PyData :=
  match as with
  | [.int i] => some (.int (if i < 0 then -i else i))
  | _ => none
theorem ok_abs : CbOk K (fun xs H Q => ∃ i, xs = [.int i] ∧ Q (.int (if i < 0 then -i else i)) H) absD := by
  intro S H xs as d hS w e Q q
  unfold absD at e
  split at e
  · cases e
    obtain ⟨x, rfl, wx⟩ := vwAll1 w
    exact ⟨_, by rw [vw_int wx], q _ _ (same_refl _) (.int _)⟩
  · cases e
def minD (as : List PyData) : Option PyData :=
  match as with
  | [.int i, .int j] => some (.int (if j < i then j else i))
  | _ => none
theorem ok_min : CbOk K (fun xs H Q => ∃ i j, xs = [.int i, .int j] ∧ Q (.int (if j < i then j else i)) H) minD := by
  intro S H xs as d hS w e Q q
  unfold minD at e
  split at e
  · cases e
    obtain ⟨x, y, rfl, wx, wy⟩ := vwAll2 w
    exact ⟨_, _, by rw [vw_int wx, vw_int wy], q _ _ (same_refl _) (.int _)⟩
  · cases e
def maxD (as : List PyData) : Option PyData :=
  match as with
  | [.int i, .int j] => some (.int (if j > i then j else i))
  | _ => none
def intD (as : List PyData) : Option PyData :=
  match as with
  | [.int i] => some (.int i)
  | [.bool k] => some (.int (if k then 1 else 0))
  | _ => none
theorem ok_int : CbOk K (fun xs H Q => (∃ i, xs = [.int i] ∧ Q (.int i) H) ∨ ∃ k, xs = [.bl k] ∧ Q (.int (if k then 1 else 0)) H) intD := by
  intro S H xs as d hS w e Q q
  unfold intD at e
  split at e
  · cases e
    obtain ⟨x, rfl, wx⟩ := vwAll1 w
    exact .inl ⟨_, by rw [vw_int wx], q _ _ (same_refl _) (.int _)⟩
  · cases e
    obtain ⟨x, rfl, wx⟩ := vwAll1 w
    exact .inr ⟨_, by rw [vw_bool wx], q _ _ (same_refl _) (.int _)⟩
  · cases e
/-- a list of truth values -/
def boolsD : List PyData → Option (List Bool)
  | [] => some []
  | .bool b :: r => (boolsD r).map (b :: ·)
  | _ :: _ => none
theorem bools_da {H : Hp} : ∀ {vs : List V} {ds : List PyData} {bs : List Bool}, DaAll K H vs ds → boolsD ds = some bs → vs = bs.map V.bl
  | _, _, bs, .nil, e => by cases e; rfl
  | _, _, bs, .cons (d := .bool b) h t, e => by
    obtain ⟨q, e1, e2⟩ := Option.map_eq_some_iff.mp (show (boolsD _).map (b :: ·) = some bs from e)
    subst e2
    cases h
    rw [bools_da t e1]
    rfl
  | _, _, bs, .cons (d := .int b) h t, e => by cases e
  | _, _, bs, .cons (d := .none) h t, e => by cases e
  | _, _, bs, .cons (d := .str b) h t, e => by cases e
  | _, _, bs, .cons (d := .list b) h t, e => by cases e
  | _, _, bs, .cons (d := .tuple b) h t, e => by cases e
  | _, _, bs, .cons (d := .dict b) h t, e => by cases e
def intsD : List PyData → Option (List Int)
  | [] => some []
  | .int b :: r => (intsD r).map (b :: ·)
  | _ :: _ => none
theorem ints_da {H : Hp} : ∀ {vs : List V} {ds : List PyData} {bs : List Int}, DaAll K H vs ds → intsD ds = some bs → vs = bs.map V.int
  | _, _, bs, .nil, e => by cases e; rfl
  | _, _, bs, .cons (d := .int b) h t, e => by
    obtain ⟨q, e1, e2⟩ := Option.map_eq_some_iff.mp (show (intsD _).map (b :: ·) = some bs from e)
    subst e2
    cases h
    rw [ints_da t e1]
    rfl
  | _, _, bs, .cons (d := .bool b) h t, e => by cases e
  | _, _, bs, .cons (d := .none) h t, e => by cases e
  | _, _, bs, .cons (d := .str b) h t, e => by cases e
  | _, _, bs, .cons (d := .list b) h t, e => by cases e
  | _, _, bs, .cons (d := .tuple b) h t, e => by cases e
  | _, _, bs, .cons (d := .dict b) h t, e => by cases e
theorem boolsD_map (ns : List Bool) : boolsD (ns.map PyData.bool) = some ns := by
  induction ns with
  | nil => rfl
  | cons n r ih => show (boolsD (r.map PyData.bool)).map (n :: ·) = _; rw [ih]; rfl
theorem da_ints {H : Hp} : ∀ ns : List Int, DaAll K H (ns.map V.int) (ns.map PyData.int)
  | [] => .nil
  | n :: r => .cons (.int n) (da_ints r)
def allD (as : List PyData) : Option PyData :=
  match as with
  | [.list ds] => (boolsD ds).map fun bs => .bool (bs.all id)
  | _ => none
theorem ok_all : CbOk K (rAll K) allD := by
  intro S H xs as d hS w e Q q
  unfold allD at e
  split at e
  · obtain ⟨bs, e1, e2⟩ := Option.map_eq_some_iff.mp e
    subst e2
    obtain ⟨x, rfl, wx⟩ := vwAll1 w
    obtain ⟨p, vs, rfl, h2, h3⟩ := vw_list wx
    rw [bools_da h3 e1] at h2
    exact ⟨p, bs, rfl, rd_sq h2, q _ _ (same_refl _) (.bl _)⟩
  · cases e
/-- numbers in order -/
def sortI (ns : List Int) : List Int := ns.mergeSort (fun a b => decide (a ≤ b))
end
end Ov
set_option Elab.async false
set_option linter.all false
set_option maxRecDepth 100000
set_option maxHeartbeats 4000000
namespace Ov
open PySem L2
/-! values that may be owned, statements -/
structure Fr2 (l : List Addr) (H : Hp) (l' : List Addr) (H' : Hp) : Prop where
  fr : Fr l H H'
  sub : ∀ b ∈ l', b ∈ l ∨ H b = none
theorem Fr2.refl (l : List Addr) (H : Hp) : Fr2 l H l H := ⟨Fr.refl _ _, fun _ z => .inl z⟩
theorem Fr2.of {l : List Addr} {H H' : Hp} (f : Fr l H H') : Fr2 l H l H' := ⟨f, fun _ z => .inl z⟩
theorem Fr2.trans {l l1 l2 : List Addr} {H H1 H2 : Hp} (a : Fr2 l H l1 H1) (b : Fr2 l1 H1 l2 H2) : Fr2 l H l2 H2 := by
  refine ⟨fun c o n h => b.fr c o (fun z => ?_) (a.fr c o n h), fun c z => ?_⟩
  · rcases a.sub c z with z | z
    · exact n z
    · rw [h] at z; cases z
  · rcases b.sub c z with z | z
    · exact a.sub c z
    · by_cases m : c ∈ l
      · exact .inl m
      · cases q : H c with
        | none => exact .inr rfl
        | some o => rw [a.fr c o m q] at z; cases z
section
variable {K : PySem.W.Frag} {E : XK}
theorem Exn.later2 {B : Addr → Prop} {H H1 : Hp} {l l1 : List Addr} {C : Addr} {f : Str} {d : PyData} (x : Exn K E B H l C f d) (s : Fr2 l H l1 H1) : Exn K E B H1 l1 C f d :=
  ⟨fun hf dx H' v fr n h q => x.1 hf dx H' v (s.trans (Fr2.of fr)).fr n h q, fun hf H' fr => x.2 hf H' (s.trans (Fr2.of fr)).fr⟩
def PostW (K : PySem.W.Frag) (E : XK) (B : Addr → Prop) (σ : St) (H : Hp) (l : List Addr) (rs : Rs Wv) (Q : VK) : Prop :=
  match rs with
  | .ok w env' => ∀ v H' lw, Rep K (un B lw) σ H' env' l → Fr l H H' → RpW K H' (off (un (un B lw) l) H') v w lw → lw.Nodup → (∀ b ∈ lw, H b = none) → Q v H'
  | .ex C f d => Exn K E B H l C f d
structure OkW (K : PySem.W.Frag) (E : XK) (t : TE) (f : M Wv) : Prop where
  run : ∀ {B : Addr → Prop} {σ : St} {H : Hp} {env : En} {l : List Addr} {rs : Rs Wv}, Rep K B σ H env l → f env = some rs → ∀ {Q : VK}, PostW K E B σ H l rs Q → t σ H Q
theorem PostW.exn {B : Addr → Prop} {σ : St} {H : Hp} {l : List Addr} {rs : Rs Wv} {Q : VK} (h : PostW K E B σ H l rs Q) : ∀ C f d, rs = .ex C f d → Exn K E B H l C f d := fun C f d e => by subst e; exact h
theorem OkW.seq {α : Type} {ta : TE} {fa : M Wv} {g : Wv → M α} (oa : OkW K E ta fa) {B : Addr → Prop} {σ : St} {H : Hp} {env : En} {l : List Addr} {rs : Rs α} (r : Rep K B σ H env l) (h : (M.bind fa g) env = some rs) {Q : VK}
    (hx : ∀ C f d, rs = .ex C f d → Exn K E B H l C f d) (hq : ∀ a e v H' lw, g a e = some rs → Rep K (un B lw) σ H' e l → Fr l H H' → RpW K H' (off (un (un B lw) l) H') v a lw → lw.Nodup → (∀ b ∈ lw, H b = none) → Q v H') : ta σ H Q := by
  rcases bind_some h with ⟨a, e, h1, h2⟩ | ⟨C, f, d, h1, h2⟩
  · exact oa.run r h1 (fun v H' lw r' fr q n1 n2 => hq a e v H' lw h2 r' fr q n1 n2)
  · exact oa.run r h1 (hx C f d h2)
theorem un_nil (B : Addr → Prop) : un B [] = B := by
  funext b
  exact propext ⟨fun z => z.elim id (fun z => by cases z), .inl⟩
theorem un_app (B : Addr → Prop) (a b : List Addr) : un (un B a) b = un B (a ++ b) := by
  funext c
  exact propext ⟨fun z => z.elim (fun z => z.imp id (List.mem_append_left _)) fun z => .inr (List.mem_append_right _ z), fun z => z.elim (fun z => .inl (.inl z)) fun z => (List.mem_append.mp z).elim (fun z => .inl (.inr z)) .inr⟩
def toW : R → Option Wv
  | .dat d => some (.dat d)
  | .exc C f d => some (.exc C f d)
  | .slot _ => none
/-- a value that is no list of one's own -/
def pl (f : M R) : M Wv := M.bind f fun r => lift (toW r)
theorem OkE.w {t : TE} {f : M R} (o : OkE K E t f) : OkW K E t (pl f) := by
  refine ⟨?_⟩
  intro B σ H env l rs rp h Q post
  refine o.seq rp h post.exn fun a e v H' h1 r1 f1 q1 => ?_
  obtain ⟨w, h2, h3⟩ := lift_some h1
  subst h3
  refine post v H' [] (by rw [un_nil]; exact r1) f1 ?_ List.nodup_nil (fun _ z => by cases z)
  rw [un_nil]
  cases a with
  | dat d => cases h2; exact ⟨rfl, q1⟩
  | slot i => cases h2
  | exc C f d => cases h2; exact ⟨rfl, q1⟩
/-- a list of one's own as data from here on -/
def itD : It1 → PyData
  | .dat d => d
  | .own ds => .list ds
def ofW : Wv → Option R
  | .dat d => some (.dat d)
  | .own xs => some (.dat (.list (xs.map itD)))
  | .exc C f d => some (.exc C f d)
  | .dct _ => none
  | .dci kvs => some (.dat (dcD kvs))
  | .dts _ => none
  | .pin _ _ => none
  | .dtn _ => none
  | .nd _ => none
  | .lkd _ => none
  | .dtk [] => none
  | .dtk (z :: r) => some (.dat (dkD (z :: r)))
theorem rp1_free {H G G' : Hp} {v : V} {x : It1} {l : List Addr} (s : Same G G') (k : ∀ b ∈ l, ∀ us, H b = some (.lst us) → G' b = some (.lst us)) (h : Rp1 K H G v x l) : Da K G' v (itD x) := by
  cases x with
  | dat d => exact Da.same s d h.2
  | own ds =>
    obtain ⟨q, us, rfl, rfl, e3, e4⟩ := h
    exact .lst (SqL.of (k q (List.mem_cons_self ..) us e3)) (DaAll.same s ds e4)
theorem rp1s_free {H G G' : Hp} (s : Same G G') : ∀ {vs : List V} {xs : List It1} {l : List Addr}, (∀ b ∈ l, ∀ us, H b = some (.lst us) → G' b = some (.lst us)) → Rp1s K H G vs xs l → DaAll K G' vs (xs.map itD)
  | [], [], l, _, h => .nil
  | v :: vs, x :: xs, l, k, ⟨a, b, e, h1, h2⟩ => .cons (rp1_free s (fun c z => k c (by rw [e]; exact List.mem_append_left _ z)) h1) (rp1s_free s (fun c z => k c (by rw [e]; exact List.mem_append_right _ z)) h2)
  | [], _ :: _, _, _, h => h.elim
  | _ :: _, [], _, _, h => h.elim
theorem rpW_free {H G G' : Hp} {σ : St} {v : V} {w : Wv} {r : R} {l : List Addr} (hr : ofW w = some r) (s : Same G G') (k : ∀ b ∈ l, ∀ us, H b = some us → G' b = some us) (h : RpW K H G v w l) : RpR K G' σ v r := by
  cases w with
  | dct ks => cases hr
  | dci kvs =>
    cases hr
    obtain ⟨p, rfl, rfl, e3⟩ := h
    exact .dctI kvs rfl (k p (List.mem_cons_self ..) _ e3)
  | dts ks => cases hr
  | pin _ _ => cases hr
  | dtn _ => cases hr
  | nd _ => cases hr
  | lkd _ => cases hr
  | dtk kvs =>
    cases kvs with
    | nil => cases hr
    | cons z r =>
      cases hr
      obtain ⟨p, rfl, rfl, e3⟩ := h
      exact .dtk (z :: r) (by simp) rfl (k p (List.mem_cons_self ..) _ e3)
  | dat d => cases hr; exact Da.same s d h.2
  | own xs =>
    cases hr
    obtain ⟨p, vs, b, rfl, rfl, e3, e4⟩ := h
    exact .lst (SqL.of (k p (List.mem_cons_self ..) _ e3)) (rp1s_free s (fun c z us => k c (List.mem_cons_of_mem _ z) (.lst us)) e4)
  | exc C f d =>
    cases hr
    obtain ⟨_, a, u, e1, e2, e3⟩ := h
    exact ⟨a, u, e1, e2.same s, fun z => Da.same s d (e3 z)⟩
def fz (f : M Wv) : M R := M.bind f fun w => lift (ofW w)
theorem OkW.e {t : TE} {f : M Wv} (o : OkW K E t f) : OkE K E t (fz f) := by
  refine ⟨?_⟩
  intro B σ H env l rs rp h Q post
  refine o.seq rp h post.exn fun a e v H' lw h1 r1 f1 q1 nd fr => ?_
  obtain ⟨r, h2, h3⟩ := lift_some h1
  subst h3
  refine post v H' (r1.less fun _ z => .inl z) f1 (rpW_free h2 (off_mono (fun b z n => absurd (z.elim (fun z => .inl (.inl z)) .inr) n) fun b o n e => e) (fun b z us e => ?_) q1)
  refine (off_ne fun y => ?_).trans e
  exact rp.fresh (fr b z) y
inductive Fl where
  | nx | bk | ct
  | rt (w : Wv)
def PostS (K : PySem.W.Frag) (E : XK) (bx : Bool) (B : Addr → Prop) (σ : St) (H : Hp) (l : List Addr) (rs : Rs Fl) (D : Ends) : Prop :=
  match rs with
  | .ok .nx env' => ∀ σ' H' l', Rep K B σ' H' env' l' → Fr2 l H l' H' → (bx = true → σ'[0]? = σ[0]?) → D.nx σ' H'
  | .ok .bk env' => ∀ σ' H' l', Rep K B σ' H' env' l' → Fr2 l H l' H' → (bx = true → σ'[0]? = σ[0]?) → D.bk σ' H'
  | .ok .ct env' => ∀ σ' H' l', Rep K B σ' H' env' l' → Fr2 l H l' H' → (bx = true → σ'[0]? = σ[0]?) → D.ct σ' H'
  | .ok (.rt w) env' => ∀ v σ' H' l' lw, Rep K (un B lw) σ' H' env' l' → Fr2 l H (l' ++ lw) H' → (bx = true → σ'[0]? = σ[0]?) → RpW K H' (off (un (un B lw) l') H') v w lw → lw.Nodup → (∀ b ∈ lw, b ∉ l' ∧ ¬ B b) → D.rt v H'
  | .ex C f d => Exn K E B H l C f d
structure OkS (K : PySem.W.Frag) (E : XK) (bx : Bool) (t : TS) (f : M Fl) : Prop where
  run : ∀ {B : Addr → Prop} {σ : St} {H : Hp} {env : En} {l : List Addr} {rs : Rs Fl}, Rep K B σ H env l → f env = some rs → ∀ {D : Ends}, PostS K E bx B σ H l rs D → t D σ H
variable {bx : Bool}
theorem PostS.exn {B : Addr → Prop} {σ : St} {H : Hp} {l : List Addr} {rs : Rs Fl} {D : Ends} (h : PostS K E bx B σ H l rs D) : ∀ C f d, rs = .ex C f d → Exn K E B H l C f d := fun C f d e => by subst e; exact h
theorem PostS.later {B : Addr → Prop} {σ σ1 : St} {H H1 : Hp} {l l1 : List Addr} {rs : Rs Fl} {D : Ends} (h : PostS K E bx B σ H l rs D) (s : Fr2 l H l1 H1) (e0 : bx = true → σ1[0]? = σ[0]?) : PostS K E bx B σ1 H1 l1 rs D := by
  cases rs with
  | ex C f d => exact Exn.later2 h s
  | ok fl env =>
    cases fl with
    | nx => exact fun σ' H' l' r f b => h σ' H' l' r (s.trans f) fun z => (b z).trans (e0 z)
    | bk => exact fun σ' H' l' r f b => h σ' H' l' r (s.trans f) fun z => (b z).trans (e0 z)
    | ct => exact fun σ' H' l' r f b => h σ' H' l' r (s.trans f) fun z => (b z).trans (e0 z)
    | rt w => exact fun v σ' H' l' lw r f b => h v σ' H' l' lw r (s.trans f) fun z => (b z).trans (e0 z)
def nxt : M Fl := M.pure .nx
theorem OkS.nil : OkS K E bx tNext nxt := by
  refine ⟨?_⟩
  intro B σ H env l rs rp h D post
  cases h
  exact post σ H l rp (Fr2.refl _ _) fun _ => rfl
def thenS (f g : M Fl) : M Fl := M.bind f fun fl => match fl with
  | .nx => g
  | o => M.pure o
theorem OkS.cut {t u : TS} {f g : M Fl} (o : OkS K E bx t f) (o' : OkS K E bx u g) : OkS K E bx (Evl.tCut t u) (thenS f g) := by
  refine ⟨?_⟩
  intro B σ H env l rs rp h D post
  rcases bind_some h with ⟨fl, e, h1, h2⟩ | ⟨C, g', d, h1, h2⟩
  · cases fl with
    | nx => exact ⟨fun σ' H' => ∃ l', Rep K B σ' H' e l' ∧ Fr2 l H l' H' ∧ (bx = true → σ'[0]? = σ[0]?), o.run rp h1 (fun σ' H' l' r f b => ⟨l', r, f, b⟩), fun σ' H' ⟨l', r, f, b⟩ => o'.run r h2 (post.later f b)⟩
    | bk => cases h2; exact ⟨fun _ _ => False, o.run rp h1 post, fun _ _ z => z.elim⟩
    | ct => cases h2; exact ⟨fun _ _ => False, o.run rp h1 post, fun _ _ z => z.elim⟩
    | rt w => cases h2; exact ⟨fun _ _ => False, o.run rp h1 post, fun _ _ z => z.elim⟩
  · subst h2; exact ⟨fun _ _ => False, o.run rp h1 post, fun _ _ z => z.elim⟩
def exprS (f : M R) : M Fl := M.bind f fun _ => M.pure .nx
theorem OkS.expr {t : TE} {f : M R} (o : OkE K E t f) : OkS K E bx (tDrop t) (exprS f) := by
  refine ⟨?_⟩
  intro B σ H env l rs rp h D post
  refine o.seq rp h post.exn fun a e v H' h1 r1 f1 q1 => ?_
  cases h1
  exact post σ H' l r1 (Fr2.of f1) fun _ => rfl
def retS (f : M Wv) : M Fl := M.bind f fun w => M.pure (.rt w)
theorem OkS.ret {t : TE} {f : M Wv} (o : OkW K E t f) : OkS K E bx (tRet t) (retS f) := by
  refine ⟨?_⟩
  intro B σ H env l rs rp h D post
  refine o.seq rp h post.exn fun a e v H' lw h1 r1 f1 q1 nd fr => ?_
  cases h1
  exact post v σ H' l lw r1 ⟨f1, fun b z => (List.mem_append.mp z).imp id (fr b)⟩ (fun _ => rfl) q1 nd fun b z => ⟨fun y => rp.fresh (fr b z) (.inr y), fun y => rp.fresh (fr b z) (.inl y)⟩
def retN : M Fl := M.pure (.rt (.dat .none))
/-- the list of slot i leaves -/
def moveS (i : Nat) : M Fl := fun env =>
  match env[i]? with
  | some (some (.own xs)) => some (.ok (.rt (.own xs)) (env.set i none))
  | _ => none
theorem OkS.move (i : Nat) : OkS K E bx (tRet (tVar i)) (moveS i) := by
  refine ⟨?_⟩
  intro B σ H env l rs rp h D post
  unfold moveS at h
  split at h
  · rename_i xs hx
    cases h
    obtain ⟨s, a, lx, ly, q1, q2, ⟨v, q3, q4⟩, q5⟩ := rp.rp.focus hx
    subst q3
    have ev : un (un B a) (lx ++ ([] ++ ly)) = un B l := by
      rw [un_app, q2]
      funext b
      refine propext ⟨fun z => z.imp id fun z => ?_, fun z => z.imp id fun z => ?_⟩
      · rcases List.mem_append.mp z with z | z
        · exact List.mem_append_right _ (List.mem_append_left _ z)
        · rcases List.mem_append.mp z with z | z
          · exact List.mem_append_left _ z
          · exact List.mem_append_right _ (List.mem_append_right _ (by simpa using z))
      · rcases List.mem_append.mp z with z | z
        · exact List.mem_append_right _ (List.mem_append_left _ z)
        · rcases List.mem_append.mp z with z | z
          · exact List.mem_append_left _ z
          · exact List.mem_append_right _ (List.mem_append_right _ (by simpa using z))
    have nd := rp.nd
    rw [q2] at nd
    obtain ⟨n1, n2, n3⟩ := List.nodup_append.mp nd
    obtain ⟨n4, n5, n6⟩ := List.nodup_append.mp n2
    have e : σ.set i (some v) = σ := by
      apply List.ext_getElem?
      intro j
      by_cases z : i = j
      · subst z; rw [List.getElem?_set_self (List.getElem?_eq_some_iff.mp q1).1, q1]
      · rw [List.getElem?_set_ne z]
    have r' : Rep K (un B a) σ H (env.set i none) (lx ++ ([] ++ ly)) := by
      refine ⟨?_, ?_, ?_, ?_⟩
      · rw [ev]
        have := q5 (H' := H) (G' := off (un B l) H) (s' := some v) (e' := none) (a' := []) (fun _ _ z => z) (fun _ _ => rfl) (fun _ _ => rfl) rfl
        rw [e] at this
        exact this
      · rw [List.nil_append]
        exact List.nodup_append.mpr ⟨n1, n5, fun x hx y hy => n3 x hx y (List.mem_append_right _ hy)⟩
      · intro b z y
        rw [List.nil_append] at z
        rcases y with y | y
        · refine rp.out b ?_ y
          rw [q2]
          exact (List.mem_append.mp z).elim (List.mem_append_left _) fun z => List.mem_append_right _ (List.mem_append_right _ z)
        · rcases List.mem_append.mp z with z | z
          · exact n3 b z b (List.mem_append_left _ y) rfl
          · exact n6 b y b z rfl
      · intro b z
        refine rp.tl b (z.imp id fun z => ?_)
        rw [q2]
        exact List.mem_append_right _ (List.mem_append_left _ z)
    refine ⟨v, q1, post v σ H (lx ++ ([] ++ ly)) a r' ⟨Fr.refl _ _, fun b z => .inl ?_⟩ (fun _ => rfl) (by rw [ev]; exact q4) n4 fun b z => ⟨fun y => ?_, fun y => ?_⟩⟩
    · rw [q2]
      rcases List.mem_append.mp z with z | z
      · rw [List.nil_append] at z
        exact (List.mem_append.mp z).elim (List.mem_append_left _) fun z => List.mem_append_right _ (List.mem_append_right _ z)
      · exact List.mem_append_right _ (List.mem_append_left _ z)
    · rw [List.nil_append] at y
      rcases List.mem_append.mp y with y | y
      · exact n3 b y b (List.mem_append_left _ z) rfl
      · exact n6 b z b y rfl
    · exact rp.out b (by rw [q2]; exact List.mem_append_right _ (List.mem_append_left _ z)) y
  · cases h
def ifS (c : M Bool) (f g : M Fl) : M Fl := M.bind c fun b => if b = true then f else g
theorem OkS.ife {c : TT} {t u : TS} {fc : M Bool} {f g : M Fl} (oc : OkT K E c fc) (o : OkS K E bx t f) (o' : OkS K E bx u g) : OkS K E bx (tIfS c t u) (ifS fc f g) := by
  refine ⟨?_⟩
  intro B σ H env l rs rp h D post
  refine oc.seq rp h post.exn fun b e H1 h1 r1 f1 => ?_
  cases b with
  | true => exact iteT (o.run r1 (by simpa using h1) (post.later (Fr2.of f1) fun _ => rfl))
  | false => exact iteF (o'.run r1 (by simpa using h1) (post.later (Fr2.of f1) fun _ => rfl))
/-! stores to names -/
theorem Rep.put {B : Addr → Prop} {σ : St} {H : Hp} {env : En} {l lw : List Addr} {i : Nat} {v : V} {w : Wv} (r : Rep K (un B lw) σ H env l) (hi : i < env.length) (h : RpW K H (off (un (un B lw) l) H) v w lw) (nd : lw.Nodup) (hw : ∀ b ∈ lw, b ∉ l ∧ ¬ B b) :
    ∃ l', Rep K B (σ.set i (some v)) H (env.set i (some w)) l' ∧ ∀ b ∈ l', b ∈ l ∨ b ∈ lw := by
  obtain ⟨s, a, lx, ly, q1, q2, q3, q5⟩ := r.rp.focus (List.getElem?_eq_getElem hi)
  have nd0 := r.nd
  rw [q2] at nd0
  obtain ⟨n1, n2, n3⟩ := List.nodup_append.mp nd0
  obtain ⟨n4, n5, n6⟩ := List.nodup_append.mp n2
  have mem : ∀ b ∈ lx ++ (lw ++ ly), b ∈ l ∨ b ∈ lw := fun b z => by
    rw [q2]
    rcases List.mem_append.mp z with z | z
    · exact .inl (List.mem_append_left _ z)
    · rcases List.mem_append.mp z with z | z
      · exact .inr z
      · exact .inl (List.mem_append_right _ (List.mem_append_right _ z))
  have sub : Same (off (un (un B lw) l) H) (off (un B (lx ++ (lw ++ ly))) H) := off_mono (fun b z n => absurd (z.elim (fun z => .inl (.inl z)) fun z => (mem b z).elim .inr fun z => .inl (.inr z)) n) fun b o n e => e
  refine ⟨lx ++ (lw ++ ly), ⟨q5 sub (fun _ _ => rfl) (fun _ _ => rfl) ⟨v, rfl, h.mv sub fun _ _ => rfl⟩, ?_, ?_, fun b z => r.tb b (.inl z)⟩, mem⟩
  · have inl : ∀ b ∈ ly, b ∈ l := fun b z => by rw [q2]; exact List.mem_append_right _ (List.mem_append_right _ z)
    have inx : ∀ b ∈ lx, b ∈ l := fun b z => by rw [q2]; exact List.mem_append_left _ z
    refine List.nodup_append.mpr ⟨n1, List.nodup_append.mpr ⟨nd, n5, fun x hx y hy e => (hw x hx).1 (by rw [e]; exact inl y hy)⟩, fun x hx y hy e => ?_⟩
    rcases List.mem_append.mp hy with z | z
    · exact (hw y z).1 (by rw [← e]; exact inx x hx)
    · exact n3 x hx y (List.mem_append_right _ z) e
  · intro b z y
    rcases mem b z with z | z
    · exact r.out b z (.inl y)
    · exact (hw b z).2 y
def putM (i : Nat) (w : Wv) : M Unit := fun env => if i < env.length then some (.ok () (env.set i (some w))) else none
theorem putM_some {i : Nat} {w : Wv} {env : En} {rs : Rs Unit} (h : putM i w env = some rs) : i < env.length ∧ rs = .ok () (env.set i (some w)) := by
  unfold putM at h
  split at h
  · cases h; exact ⟨by assumption, rfl⟩
  · cases h
def setS (i : Nat) (f : M Wv) : M Fl := M.bind f fun w => M.bind (putM i w) fun _ => M.pure .nx
theorem putM_step {α : Type} {i : Nat} {w : Wv} {g : Unit → M α} {env : En} {rs : Rs α} (h : (M.bind (putM i w) g) env = some rs) : i < env.length ∧ g () (env.set i (some w)) = some rs := by
  rcases bind_some h with ⟨a, e, h1, h2⟩ | ⟨C, f, d, h1, h2⟩
  · obtain ⟨z, e1⟩ := putM_some h1
    cases e1
    exact ⟨z, h2⟩
  · obtain ⟨z, e1⟩ := putM_some h1
    cases e1
theorem OkS.set {i : Nat} {t : TE} {f : M Wv} (hb : bx = true → i ≠ 0) (o : OkW K E t f) : OkS K E bx (tAsg t (gName i)) (setS i f) := by
  refine ⟨?_⟩
  intro B σ H env l rs rp h D post
  refine o.seq rp h post.exn fun w e v H' lw h1 r1 f1 q1 nd fr => ?_
  obtain ⟨hi, h2⟩ := putM_step h1
  cases h2
  obtain ⟨l', r', m⟩ := r1.put hi q1 nd fun b z => ⟨fun y => rp.fresh (fr b z) (.inr y), fun y => rp.fresh (fr b z) (.inl y)⟩
  exact post _ H' l' r' ⟨f1, fun b z => (m b z).imp id (fr b)⟩ fun z => List.getElem?_set_ne (hb z)
end
end Ov
set_option Elab.async false
set_option linter.all false
set_option maxRecDepth 100000
set_option maxHeartbeats 4000000
namespace Ov
open PySem L2
/-! targets -/
def isOwn : Option (Option Wv) → Bool
  | some (some (.own _)) => true
  | some (some (.dct _)) => true
  | some (some (.dci _)) => true
  | some (some (.dtk _)) => true
  | some (some (.dts _)) => true
  | some (some (.dtn _)) => true
  | _ => false
def free (env : En) (js : List Nat) : Prop := ∀ j ∈ js, isOwn env[j]? = false
section
variable {K : PySem.W.Frag} {E : XK} {bx : Bool}
structure OkG (K : PySem.W.Frag) (g : TG) (js : List Nat) (p : PyData → En → Option En) : Prop where
  run : ∀ {B : Addr → Prop} {σ : St} {H : Hp} {env env' : En} {l : List Addr} {v : V} {d : PyData}, Rep K B σ H env l → Da K (off (un B l) H) v d → p d env = some env' → ∀ {Q : St → Hp → Prop},
    (∀ σ' l', Rep K B σ' H env' l' → (∀ b ∈ l', b ∈ l) → (free env js → l' = l) → (∀ j, j ∉ js → σ'[j]? = σ[j]?) → Q σ' H) → g v σ H Q
  keep : ∀ {d : PyData} {env env' : En}, p d env = some env' → (∀ j, j ∉ js → env'[j]? = env[j]?) ∧ (∀ j ∈ js, isOwn env'[j]? = false) ∧ env'.length = env.length
structure OkGs (K : PySem.W.Frag) (g : TGs) (js : List Nat) (n : Nat) (p : List PyData → En → Option En) : Prop where
  run : ∀ {B : Addr → Prop} {σ : St} {H : Hp} {env env' : En} {l : List Addr} {vs : List V} {ds : List PyData}, Rep K B σ H env l → DaAll K (off (un B l) H) vs ds → p ds env = some env' → ∀ {Q : St → Hp → Prop},
    (∀ σ' l', Rep K B σ' H env' l' → (∀ b ∈ l', b ∈ l) → (free env js → l' = l) → (∀ j, j ∉ js → σ'[j]? = σ[j]?) → Q σ' H) → g vs σ H Q
  keep : ∀ {ds : List PyData} {env env' : En}, p ds env = some env' → (∀ j, j ∉ js → env'[j]? = env[j]?) ∧ (∀ j ∈ js, isOwn env'[j]? = false) ∧ env'.length = env.length
  len : ∀ {ds : List PyData} {env env' : En}, p ds env = some env' → ds.length = n
def gN (i : Nat) (d : PyData) (env : En) : Option En := if i < env.length then some (env.set i (some (.dat d))) else none
theorem Rep.putD {B : Addr → Prop} {σ : St} {H : Hp} {env : En} {l : List Addr} {i : Nat} {v : V} {d : PyData} (r : Rep K B σ H env l) (hi : i < env.length) (h : Da K (off (un B l) H) v d) :
    ∃ l', Rep K B (σ.set i (some v)) H (env.set i (some (.dat d))) l' ∧ (∀ b ∈ l', b ∈ l) ∧ (isOwn env[i]? = false → l' = l) := by
  obtain ⟨s, a, lx, ly, q1, q2, q3, q5⟩ := r.rp.focus (List.getElem?_eq_getElem hi)
  have nd0 := r.nd
  rw [q2] at nd0
  obtain ⟨n1, n2, n3⟩ := List.nodup_append.mp nd0
  obtain ⟨n4, n5, n6⟩ := List.nodup_append.mp n2
  have mem : ∀ b ∈ lx ++ ([] ++ ly), b ∈ l := fun b z => by
    rw [q2]
    rcases List.mem_append.mp z with z | z
    · exact List.mem_append_left _ z
    · exact List.mem_append_right _ (List.mem_append_right _ (by simpa using z))
  have sub : Same (off (un B l) H) (off (un B (lx ++ ([] ++ ly))) H) := off_mono (fun b z n => absurd (z.imp id (mem b)) n) fun b o n e => e
  refine ⟨lx ++ ([] ++ ly), ⟨q5 sub (fun _ _ => rfl) (fun _ _ => rfl) ⟨v, rfl, rfl, Da.same sub d h⟩, ?_, fun b z => r.out b (mem b z), r.tb⟩, mem, fun z => ?_⟩
  · rw [List.nil_append]
    exact List.nodup_append.mpr ⟨n1, n5, fun x hx y hy => n3 x hx y (List.mem_append_right _ hy)⟩
  · rw [List.getElem?_eq_getElem hi] at z
    have : a = [] := by
      cases q : env[i] with
      | none => rw [q] at q3; exact q3
      | some w =>
        rw [q] at q3 z
        obtain ⟨v', _, q3⟩ := q3
        cases w with
        | dat _ => exact q3.1
        | own xs => cases z
        | dct ks => cases z
        | dci ks => cases z
        | dtk ks => cases z
        | dts ks => cases z
        | pin _ _ => exact q3.1
        | dtn _ => cases z
        | nd _ => exact q3.1
        | lkd _ => exact q3.1
        | exc _ _ _ => exact q3.1
    rw [q2, this]
theorem OkG.name (i : Nat) : OkG K (gName i) [i] (gN i) := by
  refine ⟨?_, ?_⟩
  · intro B σ H env env' l v d r h e Q q
    unfold gN at e
    split at e
    · rename_i hi
      cases e
      obtain ⟨l', r', m, f⟩ := r.putD hi h
      exact q _ l' r' m (fun z => f (z i (List.mem_cons_self ..))) fun j n => List.getElem?_set_ne fun z => n (by rw [z]; exact List.mem_cons_self ..)
    · cases e
  · intro d env env' e
    unfold gN at e
    split at e
    · rename_i hi
      cases e
      refine ⟨fun j n => List.getElem?_set_ne fun z => n (by rw [z]; exact List.mem_cons_self ..), fun j z => ?_, List.length_set ..⟩
      cases List.mem_singleton.mp z
      rw [List.getElem?_set_self hi]
      rfl
    · cases e
def gsN (ds : List PyData) (env : En) : Option En :=
  match ds with
  | [] => some env
  | _ => none
def gsC (p : PyData → En → Option En) (q : List PyData → En → Option En) (ds : List PyData) (env : En) : Option En :=
  match ds with
  | d :: r => (p d env).bind fun e => q r e
  | [] => none
theorem OkGs.nil : OkGs K gNil [] 0 gsN := by
  refine ⟨?_, ?_, ?_⟩
  · intro B σ H env env' l vs ds r h e Q q
    unfold gsN at e
    split at e
    · cases e; cases h; exact ⟨rfl, q σ l r (fun _ z => z) (fun _ => rfl) fun _ _ => rfl⟩
    · cases e
  · intro ds env env' e
    unfold gsN at e
    split at e
    · cases e; exact ⟨fun _ _ => rfl, fun _ z => (by cases z), rfl⟩
    · cases e
  · intro ds env env' e
    unfold gsN at e
    split at e
    · rfl
    · cases e
theorem OkGs.cons {g : TG} {gs : TGs} {is js : List Nat} {n : Nat} {p : PyData → En → Option En} {q : List PyData → En → Option En} (o : OkG K g is p) (os : OkGs K gs js n q) : OkGs K (gCons g gs) (is ++ js) (n + 1) (gsC p q) := by
  have two : ∀ {d : PyData} {env e : En}, p d env = some e → free env (is ++ js) → free env is ∧ free e js := fun {d env e} h f => by
    obtain ⟨k1, k2, _⟩ := o.keep h
    refine ⟨fun j z => f j (List.mem_append_left _ z), fun j z => ?_⟩
    by_cases y : j ∈ is
    · exact k2 j y
    · rw [k1 j y]; exact f j (List.mem_append_right _ z)
  refine ⟨?_, ?_, ?_⟩
  · intro B σ H env env' l vs ds r h e Q k
    cases ds with
    | nil => cases e
    | cons d ds =>
      obtain ⟨e1, h1, h2⟩ := Option.bind_eq_some_iff.mp (show (p d env).bind (fun e => q ds e) = some env' from e)
      cases h with
      | cons ha hr =>
        refine ⟨_, _, rfl, o.run r ha h1 fun σ1 l1 r1 m1 f1 k1 => ?_⟩
        have sub : Same (off (un B l) H) (off (un B l1) H) := off_mono (fun b z n => absurd (z.imp id (m1 b)) n) fun b o n e => e
        refine os.run r1 (DaAll.same sub ds hr) h2 fun σ2 l2 r2 m2 f2 k2 => ?_
        refine k σ2 l2 r2 (fun b z => m1 b (m2 b z)) (fun f => ?_) fun j n => ?_
        · obtain ⟨f3, f4⟩ := two h1 f
          rw [f2 f4, f1 f3]
        · rw [k2 j fun z => n (List.mem_append_right _ z), k1 j fun z => n (List.mem_append_left _ z)]
  · intro ds env env' e
    cases ds with
    | nil => cases e
    | cons d ds =>
      obtain ⟨e1, h1, h2⟩ := Option.bind_eq_some_iff.mp (show (p d env).bind (fun e => q ds e) = some env' from e)
      obtain ⟨a1, a2, a3⟩ := o.keep h1
      obtain ⟨b1, b2, b3⟩ := os.keep h2
      refine ⟨fun j n => ?_, fun j z => ?_, b3.trans a3⟩
      · rw [b1 j fun z => n (List.mem_append_right _ z), a1 j fun z => n (List.mem_append_left _ z)]
      · by_cases y : j ∈ js
        · exact b2 j y
        · rw [b1 j y]
          exact a2 j ((List.mem_append.mp z).resolve_right y)
  · intro ds env env' e
    cases ds with
    | nil => cases e
    | cons d ds =>
      obtain ⟨e1, h1, h2⟩ := Option.bind_eq_some_iff.mp (show (p d env).bind (fun e => q ds e) = some env' from e)
      rw [List.length_cons, os.len h2]
def gT (q : List PyData → En → Option En) (d : PyData) (env : En) : Option En :=
  match d with
  | .tuple ds => q ds env
  | _ => none
theorem OkG.tup {gs : TGs} {js : List Nat} {n : Nat} {q : List PyData → En → Option En} (os : OkGs K gs js n q) : OkG K (gTup K n gs) js (gT q) := by
  refine ⟨?_, ?_⟩
  · intro B σ H env env' l v d r h e Q k
    cases d with
    | tuple ds =>
      cases h with
      | tup hq ha =>
        exact ⟨_, _, rfl, hq.off.sq, (daAll_len ha).trans (os.len (show q ds env = some env' from e)), os.run r ha e k⟩
    | none => cases e
    | bool _ => cases e
    | int _ => cases e
    | str _ => cases e
    | list _ => cases e
    | dict _ => cases e
  · intro d env env' e
    cases d with
    | tuple ds => exact os.keep (show q ds env = some env' from e)
    | none => cases e
    | bool _ => cases e
    | int _ => cases e
    | str _ => cases e
    | list _ => cases e
    | dict _ => cases e
def liftE (p : En → Option En) : M Unit := fun env => (p env).map fun e => .ok () e
theorem liftE_step {α : Type} {p : En → Option En} {g : Unit → M α} {env : En} {rs : Rs α} (h : (M.bind (liftE p) g) env = some rs) : ∃ e, p env = some e ∧ g () e = some rs := by
  rcases bind_some h with ⟨a, e, h1, h2⟩ | ⟨C, f, d, h1, h2⟩
  · obtain ⟨e', h3, h4⟩ := Option.map_eq_some_iff.mp (show (p env).map (fun e => Rs.ok () e) = _ from h1)
    cases h4
    exact ⟨e, h3, h2⟩
  · obtain ⟨e', h3, h4⟩ := Option.map_eq_some_iff.mp (show (p env).map (fun e => Rs.ok () e) = _ from h1)
    cases h4
def asD : R → Option PyData
  | .dat d => some d
  | _ => none
theorem asD_some {a : R} {d : PyData} (h : asD a = some d) : a = .dat d := by
  unfold asD at h
  split at h
  · cases h; rfl
  · cases h
/-- a, b = e -/
def unS (p : PyData → En → Option En) (f : M R) : M Fl := M.bind f fun r => M.bind (lift (asD r)) fun d => M.bind (liftE (p d)) fun _ => M.pure .nx
theorem OkS.unpack {g : TG} {js : List Nat} {p : PyData → En → Option En} {t : TE} {f : M R} (og : OkG K g js p) (hb : bx = true → 0 ∉ js) (o : OkE K E t f) : OkS K E bx (tAsg t g) (unS p f) := by
  refine ⟨?_⟩
  intro B σ H env l rs rp h D post
  refine o.seq rp h post.exn fun a e v H' h1 r1 f1 q1 => ?_
  obtain ⟨d, h2, h3⟩ := lift_step h1
  obtain ⟨e2, h4, h5⟩ := liftE_step h3
  cases h5
  rw [asD_some h2] at q1
  exact og.run r1 q1 h4 fun σ' l' r' m f k => post σ' H' l' r' ⟨f1, fun b z => .inl (m b z)⟩ fun z => k 0 (hb z)
/-! what is walked -/
def PostI (K : PySem.W.Frag) (E : XK) (B : Addr → Prop) (σ : St) (H : Hp) (l : List Addr) (rs : Rs (List PyData)) (R : It → Hp → Prop) : Prop :=
  match rs with
  | .ok ds env' => ∀ J H' G Y, Rep K B σ H' env' l → Fr l H H' → Walk J ds.length G Y → (∀ H2, Fr l H' H2 → G H2) →
      (∀ i x H2 H3 d S, Fr l H' H2 → Y i H2 x H3 → ds[i]? = some d → (∀ b, S b → un B l b ∨ H' b = none) → (∀ b, S b → ∃ o, H2 b = some o ∧ NT o) → Same H2 H3 ∧ Da K (off S H3) x d) → R J H'
  | .ex C f d => Exn K E B H l C f d
structure OkI (K : PySem.W.Frag) (E : XK) (t : TI) (f : M (List PyData)) : Prop where
  run : ∀ {B : Addr → Prop} {σ : St} {H : Hp} {env : En} {l : List Addr} {rs : Rs (List PyData)}, Rep K B σ H env l → f env = some rs → ∀ {R : It → Hp → Prop}, PostI K E B σ H l rs R → t σ H R
theorem PostI.exn {B : Addr → Prop} {σ : St} {H : Hp} {l : List Addr} {rs : Rs (List PyData)} {R : It → Hp → Prop} (h : PostI K E B σ H l rs R) : ∀ C f d, rs = .ex C f d → Exn K E B H l C f d := fun C f d e => by subst e; exact h
theorem Da.walk {B S : Addr → Prop} {l : List Addr} {H H2 : Hp} {x : V} {d : PyData} (h : Da K (off (un B l) H) x d) (f : Fr l H H2) (hs : ∀ b, S b → un B l b ∨ H b = none) : Da K (off S H2) x d :=
  Da.same (off_mono (fun b z n => (hs b z).resolve_left n) fun b o n e => f b o (fun z => n (.inr z)) e) d h
/-! for -/
def forM (p : PyData → En → Option En) (body : M Fl) : List PyData → M Fl
  | [] => M.pure .nx
  | d :: ds => fun env =>
    match p d env with
    | none => none
    | some e =>
      match body e with
      | none => none
      | some (.ex C f d) => some (.ex C f d)
      | some (.ok .nx e2) => forM p body ds e2
      | some (.ok .ct e2) => forM p body ds e2
      | some (.ok .bk e2) => some (.ok .nx e2)
      | some (.ok (.rt w) e2) => some (.ok (.rt w) e2)
def forS (fi : M (List PyData)) (p : PyData → En → Option En) (body : M Fl) : M Fl := M.bind fi fun ds => forM p body ds
theorem OkS.for {wi : TI} {g : TG} {tb : TS} {fi : M (List PyData)} {js : List Nat} {p : PyData → En → Option En} {body : M Fl} (oi : OkI K E wi fi) (og : OkG K g js p) (hb : bx = true → 0 ∉ js) (ob : OkS K E bx tb body) : OkS K E bx (tFor wi g tb) (forS fi p body) := by
  refine ⟨?_⟩
  intro B σ H env l rs rp h D post
  rcases bind_some h with ⟨ds, e0, h1, h2⟩ | ⟨C, f, d, h1, h2⟩
  case inr => exact oi.run rp h1 (post.exn C f d h2)
  refine oi.run rp h1 ?_
  intro J H1 G Y r1 f1 wk hG hY
  have post1 := post.later (Fr2.of f1) (σ1 := σ) fun _ => rfl
  refine for_it wk (fun i σ' H' => ∃ env_i l_i, Rep K B σ' H' env_i l_i ∧ Fr2 l H1 l_i H' ∧ (bx = true → σ'[0]? = σ[0]?) ∧ forM p body (ds.drop i) env_i = some rs) ⟨e0, l, r1, Fr2.refl _ _, fun _ => rfl, h2⟩ (fun i σ' H' _ ⟨_, _, _, f, _⟩ => hG H' f.fr) ?_ ?_
  · rintro i x σ' H2 H3 hi ⟨ei, li, ri, fi, b0, hi2⟩ hy
    have hd : ds.drop i = ds[i] :: ds.drop (i + 1) := List.drop_eq_getElem_cons hi
    rw [hd] at hi2
    unfold forM at hi2
    obtain ⟨s3, da⟩ := hY i x H2 H3 ds[i] (un B li) fi.fr hy (List.getElem?_eq_getElem hi) (fun b z => z.elim (fun z => .inl (.inl z)) fun z => (fi.sub b z).imp .inr id) ri.tl
    have r3 := ri.same s3
    cases q : p ds[i] ei with
    | none => rw [q] at hi2; cases hi2
    | some e2 =>
      rw [q] at hi2
      simp only at hi2
      refine og.run r3 da q fun σ4 l4 r4 m4 _ k4 => ?_
      have f4 : Fr2 l H1 l4 H3 := fi.trans ⟨Fr.of s3, fun b z => .inl (m4 b z)⟩
      have b4 : bx = true → σ4[0]? = σ[0]? := fun z => (k4 0 (hb z)).trans (b0 z)
      cases q2 : body e2 with
      | none => rw [q2] at hi2; cases hi2
      | some z =>
        rw [q2] at hi2
        cases z with
        | ex C f d => cases hi2; exact ob.run r4 q2 (Exn.later2 post1 f4)
        | ok fl e3 =>
          cases fl with
          | nx => exact ob.run r4 q2 fun σ5 H5 l5 r5 f5 b5 => ⟨e3, l5, r5, f4.trans f5, fun z => (b5 z).trans (b4 z), hi2⟩
          | ct => exact ob.run r4 q2 fun σ5 H5 l5 r5 f5 b5 => ⟨e3, l5, r5, f4.trans f5, fun z => (b5 z).trans (b4 z), hi2⟩
          | bk => cases hi2; exact ob.run r4 q2 fun σ5 H5 l5 r5 f5 b5 => post1 σ5 H5 l5 r5 (f4.trans f5) fun z => (b5 z).trans (b4 z)
          | rt w => cases hi2; exact ob.run r4 q2 fun v σ5 H5 l5 lw r5 f5 b5 => post1 v σ5 H5 l5 lw r5 (f4.trans f5) fun z => (b5 z).trans (b4 z)
  · rintro σ' H' ⟨en, ln, rn, fn, b0, hn⟩
    rw [List.drop_length] at hn
    cases hn
    exact post1 σ' H' ln rn fn b0
/-! while -/
def whileM (c : M Bool) (body : M Fl) : Nat → M Fl
  | 0 => fun _ => none
  | n + 1 => fun env =>
    match c env with
    | none => none
    | some (.ex C f d) => some (.ex C f d)
    | some (.ok b e) => if b = true then
        match body e with
        | none => none
        | some (.ex C f d) => some (.ex C f d)
        | some (.ok .nx e2) => whileM c body n e2
        | some (.ok .ct e2) => whileM c body n e2
        | some (.ok .bk e2) => some (.ok .nx e2)
        | some (.ok (.rt w) e2) => some (.ok (.rt w) e2)
      else some (.ok .nx e)
theorem OkS.while {c : TT} {tb : TS} {fc : M Bool} {body : M Fl} (n : Nat) (oc : OkT K E c fc) (ob : OkS K E bx tb body) : OkS K E bx (tWhile c tb) (whileM fc body n) := by
  refine ⟨?_⟩
  intro B σ H env l rs rp h D post
  refine ⟨fun m σ' H' => ∃ en ln, Rep K B σ' H' en ln ∧ Fr2 l H ln H' ∧ (bx = true → σ'[0]? = σ[0]?) ∧ whileM fc body m en = some rs, ⟨n, env, l, rp, Fr2.refl _ _, fun _ => rfl, h⟩, ?_⟩
  rintro m σ' H' ⟨en, ln, rn, fn, b0, hm⟩
  cases m with
  | zero => cases hm
  | succ m =>
    unfold whileM at hm
    cases q : fc en with
    | none => rw [q] at hm; cases hm
    | some z =>
      rw [q] at hm
      cases z with
      | ex C f d => cases hm; exact oc.run rn q (Exn.later2 post fn)
      | ok b e =>
        refine oc.run rn q fun H1 r1 f1 => ?_
        have f1' := fn.trans (Fr2.of f1)
        cases b with
        | false =>
          refine iteF ?_
          cases hm
          exact post σ' H1 ln r1 f1' b0
        | true =>
          refine iteT ?_
          simp only [if_true] at hm
          cases q2 : body e with
          | none => rw [q2] at hm; cases hm
          | some z =>
            rw [q2] at hm
            have nx : ∀ e2, whileM fc body m e2 = some rs → ∀ σ5 H5 l5, Rep K B σ5 H5 e2 l5 → Fr2 ln H1 l5 H5 → (bx = true → σ5[0]? = σ'[0]?) → ∃ en ln, Rep K B σ5 H5 en ln ∧ Fr2 l H ln H5 ∧ (bx = true → σ5[0]? = σ[0]?) ∧ whileM fc body m en = some rs :=
              fun e2 h2 σ5 H5 l5 r5 f5 b5 => ⟨e2, l5, r5, f1'.trans f5, fun z => (b5 z).trans (b0 z), h2⟩
            refine ⟨fun σ5 H5 => ∃ en ln, Rep K B σ5 H5 en ln ∧ Fr2 l H ln H5 ∧ (bx = true → σ5[0]? = σ[0]?) ∧ whileM fc body m en = some rs, fun _ _ z => ⟨m, Nat.lt_succ_self m, z⟩, ?_⟩
            cases z with
            | ex C f d => cases hm; exact ob.run r1 q2 (Exn.later2 post f1')
            | ok fl e3 =>
              cases fl with
              | nx => exact ob.run r1 q2 (nx e3 hm)
              | ct => exact ob.run r1 q2 (nx e3 hm)
              | bk => cases hm; exact ob.run r1 q2 fun σ5 H5 l5 r5 f5 b5 => post σ5 H5 l5 r5 (f1'.trans f5) fun z => (b5 z).trans (b0 z)
              | rt w => cases hm; exact ob.run r1 q2 fun v σ5 H5 l5 lw r5 f5 b5 => post v σ5 H5 l5 lw r5 (f1'.trans f5) fun z => (b5 z).trans (b0 z)
/-! the list of a slot is data from here on -/
def frzM (i : Nat) : M Unit := fun env =>
  match env[i]? with
  | some (some (.own xs)) => some (.ok () (env.set i (some (.dat (.list (xs.map itD))))))
  | some _ => some (.ok () env)
  | none => none
theorem OkS.frz (i : Nat) {t : TS} {f : M Fl} (o : OkS K E bx t f) : OkS K E bx t (M.bind (frzM i) fun _ => f) := by
  refine ⟨?_⟩
  intro B σ H env l rs rp h D post
  rcases bind_some h with ⟨u, e, h1, h2⟩ | ⟨C, f, d, h1, h2⟩
  · unfold frzM at h1
    split at h1
    · rename_i xs hx
      cases h1
      obtain ⟨s, a, lx, ly, q1, q2, ⟨v, q3, q4⟩, q5⟩ := rp.rp.focus hx
      subst q3
      have hi : i < env.length := (List.getElem?_eq_some_iff.mp hx).1
      have nd := rp.nd
      rw [q2] at nd
      obtain ⟨n1, n2, n3⟩ := List.nodup_append.mp nd
      obtain ⟨n4, n5, n6⟩ := List.nodup_append.mp n2
      have mem : ∀ b ∈ lx ++ ([] ++ ly), b ∈ l ∧ b ∉ a := fun b z => by
        rw [q2]
        rcases List.mem_append.mp z with z | z
        · exact ⟨List.mem_append_left _ z, fun y => n3 b z b (List.mem_append_left _ y) rfl⟩
        · have z : b ∈ ly := by simpa using z
          exact ⟨List.mem_append_right _ (List.mem_append_right _ z), fun y => n6 b y b z rfl⟩
      have e : σ.set i (some v) = σ := by
        apply List.ext_getElem?
        intro j
        by_cases z : i = j
        · subst z; rw [List.getElem?_set_self (List.getElem?_eq_some_iff.mp q1).1, q1]
        · rw [List.getElem?_set_ne z]
      have sub : Same (off (un B l) H) (off (un B (lx ++ ([] ++ ly))) H) := off_mono (fun b z n => absurd (z.imp id fun z => (mem b z).1) n) fun b o n e => e
      have da : Da K (off (un B (lx ++ ([] ++ ly))) H) v (.list (xs.map itD)) := by
        have := rpW_free (σ := σ) (show ofW (.own xs) = some _ from rfl) sub (fun b z us e => (off_ne fun y => ?_).trans e) q4
        · exact this
        · rcases y with y | y
          · exact rp.out b (by rw [q2]; exact List.mem_append_right _ (List.mem_append_left _ z)) y
          · exact (mem b y).2 z
      have r' : Rep K B σ H (env.set i (some (.dat (.list (xs.map itD))))) (lx ++ ([] ++ ly)) := by
        refine ⟨?_, ?_, fun b z => rp.out b (mem b z).1, rp.tb⟩
        · have := q5 sub (fun _ _ => rfl) (fun _ _ => rfl) (show RpS K H _ (some v) (some (.dat (.list (xs.map itD)))) [] from ⟨v, rfl, rfl, da⟩)
          rw [e] at this
          exact this
        · rw [List.nil_append]
          exact List.nodup_append.mpr ⟨n1, n5, fun x hx y hy => n3 x hx y (List.mem_append_right _ hy)⟩
      exact o.run r' h2 (post.later ⟨Fr.refl _ _, fun b z => .inl (mem b z).1⟩ fun _ => rfl)
    · cases h1; exact o.run rp h2 post
    · cases h1
  · unfold frzM at h1
    split at h1 <;> cases h1
end
end Ov
set_option Elab.async false
set_option linter.all false
set_option maxRecDepth 100000
set_option maxHeartbeats 4000000
namespace Ov
open PySem L2
/-! comprehensions -/
def wipeE (env : En) : List Nat → En
  | [] => env
  | v :: vs => (wipeE env vs).set v none
def freeB (env : En) (js : List Nat) : Bool := js.all fun j => !isOwn env[j]?
theorem freeB_free {env : En} {js : List Nat} (h : freeB env js = true) : free env js := fun j z => by
  have := List.all_eq_true.mp h j z
  simpa using this
theorem wipeE_length (env : En) : ∀ vs : List Nat, (wipeE env vs).length = env.length
  | [] => rfl
  | v :: vs => by unfold wipeE; rw [List.length_set, wipeE_length env vs]
theorem wipe_get (σ : St) (j : Nat) : ∀ vs : List Nat, (wipe σ vs)[j]? = if j ∈ vs then (if j < σ.length then some none else none) else σ[j]?
  | [] => by simp [wipe]
  | v :: vs => by
    unfold wipe
    have ih := wipe_get σ j vs
    by_cases e : v = j
    · subst e
      by_cases h : v < σ.length
      · rw [List.getElem?_set_self (by rw [wipe_length]; exact h)]; simp [h]
      · rw [List.getElem?_eq_none (by rw [List.length_set, wipe_length]; omega)]; simp [h]
    · rw [List.getElem?_set_ne e, ih]
      have : (j ∈ v :: vs) ↔ j ∈ vs := ⟨fun z => (List.mem_cons.mp z).resolve_left fun z => e z.symm, List.mem_cons_of_mem _⟩
      simp only [this]
theorem wipeE_get (σ : En) (j : Nat) : ∀ vs : List Nat, (wipeE σ vs)[j]? = if j ∈ vs then (if j < σ.length then some none else none) else σ[j]?
  | [] => by simp [wipeE]
  | v :: vs => by
    unfold wipeE
    have ih := wipeE_get σ j vs
    by_cases e : v = j
    · subst e
      by_cases h : v < σ.length
      · rw [List.getElem?_set_self (by rw [wipeE_length]; exact h)]; simp [h]
      · rw [List.getElem?_eq_none (by rw [List.length_set, wipeE_length]; omega)]; simp [h]
    · rw [List.getElem?_set_ne e, ih]
      have : (j ∈ v :: vs) ↔ j ∈ vs := ⟨fun z => (List.mem_cons.mp z).resolve_left fun z => e z.symm, List.mem_cons_of_mem _⟩
      simp only [this]
theorem wipe_ext {σ τ : St} {vs : List Nat} (hl : σ.length = τ.length) (h : ∀ j, j ∉ vs → σ[j]? = τ[j]?) : wipe σ vs = wipe τ vs := by
  apply List.ext_getElem?
  intro j
  rw [wipe_get, wipe_get, hl]
  by_cases z : j ∈ vs
  · simp [z]
  · simp only [z, if_false]; exact h j z
section
variable {K : PySem.W.Frag} {E : XK} {bx : Bool} {H G : Hp}
theorem RpE.drop1 {σ : St} {env : En} {l : List Addr} {v : Nat} (h : RpE K H G σ env l) (f : isOwn env[v]? = false) : RpE K H G (σ.set v none) (env.set v none) l := by
  cases q : env[v]? with
  | none =>
    have n : env.length ≤ v := List.getElem?_eq_none_iff.mp q
    rw [List.set_eq_of_length_le n, List.set_eq_of_length_le (by rw [h.len]; exact n)]
    exact h
  | some e =>
    obtain ⟨s, a, lx, ly, q1, q2, q3, q5⟩ := h.focus q
    have ha : a = [] := by
      rw [q] at f
      cases e with
      | none => exact q3
      | some w =>
        obtain ⟨_, _, q3⟩ := q3
        cases w with
        | dat _ => exact q3.1
        | own _ => cases f
        | dct _ => cases f
        | dci _ => cases f
        | dtk _ => cases f
        | dts _ => cases f
        | pin _ _ => exact q3.1
        | dtn _ => cases f
        | nd _ => exact q3.1
        | lkd _ => exact q3.1
        | exc _ _ _ => exact q3.1
    rw [q2, ha]
    exact q5 (fun _ _ z => z) (fun _ _ => rfl) (fun _ _ => rfl) rfl
theorem RpE.wipe {σ : St} {env : En} {l : List Addr} (h : RpE K H G σ env l) : ∀ {vs : List Nat}, free env vs → RpE K H G (L2.wipe σ vs) (wipeE env vs) l
  | [], _ => h
  | v :: vs, f => by
    refine RpE.drop1 (RpE.wipe h (vs := vs) fun j z => f j (List.mem_cons_of_mem _ z)) ?_
    rw [wipeE_get]
    by_cases z : v ∈ vs
    · simp only [z, if_true]
      by_cases y : v < env.length
      · simp [y, isOwn]
      · simp [y, isOwn]
    · simp only [z, if_false]; exact f v (List.mem_cons_self ..)
/-- what stands in empty slots does not matter -/
theorem RpE.any : ∀ {σ τ : St} {env : En} {l : List Addr}, RpE K H G σ env l → σ.length = τ.length → (∀ (j : Nat) (w : Wv), env[j]? = some (some w) → τ[j]? = σ[j]?) → RpE K H G τ env l
  | [], [], [], l, h, _, _ => h
  | s :: σ, t :: τ, e :: env, l, ⟨a, b, z, h1, h2⟩, hl, hk => by
    refine ⟨a, b, z, ?_, RpE.any h2 (by simpa using hl) fun j w q => hk (j + 1) w q⟩
    cases e with
    | none => exact h1
    | some w =>
      have : t = s := Option.some.inj (hk 0 w rfl)
      rw [this]
      exact h1
theorem Rep.wipe {B : Addr → Prop} {σ : St} {env : En} {l : List Addr} {vs : List Nat} (r : Rep K B σ H env l) (f : free env vs) : Rep K B (L2.wipe σ vs) H (wipeE env vs) l := ⟨r.rp.wipe f, r.nd, r.out, r.tb⟩
theorem Rep.amb {B : Addr → Prop} {σ : St} {env : En} {l : List Addr} {p : Addr} {o : HO} (r : Rep K B σ H env l) (hp : B p) (n : NT o) : Rep K B σ (upd H p o) env l := by
  have sub : Same (off (un B l) H) (off (un B l) (upd H p o)) := off_mono (fun b z n => absurd z n) fun b o n e => by rw [upd_ne (fun z => n (.inl (by rw [z]; exact hp)))]; exact e
  refine ⟨r.rp.mv sub fun q z => upd_ne fun y => r.out q z (y ▸ hp), r.nd, r.out, fun b z => ?_⟩
  by_cases e : b = p
  · subst e; exact ⟨o, upd_same, n⟩
  · rw [upd_ne e]; exact r.tb b z
def yesT : M Bool := M.pure true
theorem OkT.yes : OkT K E tYes yesT := by
  refine ⟨?_⟩
  intro B σ H env l rs rp h Q post
  cases h
  exact post H rp (Fr.refl _ _)
def compM (p : PyData → En → Option En) (ft : M Bool) (fe : M R) (vs : List Nat) : List PyData → List PyData → M (List PyData)
  | [], acc => M.pure acc
  | d :: ds, acc => fun env =>
    match p d env with
    | none => none
    | some e =>
      match ft e with
      | some (.ok b e2) => if b = true then
          match fe e2 with
          | some (.ok (.dat y) e3) => if freeB e3 vs = true ∧ acc.length < 1000000 then compM p ft fe vs ds (acc ++ [y]) (wipeE e3 vs) else none
          | _ => none
        else if freeB e2 vs = true then compM p ft fe vs ds acc (wipeE e2 vs) else none
      | _ => none
theorem compM_noex {p : PyData → En → Option En} {ft : M Bool} {fe : M R} {vs : List Nat} : ∀ {ds acc : List PyData} {env : En} {C : Addr} {f : Str} {d : PyData}, compM p ft fe vs ds acc env ≠ some (.ex C f d)
  | [], acc, env, C, f, d, h => by cases h
  | d :: ds, acc, env, C, f, d', h => by
    unfold compM at h
    split at h
    · cases h
    · split at h
      · split at h
        · split at h
          · split at h
            · exact compM_noex h
            · cases h
          · cases h
        · split at h
          · exact compM_noex h
          · cases h
      · cases h
def lcW (fi : M (List PyData)) (p : PyData → En → Option En) (ft : M Bool) (fe : M R) (vs : List Nat) : M Wv := M.bind fi fun ds => fun env => if freeB env vs = true then (M.bind (compM p ft fe vs ds []) fun out => M.pure (.own (dats out))) (wipeE env vs) else none
theorem OkW.lc {wi : TI} {g : TG} {tt : TT} {te : TE} {vs js : List Nat} {fi : M (List PyData)} {p : PyData → En → Option En} {ft : M Bool} {fe : M R} (oi : OkI K E wi fi) (og : OkG K g js p) (hj : ∀ j ∈ js, j ∈ vs) (ot : OkT K L2.E0 tt ft) (oe : OkE K L2.E0 te fe) :
    OkW K E (tLc wi g tt te vs) (lcW fi p ft fe vs) := by
  refine ⟨?_⟩
  intro B σ H env l rs rp h Q post
  rcases bind_some h with ⟨ds, e0, h1, h2⟩ | ⟨C, f, d, h1, h2⟩
  case inr => exact oi.run rp h1 (post.exn C f d h2)
  split at h2
  case isFalse => cases h2
  rename_i hf0
  rcases bind_some h2 with ⟨out, e9, h3, h4⟩ | ⟨C, f, d, h3, _⟩
  case inr => exact absurd h3 compM_noex
  cases h4
  refine oi.run rp h1 ?_
  intro J H1 G Y r1 f1 wk hG hY D hD
  have nD : ∀ b ∈ l, b ≠ D := fun b z e => r1.fresh hD (.inr (e ▸ z))
  have r1' : Rep K (un B [D]) σ (upd H1 D (.lst [])) e0 l := r1.grow (same_new hD _) (fun _ z => .inl z) (fun b z => z.imp id fun z => by rw [List.mem_singleton.mp z]; exact hD) fun b z => by
    by_cases e : b = D
    · subst e; exact ⟨_, upd_same, trivial⟩
    · rw [upd_ne e]; exact r1.tb b (z.resolve_right fun z => e (List.mem_singleton.mp z))
  refine lc_it wk (fun i H' => ∃ env_i acc va, Rep K (un B [D]) (L2.wipe σ vs) H' env_i l ∧ Fr l H1 H' ∧ H' D = some (.lst va) ∧ DaAll K (off (un (un B [D]) l) H') va acc ∧ (∀ j ∈ vs, ∀ w, env_i[j]? ≠ some (some w)) ∧ compM p ft fe vs (ds.drop i) acc env_i = some (.ok out e9)) ?_ (fun i H' _ ⟨_, _, _, _, f, _⟩ => hG H' f) ?_ ?_
  · refine ⟨_, [], [], r1'.wipe (freeB_free hf0), Fr.of (same_new hD _), upd_same, .nil, fun j z w => ?_, h3⟩
    rw [wipeE_get]
    simp only [z, if_true]
    split <;> exact fun q => by cases q
  · rintro i x H2 H3 hi ⟨ei, acc, va, ri, fri, hDi, dai, fre, hc⟩ hy
    have hd : ds.drop i = ds[i] :: ds.drop (i + 1) := List.drop_eq_getElem_cons hi
    rw [hd] at hc
    unfold compM at hc
    obtain ⟨s3, da⟩ := hY i x H2 H3 ds[i] (un (un B [D]) l) fri hy (List.getElem?_eq_getElem hi) (fun b z => z.elim (fun z => z.elim (fun z => .inl (.inl z)) fun z => by rw [List.mem_singleton.mp z]; exact .inr hD) fun z => .inl (.inr z)) ri.tl
    have r3 := ri.same s3
    cases q : p ds[i] ei with
    | none => rw [q] at hc; cases hc
    | some e2 =>
      rw [q] at hc
      simp only at hc
      have fr0 : free ei js := fun j z => by
        cases q0 : ei[j]? with
        | none => rfl
        | some w =>
          cases w with
          | none => rfl
          | some w => exact absurd q0 (fre j (hj j z) w)
      refine og.run r3 da q fun σ4 l4 r4 m4 le4 k4 => ?_
      have el := le4 fr0
      subst el
      have sl : σ4.length = (L2.wipe σ vs).length := by rw [r4.len, (og.keep q).2.2, ri.len]
      have wp : L2.wipe σ4 vs = L2.wipe σ vs := by
        rw [wipe_ext sl fun j z => k4 j fun y => z (hj j y)]
        refine wipe_ext (wipe_length σ vs) fun j z => ?_
        rw [wipe_get]
        simp [z]
      refine ⟨wp, ?_⟩
      cases q2 : ft e2 with
      | none => rw [q2] at hc; cases hc
      | some z2 =>
        rw [q2] at hc
        cases z2 with
        | ex C f d => cases hc
        | ok b e3 =>
          refine ot.run r4 q2 fun H4 r5 f5 => ?_
          have nx : ∀ {e5 : En} {H5 : Hp}, Rep K (un B [D]) σ4 H5 e5 l4 → freeB e5 vs = true → Rep K (un B [D]) (L2.wipe σ vs) H5 (wipeE e5 vs) l4 ∧ ∀ j ∈ vs, ∀ w, (wipeE e5 vs)[j]? ≠ some (some w) := fun {e5 H5} r fb => by
            refine ⟨by rw [← wp]; exact r.wipe (freeB_free fb), fun j z w => ?_⟩
            rw [wipeE_get]
            simp only [z, if_true]
            split <;> exact fun q => by cases q
          have f25 : Fr l4 H2 H4 := (Fr.of s3).trans f5
          have kD : ∀ {H5 : Hp}, Fr l4 H2 H5 → H5 D = some (.lst va) := fun f => f D _ (fun z => nD D z rfl) hDi
          cases b with
          | false =>
            refine iteF ?_
            simp only [Bool.false_eq_true, if_false] at hc
            split at hc
            · rename_i fb
              obtain ⟨ra, rb⟩ := nx r5 fb
              exact ⟨_, acc, va, ra, fri.trans f25, kD f25, DaAll.same f25.keep acc dai, rb, hc⟩
            · cases hc
          | true =>
            refine iteT ?_
            simp only [if_true] at hc
            cases q3 : fe e3 with
            | none => rw [q3] at hc; cases hc
            | some z3 =>
              rw [q3] at hc
              cases z3 with
              | ex C f d => cases hc
              | ok y e4 =>
                cases y with
                | slot _ => cases hc
                | exc _ _ _ => cases hc
                | dat y =>
                  simp only at hc
                  split at hc
                  · rename_i fb
                    refine oe.run r5 q3 fun v H5 r6 f6 q6 => ?_
                    have f26 := f25.trans f6
                    have sz : va.length < sizeLine := by rw [daAll_len dai]; exact Nat.lt_trans fb.2 (by decide)
                    refine ⟨va, kD f26, sz, ?_⟩
                    obtain ⟨ra, rb⟩ := nx r6 fb.1
                    have hBD : (un B [D]) D := .inr (List.mem_cons_self ..)
                    have sub : Same (off (un (un B [D]) l4) H5) (off (un (un B [D]) l4) (upd H5 D (.lst (va ++ [v])))) := off_mono (fun b z n => absurd z n) fun b o n e => by rw [upd_ne (fun z => n (.inl (by rw [z]; exact hBD)))]; exact e
                    refine ⟨_, acc ++ [y], va ++ [v], ra.amb hBD trivial, fun b o n e => ?_, upd_same, ?_, rb, hc⟩
                    · rw [upd_ne (ne_of_none e hD)]
                      exact (fri.trans f26) b o n e
                    · exact daAll_append (DaAll.same sub acc (DaAll.same f26.keep acc dai)) (.cons (Da.same sub y q6) .nil)
                  · cases hc
  · rintro H9 ⟨en, acc, va, rn, frn, hDn, dan, fre, hc⟩
    rw [List.drop_length] at hc
    cases hc
    have rr : Rep K (un B [D]) σ H9 e9 l := ⟨rn.rp.any (wipe_length σ vs) fun j w q => by
      rw [wipe_get]
      by_cases z : j ∈ vs
      · exact absurd q (fre j z w)
      · simp [z], rn.nd, rn.out, rn.tb⟩
    refine post (.ref D) H9 [D] rr (f1.trans frn) ⟨D, va, [], rfl, rfl, hDn, rp1s_of dan⟩ (List.nodup_cons.mpr ⟨by simp, List.nodup_nil⟩) fun b z => ?_
    rw [List.mem_singleton.mp z]
    cases q : H D with
    | none => rfl
    | some o =>
      rw [f1 D o (fun z => nD D z rfl) q] at hD
      cases hD
end
end Ov
set_option Elab.async false
set_option linter.all false
set_option maxRecDepth 100000
set_option maxHeartbeats 4000000
namespace Ov
open PySem L2
/-! what is walked -/
section
variable {X : Cx} {tg : Expr}
def iSeq (K : PySem.W.Frag) (tl : TE) : TI := fun σ H R => tl σ H fun x H1 => ∃ a xs, x = .ref a ∧ ((SqL K H1 a xs ∧ R (Itl K a) H1) ∨ (SqT K H1 a xs ∧ R (Itt K a) H1))
theorem pi_seq {l : Expr} {tl : TE} (hl : PE X l tl) : PI X tg l (iSeq X.K tl) := by
  refine ⟨fun pins s σ H R I h => ?_⟩
  refine thn (hl.run pins s σ H _ I h) fun v s1 ⟨x, H1, I1, r1, q1⟩ => ?_
  obtain ⟨a, xs, e, ⟨hq, q⟩ | ⟨hq, q⟩⟩ := q1
  · subst e
    cases r1
    obtain ⟨its, rv, p, hz⟩ := I1.list hq
    refine wpAny_pyIter_list p.isList ?_
    refine ⟨s1.heap.objs.size, [s1.heap.objs.size], _, _, H1, rfl, I1.kept (t' := s1.toks) fun b o e => Heap.get?_push_of_some _ e, turn_list a _, ⟨_, Heap.get?_push_size _ rfl, rfl, rfl⟩, fun b hb => ?_, q⟩
    rw [List.mem_singleton.mp hb]
    exact I1.fpOk (Nat.le_refl _) (I1.hok.fresh (Nat.le_refl _))
  · subst e
    cases r1
    obtain ⟨its, rv, p, hz⟩ := I1.tuple hq
    refine wpAny_pyIter_tuple p ?_
    refine ⟨s1.heap.objs.size, [s1.heap.objs.size], _, _, H1, rfl, I1.kept (t' := s1.toks) fun b o e => Heap.get?_push_of_some _ e, turn_tuple a _, ⟨_, Heap.get?_push_size _ rfl, rfl, rfl⟩, fun b hb => ?_, q⟩
    rw [List.mem_singleton.mp hb]
    exact I1.fpOk (Nat.le_refl _) (I1.hok.fresh (Nat.le_refl _))
end
section
variable {K : PySem.W.Frag} {E : XK} {bx : Bool}
def seqI (f : M R) : M (List PyData) := M.bind f fun r => M.bind (lift (asD r)) fun d => lift (seqD d)
theorem OkI.seq {t : TE} {f : M R} (o : OkE K E t f) : OkI K E (iSeq K t) (seqI f) := by
  refine ⟨?_⟩
  intro B σ H env l rs rp h R post
  refine o.seq rp h post.exn fun a e v H1 h1 r1 f1 q1 => ?_
  obtain ⟨d, h2, h3⟩ := lift_step h1
  rw [asD_some h2] at q1
  obtain ⟨ds, h4, h5⟩ := lift_some h3
  subst h5
  have q1 : Da K (off (un B l) H1) v d := q1
  cases d with
  | list es =>
    cases h4
    cases q1 with
    | lst hq ha =>
      refine ⟨_, _, rfl, .inl ⟨rd_sq (rd_same (off_sub _ _) hq), post _ H1 _ _ r1 f1 (by rw [← daAll_len ha]; exact walk_list) (fun H2 f => rd_sq (rd_same (off_sub _ _) (rd_same f.keep hq))) ?_⟩⟩
      rintro i x H2 H3 d S fr ⟨rfl, hx⟩ hd hs _
      obtain ⟨y, e1, e2⟩ := daAll_get ha hd
      rw [hx] at e1
      cases e1
      exact ⟨same_refl _, e2.walk fr hs⟩
  | tuple es =>
    cases h4
    cases q1 with
    | tup hq ha =>
      refine ⟨_, _, rfl, .inr ⟨seqP (off_sub _ _) hq, post _ H1 _ _ r1 f1 (by rw [← daAll_len ha]; exact walk_tup) (fun H2 f => seqT (off_sub _ _) (seqP f.keep hq)) ?_⟩⟩
      rintro i x H2 H3 d S fr ⟨rfl, hx⟩ hd hs _
      obtain ⟨y, e1, e2⟩ := daAll_get ha hd
      rw [hx] at e1
      cases e1
      exact ⟨same_refl _, e2.walk fr hs⟩
  | none => cases h4
  | bool _ => cases h4
  | int _ => cases h4
  | str _ => cases h4
  | dict _ => cases h4
/-- lo, lo + 1, .. below hi -/
def rngL (lo hi : Int) : List Int := (List.range (hi - lo).toNat).map fun (k : Nat) => lo + (k : Int)
def rngD (as : List PyData) : Option (List PyData) :=
  match as with
  | [.int j] => if -(2 ^ 62) ≤ j ∧ j < 2 ^ 62 then some ((rngL 0 j).map .int) else none
  | _ => none
def rngD2 (as : List PyData) : Option (List PyData) :=
  match as with
  | [.int i, .int j] => if -(2 ^ 62) ≤ i ∧ i < 2 ^ 62 ∧ -(2 ^ 62) ≤ j ∧ j < 2 ^ 62 then some ((rngL i j).map .int) else none
  | _ => none
def argI (fo : List PyData → Option (List PyData)) (fa : M (List R)) : M (List PyData) := M.bind fa fun rs => M.bind (lift (dds rs)) fun ds => lift (fo ds)
theorem rng_len (lo hi : Int) : ((rngL lo hi).map PyData.int).length = (hi - lo).toNat := by simp [rngL]
theorem rng_get {lo hi : Int} {i : Nat} {d : PyData} (h : ((rngL lo hi).map PyData.int)[i]? = some d) : d = .int (lo + i) := by
  unfold rngL at h
  rw [List.getElem?_map, List.getElem?_map] at h
  obtain ⟨x, h1, h2⟩ := Option.map_eq_some_iff.mp h
  obtain ⟨y, h3, h4⟩ := Option.map_eq_some_iff.mp h1
  obtain ⟨h5, h6⟩ := List.getElem?_eq_some_iff.mp h3
  rw [List.getElem_range] at h6
  subst h6 h4 h2
  rfl
theorem OkI.range1 {t : TA} {fa : M (List R)} (o : OkA K E t fa) : OkI K E (iRng1 t) (argI rngD fa) := by
  refine ⟨?_⟩
  intro B σ H env l rs rp h R post
  refine o.seq rp h post.exn fun a e v H1 h1 r1 f1 q1 => ?_
  obtain ⟨ds, h2, h3⟩ := lift_step h1
  obtain ⟨out, h4, h5⟩ := lift_some h3
  subst h5
  have da := dds_ok q1 h2
  unfold rngD at h4
  split at h4
  · split at h4
    · rename_i j hj
      cases h4
      cases da with
      | cons d1 t1 =>
        cases t1
        cases d1
        refine ⟨j, rfl, hj.1, hj.2, post _ H1 _ _ r1 f1 (by rw [rng_len, show j - 0 = j by omega]; exact walk_range) (fun _ _ => trivial) ?_⟩
        rintro i x H2 H3 d S fr ⟨rfl, rfl⟩ hd hs _
        rw [rng_get hd]
        exact ⟨same_refl _, .int _⟩
    · cases h4
  · cases h4
theorem OkI.range2 {t : TA} {fa : M (List R)} (o : OkA K E t fa) : OkI K E (iRng2 t) (argI rngD2 fa) := by
  refine ⟨?_⟩
  intro B σ H env l rs rp h R post
  refine o.seq rp h post.exn fun a e v H1 h1 r1 f1 q1 => ?_
  obtain ⟨ds, h2, h3⟩ := lift_step h1
  obtain ⟨out, h4, h5⟩ := lift_some h3
  subst h5
  have da := dds_ok q1 h2
  unfold rngD2 at h4
  split at h4
  · split at h4
    · rename_i i0 j0 hj
      cases h4
      cases da with
      | cons d1 t1 =>
        cases t1 with
        | cons d2 t2 =>
          cases t2
          cases d1
          cases d2
          refine ⟨_, _, rfl, hj, post _ H1 _ _ r1 f1 (by rw [rng_len]; exact walk_range) (fun _ _ => trivial) ?_⟩
          rintro i x H2 H3 d S fr ⟨rfl, rfl⟩ hd hs _
          rw [rng_get hd]
          exact ⟨same_refl _, .int _⟩
    · cases h4
  · cases h4
/-- pairs -/
def pairUp (a b : List PyData) : List PyData := List.zipWith (fun x y => .tuple [x, y]) a b
theorem pair_get {a b : List PyData} {i : Nat} {d : PyData} (h : (pairUp a b)[i]? = some d) : ∃ x y, a[i]? = some x ∧ b[i]? = some y ∧ d = .tuple [x, y] := by
  unfold pairUp at h
  rw [List.getElem?_zipWith] at h
  cases q : a[i]? with
  | none => rw [q] at h; cases h
  | some x =>
    cases q2 : b[i]? with
    | none => rw [q, q2] at h; cases h
    | some y => rw [q, q2] at h; cases h; exact ⟨x, y, rfl, rfl, rfl⟩
theorem pair_len (a b : List PyData) : (pairUp a b).length = min a.length b.length := List.length_zipWith ..
/-- a new pair of two data -/
theorem pair_da {B S : Addr → Prop} {l : List Addr} {H1 H2 H3 : Hp} {T : Addr} {u v : V} {x y : PyData} (hS : ∀ b, S b → ∃ o, H2 b = some o ∧ NT o) (hT : H2 T = none) (e : H3 = upd H2 T (.tup [u, v])) (hu : Da K (off S H2) u x) (hv : Da K (off S H2) v y) :
    Same H2 H3 ∧ Da K (off S H3) (.ref T) (.tuple [x, y]) := by
  subst e
  exact ⟨same_new hT _, (new_dp hS hT (.cons hu (.cons hv .nil))).2⟩
def zipD (as : List PyData) : Option (List PyData) :=
  match as with
  | [.list a, .list b] => some (pairUp a b)
  | [.tuple a, .tuple b] => some (pairUp a b)
  | _ => none
theorem OkI.zipA {t : TA} {fa : M (List R)} (o : OkA K E t fa) : OkI K E (RZ.iZipA K t) (argI zipD fa) := by
  refine ⟨?_⟩
  intro B σ H env l rs rp h R post
  refine o.seq rp h post.exn fun a e v H1 h1 r1 f1 q1 => ?_
  obtain ⟨ds, h2, h3⟩ := lift_step h1
  obtain ⟨out, h4, h5⟩ := lift_some h3
  subst h5
  have da := dds_ok q1 h2
  unfold zipD at h4
  split at h4
  · cases h4
    cases da with
    | cons d1 t1 =>
      cases t1 with
      | cons d2 t2 =>
        cases t2
        cases d1 with
        | lst qa ha =>
          cases d2 with
          | lst qb hb =>
            refine ⟨_, _, _, _, rfl, .inl ⟨rd_sq (rd_same (off_sub _ _) qa), rd_sq (rd_same (off_sub _ _) qb), post _ H1 _ _ r1 f1 (walk_zip (by rw [pair_len, daAll_len ha, daAll_len hb])) (fun H2 f => ⟨rd_sq (rd_same (off_sub _ _) (rd_same f.keep qa)), rd_sq (rd_same (off_sub _ _) (rd_same f.keep qb))⟩) ?_⟩⟩
            rintro i x H2 H3 d S fr ⟨T, u, w, rfl, hT, e3, e4, e5⟩ hd hs hS
            obtain ⟨x1, y1, g1, g2, rfl⟩ := pair_get hd
            obtain ⟨u', k1, k2⟩ := daAll_get ha g1
            obtain ⟨w', k3, k4⟩ := daAll_get hb g2
            cases k1.symm.trans e4
            cases k3.symm.trans e5
            exact pair_da (B := B) (l := l) (H1 := H1) hS hT e3 (k2.walk fr hs) (k4.walk fr hs)
  · cases h4
    cases da with
    | cons d1 t1 =>
      cases t1 with
      | cons d2 t2 =>
        cases t2
        cases d1 with
        | tup qa ha =>
          cases d2 with
          | tup qb hb =>
            refine ⟨_, _, _, _, rfl, .inr ⟨seqP (off_sub _ _) qa, seqP (off_sub _ _) qb, post _ H1 _ _ r1 f1 (walk_zipT (by rw [pair_len, daAll_len ha, daAll_len hb])) (fun H2 f => ⟨seqT (off_sub _ _) (seqP f.keep qa), seqT (off_sub _ _) (seqP f.keep qb)⟩) ?_⟩⟩
            rintro i x H2 H3 d S fr ⟨T, u, w, rfl, hT, e3, e4, e5⟩ hd hs hS
            obtain ⟨x1, y1, g1, g2, rfl⟩ := pair_get hd
            obtain ⟨u', k1, k2⟩ := daAll_get ha g1
            obtain ⟨w', k3, k4⟩ := daAll_get hb g2
            cases k1.symm.trans e4
            cases k3.symm.trans e5
            exact pair_da (B := B) (l := l) (H1 := H1) hS hT e3 (k2.walk fr hs) (k4.walk fr hs)
  · cases h4
theorem daAll1 {G : Hp} {vs : List V} {d : PyData} (h : DaAll K G vs [d]) : ∃ v, vs = [v] ∧ Da K G v d := by
  cases h with | cons a t => cases t; exact ⟨_, rfl, a⟩
end
end Ov
set_option Elab.async false
set_option linter.all false
set_option maxRecDepth 100000
set_option maxHeartbeats 4000000
namespace Ov
open PySem L2
/-! a list that a slot owns, changed by its methods -/
section
variable {K : PySem.W.Frag} {E : XK} {bx : Bool}
theorem set_same {α : Type} {σ : List α} {i : Nat} {s : α} (h : σ[i]? = some s) : σ.set i s = σ := by
  apply List.ext_getElem?
  intro j
  by_cases z : i = j
  · subst z; rw [List.getElem?_set_self (List.getElem?_eq_some_iff.mp h).1, h]
  · rw [List.getElem?_set_ne z]
/-- the list of slot i, and any other in its place -/
theorem Rep.mut2 {B : Addr → Prop} {σ : St} {H : Hp} {env : En} {l : List Addr} {i : Nat} {ds : List PyData} (r : Rep K B σ H env l) (hx : env[i]? = some (some (.own (dats ds)))) :
    ∃ p vs, σ[i]? = some (some (.ref p)) ∧ H p = some (.lst vs) ∧ p ∈ l ∧ DaAll K (off (un B l) H) vs ds ∧ ∀ {H' : Hp} {B' : Addr → Prop} {vs' : List V} {ds' : List PyData}, (∀ q ∈ l, q ≠ p → H' q = H q) → H' p = some (.lst vs') → Same (off (un B l) H) (off (un B' l) H') →
      DaAll K (off (un B' l) H') vs' ds' → (∀ b ∈ l, ¬ B' b) → (∀ b, B' b → ∃ o, H' b = some o ∧ NT o) → Rep K B' σ H' (env.set i (some (.own (dats ds')))) l := by
  obtain ⟨s, a, lx, ly, q1, q2, ⟨v, rfl, p, vs, b, rfl, rfl, q6, q7⟩, q5⟩ := r.rp.focus hx
  obtain ⟨rfl, q8⟩ := rp1s_dats q7
  have hp : p ∈ l := by rw [q2]; exact List.mem_append_right _ (List.mem_append_left _ (List.mem_cons_self ..))
  refine ⟨p, vs, q1, q6, hp, q8, fun {H' B' vs' ds'} k1 k2 sub h' o' t' => ?_⟩
  have nd := r.nd
  rw [q2] at nd
  obtain ⟨n1, n2, n3⟩ := List.nodup_append.mp nd
  obtain ⟨n4, n5, n6⟩ := List.nodup_append.mp n2
  refine ⟨?_, r.nd, o', t'⟩
  have := q5 (H' := H') (G' := off (un B' l) H') (s' := some (.ref p)) (e' := some (.own (dats ds'))) (a' := [p]) sub
    (fun q z => k1 q (by rw [q2]; exact List.mem_append_left _ z) fun e => n3 q z p (List.mem_append_left _ (List.mem_cons_self ..)) e) (fun q z => k1 q (by rw [q2]; exact List.mem_append_right _ (List.mem_append_right _ z)) fun e => n6 p (List.mem_cons_self ..) q z e.symm)
    ⟨_, rfl, p, vs', [], rfl, rfl, k2, rp1s_of h'⟩
  rw [set_same q1] at this
  rw [q2] at this ⊢
  exact this
theorem Rep.mut {B : Addr → Prop} {σ : St} {H : Hp} {env : En} {l : List Addr} {i : Nat} {ds : List PyData} (r : Rep K B σ H env l) (hx : env[i]? = some (some (.own (dats ds)))) :
    ∃ p vs, σ[i]? = some (some (.ref p)) ∧ H p = some (.lst vs) ∧ p ∈ l ∧ DaAll K (off (un B l) H) vs ds ∧ ∀ {vs' : List V} {ds' : List PyData}, DaAll K (off (un B l) H) vs' ds' → Rep K B σ (upd H p (.lst vs')) (env.set i (some (.own (dats ds')))) l := by
  obtain ⟨p, vs, q1, q6, hp, q8, q9⟩ := r.mut2 hx
  refine ⟨p, vs, q1, q6, hp, q8, fun {vs' ds'} h' => ?_⟩
  have sub : Same (off (un B l) H) (off (un B l) (upd H p (.lst vs'))) := off_mono (fun b z n => absurd z n) fun b o n e => by rw [upd_ne (fun z => n (.inr (by rw [z]; exact hp)))]; exact e
  refine q9 (fun q _ n => upd_ne n) upd_same sub (DaAll.same sub ds' h') r.out fun b z => ?_
  obtain ⟨o, e, n⟩ := r.tb b z
  exact ⟨o, by rw [upd_ne (fun y => r.out p hp (by rw [← y]; exact z))]; exact e, n⟩
theorem fr_upd {l : List Addr} {H : Hp} {p : Addr} {o : HO} (hp : p ∈ l) : Fr l H (upd H p o) := fun b u n h => by rw [upd_ne (fun z => n (by rw [z]; exact hp))]; exact h
def ownD (i : Nat) : M (List PyData) := fun env =>
  match env[i]? with
  | some (some (.own xs)) => (itds xs).map fun ds => .ok ds env
  | _ => none
theorem ownD_step {α : Type} {i : Nat} {g : List PyData → M α} {env : En} {rs : Rs α} (h : (M.bind (ownD i) g) env = some rs) : ∃ ds, env[i]? = some (some (.own (dats ds))) ∧ g ds env = some rs := by
  have key : ∀ z, ownD i env = some z → ∃ ds, env[i]? = some (some (.own (dats ds))) ∧ z = .ok ds env := fun z hz => by
    unfold ownD at hz
    split at hz
    · rename_i xs hx
      obtain ⟨ds, e1, e2⟩ := Option.map_eq_some_iff.mp hz
      exact ⟨ds, by rw [hx, itds_eq e1], e2.symm⟩
    · cases hz
  rcases bind_some h with ⟨a, e, h1, h2⟩ | ⟨C, f, d, h1, h2⟩
  · obtain ⟨ds, e1, e2⟩ := key _ h1
    cases e2
    exact ⟨_, e1, h2⟩
  · obtain ⟨ds, e1, e2⟩ := key _ h1
    cases e2
def setOwn (i : Nat) (ds : List PyData) : M Unit := fun env => some (.ok () (env.set i (some (.own (dats ds)))))
theorem setOwn_step {α : Type} {i : Nat} {ds : List PyData} {g : Unit → M α} {env : En} {rs : Rs α} (h : (M.bind (setOwn i ds) g) env = some rs) : g () (env.set i (some (.own (dats ds)))) = some rs := h
def MtOk (K : PySem.W.Frag) (r : V → List V → Hp → VK → Prop) (fo : List PyData → List PyData → Option (List PyData × PyData)) : Prop := ∀ {S : Addr → Prop} {H : Hp} {p : Addr} {vs xs : List V} {ds as ds' : List PyData} {d : PyData},
  H p = some (.lst vs) → DaAll K (off S H) vs ds → DaAll K (off S H) xs as → fo ds as = some (ds', d) → ∀ {Q : VK}, (∀ v vs', DaAll K (off S H) vs' ds' → Da K (off S H) v d → Q v (upd H p (.lst vs'))) → r (.ref p) xs H Q
def mthE (i : Nat) (fo : List PyData → List PyData → Option (List PyData × PyData)) (fa : M (List R)) : M R := M.bind (ownD i) fun _ => M.bind fa fun rs => M.bind (lift (dds rs)) fun as => M.bind (ownD i) fun ds => M.bind (lift (fo ds as)) fun r => M.bind (setOwn i r.1) fun _ => M.pure (.dat r.2)
theorem OkE.mth {i : Nat} {r : V → List V → Hp → VK → Prop} {fo : List PyData → List PyData → Option (List PyData × PyData)} {t : TA} {fa : M (List R)} (o : MtOk K r fo) (oa : OkA K E t fa) : OkE K E (tBM K "list" r (tVar i) t) (mthE i fo fa) := by
  refine ⟨?_⟩
  intro B σ H env l rs rp h Q post
  obtain ⟨ds0, hx0, h0⟩ := ownD_step h
  obtain ⟨p, vs0, q1, q2, q3, q4, _⟩ := rp.mut hx0
  refine ⟨.ref p, q1, .inl ⟨rfl, _, SqL.of q2⟩, ?_⟩
  refine oa.seq rp h0 post.exn fun a e vs H1 h1 r1 f1 w1 => ?_
  obtain ⟨as, h2, h3⟩ := lift_step h1
  obtain ⟨ds, hx, h4⟩ := ownD_step h3
  obtain ⟨⟨ds', d⟩, h5, h6⟩ := lift_step h4
  have h7 := setOwn_step h6
  cases h7
  obtain ⟨p', vs1, s1, s2, s3, s4, s5⟩ := r1.mut hx
  rw [q1] at s1
  cases s1
  refine o s2 s4 (dds_ok w1 h2) h5 fun v vs' d1 d2 => post v _ (s5 d1) (f1.trans (fr_upd s3)) ?_
  refine Da.same (off_mono (fun b z n => absurd z n) fun b o n e => ?_) _ d2
  rw [upd_ne (fun z => n (.inr (by rw [z]; exact s3)))]
  exact e
def appD (ds as : List PyData) : Option (List PyData × PyData) :=
  match as with
  | [a] => (sz (ds.length + 1)).map fun _ => (ds ++ [a], .none)
  | _ => none
theorem sz_lt {n : Nat} {u : Unit} (h : sz (n + 1) = some u) : n < sizeLine := sz_ok h
theorem ok_app : MtOk K rAppend appD := by
  intro S H p vs xs ds as ds' d hp hd ha e Q q
  unfold appD at e
  split at e
  · obtain ⟨u, e1, e2⟩ := Option.map_eq_some_iff.mp e
    cases e2
    obtain ⟨v, rfl, h1⟩ := daAll1 ha
    exact ⟨p, vs, v, rfl, rfl, hp, by rw [daAll_len hd]; exact sz_lt e1, q _ _ (daAll_append hd (.cons h1 .nil)) .non⟩
  · cases e
def popD (ds as : List PyData) : Option (List PyData × PyData) :=
  match as with
  | [.int i] => if 0 ≤ i ∧ i < 2 ^ 62 then ds[i.toNat]?.map fun d => (ds.eraseIdx i.toNat, d) else none
  | _ => none
theorem ok_pop : MtOk K rPopAt popD := by
  intro S H p vs xs ds as ds' d hp hd ha e Q q
  unfold popD at e
  split at e
  · split at e
    · rename_i i hi
      obtain ⟨x, e1, e2⟩ := Option.map_eq_some_iff.mp e
      cases e2
      obtain ⟨v, rfl, h2⟩ := daAll1 ha
      cases h2
      obtain ⟨y, e3, e4⟩ := daAll_get hd e1
      have lt := (List.getElem?_eq_some_iff.mp e3).1
      exact ⟨p, vs, i, i.toNat, y, rfl, rfl, hp, by omega, by omega, by rw [seqIndex_of hi.1 (by omega)], e3, q _ _ (daAll_erase hd _) e4⟩
    · cases e
  · cases e
/-! x[i] = e, the list of a slot -/
def setIx (i : Nat) (fe fk : M R) : M Fl := M.bind fe fun r => M.bind (lift (asD r)) fun d => M.bind (ownD i) fun _ => M.bind fk fun k => M.bind (lift (asI k)) fun k => M.bind (ownD i) fun ds => M.bind (lift (ixN ds.length k)) fun j => M.bind (setOwn i (ds.set j d)) fun _ => M.pure .nx
theorem OkS.setIx {i : Nat} {te tk : TE} {fe fk : M R} (oe : OkE K E te fe) (ok : OkE K E tk fk) : OkS K E bx (tAsg te (gSub (tVar i) tk rSetL)) (Ov.setIx i fe fk) := by
  refine ⟨?_⟩
  intro B σ H env l rs rp h D post
  refine oe.seq rp h post.exn fun a e v H1 h1 r1 f1 q1 => ?_
  obtain ⟨d, h2, h3⟩ := lift_step h1
  obtain ⟨ds0, hx0, h4⟩ := ownD_step h3
  obtain ⟨p, vs0, s1, s2, s3, s4, _⟩ := r1.mut hx0
  refine ⟨.ref p, s1, ?_⟩
  refine ok.seq r1 h4 (exn_later post.exn f1) fun k e2 v2 H2 h5 r2 f2 q2 => ?_
  obtain ⟨k', h6, h7⟩ := lift_step h5
  obtain ⟨ds, hx, h8⟩ := ownD_step h7
  obtain ⟨j, h9, ha⟩ := lift_step h8
  have hb := setOwn_step ha
  cases hb
  obtain ⟨p', vs, t1, t2, t3, t4, t5⟩ := r2.mut hx
  rw [s1] at t1
  cases t1
  rw [asI_some h6] at q2
  cases q2
  rw [asD_some h2] at q1
  refine ⟨p, vs, k', j, rfl, rfl, t2, by rw [daAll_len t4]; exact h9, ?_⟩
  exact post σ _ l (t5 (daAll_set (Da.same f2.keep d q1) t4 j)) (Fr2.of ((f1.trans f2).trans (fr_upd t3))) fun _ => rfl
/-! new lists of one's own -/
theorem new_own {B : Addr → Prop} {σ : St} {H1 : Hp} {env : En} {l : List Addr} {p : Addr} {vs : List V} {ds : List PyData} (r : Rep K B σ H1 env l) (hp : H1 p = none) (da : DaAll K (off (un B l) H1) vs ds) :
    Rep K (un B [p]) σ (upd H1 p (.lst vs)) env l ∧ RpW K (upd H1 p (.lst vs)) (off (un (un B [p]) l) (upd H1 p (.lst vs))) (.ref p) (.own (dats ds)) [p] := by
  refine ⟨r.grow (same_new hp _) (fun _ z => .inl z) (fun b z => z.imp id fun z => by rw [List.mem_singleton.mp z]; exact hp) fun b z => ?_, p, vs, [], rfl, rfl, upd_same, rp1s_of (DaAll.same ?_ ds da)⟩
  · by_cases e : b = p
    · subst e; exact ⟨_, upd_same, trivial⟩
    · rw [upd_ne e]; exact r.tb b (z.resolve_right fun z => e (List.mem_singleton.mp z))
  · refine off_mono (fun b z n => ?_) fun b o n e => by rw [upd_ne (ne_of_none e hp)]; exact e
    rcases z with (z | z) | z
    · exact absurd (.inl z) n
    · rw [List.mem_singleton.mp z]; exact hp
    · exact absurd (.inr z) n
theorem fresh_back {B : Addr → Prop} {σ : St} {H H1 : Hp} {env : En} {l : List Addr} {p : Addr} (r : Rep K B σ H1 env l) (f : Fr l H H1) (hp : H1 p = none) : ∀ b ∈ [p], H b = none := fun b z => by
  rw [List.mem_singleton.mp z]
  cases q : H p with
  | none => rfl
  | some o =>
    rw [f p o (fun z => r.fresh hp (.inr z)) q] at hp
    cases hp
def lstW (fa : M (List R)) : M Wv := M.bind fa fun a => M.bind (lift (dds a)) fun ds => M.bind (lift (sz ds.length)) fun _ => M.pure (.own (dats ds))
theorem OkW.lst {t : TA} {fa : M (List R)} (oa : OkA K E t fa) : OkW K E (tLst t) (lstW fa) := by
  refine ⟨?_⟩
  intro B σ H env l rs rp h Q post
  refine oa.seq rp h post.exn fun a e vs H1 h1 r1 f1 q1 => ?_
  obtain ⟨ds, e1, h2⟩ := lift_step h1
  obtain ⟨u, e2, h3⟩ := lift_step h2
  cases h3
  have dp := dds_ok q1 e1
  refine ⟨by rw [daAll_len dp]; exact sz_ok e2, fun p hp => ?_⟩
  obtain ⟨n1, n2⟩ := new_own r1 hp dp
  exact post _ _ [p] n1 (f1.trans (Fr.of (same_new hp _))) n2 (List.nodup_cons.mpr ⟨by simp, List.nodup_nil⟩) (fresh_back r1 f1 hp)
def listW (fa : M (List R)) : M Wv := M.bind fa fun a => M.bind (vws a) fun ds => M.bind (lift (match ds with | [a] => seqD a | _ => none)) fun es => M.pure (.own (dats es))
theorem OkW.list {t : TA} {fa : M (List R)} (oa : OkA K E t fa) : OkW K E (tCB (fun xs H Q => ∃ p ys, xs = [.ref p] ∧ (SqL K H p ys ∨ SqT K H p ys) ∧ ∀ l, H l = none → Q (.ref l) (upd H l (.lst ys))) t) (listW fa) := by
  refine ⟨?_⟩
  intro B σ H env l rs rp h Q post
  refine oa.seq rp h post.exn fun a e vs H1 h1 r1 f1 q1 => ?_
  obtain ⟨ds, h2, w⟩ := vws_ok r1 q1 h1
  obtain ⟨es, h5, h6⟩ := lift_step h2
  cases h6
  split at h5
  · obtain ⟨x, rfl, wx⟩ := vwAll1 w
    obtain ⟨p, ys, rfl, hq, da⟩ := vw_seq wx h5
    refine ⟨p, ys, rfl, hq, fun p hp => ?_⟩
    obtain ⟨n1, n2⟩ := new_own r1 hp da
    exact post _ _ [p] n1 (f1.trans (Fr.of (same_new hp _))) n2 (List.nodup_cons.mpr ⟨by simp, List.nodup_nil⟩) (fresh_back r1 f1 hp)
  · cases h5
end
/-! what a def keeps -/
/-- data in, a value out -/
def spA (K : PySem.W.Frag) (F : List PyData → Option Wv) : Sp := fun vs H Q _ => ∃ B ds w, DaAll K (off B H) vs ds ∧ (∀ b, B b → ∃ o, H b = some o ∧ NT o) ∧ F ds = some w ∧
  ∀ v H' lw, Same H H' → RpW K H' (off (un B lw) H') v w lw → lw.Nodup → (∀ b ∈ lw, H b = none) → Q v H'
/-- the first argument is a list that may be changed -/
def spB (K : PySem.W.Frag) (F : List PyData → List PyData → Option (Wv × List PyData)) : Sp := fun vs H Q _ => ∃ B p bv bs vs' ds w bs', vs = .ref p :: vs' ∧ H p = some (.lst bv) ∧ ¬ B p ∧ DaAll K (off (un B [p]) H) bv bs ∧ DaAll K (off (un B [p]) H) vs' ds ∧
  (∀ b, B b → ∃ o, H b = some o ∧ NT o) ∧ F bs ds = some (w, bs') ∧
  ∀ v H' lw bv', Fr [p] H H' → H' p = some (.lst bv') → DaAll K (off (un (un B lw) [p]) H') bv' bs' → RpW K H' (off (un (un B lw) [p]) H') v w lw → lw.Nodup → (∀ b ∈ lw, H b = none) → Q v H'
def env0 (ds : List PyData) (n : Nat) : En := ds.map (fun d => some (.dat d)) ++ List.replicate n none
def runA (np n : Nat) (fb : M Fl) (ds : List PyData) : Option Wv := if ds.length = np then
  match fb (env0 ds (n - ds.length)) with
  | some (.ok .nx _) => some (.dat .none)
  | some (.ok (.rt w) _) => some w
  | _ => none else none
def runB (np n : Nat) (fb : M Fl) (bs ds : List PyData) : Option (Wv × List PyData) := if ds.length + 1 = np then
  match fb (some (.own (dats bs)) :: env0 ds (n - (ds.length + 1))) with
  | some (.ok (.rt w) (some (.own xs) :: _)) => (itds xs).map fun bs' => (w, bs')
  | _ => none else none
section
variable {K : PySem.W.Frag} {G H : Hp}
theorem rpe_none : ∀ n : Nat, RpE K H G (List.replicate n none) (List.replicate n none) []
  | 0 => rfl
  | n + 1 => ⟨[], [], rfl, rfl, rpe_none n⟩
theorem rpe_args : ∀ {vs : List V} {ds : List PyData} (n : Nat), DaAll K G vs ds → RpE K H G (vs.map some ++ List.replicate n none) (env0 ds n) []
  | _, _, n, .nil => rpe_none n
  | _, _, n, .cons h t => ⟨[], [], rfl, ⟨_, rfl, rfl, h⟩, rpe_args n t⟩
theorem finA {t : TS} {fb : M Fl} {N : List Str} {vs : List V} {Q : VK} {E : XK} {np : Nat} (o : OkS K L2.E0 false t fb) (h : spA K (runA np N.length fb) vs H Q E) : t { nx := fun _ H' => Q .non H', rt := Q } (L2.start N vs) H := by
  obtain ⟨B, ds, w, da, hB, hf, q⟩ := h
  have el := daAll_len da
  have rp : Rep K B (L2.start N vs) H (env0 ds (N.length - ds.length)) [] := by
    refine ⟨?_, List.nodup_nil, fun _ z => (by cases z), hB⟩
    rw [un_nil]
    unfold L2.start
    rw [el]
    exact rpe_args _ da
  unfold runA at hf
  split at hf
  case isFalse => cases hf
  cases hz : fb (env0 ds (N.length - ds.length)) with
  | none => rw [hz] at hf; cases hf
  | some z =>
    rw [hz] at hf
    cases z with
    | ex C f d => cases hf
    | ok fl e =>
      cases fl with
      | bk => cases hf
      | ct => cases hf
      | nx =>
        cases hf
        refine o.run rp hz fun σ' H' l' r' f' _ => q .non H' [] (fun b o e => f'.fr b o (fun z => by cases z) e) ⟨rfl, .non⟩ List.nodup_nil fun _ z => by cases z
      | rt w' =>
        cases hf
        refine o.run rp hz fun v σ' H' l' lw r' f' _ rw' nd hl => q v H' lw (fun b o e => f'.fr b o (fun z => by cases z) e) ?_ nd fun b z => ?_
        · exact rw'.mv (off_mono (fun b z n => absurd (.inl z) n) fun b o n e => e) fun _ _ => rfl
        · exact (f'.sub b (List.mem_append_right _ z)).resolve_left fun z => by cases z
theorem finB {t : TS} {fb : M Fl} {N : List Str} {vs : List V} {Q : VK} {E : XK} {np : Nat} (o : OkS K L2.E0 true t fb) (h : spB K (runB np N.length fb) vs H Q E) : t { nx := fun _ H' => Q .non H', rt := Q } (L2.start N vs) H := by
  obtain ⟨B, p, bv, bs, vs', ds, w, bs', rfl, hp, nB, db, da, hB, hf, q⟩ := h
  have el := daAll_len da
  have rp : Rep K B (L2.start N (.ref p :: vs')) H (some (.own (dats bs)) :: env0 ds (N.length - (ds.length + 1))) [p] := by
    refine ⟨?_, List.nodup_cons.mpr ⟨by simp, List.nodup_nil⟩, fun b z => by rw [List.mem_singleton.mp z]; exact nB, hB⟩
    unfold L2.start
    rw [List.map_cons, List.cons_append, List.length_cons, el]
    exact ⟨[p], [], rfl, ⟨_, rfl, p, bv, [], rfl, rfl, hp, rp1s_of db⟩, rpe_args _ da⟩
  unfold runB at hf
  split at hf
  case isFalse => cases hf
  cases hz : fb (some (.own (dats bs)) :: env0 ds (N.length - (ds.length + 1))) with
  | none => rw [hz] at hf; cases hf
  | some z =>
    rw [hz] at hf
    cases z with
    | ex C f d => cases hf
    | ok fl e =>
      cases fl with
      | bk => cases hf
      | ct => cases hf
      | nx => cases hf
      | rt w' =>
        cases e with
        | nil => cases hf
        | cons e0 er =>
          cases e0 with
          | none => cases hf
          | some w0 =>
          cases w0 with
          | dat _ => cases hf
          | exc _ _ _ => cases hf
          | dct _ => cases hf
          | dci _ => cases hf
          | dtk _ => cases hf
          | dts _ => cases hf
          | pin _ _ => cases hf
          | dtn _ => cases hf
          | nd _ => cases hf
          | lkd _ => cases hf
          | own xs =>
          obtain ⟨bs2, e1, e2⟩ := Option.map_eq_some_iff.mp (show (itds xs).map (fun bs' => (w', bs')) = _ from hf)
          cases e2
          have hx : (some (Wv.own xs) :: er)[0]? = some (some (.own (dats bs'))) := by rw [itds_eq e1]; rfl
          refine o.run rp hz fun v σ' H' l' lw r' f' b0 rw' nd hl => ?_
          obtain ⟨p', vs2, s1, s2, s3, s4, _⟩ := r'.mut hx
          have s0 : σ'[0]? = some (some (.ref p)) := (b0 rfl).trans rfl
          rw [s0] at s1
          cases s1
          have sub : Same (off (un (un B lw) l') H') (off (un (un B lw) [p]) H') := off_mono (fun b z n => ?_) fun b o n e => e
          · refine q v H' lw vs2 f'.fr s2 (DaAll.same sub _ s4) (rw'.mv sub fun _ _ => rfl) nd fun b z => ?_
            exact (f'.sub b (List.mem_append_right _ z)).resolve_left fun y => (hl b z).1 (by rw [List.mem_singleton.mp y]; exact s3)
          · rcases z with z | z
            · exact absurd (.inl z) n
            · rw [List.mem_singleton.mp z] at n; exact absurd (.inr s3) n
end
theorem lenA {K : PySem.W.Frag} {np n : Nat} {fb : M Fl} {vs : List V} {H : Hp} {Q : VK} {E : XK} (h : spA K (runA np n fb) vs H Q E) : vs.length = np := by
  obtain ⟨B, ds, w, da, hB, hf, q⟩ := h
  unfold runA at hf
  split at hf
  · rw [daAll_len da]; assumption
  · cases hf
theorem lenB {K : PySem.W.Frag} {np n : Nat} {fb : M Fl} {vs : List V} {H : Hp} {Q : VK} {E : XK} (h : spB K (runB np n fb) vs H Q E) : vs.length = np := by
  obtain ⟨B, p, bv, bs, vs', ds, w, bs', rfl, hp, nB, db, da, hB, hf, q⟩ := h
  unfold runB at hf
  split at hf
  · rw [List.length_cons, daAll_len da]; assumption
  · cases hf
/-! calls -/
section
variable {K : PySem.W.Frag} {E : XK} {bx : Bool}
def callA (F : List PyData → Option Wv) (fa : M (List R)) : M Wv := M.bind fa fun rs => M.bind (lift (dds rs)) fun ds => lift (F ds)
theorem callA_ok {B : Addr → Prop} {σ : St} {H H1 : Hp} {e : En} {l : List Addr} {vs : List V} {ds : List PyData} {F : List PyData → Option Wv} {w : Wv} {Q : VK} {E' : XK} (r1 : Rep K B σ H1 e l) (f1 : Fr l H H1) (da : DaAll K (off (un B l) H1) vs ds) (hw : F ds = some w)
    (post : PostW K E B σ H l (.ok w e) Q) : spA K F vs H1 Q E' := by
  refine ⟨un B l, ds, w, da, r1.tl, hw, fun v H' lw s rw' nd fr => ?_⟩
  have hl : ∀ b ∈ lw, ¬ un B l b := fun b z => r1.fresh (fr b z)
  refine post v H' lw (r1.grow s (fun _ z => .inl z) (fun b z => z.imp id (fr b)) fun b z => ?_) (f1.trans (Fr.of s)) (rw'.mv (off_mono (fun b z n => absurd (z.elim (fun z => z.elim (fun z => .inl (.inl z)) .inr) fun z => .inl (.inr z)) n) fun b o n e => e) fun _ _ => rfl) nd fun b z => ?_
  · rcases z with z | z
    · obtain ⟨o, e, n⟩ := r1.tb b z
      exact ⟨o, s _ _ e, n⟩
    · exact rw'.trk b z
  · cases q : H b with
    | none => rfl
    | some o =>
      have := f1 b o (fun y => hl b z (.inr y)) q
      rw [fr b z] at this
      cases this
theorem OkW.call {F : List PyData → Option Wv} {E' : XK} {t : TA} {fa : M (List R)} (oa : OkA K E t fa) : OkW K E (tCall (spA K F) [] E' t) (callA F fa) := by
  refine ⟨?_⟩
  intro B σ H env l rs rp h Q post
  refine oa.seq rp h post.exn fun a e vs H1 h1 r1 f1 q1 => ?_
  obtain ⟨ds, h2, h3⟩ := lift_step h1
  obtain ⟨w, h4, h5⟩ := lift_some h3
  subst h5
  rw [List.append_nil]
  exact callA_ok r1 f1 (dds_ok q1 h2) h4 post
/-- keywords alone, in the order g -/
theorem OkW.callK {F : List PyData → Option Wv} {E' : XK} {n : Nat} {gV : List V → List V → List V} {gD : List PyData → List PyData} {t : TA} {fa : M (List R)} (hg : ∀ {G : Hp} {vs : List V} {ds : List PyData}, DaAll K G vs ds → ds.length = n → DaAll K G (gV [] vs) (gD ds)) (oa : OkA K E t fa) :
    OkW K E (L2.tCallN 0 n (spA K F) gV E' tNil t) (callA (fun ds => if ds.length = n then F (gD ds) else none) fa) := by
  refine ⟨?_⟩
  intro B σ H env l rs rp h Q post
  refine oa.seq rp h post.exn fun a e vs H1 h1 r1 f1 q1 => ?_
  obtain ⟨ds, h2, h3⟩ := lift_step h1
  obtain ⟨w, h4, h5⟩ := lift_some h3
  subst h5
  have da := dds_ok q1 h2
  simp only at h4
  split at h4
  · rename_i hn
    exact ⟨rfl, by rw [daAll_len da]; exact hn, callA_ok r1 f1 (hg da hn) h4 post⟩
  · cases h4
/-- the first argument is slot i's own list -/
def callB (i : Nat) (F : List PyData → List PyData → Option (Wv × List PyData)) (fa : M (List R)) : M Wv := M.bind (ownD i) fun _ => M.bind fa fun rs => M.bind (lift (dds rs)) fun ds => M.bind (ownD i) fun bs => M.bind (lift (F bs ds)) fun r => M.bind (setOwn i r.2) fun _ => M.pure r.1
theorem un_less {B : Addr → Prop} {l : List Addr} {p : Addr} (hp : p ∈ l) : un (fun b => un B l b ∧ b ≠ p) [p] = un B l := by
  funext b
  refine propext ⟨fun z => z.elim (fun z => z.1) fun z => ?_, fun z => ?_⟩
  · rw [List.mem_singleton.mp z]; exact .inr hp
  · by_cases e : b = p
    · exact .inr (by rw [e]; exact List.mem_cons_self ..)
    · exact .inl ⟨z, e⟩
theorem OkW.callB {i : Nat} {F : List PyData → List PyData → Option (Wv × List PyData)} {E' : XK} {t : TA} {fa : M (List R)} (oa : OkA K E t fa) : OkW K E (tCall (spB K F) [] E' (tCons (tVar i) t)) (Ov.callB i F fa) := by
  refine ⟨?_⟩
  intro B σ H env l rs rp h Q post
  obtain ⟨ds0, hx0, h0⟩ := ownD_step h
  obtain ⟨p, vs0, q1, q2, q3, q4, _⟩ := rp.mut hx0
  refine ⟨.ref p, q1, ?_⟩
  refine oa.seq rp h0 post.exn fun a e vs H1 h1 r1 f1 w1 => ?_
  obtain ⟨as, h2, h3⟩ := lift_step h1
  obtain ⟨bs, hx, h4⟩ := ownD_step h3
  obtain ⟨⟨w, bs'⟩, h5, h6⟩ := lift_step h4
  have h7 := setOwn_step h6
  cases h7
  obtain ⟨p', vs1, s1, s2, s3, s4, s5⟩ := r1.mut2 hx
  rw [q1] at s1
  cases s1
  have da := dds_ok w1 h2
  rw [List.append_nil]
  refine ⟨fun b => un B l b ∧ b ≠ p, p, vs1, bs, vs, as, w, bs', rfl, s2, fun z => z.2 rfl, by rw [un_less s3]; exact s4, by rw [un_less s3]; exact da, fun b z => r1.tl b z.1, h5, fun v H' lw bv' fr hb' db' rw' nd fw => ?_⟩
  have ew : ∀ b, un (un B lw) l b → un (un (fun b => un B l b ∧ b ≠ p) lw) [p] b := fun b z => by
    by_cases e : b = p
    · exact .inr (by rw [e]; exact List.mem_cons_self ..)
    · exact .inl (z.elim (fun z => z.imp (fun z => ⟨.inl z, e⟩) id) fun z => .inl ⟨.inr z, e⟩)
  have sb : Same (off (un (un (fun b => un B l b ∧ b ≠ p) lw) [p]) H') (off (un (un B lw) l) H') := off_mono (fun b z n => absurd (ew b z) n) fun b o n e => e
  have hl : ∀ b ∈ lw, ¬ un B l b := fun b z => r1.fresh (fw b z)
  have sub : Same (off (un B l) H1) (off (un (un B lw) l) H') := off_mono (fun b z n => z.elim (fun z => z.elim (fun z => absurd (.inl z) n) (fw b)) fun z => absurd (.inr z) n) fun b o n e => fr b o (fun z => n (by rw [List.mem_singleton.mp z]; exact .inr s3)) e
  refine post v H' lw (s5 (fun q z n => ?_) hb' sub (DaAll.same sb _ db') (fun b z y => y.elim (r1.out b z) fun y => hl b y (.inr z)) fun b z => ?_) (f1.trans fun b o n e => fr b o (fun z => n (by rw [List.mem_singleton.mp z]; exact s3)) e) (rw'.mv sb fun _ _ => rfl) nd fun b z => ?_
  · obtain ⟨us, e, _⟩ := r1.rp.trk q z
    rw [e]
    exact fr q _ (fun y => n (List.mem_singleton.mp y)) e
  · rcases z with z | z
    · obtain ⟨o, e, n⟩ := r1.tb b z
      exact ⟨o, fr b o (fun y => r1.out p s3 (by rw [← List.mem_singleton.mp y]; exact z)) e, n⟩
    · exact rw'.trk b z
  · cases q : H b with
    | none => rfl
    | some o =>
      have := f1 b o (fun y => hl b z (.inr y)) q
      rw [fw b z] at this
      cases this
end
end Ov
set_option Elab.async false
set_option linter.all false
set_option maxRecDepth 100000
set_option maxHeartbeats 4000000
namespace Ov
open PySem L2
def chk (b : Bool) : Option Unit := if b = true then some () else none
theorem chk_ok {b : Bool} {u : Unit} (h : chk b = some u) : b = true := by
  unfold chk at h
  split at h
  · assumption
  · cases h
section
variable {K : PySem.W.Frag} {E : XK} {bx : Bool}
/-! isinstance of data -/
def kitD (T : String) (d : PyData) : Option Bool := kitB (tyD d) T
def isiE (T : String) (fa : M R) : M R := M.bind fa fun r => M.bind (vw r) fun d => M.bind (lift (kitD T d)) fun b => M.pure (ofB b)
theorem OkE.isi {T : String} {ta : TE} {fa : M R} (oa : OkE K E ta fa) : OkE K E (tCB (rIsi K) (tCons ta (tCons (tC (.ty T)) tNil))) (isiE T fa) := by
  refine ⟨?_⟩
  intro B σ H env l rs rp h Q post
  refine oa.seq rp h post.exn fun a e v H1 h1 r1 f1 q1 => ?_
  obtain ⟨d, h2, w⟩ := vw_step r1 q1 h1
  obtain ⟨b, h3, h4⟩ := lift_step h2
  cases h4
  exact ⟨v, .ty T, _, _, b, rfl, .ty T, da_ty w.da, kit_ty h3, post _ H1 r1 f1 (.bl b)⟩
def isiE2 (A B : String) (fa : M R) : M R := M.bind fa fun r => M.bind (vw r) fun d => M.bind (lift (kitD A d)) fun a => M.bind (lift (kitD B d)) fun b => M.pure (ofB (a || b))
theorem OkE.isi2 {T U : String} {ta : TE} {fa : M R} (oa : OkE K E ta fa) : OkE K E (tCB (rIsiT K) (tCons ta (tCons (tTup (tCons (tC (.ty T)) (tCons (tC (.ty U)) tNil))) tNil))) (isiE2 T U fa) := by
  refine ⟨?_⟩
  intro B σ H env l rs rp h Q post
  refine oa.seq rp h post.exn fun a e v H1 h1 r1 f1 q1 => ?_
  obtain ⟨d, h2, w⟩ := vw_step r1 q1 h1
  obtain ⟨b, h3, h4⟩ := lift_step h2
  obtain ⟨b2, h5, h6⟩ := lift_step h4
  cases h6
  refine ⟨smallB rfl, fun p hp => ?_⟩
  have s1 := same_new hp (.tup [.ty T, .ty U])
  exact ⟨v, p, _, _, _, b || b2, rfl, upd_same, .cons (.ty T) (.cons (.ty U) .nil), da_ty (Da.same s1 d w.da), kit2 h3 h5, post _ _ (r1.same s1) (f1.trans (Fr.of s1)) (.bl _)⟩
/-! is None, is True -/
def isNR : R → Option Bool
  | .dat .none => some true
  | .dat _ => some false
  | .exc _ _ _ => some false
  | .slot _ => none
def isNE (n : Bool) (fa : M R) : M R := M.bind fa fun r => M.bind (lift (isNR r)) fun b => M.pure (ofB (n ^^ b))
theorem isNR_ok {G : Hp} {σ : St} {v : V} {r : R} {b : Bool} (q : RpR K G σ v r) (h : isNR r = some b) : decide (v = .non) = b := by
  cases r with
  | dat d =>
    have q : Da K G v d := q
    cases q with
    | non => cases h; rfl
    | bl _ => cases h; rfl
    | int _ => cases h; rfl
    | str _ => cases h; rfl
    | lst _ _ => cases h; rfl
    | tup _ _ => cases h; rfl
    | dct _ _ _ _ => cases h; rfl
    | dtk _ _ _ _ => cases h; rfl
  | slot i => cases h
  | exc C f d =>
    obtain ⟨a, u, rfl, _⟩ := q
    cases h
    rfl
theorem OkE.isN {ta : TE} {fa : M R} (oa : OkE K E ta fa) : OkE K E (tOp (fun x y H Q => y = .non ∧ Q (.bl (decide (x = .non))) H) ta (tC .non)) (isNE false fa) := by
  refine ⟨?_⟩
  intro B σ H env l rs rp h Q post
  refine oa.seq rp h post.exn fun a e v H1 h1 r1 f1 q1 => ?_
  obtain ⟨b, h3, h4⟩ := lift_step h1
  cases h4
  refine ⟨rfl, ?_⟩
  rw [isNR_ok q1 h3]
  exact post _ H1 r1 f1 (by rw [Bool.false_xor]; exact .bl b)
/-! turned round -/
/-! len(set(t)) -/
/-! str of a number, range as a tuple or list -/
theorem rgV_eq (a b : Int) : rgV a b = (rngL a b).map V.int := by
  unfold rgV rngL
  rw [List.map_map]
  rfl
def rgE (fr : M (Int × Int)) : M R := M.bind fr fun r => M.bind (lift (chk (decide (-(2 ^ 62) ≤ r.1 ∧ r.1 < 2 ^ 62 ∧ -(2 ^ 62) ≤ r.2 ∧ r.2 < 2 ^ 62 ∧ (r.2 - r.1).toNat ≤ 1000000)))) fun _ => M.pure (.dat (.tuple ((rngL r.1 r.2).map .int)))
def rg2 (fa fb : M R) : M (Int × Int) := M.bind fa fun a => M.bind fb fun b => M.bind (lift (asI a)) fun i => M.bind (lift (asI b)) fun j => M.pure (i, j)
/-! a, b = x, y -/
def parS (i j : Nat) (f g : M Wv) : M Fl := M.bind f fun v => M.bind g fun w => M.bind (putM i v) fun _ => M.bind (putM j w) fun _ => M.pure .nx
theorem OkS.par {i j : Nat} {ta tb : TE} {f g : M Wv} (hb : bx = true → i ≠ 0 ∧ j ≠ 0) (o : OkW K E ta f) (o' : OkW K E tb g) : OkS K E bx (tPar i j (tCons ta (tCons tb tNil))) (parS i j f g) := by
  refine ⟨?_⟩
  intro B σ H env l rs rp h D post
  refine o.seq rp h post.exn fun w1 e1 v1 H1 l1 h1 r1 f1 q1 nd1 fr1 => ?_
  have n1 : ∀ b ∈ l1, ¬ un B l b := fun b z => rp.fresh (fr1 b z)
  have ex1 : ∀ C f d, rs = .ex C f d → Exn K E (un B l1) H1 l C f d := fun C f d e => by
    have := (post.exn C f d e).later f1
    exact this.wide
  refine o'.seq r1 h1 ex1 fun w2 e2 v2 H2 l2 h2 r2 f2 q2 nd2 fr2 => ?_
  have n2 : ∀ b ∈ l2, ¬ un (un B l1) l b := fun b z => r1.fresh (fr2 b z)
  obtain ⟨hi, h3⟩ := putM_step h2
  obtain ⟨hj, h4⟩ := putM_step h3
  cases h4
  refine ⟨v1, v2, rfl, ?_⟩
  have ec : un (un B l1) l2 = un (un B l2) l1 := by
    funext b
    exact propext ⟨fun z => z.elim (fun z => z.elim (fun z => .inl (.inl z)) .inr) fun z => .inl (.inr z), fun z => z.elim (fun z => z.elim (fun z => .inl (.inl z)) .inr) fun z => .inl (.inr z)⟩
  have q1' : RpW K H2 (off (un (un (un B l2) l1) l) H2) v1 w1 l1 := by
    refine q1.mv (off_mono (fun b z n => ?_) fun b o n e => f2 b o (fun z => n (.inr z)) e) fun b z => ?_
    · rcases z with ((z | z) | z) | z
      · exact absurd (.inl (.inl z)) n
      · exact fr2 b z
      · exact absurd (.inl (.inr z)) n
      · exact absurd (.inr z) n
    · obtain ⟨o, e, _⟩ := q1.trk b z
      rw [e]
      exact f2 b o (fun y => n1 b z (.inr y)) e
  rw [ec] at r2
  obtain ⟨l3, r3, m3⟩ := r2.put hi q1' nd1 fun b z => ⟨fun y => n1 b z (.inr y), fun y => y.elim (fun y => n1 b z (.inl y)) fun y => n2 b y (.inl (.inr z))⟩
  have sub3 : ∀ b ∈ l3, b ∈ l ∨ b ∈ l1 := m3
  have q2' : RpW K H2 (off (un (un B l2) l3) H2) v2 w2 l2 := by
    refine q2.mv (off_mono (fun b z n => ?_) fun b o n e => e) fun _ _ => rfl
    rcases z with (z | z) | z
    · exact absurd (.inl (.inl (.inl z))) n
    · exact absurd (.inl (.inr z)) n
    · rcases m3 b z with z | z
      · exact absurd (.inr z) n
      · exact absurd (.inl (.inl (.inr z))) n
  obtain ⟨l4, r4, m4⟩ := r3.put hj q2' nd2 fun b z => ⟨fun y => (m3 b y).elim (fun y => n2 b z (.inr y)) fun y => n2 b z (.inl (.inr y)), fun y => n2 b z (.inl (.inl y))⟩
  refine post _ H2 l4 r4 ⟨f1.trans f2, fun b z => ?_⟩ fun z => ?_
  · rcases m4 b z with z | z
    · exact (m3 b z).imp id (fr1 b)
    · refine .inr ?_
      cases q : H b with
      | none => rfl
      | some o =>
        have := f1 b o (fun y => n2 b z (.inr y)) q
        rw [fr2 b z] at this
        cases this
  · rw [List.getElem?_set_ne (hb z).2, List.getElem?_set_ne (hb z).1]
/-! dicts of numbers -/
def dnew : M Wv := M.pure (.dct [])
def dctD (i : Nat) : M (List Int) := fun env =>
  match env[i]? with
  | some (some (.dct ks)) => some (.ok ks env)
  | _ => none
def putT (ks : List Int) (k : Int) : List Int := if k ∈ ks then ks else ks ++ [k]
def dinT (n : Bool) (i : Nat) (fk : M R) : M Bool := M.bind fk fun r => M.bind (lift (asI r)) fun k => M.bind (dctD i) fun ks => M.pure (n ^^ decide (k ∈ ks))
def dputS (i : Nat) (fk : M R) : M Fl := M.bind (dctD i) fun _ => M.bind fk fun r => M.bind (lift (asI r)) fun k => M.bind (dctD i) fun ks => M.bind (lift (chk (decide (ks.length < 1000)))) fun _ => M.bind (putM i (.dct (putT ks k))) fun _ => M.pure .nx
def sortDct (i : Nat) : M R := M.bind (dctD i) fun ks => M.bind (lift (chk (decide (ks.length < 64)))) fun _ => M.pure (.dat (.list ((sortI ks).map .int)))
end
end Ov
set_option Elab.async false
set_option linter.all false
set_option maxRecDepth 100000
set_option maxHeartbeats 4000000
namespace Ov
open PySem L2
/-! repr -/
def rReprA (K : PySem.W.Frag) : List V → Hp → VK → Prop := fun vs H Q => ∃ (v : V) (d : PyData), vs = [v] ∧ Dp K H v d ∧ d.showable = true ∧ d.hasDict = false ∧ d.depth ≤ 60 ∧ d.shown.length ≤ sizeLine ∧ Q (.str d.shown) H
section
variable {X : Cx}
theorem call_reprA (hg : X.A.guards = some []) (hu : X.A.units + 64 < cLine) : CallR X (.builtin "repr") (rReprA X.K) := by
  intro pins s σ H xs us Q I r h
  obtain ⟨v, d, rfl, hd, hs, hn, hp, hz, q⟩ := h
  obtain ⟨u, rfl, e⟩ := vals1 r
  cases hd with
  | non => cases e; exact PySem.P.repr_of_none ⟨.str _, H, I.tok _, ⟨_, rfl⟩, q⟩
  | bl b => cases e; exact PySem.P.repr_of_bool ⟨.str _, H, I.tok _, ⟨_, by cases b <;> rfl⟩, q⟩
  | int i => obtain ⟨t, rfl⟩ := e; exact PySem.P.repr_of_int (of_decide_eq_true hs) ⟨.str _, H, I.tok _, ⟨_, rfl⟩, q⟩
  | str x => obtain ⟨t, rfl⟩ := e; exact PySem.P.repr_of_str ⟨.str _, H, I.tok _, ⟨_, rfl⟩, q⟩ hz
  | lst h1 h2 =>
    cases e
    obtain ⟨as, rd⟩ := Dp.reads I _ _ _ (.lst h1 h2) rfl
    refine PySem.repr_of_reads' rd hs (PyData.noDict_hsm hn) hg (by omega) (fun _ _ e => e) (fun h' t tk hk => ?_) hz
    exact ⟨.str _, H, I.kept fun b o eo => hk b o eo, ⟨_, rfl⟩, q⟩
  | tup h1 h2 =>
    cases e
    obtain ⟨as, rd⟩ := Dp.reads I _ _ _ (.tup h1 h2) rfl
    refine PySem.repr_of_reads' rd hs (PyData.noDict_hsm hn) hg (by omega) (fun _ _ e => e) (fun h' t tk hk => ?_) hz
    exact ⟨.str _, H, I.kept fun b o eo => hk b o eo, ⟨_, rfl⟩, q⟩
end
def canShow (d : PyData) : Bool := d.showable && !d.hasDict && decide (d.depth ≤ 60) && decide (d.shown.length ≤ sizeLine)
def reprD (as : List PyData) : Option PyData :=
  match as with
  | [d] => (chk (canShow d)).map fun _ => .str d.shown
  | _ => none
theorem ok_repr {K : PySem.W.Frag} : CbOk K (rReprA K) reprD := by
  intro S H xs as d hS w e Q q
  unfold reprD at e
  split at e
  · rename_i d0
    obtain ⟨u, e1, e2⟩ := Option.map_eq_some_iff.mp e
    subst e2
    have hc := chk_ok e1
    unfold canShow at hc
    rw [Bool.and_eq_true, Bool.and_eq_true, Bool.and_eq_true] at hc
    obtain ⟨x, rfl, wx⟩ := vwAll1 w
    exact ⟨x, d0, rfl, Da.dp _ (by simpa using hc.1.1.2) wx.da, hc.1.1.1, by simpa using hc.1.1.2, of_decide_eq_true hc.1.2, of_decide_eq_true hc.2, q _ _ (same_refl _) (.str _)⟩
  · cases e
section
variable {K : PySem.W.Frag} {E : XK} {bx : Bool}
theorem getD_da {G : Hp} {vs : List V} {ds : List PyData} (h : DaAll K G vs ds) {i : Nat} (hi : i < ds.length) : Da K G (vs.getD i .non) (ds.getD i .none) := by
  obtain ⟨x, e1, e2⟩ := daAll_get h (List.getElem?_eq_getElem hi)
  rw [List.getD_eq_getElem?_getD, List.getD_eq_getElem?_getD, e1, List.getElem?_eq_getElem hi]
  exact e2
theorem kw_da {n : Nat} {pi : List Nat} (hp : pi.all (· < n) = true) {G : Hp} {vs : List V} {ds : List PyData} (h : DaAll K G vs ds) (hn : ds.length = n) : DaAll K G (pi.map fun i => vs.getD i .non) (pi.map fun i => ds.getD i .none) := by
  induction pi with
  | nil => exact .nil
  | cons i r ih =>
    rw [List.all_cons, Bool.and_eq_true] at hp
    exact .cons (getD_da h (by have := of_decide_eq_true hp.1; omega)) (ih hp.2)
end
end Ov
namespace Ov
open PySem L2
theorem vacA {K : PySem.W.Frag} {vs : List V} {H : Hp} {Q : VK} {E : XK} (h : spA K (fun _ => none) vs H Q E) : False := by
  obtain ⟨B, ds, w, da, hB, hf, q⟩ := h
  cases hf
theorem vacB {K : PySem.W.Frag} {vs : List V} {H : Hp} {Q : VK} {E : XK} (h : spB K (fun _ _ => none) vs H Q E) : False := by
  obtain ⟨B, p, bv, bs, vs', ds, w, bs', rfl, hp, nB, db, da, hB, hf, q⟩ := h
  cases hf
end Ov
set_option Elab.async false
set_option linter.all false
set_option maxRecDepth 100000
set_option maxHeartbeats 4000000
namespace Ov
open PySem L2
/-! the rules whose reading names the written part, with that part given (a comprehension's block has it too) -/
section
variable {X : Cx} {K : PySem.W.Frag} (hK : X.K = K)
include hK
theorem k_len : CallR X (.builtin "len") (fun xs H Q => ∃ p ys, xs = [.ref p] ∧ (SqL K H p ys ∨ SqT K H p ys) ∧ Q (.int ys.length) H) := by subst hK; exact call_len_seq
theorem k_tup : CallR X (.type "tuple") (rTupW K) := by subst hK; exact call_tupW
theorem k_list : CallR X (.type "list") (fun xs H Q => ∃ p ys, xs = [.ref p] ∧ (SqL K H p ys ∨ SqT K H p ys) ∧ ∀ l, H l = none → Q (.ref l) (upd H l (.lst ys))) := by subst hK; exact call_list_of
theorem k_all (hc : X.calm = true) : CallR X (.builtin "all") (rAll K) := by subst hK; exact cr_all hc
theorem k_isi : CallR X (.builtin "isinstance") (rIsi K) := by subst hK; exact call_isi
theorem k_isiT : CallR X (.builtin "isinstance") (rIsiT K) := by subst hK; exact call_isiT
theorem k_repr (hg : X.A.guards = some []) (hu : X.A.units + 64 < cLine) : CallR X (.builtin "repr") (rReprA K) := by subst hK; exact call_reprA hg hu
theorem k_eqD (hu : X.A.units + 64 < cLine) : OpR X (compareOp .Eq) (rEqD K) := by subst hK; exact op_eqD hu
theorem k_neD (hu : X.A.units + 64 < cLine) : OpR X (compareOp .NotEq) (rNeD K) := by subst hK; exact op_neD hu
theorem k_ix : IxR X (rIx K) := by subst hK; exact ix_seq
theorem k_cut : SlR X (rCut K) := by subst hK; exact sl_cut
theorem k_catW : OpR X (binaryOp .Add) (rCatW K) := by subst hK; exact op_catW
theorem k_seq {tg l : Expr} {tl : TE} (hl : PE X l tl) : PI X tg l (iSeq K tl) := by subst hK; exact pi_seq hl
theorem k_zipA {e e2 : Expr} {ta : TA} {p pos tpos : Pos} {elts : List Expr} {kk : Nat} (hg : Gl X "zip") (hm : X.mg "zip" = none) (ha : PA X [e, e2] ta)
    (hs : starEach [e, e2] X.env = (false, eval e X.env) :: starEach [e2] X.env := by rfl) (hpl : (backTo pos (starEach [e2] X.env)).any (·.1) = false := by rfl) :
    PI X (.Tuple elts kk tpos) (.Call (.Name "zip" p) [e, e2] [] pos) (RZ.iZipA K ta) := by subst hK; exact RZ.pi_zipA hg hm ha hs hpl
theorem k_bm {T id : String} {o e : Expr} {es : List Expr} {to : TE} {t : TA} {name : Str} {apos cpos : Pos} {r : V → List V → Hp → VK → Prop} (pa : PlainAttrs T) (slot : Slot T name id) (hty : typeOf (.builtin id) = pure (.type "method_descriptor")) (hm : MtR X id r) (ho : PE X o to) (ha : PA X (e :: es) t)
    (hbase : attributeBase o name X.env (eval o X.env) = eval o X.env := by rfl)
    (hfew : ((backTo cpos (starEach (e :: es) X.env)).all (fun x => !x.1) && (backToKw cpos (keywordEach [] X.env)).all (fun x => x.1.isSome)
      && decide ((e :: es).length + ([] : List Keyword).length + (if ([] : List Keyword).isEmpty then 0 else 1) < 30)) = true := by rfl)
    (hline : (apos.endLine == cpos.line) = true := by rfl) (hs : starEach (e :: es) X.env = (false, eval e X.env) :: starEach es X.env := by rfl) (hplain : (backTo cpos (starEach es X.env)).any (·.1) = false := by rfl) :
    PE X (.Call (.Attribute o name apos) (e :: es) [] cpos) (tBM K T r to t) := by subst hK; exact pe_bm pa slot hty hm ho ha hbase hfew hline hs hplain
end
section
variable {K : PySem.W.Frag} {E : XK}
/-- xs + ys as a list of one's own -/
def catW (fa fb : M R) : M Wv := M.bind fa fun a => M.bind fb fun b => M.bind (vw a) fun x => M.bind (vw b) fun y => M.bind (lift (catD x y)) fun d => M.bind (lift (match d with | .list ds => some ds | _ => none)) fun ds => M.pure (.own (dats ds))
end
end Ov
set_option Elab.async false
set_option linter.all false
set_option maxRecDepth 100000
set_option maxHeartbeats 4000000
set_option Elab.async false
set_option linter.all false
set_option maxRecDepth 100000
set_option maxHeartbeats 4000000
namespace Ov
open PySem L2 PySem.Spec PyProof.Rows
/-! zip of two sequences, each a list or a tuple -/
def SqB (t : Bool) (K : PySem.W.Frag) (H : Hp) (a : Addr) (xs : List V) : Prop := match t with
  | true => SqT K H a xs
  | false => SqL K H a xs
def ItB (t : Bool) (h : Heap) (it l : Addr) (k : Nat) : Prop := match t with
  | true => h.IsTupleIter it l k
  | false => h.IsListIter it l k
def SeB (t : Bool) (h : Heap) (l : Addr) (its : Array Value) : Prop := match t with
  | true => h.IsTuple l its
  | false => h.IsList l its
def itO (t : Bool) (l : Addr) : Obj := { cls := .type (match t with | true => "tuple_iterator" | false => "list_iterator"), data := .fields #[.ref l, .int 0 0] }
theorem drB {P : Program} {w : World} {A : Around} (t : Bool) (no : A.handled = none) (it l : Addr) (ne : l ≠ it) (its : Array Value) :
    Draws P w A it [it, l] its.size (fun i v => its[i]? = some v) (fun i h => ItB t h it l i ∧ SeB t h l its) := by
  cases t with
  | true => exact Draws.tuple no it l ne its
  | false => exact Draws.list no it l ne its
theorem bgB (t : Bool) (l : Addr) (its : Array Value) : Begins (.ref l) (itO t l) (fun h => SeB t h l its) := by
  cases t with
  | true => exact begins_tuple l its
  | false => exact begins_list l its
theorem ItB.new {t : Bool} {h : Heap} {it l : Addr} (e : h.get? it = some (itO t l)) : ItB t h it l 0 := by
  cases t with
  | true => exact ⟨_, e, rfl, rfl⟩
  | false => exact ⟨_, e, rfl, rfl⟩
theorem ItB.up {t : Bool} {h h' : Heap} {it l : Addr} {k : Nat} (x : ItB t h it l k) (f : ∀ o, h.get? it = some o → h'.get? it = some o) : ItB t h' it l k := by
  cases t with
  | true => exact Heap.IsTupleIter.at x f
  | false => exact Heap.IsListIter.at x f
theorem ItB.ob {t : Bool} {h : Heap} {it l : Addr} {k : Nat} (x : ItB t h it l k) : ∃ o, h.get? it = some o ∧ ∀ v, o.data ≠ .cell v := by
  cases t with
  | true => obtain ⟨o, e, _, d⟩ := x; exact ⟨o, e, fun v z => by rw [d] at z; cases z⟩
  | false => obtain ⟨o, e, _, d⟩ := x; exact ⟨o, e, fun v z => by rw [d] at z; cases z⟩
theorem SeB.lt {t : Bool} {h : Heap} {l : Addr} {its : Array Value} (x : SeB t h l its) : l < h.objs.size := by
  cases t with
  | true => obtain ⟨o, e, _⟩ := x; exact Heap.lt_size e
  | false => obtain ⟨o, e, _⟩ := x; exact Heap.lt_size e
section
variable {X : Cx} {pins : List (Addr × Obj)} {σ : L2.St} {H : Hp} {s : Shared} {t : Bool} {a : Addr} {xs ys : List V}
theorem SqB.read (I : Inv X pins σ H s) (h : SqB t X.K H a xs) : ∃ its : List Value, Vals xs its ∧ SeB t s.heap a its.toArray := by
  cases t with
  | true => obtain ⟨its, r, p, _⟩ := I.tuple h; exact ⟨its, r, p⟩
  | false => obtain ⟨its, r, p, _⟩ := I.list h; exact ⟨its, r, p.isList⟩
theorem SqB.inj (I : Inv X pins σ H s) (h : SqB t X.K H a xs) (h' : SqB t X.K H a ys) : xs = ys := by
  cases t with
  | true => exact I.tuple_inj h h'
  | false => exact I.list_inj h h'
end
def ItzB (t u : Bool) (K : PySem.W.Frag) (a b : Addr) : It where
  go := fun i H => ∃ (xs ys : List V) (x y : V), SqB t K H a xs ∧ SqB u K H b ys ∧ xs[i]? = some x ∧ ys[i]? = some y
  yld := fun i H v H' => ∃ p x y, v = .ref p ∧ H p = none ∧ H' = upd H p (.tup [x, y]) ∧ (∀ xs, SqB t K H a xs → xs[i]? = some x) ∧ ∀ ys, SqB u K H b ys → ys[i]? = some y
  stop := fun i H => ∃ xs ys : List V, SqB t K H a xs ∧ SqB u K H b ys ∧ i ≤ xs.length ∧ i ≤ ys.length ∧ (xs.length = i ∨ ys.length = i)
theorem turn_zipB {P : Program} {w : World} {K : PySem.W.Frag} {tgs : List Expr} {kk : Nat} {tp : Pos} {t u : Bool} {a b z m n c d : Addr} (D : ZipSep2 z m n c d [c, a] [d, b]) (na : a ≠ c) (nb : b ≠ d) :
    Turn P w K (.Tuple tgs kk tp) (ItzB t u K a b) [z, m, n, c, d] z (fun i h => IsZip h z m n .none ∧ IsTupOf2 h m (.ref c) (.ref d) ∧ (∃ x y, IsTupOf2 h n x y) ∧ ItB t h c a i ∧ ItB u h d b i) where
  mem := by simp
  obj := fun i h st e he => by
    obtain ⟨q1, q2, ⟨x, y, q3⟩, q4, q5⟩ := st
    simp only [List.mem_cons, List.not_mem_nil, or_false] at he
    rcases he with rfl | rfl | rfl | rfl | rfl
    · exact ⟨_, q1, fun v r => nomatch r⟩
    · exact ⟨_, q2, fun v r => nomatch r⟩
    · exact ⟨_, q3, fun v r => nomatch r⟩
    · exact q4.ob
    · exact q5.ob
  keep := fun i h h' st k => by
    obtain ⟨q1, q2, ⟨x, y, q3⟩, q4, q5⟩ := st
    exact ⟨k _ (by simp) _ q1, k _ (by simp) _ q2, ⟨x, y, k _ (by simp) _ q3⟩, q4.up fun o e => k _ (by simp) o e, q5.up fun o e => k _ (by simp) o e⟩
  item := by
    intro X eP ew eK calm i pins s σ H E I ff st hg
    subst eP ew eK
    obtain ⟨q1, q2, ⟨x0, y0, q3⟩, q4, q5⟩ := st
    obtain ⟨xs, ys, x, y, hX, hY, ex, ey⟩ := hg
    obtain ⟨is, rx, px⟩ := hX.read I
    obtain ⟨js, ry, py⟩ := hY.read I
    obtain ⟨v1, e1, r1⟩ := rx.get ex
    obtain ⟨v2, e2, r2⟩ := ry.get ey
    have lz : z < s.heap.objs.size := Heap.lt_size q1
    have no := I.ok.hd calm
    have b1 : i < is.toArray.size := by simpa using (List.getElem?_eq_some_iff.mp e1).1
    have b2 : i < js.toArray.size := by simpa using (List.getElem?_eq_some_iff.mp e2).1
    refine wpAny_pyNext_zipD2_item D (drB t (A := X.A.in1) no c a na is.toArray) (drB u (A := X.A.in1) no d b nb js.toArray) q1 q2 q3 ⟨q4, px⟩ ⟨q5, py⟩ b1 b2 ?_
    intro w1 w2 h' tk p1 p2 z' n' s1 s2 nw hsz hk
    have c1 : w1 = v1 := Option.some.inj ((show is.toArray[i]? = some w1 from p1).symm.trans (by simpa using e1))
    have c2 : w2 = v2 := Option.some.inj ((show js.toArray[i]? = some w2 from p2).symm.trans (by simpa using e2))
    subst c1 c2
    refine ⟨_, rfl, wpAny_letOwnedTupleGo_zip (s := { s with heap := h', toks := tk }) z' fun h'' z'' sb => ?_⟩
    have nw2 : h''.get? s.heap.objs.size = some { cls := .type "tuple", data := .seq #[w1, w2] } := (sb.2 _ (Nat.ne_of_gt lz)).trans nw
    have ok : ObjOk X.prog X.w (upd H s.heap.objs.size (.tup [x, y])) h'' s.heap.objs.size (.tup [x, y]) := ⟨by show 2 ≤ sizeLine; decide, [w1, w2], .cons r1 (.cons r2 .nil), ⟨_, nw2, rfl, _, rfl⟩⟩
    have I1 : Inv X pins σ (upd H s.heap.objs.size (.tup [x, y])) { s with heap := h'', toks := tk } := by
      refine I.turnedNew (t' := tk) (ch := [z, m, n, c, d]) (fun e o he f => ?_) ff (Nat.le_refl _) ok
      simp only [List.mem_cons, List.not_mem_nil, or_false, not_or] at he
      exact (sb.2 e he.1).trans (hk e o he.1 he.2.2.1 he.2.2.2.1 he.2.2.2.2 f)
    have zc : c ≠ z := fun e => D.zi1 e.symm
    have zd : d ≠ z := fun e => D.zi2 e.symm
    refine ⟨.ref s.heap.objs.size, _, I1, rfl, ⟨_, x, y, rfl, I.hok.fresh (Nat.le_refl _), rfl, fun l hl => by rw [hl.inj I hX]; exact ex, fun l hl => by rw [hl.inj I hY]; exact ey⟩, ⟨z'', ?_, ⟨w1, w2, ?_⟩, ?_, ?_⟩, fun e he => ?_⟩
    · exact (sb.2 _ D.TIz).trans (hk _ _ D.TIz D.TITO D.TIi1 D.TIi2 q2)
    · exact (sb.2 _ D.TOz).trans n'
    · exact s1.1.up fun o f => (sb.2 _ zc).trans f
    · exact s2.1.up fun o f => (sb.2 _ zd).trans f
    · obtain ⟨o, f, _⟩ : ∃ o, s.heap.get? e = some o ∧ True := by
        simp only [List.mem_cons, List.not_mem_nil, or_false] at he
        rcases he with rfl | rfl | rfl | rfl | rfl
        · exact ⟨_, q1, trivial⟩
        · exact ⟨_, q2, trivial⟩
        · exact ⟨_, q3, trivial⟩
        · obtain ⟨o, f, _⟩ := q4.ob; exact ⟨o, f, trivial⟩
        · obtain ⟨o, f, _⟩ := q5.ob; exact ⟨o, f, trivial⟩
      rw [upd_ne (Nat.ne_of_lt (Heap.lt_size f))]
      exact (ff e he).1
  done := by
    intro X eP ew eK calm i pins s σ H E I ff st hg
    subst eP ew eK
    obtain ⟨q1, q2, ⟨x0, y0, q3⟩, q4, q5⟩ := st
    obtain ⟨xs, ys, hX, hY, l1, l2, over⟩ := hg
    obtain ⟨is, rx, px⟩ := hX.read I
    obtain ⟨js, ry, py⟩ := hY.read I
    have no := I.ok.hd calm
    have g1 := rx.length
    have g2 := ry.length
    refine wpAny_pyNext_zipD2_end D (drB t (A := X.A.in1) no c a na is.toArray) (drB u (A := X.A.in1) no d b nb js.toArray) q1 q2 q3 ⟨q4, px⟩ ⟨q5, py⟩ (by rw [List.size_toArray]; omega) (by rw [List.size_toArray]; omega) ?_ fun h' tk hk => ⟨rfl, ?_⟩
    · rw [List.size_toArray, List.size_toArray]
      omega
    · refine I.turnedL (t' := tk) (ch := [z, m, n, c, d]) (fun e o he f => ?_) ff
      simp only [List.mem_cons, List.not_mem_nil, or_false, not_or] at he
      exact hk e o he.1 he.2.2.1 he.2.2.2.1 he.2.2.2.2 f
  self := fun A i s Q E st h => wpAny_pyIter_zip st.1 h
end Ov
set_option Elab.async false
set_option linter.all false
set_option maxRecDepth 100000
set_option maxHeartbeats 4000000
namespace Ov
open PySem L2 PySem.Spec PyProof.Rows
def iZipB (K : PySem.W.Frag) (ta : TA) : TI := fun σ H R => ta σ H fun vs H1 => ∃ (t u : Bool) (a b : Addr) (xs ys : List V), vs = [.ref a, .ref b] ∧ SqB t K H1 a xs ∧ SqB u K H1 b ys ∧ R (ItzB t u K a b) H1
theorem pi_zipB {X : Cx} {e1 e2 : Expr} {ta : TA} {p0 p1 p2 : Pos} {tgs : List Expr} {kk : Nat} (gl : Gl X "zip") (un : X.mg "zip" = none) (ha : PA X [e1, e2] ta)
    (st : starEach [e1, e2] X.env = (false, eval e1 X.env) :: starEach [e2] X.env := by rfl) (pl : (backTo p1 (starEach [e2] X.env)).any (·.1) = false := by rfl) :
    PI X (.Tuple tgs kk p2) (.Call (.Name "zip" p0) [e1, e2] [] p1) (iZipB X.K ta) := by
  refine ⟨fun pins s σ H R I h => ?_⟩
  refine Call_ (ld_blt I gl un boot_zip (callWith_type1 (thn (ha.run p1 pins s σ H _ I h) ?_) st pl))
  rintro us s1 ⟨vs, H1, J, rel, t, u, a, b, xs, ys, rfl, hX, hY, q⟩
  obtain ⟨v1, v2, rfl, r1, r2⟩ : ∃ v1 v2, us = [v1, v2] ∧ v1 = Value.ref a ∧ v2 = Value.ref b := by
    cases rel with
    | cons r rr => cases rr with | cons r' rr => cases rr; exact ⟨_, _, rfl, r, r'⟩
  subst r1 r2
  obtain ⟨is, _, px⟩ := hX.read J
  obtain ⟨js, _, py⟩ := hY.read J
  have la := px.lt
  have lb := py.lt
  refine zip_begins2 (bgB t a is.toArray) (bgB u b js.toArray) px py fun h' z m n c d _ hk => wpAny_pyIter_zip z ?_
  have J2 : Inv X pins σ H1 { s1 with heap := h' } := J.kept (t' := s1.toks) hk
  have sep : ZipSep2 (s1.heap.objs.size + 4) (s1.heap.objs.size + 2) (s1.heap.objs.size + 3) s1.heap.objs.size (s1.heap.objs.size + 1) [s1.heap.objs.size, a] [s1.heap.objs.size + 1, b] := zip_sep2 (fp1 := [a]) (fp2 := [b]) (fun e he => by rw [List.mem_singleton.mp he]; exact la) (fun e he => by rw [List.mem_singleton.mp he]; exact lb)
  refine ⟨_, [s1.heap.objs.size + 4, s1.heap.objs.size + 2, s1.heap.objs.size + 3, s1.heap.objs.size, s1.heap.objs.size + 1], _, _, H1, rfl, J2, turn_zipB sep (Nat.ne_of_lt la) (Nat.ne_of_lt (Nat.lt_succ_of_lt lb)), ⟨z, m, ⟨_, _, n⟩, .new c, .new d⟩, fun e he => ?_, q⟩
  have le : s1.heap.objs.size ≤ e := by
    simp only [List.mem_cons, List.not_mem_nil, or_false] at he
    rcases he with rfl | rfl | rfl | rfl | rfl
    · exact Nat.le_add_right _ _
    · exact Nat.le_add_right _ _
    · exact Nat.le_add_right _ _
    · exact Nat.le_refl _
    · exact Nat.le_add_right _ _
  exact J.fpOk le (J.hok.fresh le)
section
variable {K : PySem.W.Frag} {E : XK} {t u : Bool} {a b : Addr} {xs ys : List V}
theorem SqB.same {H H' : Hp} (s : Same H H') (h : SqB t K H a xs) : SqB t K H' a xs := by
  cases t with
  | true => exact seqT s h
  | false => exact rd_same s h
theorem da_sq {G : Hp} {v : V} {d : PyData} {ds : List PyData} (h : Da K G v d) (e : seqD d = some ds) : ∃ (t : Bool) (p : Addr) (vs : List V), v = .ref p ∧ SqB t K G p vs ∧ DaAll K G vs ds := by
  cases h with
  | lst q r => cases e; exact ⟨false, _, _, rfl, q, r⟩
  | tup q r => cases e; exact ⟨true, _, _, rfl, q.sq, r⟩
  | dct _ _ _ _ => cases e
  | dtk _ _ _ _ => cases e
  | non => cases e
  | bl _ => cases e
  | int _ => cases e
  | str _ => cases e
theorem walk_zipB {n : Nat} (hn : n = min xs.length ys.length) : Walk (ItzB t u K a b) n (fun H => SqB t K H a xs ∧ SqB u K H b ys) (YPair (fun i => xs[i]?) (fun i => ys[i]?)) := by
  subst hn
  refine ⟨fun i H hi q => ?_, fun H q => ⟨xs, ys, q.1, q.2, by omega, by omega, by omega⟩, fun i H v H' _ q y => ?_⟩
  · have k1 : i < xs.length := by omega
    have k2 : i < ys.length := by omega
    exact ⟨xs, ys, xs[i], ys[i], q.1, q.2, List.getElem?_eq_getElem k1, List.getElem?_eq_getElem k2⟩
  · obtain ⟨T, x, y', g1, g2, g3, g4, g5⟩ := y
    exact ⟨T, x, y', g1, g2, g3, g4 _ q.1, g5 _ q.2⟩
def zipM (as : List PyData) : Option (List PyData) :=
  match as with
  | [x, y] => (seqD x).bind fun ds => (seqD y).map fun es => pairUp ds es
  | _ => none
theorem OkI.zipB {t : TA} {fa : M (List R)} (o : OkA K E t fa) : OkI K E (iZipB K t) (argI zipM fa) := by
  refine ⟨?_⟩
  intro B σ H env l rs rp h R post
  refine o.seq rp h post.exn fun a e v H1 h1 r1 f1 q1 => ?_
  obtain ⟨ds, h2, h3⟩ := lift_step h1
  obtain ⟨out, h4, h5⟩ := lift_some h3
  subst h5
  have da := dds_ok q1 h2
  unfold zipM at h4
  split at h4
  · obtain ⟨es, e1, e2⟩ := Option.bind_eq_some_iff.mp h4
    obtain ⟨gs, e3, e4⟩ := Option.map_eq_some_iff.mp e2
    subst e4
    cases da with
    | cons d1 t1 =>
      cases t1 with
      | cons d2 t2 =>
        cases t2
        obtain ⟨k1, p, ws, rfl, qa, ha⟩ := da_sq d1 e1
        obtain ⟨k2, p', ws', rfl, qb, hb⟩ := da_sq d2 e3
        refine ⟨k1, k2, p, p', ws, ws', rfl, qa.same (off_sub _ _), qb.same (off_sub _ _), post _ H1 _ _ r1 f1 (walk_zipB (by rw [pair_len, daAll_len ha, daAll_len hb])) (fun H2 f => ⟨(qa.same f.keep).same (off_sub _ _), (qb.same f.keep).same (off_sub _ _)⟩) ?_⟩
        rintro i x H2 H3 d S fr ⟨T, u, w, rfl, hT, g3, g4, g5⟩ hd hs hS
        obtain ⟨x1, y1, j1, j2, rfl⟩ := pair_get hd
        obtain ⟨u', m1, m2⟩ := daAll_get ha j1
        obtain ⟨w', m3, m4⟩ := daAll_get hb j2
        cases m1.symm.trans g4
        cases m3.symm.trans g5
        exact pair_da (B := B) (l := l) (H1 := H1) hS hT g3 (m2.walk fr hs) (m4.walk fr hs)
  · cases h4
end
section
variable {X : Cx} {K : PySem.W.Frag} (hK : X.K = K)
include hK
theorem k_zipB {e1 e2 : Expr} {ta : TA} {p0 p1 p2 : Pos} {tgs : List Expr} {kk : Nat} (gl : Gl X "zip") (un : X.mg "zip" = none) (ha : PA X [e1, e2] ta)
    (st : starEach [e1, e2] X.env = (false, eval e1 X.env) :: starEach [e2] X.env := by rfl) (pl : (backTo p1 (starEach [e2] X.env)).any (·.1) = false := by rfl) :
    PI X (.Tuple tgs kk p2) (.Call (.Name "zip" p0) [e1, e2] [] p1) (iZipB K ta) := by subst hK; exact pi_zipB gl un ha st pl
end
end Ov
set_option Elab.async false
set_option linter.all false
set_option maxRecDepth 100000
set_option maxHeartbeats 4000000
namespace Ov
open PySem L2 PySem.Spec PyProof.Rows
/-! a zip whose last pair is kept by somebody: it makes a new one each time -/
section
variable {P : Program} {w : World} {A : Around} {E : Value → Shared → Prop} {s : Shared} {z m n c d T : Addr} {fp gp : List Addr} {n1 n2 i : Nat} {P1 P2 : Nat → Value → Prop} {S1 S2 : Nat → Heap → Prop} {f : Bool} {oT : Obj}
theorem zh_run {Q : Fin → Shared → Prop} (D : ZipSep2 z m n c d fp gp) (D1 : Draws P w A c fp n1 P1 S1) (D2 : Draws P w A d gp n2 P2 S2) (hz : IsZipHeld s.heap z m n T f) (hT : s.heap.get? T = some oT) (hm : IsTupOf2 s.heap m (.ref c) (.ref d)) (a1 : S1 i s.heap) (a2 : S2 i s.heap)
    (h : ∀ h1, IsZipHeld h1 z m n T true → Heap.SameBut z s.heap h1 → S1 i h1 → S2 i h1 → wpAny (model P w) A (Builtin.SmallTypes.nextOf (.ref c)) (fun x s2 => wpAny (model P w) A (Builtin.SmallTypes.nextOf (.ref d)) (fun y s3 => wpAny (model P w) A (newTuple [x, y]) (fun v s4 => Q (.done (.ret v)) s4) E s3) E s2) E { s with heap := h1 }) :
    wpAny (model P w) A (Builtin.«zip.__next__» ⟨[.ref z], []⟩) Q E s := by
  show wpAny _ _ (field (.ref z) 2 >>= _) _ _ _
  refine wpAny_bind (wpAny_field hz rfl (x := .bool false) rfl (show wpAny _ _ (field (.ref z) 3 >>= _) _ _ _ from ?_))
  refine wpAny_bind (wpAny_field hz rfl (x := .ref m) rfl (wpAny_bind (wpAny_seqItems hm rfl ?_)))
  refine (show wpAny _ _ (Builtin.SmallTypes.ownedTupleIsFree (.ref z) >>= _) _ _ _ from wpAny_bind (wpAny_tupleHeld_zip hz hT fun h1 z1 e1 => ?_))
  simp only [Bool.false_eq_true, if_false]
  refine wpAny_bind ?_
  rw [← Array.forIn_toList]
  simp only [List.forIn_cons, List.forIn_nil]
  have b1 := D1.over a1 e1 D.zf1
  have b2 := D2.over a2 e1 D.zf2
  refine wpAny_bind (wpAny_bind (wpAny_holding (show wpAny _ _ (Builtin.SmallTypes.nextOf (.ref c) >>= _) _ _ _ from wpAny_bind (wpAny_mono (h h1 z1 e1 b1 b2) (fun x s2 k2 => ?_) fun _ _ k => k))))
  refine wpAny_pure (wpAny_pure (wpAny_bind (wpAny_bind (wpAny_holding (show wpAny _ _ (Builtin.SmallTypes.nextOf (.ref d) >>= _) _ _ _ from wpAny_bind (wpAny_mono k2 (fun y s3 k3 => ?_) fun _ _ k => k))))))
  refine wpAny_pure (wpAny_pure (wpAny_pure (show wpAny _ _ (newTuple [x, y] >>= _) _ _ _ from wpAny_bind (wpAny_mono k3 (fun v s4 k4 => wpAny_pure k4) fun _ _ k => k))))
theorem zh_item {Q : Option Value → Shared → Prop} (D : ZipSep2 z m n c d fp gp) (D1 : Draws P w A.in1 c fp n1 P1 S1) (D2 : Draws P w A.in1 d gp n2 P2 S2) (hz : IsZipHeld s.heap z m n T f) (hT : s.heap.get? T = some oT) (hm : IsTupOf2 s.heap m (.ref c) (.ref d)) (a1 : S1 i s.heap) (a2 : S2 i s.heap) (l1 : i < n1) (l2 : i < n2)
    (q : ∀ x y h' tk, P1 i x → P2 i y → IsZipHeld h' z m n T true → S1 (i + 1) h' → S2 (i + 1) h' → IsTupOf2 h' s.heap.objs.size x y → (∀ e o, e ≠ z → e ≠ c → e ≠ d → s.heap.get? e = some o → h'.get? e = some o) → Q (some (.ref s.heap.objs.size)) { s with heap := h', toks := tk }) :
    wpAny (model P w) A (pyNext (.ref z)) Q E s := by
  have ty : s.TypeIs (.ref z) "zip" := ⟨_, hz, rfl⟩
  unfold pyNext
  refine wpAny_bind (wpAny_attempt (wpAny_callSpecial?_slot (name := Str.ofString "__next__") ty F.slot_zip_next (wpAny_call_entry F.slot_zip_next ty F.entry_zip_next (zh_run D D1 D2 hz hT hm a1 a2 fun h1 z1 e1 b1 b2 => ?_) (F.args_zip_next_1 _))))
  refine D1.item i _ _ _ l1 b1 fun x h2 t2 p1 c1 e2 => D2.item i _ _ _ l2 (D2.over b2 e2 D.sep1_2) fun y h3 t3 p2 c2 e3 => wpAny_newTuple ⟨_, rfl, wpAny_pure ?_⟩
  have sz : h3.objs.size = s.heap.objs.size := e3.1.trans (e2.1.trans e1.1)
  have z3 : IsZipHeld h3 z m n T true := e3.extBut _ _ D.zi2 (e2.extBut _ _ D.zi1 z1)
  have up : ∀ e o, h3.get? e = some o → (h3.push { cls := .type "tuple", data := .seq #[x, y] }).get? e = some o := fun e o k => Heap.get?_push_of_some _ k
  have new : IsTupOf2 (h3.push { cls := .type "tuple", data := .seq #[x, y] }) h3.objs.size x y := Heap.get?_push_size _ rfl
  show Q (some (.ref h3.objs.size)) _
  rw [sz] at new ⊢
  exact q x y _ _ p1 p2 (up _ _ z3) (D1.frame _ _ _ (D1.over c1 e3 D.sep2_1) fun b _ o k => up b o k) (D2.frame _ _ _ c2 fun b _ o k => up b o k) new fun e o k1 k2 k3 k => up e o (e3.extBut _ _ k3 (e2.extBut _ _ k2 (e1.extBut _ _ k1 k)))
theorem zh_end {Q : Option Value → Shared → Prop} (D : ZipSep2 z m n c d fp gp) (D1 : Draws P w A.in1 c fp n1 P1 S1) (D2 : Draws P w A.in1 d gp n2 P2 S2) (hz : IsZipHeld s.heap z m n T f) (hT : s.heap.get? T = some oT) (hm : IsTupOf2 s.heap m (.ref c) (.ref d)) (a1 : S1 i s.heap) (a2 : S2 i s.heap) (l1 : i ≤ n1) (l2 : i ≤ n2) (l3 : i = n1 ∨ i = n2)
    (q : ∀ h' tk, (∀ e o, e ≠ z → e ≠ c → e ≠ d → s.heap.get? e = some o → h'.get? e = some o) → Q none { s with heap := h', toks := tk }) :
    wpAny (model P w) A (pyNext (.ref z)) Q E s := by
  have ty : s.TypeIs (.ref z) "zip" := ⟨_, hz, rfl⟩
  unfold pyNext
  refine wpAny_bind (wpAny_attempt (wpAny_callSpecial?_slot (name := Str.ofString "__next__") ty F.slot_zip_next (wpAny_call_entry F.slot_zip_next ty F.entry_zip_next (zh_run D D1 D2 hz hT hm a1 a2 fun h1 z1 e1 b1 b2 => ?_) (F.args_zip_next_1 _))))
  by_cases k1 : i = n1
  · subst k1
    refine D1.done _ _ _ b1 fun h2 e x2 ⟨o, ho, hc⟩ => wpAny_bind (wpAny_isInstance (T := "StopIteration") (b := true) ⟨o, ho, hc⟩ isSubtype_stop (wpAny_pure (q _ s.toks fun b o j1 j2 _ k => x2 _ _ j2 (e1.extBut _ _ j1 k))))
  · have k2 : i = n2 := l3.resolve_left k1
    subst k2
    refine D1.item i _ _ _ (by omega) b1 fun x h2 t2 p1 c1 e2 => D2.done _ _ _ (D2.over b2 e2 D.sep1_2) fun h3 e x3 ⟨o, ho, hc⟩ => ?_
    exact wpAny_bind (wpAny_isInstance (T := "StopIteration") (b := true) ⟨o, ho, hc⟩ isSubtype_stop (wpAny_pure (q _ _ fun b o j1 j2 j3 k => x3 _ _ j3 (e2.extBut _ _ j2 (e1.extBut _ _ j1 k)))))
end
end Ov
set_option Elab.async false
set_option linter.all false
set_option maxRecDepth 100000
set_option maxHeartbeats 4000000
namespace Ov
open PySem L2 PySem.Spec PyProof.Rows
/-! list(zip(a, b)) -/
def Zs (h : Heap) (H : Hp) (z m n : Addr) : Prop := (IsZip h z m n .none ∧ ∃ x y, IsTupOf2 h n x y) ∨ ∃ (T : Addr) (f : Bool) (x y : V), IsZipHeld h z m n T f ∧ H T = some (.tup [x, y])
structure Lz (X : Cx) (pins : List (Addr × Obj)) (σ : L2.St) (t u : Bool) (a b : Addr) (xs ys : List V) (z m n c d : Addr) (H0 : Hp) (i : Nat) (H : Hp) (s : Shared) : Prop where
  inv : Inv X pins σ H s
  fa : SqB t X.K H0 a xs
  fb : SqB u X.K H0 b ys
  base : Same H0 H
  free : ∀ e ∈ [z, m, n, c, d], FpOk X pins H e
  zs : Zs s.heap H z m n
  tm : IsTupOf2 s.heap m (.ref c) (.ref d)
  i1 : ItB t s.heap c a i
  i2 : ItB u s.heap d b i
section
variable {X : Cx} {pins : List (Addr × Obj)} {σ : L2.St} {t u : Bool} {a b z m n c d : Addr} {xs ys : List V} {H0 H : Hp} {i : Nat} {s : Shared} {A : Around} {E : Value → Shared → Prop}
theorem Lz.obj (L : Lz X pins σ t u a b xs ys z m n c d H0 i H s) : ∀ e ∈ [z, m, n, c, d], e = n ∨ ∃ o, s.heap.get? e = some o := fun e he => by
  simp only [List.mem_cons, List.not_mem_nil, or_false] at he
  rcases he with rfl | rfl | rfl | rfl | rfl
  · rcases L.zs with ⟨k, _⟩ | ⟨T, f, x, y, k, _⟩
    · exact .inr ⟨_, k⟩
    · exact .inr ⟨_, k⟩
  · exact .inr ⟨_, L.tm⟩
  · exact .inl rfl
  · obtain ⟨o, k, _⟩ := L.i1.ob; exact .inr ⟨o, k⟩
  · obtain ⟨o, k, _⟩ := L.i2.ob; exact .inr ⟨o, k⟩
theorem tup_live (I : Inv X pins σ H s) {T : Addr} {x y : V} (h : H T = some (.tup [x, y])) : ∃ o, s.heap.get? T = some o := by
  obtain ⟨_, its, _, o, e, _⟩ := I.hok _ _ h
  exact ⟨o, e⟩
theorem Lz.item {Q : Option Value → Shared → Prop} {x y : V} (L : Lz X pins σ t u a b xs ys z m n c d H0 i H s) (hA : A.handled = none) (D : ZipSep2 z m n c d [c, a] [d, b]) (na : a ≠ c) (nb : b ≠ d) (ln : n < s.heap.objs.size) (ex : xs[i]? = some x) (ey : ys[i]? = some y)
    (q : ∀ T s', H T = none → n < s'.heap.objs.size → Lz X pins σ t u a b xs ys z m n c d H0 (i + 1) (upd H T (.tup [x, y])) s' → Q (some (.ref T)) s') : wpAny (model X.prog X.w) A (pyNext (.ref z)) Q E s := by
  obtain ⟨is, rx, px⟩ := (L.fa.same L.base).read L.inv
  obtain ⟨js, ry, py⟩ := (L.fb.same L.base).read L.inv
  obtain ⟨v1, e1, r1⟩ := rx.get ex
  obtain ⟨v2, e2, r2⟩ := ry.get ey
  have b1 : i < is.toArray.size := by simpa using (List.getElem?_eq_some_iff.mp e1).1
  have b2 : i < js.toArray.size := by simpa using (List.getElem?_eq_some_iff.mp e2).1
  have fr : H s.heap.objs.size = none := L.inv.hok.fresh (Nat.le_refl _)
  have lt : ∀ e ∈ [z, m, n, c, d], e < s.heap.objs.size := fun e he => by
    rcases L.obj e he with rfl | ⟨o, k⟩
    · exact ln
    · exact Heap.lt_size k
  have zc : c ≠ z := fun e => D.zi1 e.symm
  have zd : d ≠ z := fun e => D.zi2 e.symm
  have fin : ∀ (w1 w2 : Value) (h' : Heap) (tk : Nat), is.toArray[i]? = some w1 → js.toArray[i]? = some w2 → Zs h' (upd H s.heap.objs.size (.tup [x, y])) z m n → ItB t h' c a (i + 1) → ItB u h' d b (i + 1) → IsTupOf2 h' s.heap.objs.size w1 w2 →
      (∀ e o, e ≠ z → e ≠ n → e ≠ c → e ≠ d → s.heap.get? e = some o → h'.get? e = some o) → Q (some (.ref s.heap.objs.size)) { s with heap := h', toks := tk } := fun w1 w2 h' tk g1 g2 z' s1 s2 nw hk => by
    have c1 : w1 = v1 := Option.some.inj (g1.symm.trans (by simpa using e1))
    have c2 : w2 = v2 := Option.some.inj (g2.symm.trans (by simpa using e2))
    subst c1 c2
    have ok : ObjOk X.prog X.w (upd H s.heap.objs.size (.tup [x, y])) h' s.heap.objs.size (.tup [x, y]) := ⟨by show 2 ≤ sizeLine; decide, [w1, w2], .cons r1 (.cons r2 .nil), ⟨_, nw, rfl, _, rfl⟩⟩
    have I1 : Inv X pins σ (upd H s.heap.objs.size (.tup [x, y])) { s with heap := h', toks := tk } := by
      refine L.inv.turnedNew (t' := tk) (ch := [z, m, n, c, d]) (fun e o he k => ?_) L.free (Nat.le_refl _) ok
      simp only [List.mem_cons, List.not_mem_nil, or_false, not_or] at he
      exact hk e o he.1 he.2.2.1 he.2.2.2.1 he.2.2.2.2 k
    refine q _ _ fr (Nat.lt_trans ln (Heap.lt_size nw)) ⟨I1, L.fa, L.fb, L.base.trans (same_new fr _), fun e he => ⟨?_, (L.free e he).2⟩, z', hk _ _ D.TIz D.TITO D.TIi1 D.TIi2 L.tm, s1, s2⟩
    rw [upd_ne (Nat.ne_of_lt (lt e he))]
    exact (L.free e he).1
  rcases L.zs with ⟨k, x0, y0, k0⟩ | ⟨T, f, x0, y0, k, k0⟩
  · refine wpAny_pyNext_zipD2_item D (drB t (A := A.in1) hA c a na is.toArray) (drB u (A := A.in1) hA d b nb js.toArray) k L.tm k0 ⟨L.i1, px⟩ ⟨L.i2, py⟩ b1 b2 ?_
    intro w1 w2 h' tk p1 p2 z' n' s1 s2 nw hsz hk
    exact fin w1 w2 h' tk p1 p2 (.inr ⟨s.heap.objs.size, false, x, y, z', upd_same⟩) s1.1 s2.1 nw hk
  · obtain ⟨oT, kT⟩ := tup_live L.inv k0
    refine zh_item D (drB t (A := A.in1) hA c a na is.toArray) (drB u (A := A.in1) hA d b nb js.toArray) k kT L.tm ⟨L.i1, px⟩ ⟨L.i2, py⟩ b1 b2 ?_
    intro w1 w2 h' tk p1 p2 z' s1 s2 nw hk
    refine fin w1 w2 h' tk p1 p2 (.inr ⟨T, true, x0, y0, z', ?_⟩) s1.1 s2.1 nw fun e o q1 _ q3 q4 => hk e o q1 q3 q4
    rw [upd_ne (ne_of_none k0 fr)]
    exact k0
theorem Lz.over {Q : Option Value → Shared → Prop} (L : Lz X pins σ t u a b xs ys z m n c d H0 i H s) (hA : A.handled = none) (D : ZipSep2 z m n c d [c, a] [d, b]) (na : a ≠ c) (nb : b ≠ d) (l1 : i ≤ xs.length) (l2 : i ≤ ys.length) (l3 : xs.length = i ∨ ys.length = i)
    (q : ∀ s', Inv X pins σ H s' → Q none s') : wpAny (model X.prog X.w) A (pyNext (.ref z)) Q E s := by
  obtain ⟨is, rx, px⟩ := (L.fa.same L.base).read L.inv
  obtain ⟨js, ry, py⟩ := (L.fb.same L.base).read L.inv
  have g1 := rx.length
  have g2 := ry.length
  have o1 : i ≤ is.toArray.size := by rw [List.size_toArray]; omega
  have o2 : i ≤ js.toArray.size := by rw [List.size_toArray]; omega
  have o3 : i = is.toArray.size ∨ i = js.toArray.size := by rw [List.size_toArray, List.size_toArray]; omega
  have fin : ∀ (h' : Heap) (tk : Nat), (∀ e o, e ≠ z → e ≠ n → e ≠ c → e ≠ d → s.heap.get? e = some o → h'.get? e = some o) → Q none { s with heap := h', toks := tk } := fun h' tk hk => by
    refine q _ (L.inv.turnedL (t' := tk) (ch := [z, m, n, c, d]) (fun e o he k => ?_) L.free)
    simp only [List.mem_cons, List.not_mem_nil, or_false, not_or] at he
    exact hk e o he.1 he.2.2.1 he.2.2.2.1 he.2.2.2.2 k
  rcases L.zs with ⟨k, x0, y0, k0⟩ | ⟨T, f, x0, y0, k, k0⟩
  · exact wpAny_pyNext_zipD2_end D (drB t (A := A.in1) hA c a na is.toArray) (drB u (A := A.in1) hA d b nb js.toArray) k L.tm k0 ⟨L.i1, px⟩ ⟨L.i2, py⟩ o1 o2 o3 fun h' tk hk => fin h' tk hk
  · obtain ⟨oT, kT⟩ := tup_live L.inv k0
    exact zh_end D (drB t (A := A.in1) hA c a na is.toArray) (drB u (A := A.in1) hA d b nb js.toArray) k kT L.tm ⟨L.i1, px⟩ ⟨L.i2, py⟩ o1 o2 o3 fun h' tk hk => fin h' tk fun e o q1 _ q3 q4 => hk e o q1 q3 q4
/-- the list grows -/
theorem Lz.push (L : Lz X pins σ t u a b xs ys z m n c d H0 i H s) {S : Addr} {vs : List V} {v : V} {w1 : Value} (h0 : H0 S = none) (hS : H S = some (.lst vs)) (rv : RelV v w1) (hz : vs.length < sizeLine) (no : ∀ p x y, H p = some (.tup [x, y]) → p ≠ S) {its : List Value} {k : Nat} (e : s.heap.get? S = some { cls := .type "list", data := .seq its.toArray k }) (r : Vals vs its) :
    Lz X pins σ t u a b xs ys z m n c d H0 i (upd H S (.lst (vs ++ [v]))) { s with heap := s.heap.update S (Obj.mapSeq (·.push w1)) } := by
  have ne : ∀ q ∈ [z, m, n, c, d], q ≠ S := fun q hq z' => by
    have := (L.free q hq).1
    rw [z', hS] at this
    cases this
  have up : ∀ q o, q ≠ S → s.heap.get? q = some o → (s.heap.update S (Obj.mapSeq (·.push w1))).get? q = some o := fun q o h k => (Heap.get?_update_other _ _ (Ne.symm h)).trans k
  refine ⟨L.inv.lset (its' := its ++ [w1]) (t' := s.toks) hS e (by simp) (r.append (.cons rv .nil)) (by rw [List.length_append, List.length_singleton]; omega), L.fa, L.fb, fun q o k => ?_, fun q hq => ⟨?_, (L.free q hq).2⟩, ?_, up _ _ (ne m (by simp)) L.tm, L.i1.up fun o k => up _ o (ne c (by simp)) k, L.i2.up fun o k => up _ o (ne d (by simp)) k⟩
  · rw [upd_ne (ne_of_none k h0)]
    exact L.base q o k
  · rw [upd_ne (ne q hq)]
    exact (L.free q hq).1
  · rcases L.zs with ⟨j, x0, y0, j0⟩ | ⟨T, f, x0, y0, j, j0⟩
    · exact .inl ⟨up _ _ (ne z (by simp)) j, x0, y0, up _ _ (ne n (by simp)) j0⟩
    · refine .inr ⟨T, f, x0, y0, up _ _ (ne z (by simp)) j, ?_⟩
      rw [upd_ne (no T x0 y0 j0)]
      exact j0
end
end Ov
set_option Elab.async false
set_option linter.all false
set_option maxRecDepth 100000
set_option maxHeartbeats 4000000
namespace Ov
open PySem L2 PySem.Spec PyProof.Rows
section
variable {X : Cx} {pins : List (Addr × Obj)} {σ : L2.St} {t u : Bool} {a b z m n c d : Addr} {xs ys : List V} {H0 H : Hp} {i : Nat} {s : Shared} {A : Around} {E : Value → Shared → Prop}
theorem Lz.ty (L : Lz X pins σ t u a b xs ys z m n c d H0 i H s) : s.TypeIs (.ref z) "zip" := by
  rcases L.zs with ⟨k, _⟩ | ⟨T, f, x, y, k, _⟩
  · exact ⟨_, k, rfl⟩
  · exact ⟨_, k, rfl⟩
/-- another state of the list -/
theorem Lz.at {S : Addr} {vs : List V} (L : Lz X pins σ t u a b xs ys z m n c d H0 i H s) (hS : H S = some (.lst vs)) {s' : Shared} (I' : Inv X pins σ H s') (k : ∀ q o, q ≠ S → s.heap.get? q = some o → s'.heap.get? q = some o) : Lz X pins σ t u a b xs ys z m n c d H0 i H s' := by
  have ne : ∀ q ∈ [z, m, n, c, d], q ≠ S := fun q hq e => by
    have := (L.free q hq).1
    rw [e, hS] at this
    cases this
  refine ⟨I', L.fa, L.fb, L.base, L.free, ?_, k _ _ (ne m (by simp)) L.tm, L.i1.up fun o e => k _ o (ne c (by simp)) e, L.i2.up fun o e => k _ o (ne d (by simp)) e⟩
  rcases L.zs with ⟨j, x0, y0, j0⟩ | ⟨T, f, x0, y0, j, j0⟩
  · exact .inl ⟨k _ _ (ne z (by simp)) j, x0, y0, k _ _ (ne n (by simp)) j0⟩
  · exact .inr ⟨T, f, x0, y0, k _ _ (ne z (by simp)) j, j0⟩
theorem SqB.sz {H : Hp} {t : Bool} {a : Addr} {xs : List V} (I : Inv X pins σ H s) (h : SqB t X.K H a xs) : xs.length ≤ sizeLine := by
  cases t with
  | true => obtain ⟨_, _, _, z⟩ := I.tuple h; exact z
  | false => obtain ⟨_, _, _, z⟩ := I.list h; exact z
end
end Ov
set_option Elab.async false
set_option linter.all false
set_option maxRecDepth 100000
set_option maxHeartbeats 4000000
set_option Elab.async false
set_option linter.all false
set_option maxRecDepth 100000
set_option maxHeartbeats 4000000
set_option Elab.async false
set_option linter.all false
set_option maxRecDepth 100000
set_option maxHeartbeats 4000000
namespace Ov
open PySem L2
/-! the plain functions, evaluated: every word applied to the slots -/
def cont {α β : Type} (o : Option (Rs α)) (f : α → M β) : Option (Rs β) :=
  match o with
  | none => none
  | some (.ok a e) => f a e
  | some (.ex C g d) => some (.ex C g d)
section
variable {α β : Type} {env e : En}
theorem v_bind (x : M α) (f : α → M β) : M.bind x f env = cont (x env) f := rfl
theorem v_ok (a : α) (f : α → M β) : cont (some (.ok a e)) f = f a e := rfl
theorem v_none (f : α → M β) : cont none f = none := rfl
theorem v_pure (a : α) : M.pure a env = some (.ok a env) := rfl
theorem v_lift (a : α) : lift (some a) env = some (.ok a env) := rfl
theorem v_liftN : lift (none : Option α) env = none := rfl
theorem v_con (d : PyData) : con d env = some (.ok (.dat d) env) := rfl
def gk (o : Option (Option Wv)) (i : Nat) : Option R :=
  match o with
  | some (some (.dat d)) => some (.dat d)
  | some (some (.own _)) => some (.slot i)
  | some (some (.exc C f d)) => some (.exc C f d)
  | some (some (.dct _)) => some (.slot i)
  | some (some (.dci _)) => some (.slot i)
  | some (some (.dtk _)) => some (.slot i)
  | some (some (.dts _)) => some (.slot i)
  | some (some (.pin _ d)) => some (.dat d)
  | _ => none
theorem v_get (i : Nat) : get i env = lift (gk env[i]? i) env := by
  unfold get gk
  cases env[i]? with
  | none => rfl
  | some o => cases o with
    | none => rfl
    | some w => cases w <;> rfl
theorem v_gkd (d : PyData) (i : Nat) : gk (some (some (.dat d))) i = some (.dat d) := rfl
theorem v_gko (xs : List It1) (i : Nat) : gk (some (some (.own xs))) i = some (.slot i) := rfl
theorem v_gkc (xs : List Int) (i : Nat) : gk (some (some (.dct xs))) i = some (.slot i) := rfl
theorem v_vwd (d : PyData) : vw (.dat d) env = some (.ok d env) := rfl
def ok1 (o : Option (Option Wv)) : Option (List PyData) :=
  match o with
  | some (some (.own xs)) => itds xs
  | _ => none
theorem v_vws (i : Nat) : vw (.slot i) env = lift ((ok1 env[i]?).map .list) env := by
  unfold vw ok1 lift
  simp only
  cases env[i]? with
  | none => rfl
  | some o => cases o with
    | none => rfl
    | some w =>
      cases w with
      | own xs => simp only; cases itds xs <;> rfl
      | dat _ => rfl
      | exc _ _ _ => rfl
      | dct _ => rfl
      | dci _ => rfl
      | dtk _ => rfl
      | dts _ => rfl
      | pin _ _ => rfl
      | dtn _ => rfl
      | nd _ => rfl
      | lkd _ => rfl
theorem v_ok1 (ds : List PyData) : ok1 (some (some (.own (dats ds)))) = some ds := itds_dats ds
theorem v_ownD (i : Nat) : ownD i env = lift (ok1 env[i]?) env := by
  unfold ownD ok1 lift
  cases env[i]? with
  | none => rfl
  | some o => cases o with
    | none => rfl
    | some w =>
      cases w with
      | own xs => simp only
      | dat _ => rfl
      | exc _ _ _ => rfl
      | dct _ => rfl
      | dci _ => rfl
      | dtk _ => rfl
      | dts _ => rfl
      | pin _ _ => rfl
      | dtn _ => rfl
      | nd _ => rfl
      | lkd _ => rfl
def dk1 (o : Option (Option Wv)) : Option (List Int) :=
  match o with
  | some (some (.dct xs)) => some xs
  | _ => none
theorem v_dctD (i : Nat) : dctD i env = lift (dk1 env[i]?) env := by
  unfold dctD dk1 lift
  cases env[i]? with
  | none => rfl
  | some o => cases o with
    | none => rfl
    | some w => cases w <;> rfl
theorem v_dk1 (ks : List Int) : dk1 (some (some (.dct ks))) = some ks := rfl
theorem v_setOwn (i : Nat) (ds : List PyData) : setOwn i ds env = some (.ok () (env.set i (some (.own (dats ds))))) := rfl
theorem v_putM (i : Nat) (w : Wv) (h : i < env.length) : putM i w env = some (.ok () (env.set i (some w))) := if_pos h
theorem v_op2 (fo : PyData → PyData → Option PyData) (fa fb : M R) : op2 fo fa fb env = cont (fa env) fun a => M.bind fb fun b => M.bind (vw a) fun x => M.bind (vw b) fun y => M.bind (lift (fo x y)) fun d => M.pure (.dat d) := rfl
theorem v_op1 (fo : PyData → Option PyData) (fa : M R) : op1 fo fa env = cont (fa env) fun a => M.bind (vw a) fun x => M.bind (lift (fo x)) fun d => M.pure (.dat d) := rfl
theorem v_anil : anil env = some (.ok [] env) := rfl
theorem v_acons (fa : M R) (fr : M (List R)) : acons fa fr env = cont (fa env) fun a => M.bind fr fun r => M.pure (a :: r) := rfl
theorem v_vws0 : vws [] env = some (.ok [] env) := rfl
theorem v_vwsC (r : R) (rs : List R) : vws (r :: rs) env = cont (vw r env) fun d => M.bind (vws rs) fun ds => M.pure (d :: ds) := rfl
theorem v_cb (fo : List PyData → Option PyData) (fa : M (List R)) : cb fo fa env = cont (fa env) fun a => M.bind (vws a) fun ds => M.bind (lift (fo ds)) fun d => M.pure (.dat d) := rfl
theorem v_tupD (fa : M (List R)) : tupD fa env = cont (fa env) fun a => M.bind (lift (dds a)) fun ds => M.bind (lift (sz ds.length)) fun _ => M.pure (.dat (.tuple ds)) := rfl
theorem v_lstD (fa : M (List R)) : lstD fa env = cont (fa env) fun a => M.bind (lift (dds a)) fun ds => M.bind (lift (sz ds.length)) fun _ => M.pure (.dat (.list ds)) := rfl
theorem v_lstW (fa : M (List R)) : lstW fa env = cont (fa env) fun a => M.bind (lift (dds a)) fun ds => M.bind (lift (sz ds.length)) fun _ => M.pure (.own (dats ds)) := rfl
theorem v_listW (fa : M (List R)) : listW fa env = cont (fa env) fun a => M.bind (vws a) fun ds => M.bind (lift (match ds with | [a] => seqD a | _ => none)) fun es => M.pure (.own (dats es)) := rfl
theorem v_dds0 : dds [] = some [] := rfl
theorem v_ddsC (d : PyData) (r : List R) : dds (.dat d :: r) = (dds r).map (d :: ·) := rfl
def asB : PyData → Option Bool
  | .bool b => some b
  | _ => none
theorem v_asB (b : Bool) : asB (.bool b) = some b := rfl
theorem v_tb1 (fa : M R) : tb1 fa env = cont (fa env) fun a => M.bind (vw a) fun d => lift (asB d) := by
  unfold tb1
  rw [v_bind]
  congr 1
  funext a
  congr 1
  funext d
  cases d <;> rfl
theorem v_andT (fa fb : M Bool) : andT fa fb env = cont (fa env) fun a => if a = true then fb else M.pure false := rfl
theorem v_orT (fa fb : M Bool) : orT fa fb env = cont (fa env) fun a => if a = true then M.pure true else fb := rfl
theorem v_notT (fa : M Bool) : notT fa env = cont (fa env) fun a => M.pure (!a) := rfl
theorem v_andV (fa fb : M R) : andV fa fb env = cont (tb1 fa env) fun a => if a = true then fb else M.pure (ofB false) := rfl
theorem v_orV (fa fb : M R) : orV fa fb env = cont (tb1 fa env) fun a => if a = true then M.pure (ofB true) else fb := rfl
theorem v_notV (fa : M R) : notV fa env = cont (tb1 fa env) fun a => M.pure (ofB !a) := rfl
theorem v_ofB (b : Bool) : ofB b = .dat (.bool b) := rfl
theorem v_ifE (ft : M Bool) (fa fb : M R) : ifE ft fa fb env = cont (ft env) fun c => if c = true then fa else fb := rfl
theorem v_pl (f : M R) : pl f env = cont (f env) fun r => lift (toW r) := rfl
theorem v_toW (d : PyData) : toW (.dat d) = some (.dat d) := rfl
theorem v_fz (f : M Wv) : fz f env = cont (f env) fun w => lift (ofW w) := rfl
theorem v_ofWd (d : PyData) : ofW (.dat d) = some (.dat d) := rfl
theorem itD_dats (ds : List PyData) : (dats ds).map itD = ds := by
  unfold dats
  rw [List.map_map]
  exact List.map_id ds
theorem v_ofWo (ds : List PyData) : ofW (.own (dats ds)) = some (.dat (.list ds)) := by
  show some (R.dat (.list ((dats ds).map itD))) = _
  rw [itD_dats]
theorem v_nxt : nxt env = some (.ok .nx env) := rfl
theorem v_thenS (f g : M Fl) : thenS f g env = cont (f env) fun fl => match fl with | .nx => g | o => M.pure o := rfl
theorem v_exprS (f : M R) : exprS f env = cont (f env) fun _ => M.pure .nx := rfl
theorem v_retS (f : M Wv) : retS f env = cont (f env) fun w => M.pure (.rt w) := rfl
theorem v_retN : retN env = some (.ok (.rt (.dat .none)) env) := rfl
theorem v_ifS (c : M Bool) (f g : M Fl) : ifS c f g env = cont (c env) fun b => if b = true then f else g := rfl
theorem v_setS (i : Nat) (f : M Wv) : setS i f env = cont (f env) fun w => M.bind (putM i w) fun _ => M.pure .nx := rfl
theorem v_parS (i j : Nat) (f g : M Wv) : parS i j f g env = cont (f env) fun v => M.bind g fun w => M.bind (putM i v) fun _ => M.bind (putM j w) fun _ => M.pure .nx := rfl
theorem v_setIx (i : Nat) (fe fk : M R) : setIx i fe fk env = cont (fe env) fun r => M.bind (lift (asD r)) fun d => M.bind (ownD i) fun _ => M.bind fk fun k => M.bind (lift (asI k)) fun k => M.bind (ownD i) fun ds => M.bind (lift (ixN ds.length k)) fun j => M.bind (setOwn i (ds.set j d)) fun _ => M.pure .nx := rfl
theorem v_asD (d : PyData) : asD (.dat d) = some d := rfl
theorem v_asI (i : Int) : asI (.dat (.int i)) = some i := rfl
theorem v_mthE (i : Nat) (fo : List PyData → List PyData → Option (List PyData × PyData)) (fa : M (List R)) : mthE i fo fa env = cont (ownD i env) fun _ => M.bind fa fun rs => M.bind (lift (dds rs)) fun as => M.bind (ownD i) fun ds => M.bind (lift (fo ds as)) fun r => M.bind (setOwn i r.1) fun _ => M.pure (.dat r.2) := rfl
theorem v_callA (F : List PyData → Option Wv) (fa : M (List R)) : callA F fa env = cont (fa env) fun rs => M.bind (lift (dds rs)) fun ds => lift (F ds) := rfl
theorem v_callB (i : Nat) (F : List PyData → List PyData → Option (Wv × List PyData)) (fa : M (List R)) : callB i F fa env = cont (ownD i env) fun _ => M.bind fa fun rs => M.bind (lift (dds rs)) fun ds => M.bind (ownD i) fun bs => M.bind (lift (F bs ds)) fun r => M.bind (setOwn i r.2) fun _ => M.pure r.1 := rfl
theorem v_moveS (i : Nat) (xs : List It1) (h : env[i]? = some (some (.own xs))) : moveS i env = some (.ok (.rt (.own xs)) (env.set i none)) := by
  unfold moveS
  rw [h]
theorem v_forS (fi : M (List PyData)) (p : PyData → En → Option En) (body : M Fl) : forS fi p body env = cont (fi env) fun ds => forM p body ds := rfl
theorem v_argI (fo : List PyData → Option (List PyData)) (fa : M (List R)) : argI fo fa env = cont (fa env) fun rs => M.bind (lift (dds rs)) fun ds => lift (fo ds) := rfl
theorem v_seqI (f : M R) : seqI f env = cont (f env) fun r => M.bind (lift (asD r)) fun d => lift (seqD d) := rfl
theorem v_slD (fa : M R) (fl fh : M (Option Int)) : slD fa fl fh env = cont (fa env) fun a => M.bind fl fun lo => M.bind fh fun hi => M.bind (vw a) fun x => M.bind (lift (cutD x lo hi)) fun d => M.pure (.dat d) := rfl
theorem v_poN : poN env = some (.ok none env) := rfl
theorem v_poS (fa : M R) : poS fa env = cont (fa env) fun a => M.bind (lift (asI a)) fun i => M.pure (some i) := rfl
theorem v_isiE (T : String) (fa : M R) : isiE T fa env = cont (fa env) fun r => M.bind (vw r) fun d => M.bind (lift (kitD T d)) fun b => M.pure (ofB b) := rfl
theorem v_isiE2 (A B : String) (fa : M R) : isiE2 A B fa env = cont (fa env) fun r => M.bind (vw r) fun d => M.bind (lift (kitD A d)) fun a => M.bind (lift (kitD B d)) fun b => M.pure (ofB (a || b)) := rfl
theorem v_isNE (n : Bool) (fa : M R) : isNE n fa env = cont (fa env) fun r => M.bind (lift (isNR r)) fun b => M.pure (ofB (n ^^ b)) := rfl
theorem v_dnew : dnew env = some (.ok (.dct []) env) := rfl
theorem v_dinT (n : Bool) (i : Nat) (fk : M R) : dinT n i fk env = cont (fk env) fun r => M.bind (lift (asI r)) fun k => M.bind (dctD i) fun ks => M.pure (n ^^ decide (k ∈ ks)) := rfl
theorem v_dputS (i : Nat) (fk : M R) : dputS i fk env = cont (dctD i env) fun _ => M.bind fk fun r => M.bind (lift (asI r)) fun k => M.bind (dctD i) fun ks => M.bind (lift (chk (decide (ks.length < 1000)))) fun _ => M.bind (putM i (.dct (putT ks k))) fun _ => M.pure .nx := rfl
theorem v_sortDct (i : Nat) : sortDct i env = cont (dctD i env) fun ks => M.bind (lift (chk (decide (ks.length < 64)))) fun _ => M.pure (.dat (.list ((sortI ks).map .int))) := rfl
theorem v_rgE (fr : M (Int × Int)) : rgE fr env = cont (fr env) fun r => M.bind (lift (chk (decide (-(2 ^ 62) ≤ r.1 ∧ r.1 < 2 ^ 62 ∧ -(2 ^ 62) ≤ r.2 ∧ r.2 < 2 ^ 62 ∧ (r.2 - r.1).toNat ≤ 1000000)))) fun _ => M.pure (.dat (.tuple ((rngL r.1 r.2).map .int))) := rfl
theorem v_rg2 (fa fb : M R) : rg2 fa fb env = cont (fa env) fun a => M.bind fb fun b => M.bind (lift (asI a)) fun i => M.bind (lift (asI b)) fun j => M.pure (i, j) := rfl
theorem v_unS (p : PyData → En → Option En) (f : M R) : unS p f env = cont (f env) fun r => M.bind (lift (asD r)) fun d => M.bind (liftE (p d)) fun _ => M.pure .nx := rfl
theorem v_catW (fa fb : M R) : catW fa fb env = cont (fa env) fun a => M.bind fb fun b => M.bind (vw a) fun x => M.bind (vw b) fun y => M.bind (lift (catD x y)) fun d => M.bind (lift (match d with | .list ds => some ds | _ => none)) fun ds => M.pure (.own (dats ds)) := rfl
theorem v_chainE (fo fo' : PyData → PyData → Option PyData) (fa fb fc : M R) : chainE fo fo' fa fb fc env = cont (fa env) fun a => M.bind fb fun b => M.bind (vw a) fun x => M.bind (vw b) fun y => M.bind (lift (fo x y)) fun d => M.bind (lift (asB d)) fun k => if k = true then M.bind fc fun c => M.bind (vw b) fun y' => M.bind (vw c) fun z => M.bind (lift (fo' y' z)) fun d' => M.pure (.dat d') else M.pure (ofB false) := by
  unfold chainE
  have : (fun (b : R) (d : PyData) => (match d with | .bool k => if k = true then M.bind fc fun c => M.bind (vw b) fun y' => M.bind (vw c) fun z => M.bind (lift (fo' y' z)) fun d' => M.pure (.dat d') else M.pure (ofB false) | _ => fun _ => none : M R)) = fun b d => M.bind (lift (asB d)) fun k => if k = true then M.bind fc fun c => M.bind (vw b) fun y' => M.bind (vw c) fun z => M.bind (lift (fo' y' z)) fun d' => M.pure (.dat d') else M.pure (ofB false) := by
    funext b d
    cases d <;> rfl
  have h2 : ∀ b, (fun (d : PyData) => (match d with | .bool k => if k = true then M.bind fc fun c => M.bind (vw b) fun y' => M.bind (vw c) fun z => M.bind (lift (fo' y' z)) fun d' => M.pure (.dat d') else M.pure (ofB false) | _ => fun _ => none : M R)) = fun d => M.bind (lift (asB d)) fun k => if k = true then M.bind fc fun c => M.bind (vw b) fun y' => M.bind (vw c) fun z => M.bind (lift (fo' y' z)) fun d' => M.pure (.dat d') else M.pure (ofB false) := fun b => congrFun this b
  show M.bind _ _ env = _
  rw [v_bind]
  congr 1
  funext a
  congr 1
  funext b
  congr 1
  funext x
  congr 1
  funext y
  congr 1
  exact h2 b
/-! operators on numbers -/
theorem v_add (i j : Int) : addD (.int i) (.int j) = some (.int (i + j)) := rfl
theorem v_sub (i j : Int) : subD (.int i) (.int j) = some (.int (i - j)) := rfl
theorem v_mul (i j : Int) (h : pMul i j = true) : mulD (.int i) (.int j) = some (.int (i * j)) := if_pos h
theorem v_div (i j : Int) (h : pDiv i j = true) : divD (.int i) (.int j) = some (.int (i / j)) := if_pos h
theorem v_mod (i j : Int) (h : pMod i j = true) : modD (.int i) (.int j) = some (.int (i % j)) := if_pos h
theorem v_pow (i j : Int) (h : pPow i j = true) : powD (.int i) (.int j) = some (.int (i ^ j.toNat)) := if_pos h
theorem v_lt (i j : Int) : ltD (.int i) (.int j) = some (.bool (decide (i < j))) := rfl
theorem v_le (i j : Int) : leD (.int i) (.int j) = some (.bool (decide (i ≤ j))) := rfl
theorem v_gt (i j : Int) : gtD (.int i) (.int j) = some (.bool (decide (j < i))) := rfl
theorem v_ge (i j : Int) : geD (.int i) (.int j) = some (.bool (decide (j ≤ i))) := rfl
theorem v_eqI (n : Bool) (i j : Int) : eqA n (.int i) (.int j) = some (.bool (n ^^ decide (i = j))) := rfl
theorem v_eqB (n : Bool) (i j : Bool) : eqA n (.bool i) (.bool j) = some (.bool (n ^^ decide (i = j))) := rfl
theorem v_eqS (n : Bool) (i j : Str) : eqA n (.str i) (.str j) = some (.bool (n ^^ decide (i = j))) := rfl
theorem v_ixL (ds : List PyData) (i : Int) : ixD (.list ds) (.int i) = atI ds i := rfl
theorem v_ixT (ds : List PyData) (i : Int) : ixD (.tuple ds) (.int i) = atI ds i := rfl
theorem v_lenL (ds : List PyData) : lenD [.list ds] = some (.int ds.length) := rfl
theorem v_lenT (ds : List PyData) : lenD [.tuple ds] = some (.int ds.length) := rfl
theorem v_abs (i : Int) : absD [.int i] = some (.int (if i < 0 then -i else i)) := rfl
theorem v_intI (i : Int) : intD [.int i] = some (.int i) := rfl
theorem v_intB (k : Bool) : intD [.bool k] = some (.int (if k then 1 else 0)) := rfl
theorem v_min (i j : Int) : minD [.int i, .int j] = some (.int (if j < i then j else i)) := rfl
theorem v_max (i j : Int) : maxD [.int i, .int j] = some (.int (if j > i then j else i)) := rfl
theorem v_sz (n : Nat) (h : n ≤ 1000000) : sz n = some () := if_pos h
theorem v_chk : chk true = some () := rfl
theorem v_app (ds : List PyData) (a : PyData) (h : ds.length + 1 ≤ 1000000) : appD ds [a] = some (ds ++ [a], .none) := by
  show (sz (ds.length + 1)).map _ = _
  rw [v_sz _ h]
  rfl
end
theorem v_cat (xs ys : List PyData) (h : xs.length + ys.length ≤ 1000000) : catD (.list xs) (.list ys) = some (.list (xs ++ ys)) := by
  show (sz _).map _ = _
  rw [v_sz _ h]
  rfl
theorem v_catT (xs ys : List PyData) (h : xs.length + ys.length ≤ 1000000) : catT (.tuple xs) (.tuple ys) = some (.tuple (xs ++ ys)) := by
  show (sz _).map _ = _
  rw [v_sz _ h]
  rfl
theorem then_nx {f g : M Fl} {env e : En} (h : f env = some (.ok .nx e)) : thenS f g env = g e := by
  rw [v_thenS, h]
  rfl
/-- a function's run, by its body's -/
theorem runA_eq {np n : Nat} {fb : M Fl} {ds : List PyData} {w : Wv} (hl : ds.length = np) (h : ∃ e, fb (env0 ds (n - ds.length)) = some (.ok (.rt w) e)) : runA np n fb ds = some w := by
  obtain ⟨e, h⟩ := h
  unfold runA
  rw [if_pos hl, h]
theorem runB_eq {np n : Nat} {fb : M Fl} {bs ds bs' : List PyData} {w : Wv} (hl : ds.length + 1 = np) (h : ∃ e, fb (some (.own (dats bs)) :: env0 ds (n - (ds.length + 1))) = some (.ok (.rt w) (some (.own (dats bs')) :: e))) : runB np n fb bs ds = some (w, bs') := by
  obtain ⟨e, h⟩ := h
  unfold runB
  rw [if_pos hl, h]
  show (itds (dats bs')).map _ = _
  rw [itds_dats]
  rfl
end Ov
set_option Elab.async false
set_option linter.all false
set_option maxRecDepth 100000
set_option maxHeartbeats 4000000
namespace Ov
open PySem L2
/-! loops and comprehensions, a turn at a time -/
section
variable {env e e2 : En}
theorem while_go {c : M Bool} {b : M Fl} {k : Nat} (h1 : c env = some (.ok true e)) (h2 : b e = some (.ok .nx e2)) : whileM c b (k + 1) env = whileM c b k e2 := by
  simp only [whileM, h1, h2, if_true]
theorem while_end {c : M Bool} {b : M Fl} {k : Nat} (h1 : c env = some (.ok false e)) : whileM c b (k + 1) env = some (.ok .nx e) := by
  simp only [whileM, h1, Bool.false_eq_true, if_false]
theorem for_nil {p : PyData → En → Option En} {b : M Fl} : forM p b [] env = some (.ok .nx env) := rfl
theorem for_go {p : PyData → En → Option En} {b : M Fl} {d : PyData} {ds : List PyData} (h1 : p d env = some e) (h2 : b e = some (.ok .nx e2)) : forM p b (d :: ds) env = forM p b ds e2 := by
  simp only [forM, h1, h2]
theorem comp_yes {p : PyData → En → Option En} {ft : M Bool} {fe : M R} {vs : List Nat} {d y : PyData} {ds acc : List PyData} {e3 : En} (h1 : p d env = some e) (h2 : ft e = some (.ok true e2)) (h3 : fe e2 = some (.ok (.dat y) e3)) (h4 : freeB e3 vs = true) (h5 : acc.length < 1000000) :
    compM p ft fe vs (d :: ds) acc env = compM p ft fe vs ds (acc ++ [y]) (wipeE e3 vs) := by
  simp only [compM, h1, h2, h3, h4, h5, if_true, true_and, and_self]
theorem comp_no {p : PyData → En → Option En} {ft : M Bool} {fe : M R} {vs : List Nat} {d : PyData} {ds acc : List PyData} (h1 : p d env = some e) (h2 : ft e = some (.ok false e2)) (h4 : freeB e2 vs = true) :
    compM p ft fe vs (d :: ds) acc env = compM p ft fe vs ds acc (wipeE e2 vs) := by
  simp only [compM, h1, h2, h4, if_true, Bool.false_eq_true, if_false]
/-- nothing changes but the list -/
theorem comp_all {p : PyData → En → Option En} {ft : M Bool} {fe : M R} {vs : List Nat} (g : PyData → PyData) (t : PyData → Bool) : ∀ (ds acc : List PyData), acc.length + ds.length < 1000000 →
    (∀ d ∈ ds, ∃ e, p d env = some e ∧ ft e = some (.ok (t d) e) ∧ (t d = true → fe e = some (.ok (.dat (g d)) e)) ∧ freeB e vs = true ∧ wipeE e vs = env) → compM p ft fe vs ds acc env = some (.ok (acc ++ (ds.filter t).map g) env)
  | [], acc, _, _ => by simp [compM, M.pure]
  | d :: ds, acc, hl, h => by
    obtain ⟨e, h1, h2, h3, h4, h5⟩ := h d (List.mem_cons_self ..)
    rw [List.length_cons] at hl
    cases q : t d with
    | true =>
      rw [q] at h2
      rw [comp_yes h1 h2 (h3 q) h4 (by omega), h5, comp_all g t ds (acc ++ [g d]) (by rw [List.length_append]; show acc.length + 1 + _ < _; omega) fun x hx => h x (List.mem_cons_of_mem _ hx)]
      simp [q]
    | false =>
      rw [q] at h2
      rw [comp_no h1 h2 h4, h5, comp_all g t ds acc (by omega) fun x hx => h x (List.mem_cons_of_mem _ hx)]
      simp [q]
theorem comp_map {p : PyData → En → Option En} {ft : M Bool} {fe : M R} {vs : List Nat} (g : PyData → PyData) (ds acc : List PyData) (hl : acc.length + ds.length < 1000000)
    (h : ∀ d ∈ ds, ∃ e, p d env = some e ∧ ft e = some (.ok true e) ∧ fe e = some (.ok (.dat (g d)) e) ∧ freeB e vs = true ∧ wipeE e vs = env) : compM p ft fe vs ds acc env = some (.ok (acc ++ ds.map g) env) := by
  have := comp_all (env := env) (p := p) (ft := ft) (fe := fe) (vs := vs) g (fun _ => true) ds acc hl fun d hd => by
    obtain ⟨e, h1, h2, h3, h4, h5⟩ := h d hd
    exact ⟨e, h1, h2, fun _ => h3, h4, h5⟩
  rw [List.filter_eq_self.mpr fun _ _ => rfl] at this
  exact this
theorem lc_eq {fi : M (List PyData)} {p : PyData → En → Option En} {ft : M Bool} {fe : M R} {vs : List Nat} {ds out : List PyData} {e3 : En} (h1 : fi env = some (.ok ds e)) (h2 : freeB e vs = true) (h3 : wipeE e vs = e2) (h4 : compM p ft fe vs ds [] e2 = some (.ok out e3)) :
    lcW fi p ft fe vs env = some (.ok (.own (dats out)) e3) := by
  show cont (fi env) _ = _
  rw [h1]
  show (if freeB e vs = true then (M.bind (compM p ft fe vs ds []) fun out => M.pure (Wv.own (dats out))) (wipeE e vs) else none) = _
  rw [if_pos h2, h3]
  show cont (compM p ft fe vs ds [] e2) _ = _
  rw [h4]
  rfl
end
theorem erase_map {α β : Type} (f : α → β) : ∀ (l : List α) (j : Nat), (l.map f).eraseIdx j = (l.eraseIdx j).map f
  | [], j => by simp
  | a :: r, 0 => by simp
  | a :: r, j + 1 => by
    rw [List.map_cons, List.eraseIdx_cons_succ, List.eraseIdx_cons_succ, List.map_cons, erase_map f r j]
theorem shp_list (ns : List Int) : shp (.list (ns.map .int)) = true := sh_ints ns
theorem ne_nil (ns : List Int) : eqvD true (.list (ns.map .int)) (.list []) = some (.bool (!ns.isEmpty)) := by
  unfold eqvD
  rw [shp_list, show shp (.list []) = true by decide]
  show some (PyData.bool (true ^^ PyData.eqv (dInts ns) (.list []))) = _
  rw [eqv_nil, Bool.true_xor]
theorem shp_int (i : Int) : shp (.int i) = true := by simp [shp, SeqAt.shaped, PyData.canLay0, PyData.depth]
end Ov
set_option Elab.async false
set_option linter.all false
set_option maxRecDepth 100000
set_option maxHeartbeats 4000000
namespace Ov
open PySem L2
/-! a comprehension of two clauses, the second one over a range -/
section
variable {K : PySem.W.Frag} {E : XK}
def PostJ (K : PySem.W.Frag) (E : XK) (B : Addr → Prop) (σ : St) (H : Hp) (l : List Addr) (rs : Rs (List PyData)) (R : It → Hp → Prop) : Prop :=
  match rs with
  | .ok ds env' => ∀ J H' Y, Rep K B σ H' env' l → Fr l H H' → Walk J ds.length (fun _ => True) Y → (∀ i x H2 H3 d, Y i H2 x H3 → ds[i]? = some d → H3 = H2 ∧ ∃ k : Int, x = .int k ∧ d = .int k) → R J H'
  | .ex C f d => Exn K E B H l C f d
theorem PostJ.exn {B : Addr → Prop} {σ : St} {H : Hp} {l : List Addr} {rs : Rs (List PyData)} {R : It → Hp → Prop} (h : PostJ K E B σ H l rs R) : ∀ C f d, rs = .ex C f d → Exn K E B H l C f d := fun C f d e => by subst e; exact h
/-! what it does -/
end
end Ov
set_option Elab.async false
set_option linter.all false
set_option maxRecDepth 100000
set_option maxHeartbeats 4000000
namespace Ov
open PySem L2
/-! x op= e of numbers; two items of a list change places -/
section
variable {K : PySem.W.Frag} {E : XK} {bx : Bool}
theorem bindA {α β γ : Type} (x : M α) (f : α → M β) (g : β → M γ) : M.bind (M.bind x f) g = M.bind x fun a => M.bind (f a) g := by
  funext env
  unfold M.bind
  cases x env with
  | none => rfl
  | some z => cases z <;> rfl
def as2 : R → Option (PyData × PyData)
  | .dat (.tuple [a, b]) => some (a, b)
  | _ => none
theorem as2_some {r : R} {x : PyData × PyData} (h : as2 r = some x) : r = .dat (.tuple [x.1, x.2]) := by
  unfold as2 at h
  split at h
  · cases h; rfl
  · cases h
def putIx (i : Nat) (d : PyData) (fk : M R) : M Unit := M.bind (ownD i) fun _ => M.bind fk fun k => M.bind (lift (asI k)) fun k => M.bind (ownD i) fun ds => M.bind (lift (ixN ds.length k)) fun j => setOwn i (ds.set j d)
def swS (i : Nat) (fe f1 f2 : M R) : M Fl := M.bind fe fun r => M.bind (lift (as2 r)) fun x => M.bind (putIx i x.1 f1) fun _ => M.bind (putIx i x.2 f2) fun _ => M.pure .nx
theorem putIx_run {i : Nat} {tk : TE} {fk : M R} (ok : OkE K E tk fk) {B : Addr → Prop} {σ : St} {H : Hp} {env : En} {l : List Addr} {v : V} {d : PyData} {g : Unit → M Fl} {rs : Rs Fl} {Q : St → Hp → Prop} (r : Rep K B σ H env l) (dv : Da K (off (un B l) H) v d) (h : (M.bind (putIx i d fk) g) env = some rs)
    (hx : ∀ C f d, rs = .ex C f d → Exn K E B H l C f d) (hq : ∀ e H', g () e = some rs → Rep K B σ H' e l → Fr l H H' → Q σ H') : gSub (tVar i) tk rSetL v σ H Q := by
  have h : (M.bind (ownD i) fun _ => M.bind fk fun k => M.bind (lift (asI k)) fun k => M.bind (ownD i) fun ds => M.bind (lift (ixN ds.length k)) fun j => M.bind (setOwn i (ds.set j d)) g) env = some rs := by
    rw [← h]
    unfold putIx
    simp only [bindA]
  obtain ⟨ds0, hx0, h4⟩ := ownD_step h
  obtain ⟨p, vs0, s1, s2, s3, s4, _⟩ := r.mut hx0
  refine ⟨.ref p, s1, ?_⟩
  refine ok.seq r h4 hx fun k e2 v2 H2 h5 r2 f2 q2 => ?_
  obtain ⟨k', h6, h7⟩ := lift_step h5
  obtain ⟨ds, hx2, h8⟩ := ownD_step h7
  obtain ⟨j, h9, ha⟩ := lift_step h8
  have hb := setOwn_step ha
  obtain ⟨p', vs, t1, t2, t3, t4, t5⟩ := r2.mut hx2
  rw [s1] at t1
  cases t1
  rw [asI_some h6] at q2
  cases q2
  refine ⟨p, vs, k', j, rfl, rfl, t2, by rw [daAll_len t4]; exact h9, ?_⟩
  exact hq _ _ hb (t5 (daAll_set (Da.same f2.keep d dv) t4 j)) (f2.trans (fr_upd t3))
theorem OkS.sw {i : Nat} {te t1 t2 : TE} {fe f1 f2 : M R} (oe : OkE K E te fe) (o1 : OkE K E t1 f1) (o2 : OkE K E t2 f2) : OkS K E bx (tAsg te (gTup K 2 (gCons (gSub (tVar i) t1 rSetL) (gCons (gSub (tVar i) t2 rSetL) gNil)))) (swS i fe f1 f2) := by
  refine ⟨?_⟩
  intro B σ H env l rs rp h D post
  refine oe.seq rp h post.exn fun a e v H1 h1 r1 f1 q1 => ?_
  obtain ⟨x, h2, h3⟩ := lift_step h1
  rw [as2_some h2] at q1
  have q1 : Da K (off (un B l) H1) v (.tuple [x.1, x.2]) := q1
  cases q1 with
  | tup hq ha =>
    cases ha with
    | cons d1 t1 =>
      cases t1 with
      | cons d2 t2 =>
        cases t2
        refine ⟨_, _, rfl, seqP (off_sub _ _) hq, rfl, _, _, rfl, ?_⟩
        refine putIx_run o1 r1 d1 h3 (exn_later post.exn f1) fun e2 H2 h4 r2 g2 => ?_
        refine ⟨_, _, rfl, ?_⟩
        refine putIx_run o2 r2 (Da.same g2.keep _ d2) h4 (exn_later post.exn (f1.trans g2)) fun e3 H3 h5 r3 g3 => ?_
        cases h5
        exact ⟨rfl, post σ H3 l r3 (Fr2.of ((f1.trans g2).trans g3)) fun _ => rfl⟩
end
end Ov
set_option Elab.async false
set_option linter.all false
set_option maxRecDepth 100000
set_option maxHeartbeats 4000000
namespace Ov
open PySem L2
theorem vals_getD : ∀ {zs : List V} {ws : List Value}, Vals zs ws → ∀ i : Nat, RelV (zs.getD i .non) (ws.getD i .none)
  | _, _, .nil, i => by simp; rfl
  | _, _, .cons r t, 0 => r
  | _, _, .cons r t, i + 1 => by
    have := vals_getD t i
    simpa using this
theorem vals_perm {zs : List V} {ws : List Value} (r : Vals zs ws) : ∀ π : List Nat, Vals (π.map fun i => zs.getD i .non) (π.map fun i => ws.getD i .none)
  | [] => .nil
  | i :: q => .cons (vals_getD r i) (vals_perm r q)
theorem kbn_perm {K : PySem.W.Frag} {x qual : Str} {st : Stmt} {f : Addr} {fd : FuncData} {ps : List Str} (F : Fun K x qual st f fd) (ks : List Str) (π : List Nat)
    (h : ∀ (kV doc pm : Value) (an : Option Addr) (cdv ct : Value) (ws : List Value), ws.length = ks.length → bindArgs (PySem.W.fnOf x qual (defArgs st) (defBody st) (defScope st) .none kV doc pm an cdv ct) ⟨[], ks.zip ws⟩ = pure (ps.zip (π.map fun i => ws.getD i .none))) :
    KBn K fd ps 0 ks (fun _ ws => π.map fun i => ws.getD i .none) (fun _ zs => π.map fun i => zs.getD i .non) := by
  obtain ⟨oc, od, kV, doc, pm, an, cdv, ct, osl, rfl, lk, hcd⟩ := F.ex
  refine ⟨fun s us ws _ l1 l2 => ?_, fun _ r2 => vals_perm r2 π⟩
  cases us with
  | nil => exact .of_eq (h kV doc pm an cdv ct ws l2)
  | cons _ _ => cases l1
theorem law_sp {K : PySem.W.Frag} {H : Hp} {a : Addr} {ns : List Int} {E : XK} (F : List PyData → Option Wv) (hF : F [.list (ns.map .int)] = some (.dat (.bool true))) (h : SqL K H a (ns.map V.int)) : spA K F [.ref a] H (fun v _ => v = .bl true) E := by
  refine ⟨fun _ => False, [.list (ns.map .int)], .dat (.bool true), .cons (.lst (rd_same (fun b o e => (off_ne (fun z => z)).trans e) h) (da_ints _)) .nil, fun _ z => z.elim, hF, fun v H' lw s q nd no => ?_⟩
  obtain ⟨_, d⟩ := q
  cases d
  rfl
end Ov
set_option Elab.async false
set_option linter.all false
set_option maxRecDepth 100000
set_option maxHeartbeats 4000000
set_option Elab.async false
set_option linter.all false
set_option maxRecDepth 100000
set_option maxHeartbeats 4000000
namespace Ov
open PySem L2
/-! errors: raised, handed on, caught and kept -/
section
variable {K : PySem.W.Frag} {E : XK} {bx : Bool}
/-! try: x = ..; except (A, B, ..) as error: caught = error -/
def noOwn (env : En) : Bool := env.all fun s => !isOwn (some s)
theorem rpe_nil {H G : Hp} : ∀ {σ : St} {env : En} {l : List Addr}, RpE K H G σ env l → noOwn env = true → l = []
  | [], [], l, h, _ => h
  | s :: σ, e :: env, l, ⟨a, b, z, h1, h2⟩, hn => by
    have hn : (!isOwn (some e) && env.all fun s => !isOwn (some s)) = true := by rw [← hn]; rfl
    obtain ⟨n1, n2⟩ := (Bool.and_eq_true _ _).mp hn
    have hb := rpe_nil h2 n2
    subst hb
    have ha : a = [] := by
      cases e with
      | none => exact h1
      | some w =>
        obtain ⟨v, _, h1⟩ := h1
        cases w with
        | dat d => exact h1.1
        | own xs => cases n1
        | exc C f d => exact h1.1
        | dct ks => cases n1
        | dci ks => cases n1
        | dtk ks => cases n1
        | dts ks => cases n1
        | pin _ _ => exact h1.1
        | dtn _ => cases n1
        | nd _ => exact h1.1
        | lkd _ => exact h1.1
    rw [z, ha]
    rfl
def isEmp : Option (Option Wv) → Bool
  | some none => true
  | _ => false
theorem isEmp_ok {x : Option (Option Wv)} (h : isEmp x = true) : x = some none := by
  cases x with
  | none => cases h
  | some y => cases y with
    | none => rfl
    | some _ => cases h
def keepS (i j m : Nat) (cs : List Addr) (f : M Wv) : M Fl := fun env =>
  match f env with
  | some (.ok w e) => (M.bind (putM i w) fun _ => M.pure Fl.nx) e
  | some (.ex C fl d) => if C ∈ cs ∧ noOwn env = true ∧ m < env.length ∧ j < env.length ∧ j ≠ m ∧ isEmp env[j]? = true then some (.ok .nx (env.set m (some (.exc C fl d)))) else none
  | none => none
/-- as OkW, at given slots -/
structure OkWat (K : PySem.W.Frag) (E : XK) (σ : St) (t : TE) (f : M Wv) : Prop where
  run : ∀ {B : Addr → Prop} {H : Hp} {env : En} {l : List Addr} {rs : Rs Wv}, Rep K B σ H env l → f env = some rs → ∀ {Q : VK}, PostW K E B σ H l rs Q → t σ H Q
theorem OkS.keep {i j m : Nat} {cs : List Addr} {te : WX → TE} {tt : Value → Value → Bool} {f : M Wv} (o : ∀ (W : WX) (σ : St), OkWat K (fun cls d H' => W cls d σ H') σ (te W) f)
    (hc : ∀ C ∈ cs, ∃ k, Cl K C k) (hx : ∀ C ∈ cs, ∀ c ∈ cs.map Value.ref, PySem.W.exmOne K (.ref C) c = some (tt (.ref C) c)) (ht : ∀ C ∈ cs, (cs.map Value.ref).any (tt (.ref C)) = true) :
    OkS K E false (fun D σ H => tAsg (te (wKeep tt K (cs.map Value.ref) j (fun _ _ _ => tAsg (tVar j) (gName m)) D)) (gName i) D σ H) (keepS i j m cs f) := by
  refine ⟨?_⟩
  intro B σ H env l rs rp h D post
  unfold keepS at h
  cases hf : f env with
  | none => rw [hf] at h; cases h
  | some z =>
    rw [hf] at h
    cases z with
    | ok w e =>
      refine (o _ _).run rp hf fun v H' lw r1 f1 q1 nd fr => ?_
      obtain ⟨hi, h2⟩ := putM_step h
      cases h2
      obtain ⟨l', r', mm⟩ := r1.put hi q1 nd fun b z => ⟨fun y => rp.fresh (fr b z) (.inr y), fun y => rp.fresh (fr b z) (.inl y)⟩
      exact post _ H' l' r' ⟨f1, fun b z => (mm b z).imp id (fr b)⟩ fun z => by cases z
    | ex C fl d =>
      simp only at h
      split at h
      case isFalse => cases h
      rename_i hh
      obtain ⟨hC, hn, hm, hj, jm, ej⟩ := hh
      cases h
      have l0 := rpe_nil rp.rp hn
      subst l0
      obtain ⟨k, cl⟩ := hc C hC
      have sl : σ.length = env.length := rp.len
      have tail : ∀ (od : Option Addr) (H' : Hp) (v : V), Fr [] H H' → (∀ a, H' a = none → CauF K (off B (upd H' a (exg a C od))) a C fl v) → (fl ≠ "" → Da K (off B H') v d) → wKeep tt K (cs.map Value.ref) j (fun _ _ _ => tAsg (tVar j) (gName m)) D (.ref C) od σ H' := by
        intro od H' v f1 ca dv
        have s1 : Same H H' := fun b o e => f1 b o (fun z => by cases z) e
        refine ⟨C, rfl, hx C hC, ht C hC, fun a na => ?_⟩
        have sj : (σ.set j (some (.ref a)))[j]? = some (some (.ref a)) := by rw [List.getElem?_set_self (by omega)]
        refine ⟨.ref a, sj, ?_⟩
        have s2 : Same H' (upd H' a (exg a C od)) := same_new na _
        have r2 : Rep K B σ (upd H' a (exg a C od)) env [] := (rp.same s1).same s2
        show D.nx ((((σ.set j (some (.ref a))).set m (some (.ref a))).set j none)) (upd H' a (exg a C od))
        refine post _ _ [] ?_ (Fr2.of (fun b o n e => s2 _ _ (s1 _ _ e))) fun z => by cases z
        have sub : Same (off B H') (off (un (un B []) []) (upd H' a (exg a C od))) := by
          rw [un_nil, un_nil]
          exact off_mono (fun b z n => absurd z n) fun b o n e => s2 _ _ e
        have r3 : Rep K (un B []) σ (upd H' a (exg a C od)) env [] := by rw [un_nil]; exact r2
        obtain ⟨l', r4, mm⟩ := r3.put (i := m) (v := .ref a) (w := .exc C fl d) hm ⟨rfl, a, v, rfl, by rw [un_nil, un_nil]; exact ca a na, fun z => Da.same sub d (dv z)⟩ List.nodup_nil fun b z => by cases z
        have e' : l' = [] := by
          cases l' with
          | nil => rfl
          | cons b _ => rcases mm b (List.mem_cons_self ..) with z | z <;> cases z
        subst e'
        refine ⟨r4.rp.any (by simp) fun p w hp => ?_, r4.nd, r4.out, r4.tb⟩
        by_cases pj : p = j
        · subst pj
          rw [List.getElem?_set_ne (fun z => jm z.symm), isEmp_ok ej] at hp
          cases hp
        · rw [List.getElem?_set_ne (fun z => pj z.symm)]
          by_cases pm : p = m
          · subst pm
            rw [List.getElem?_set_self (by rw [List.length_set]; omega), List.getElem?_set_self (by omega)]
          · rw [List.getElem?_set_ne (fun z => pm z.symm), List.getElem?_set_ne (fun z => pj z.symm), List.getElem?_set_ne (fun z => pm z.symm)]
      refine (o _ _).run rp hf ⟨fun hne dx H' v f1 nB hd dv => tail (some dx) H' v f1 (fun a na => .inl ⟨hne, k, dx, cl, ?_, ?_⟩) fun _ => dv, fun he H' f1 => tail none H' .non f1 (fun a na => .inr ⟨he, k, cl, ?_⟩) fun z => absurd he z⟩
      · exact (off_ne fun z => ((rp.same fun b o e => f1 b o (fun z => by cases z) e).fresh na) (.inl z)).trans upd_same
      · exact (off_ne nB).trans ((upd_ne fun z => by rw [z, na] at hd; cases hd).trans hd)
      · exact (off_ne fun z => ((rp.same fun b o e => f1 b o (fun z => by cases z) e).fresh na) (.inl z)).trans upd_same
end
end Ov
set_option Elab.async false
set_option linter.all false
set_option maxRecDepth 100000
set_option maxHeartbeats 4000000
set_option Elab.async false
set_option linter.all false
set_option maxRecDepth 100000
set_option maxHeartbeats 4000000
set_option Elab.async false
set_option linter.all false
set_option maxRecDepth 100000
set_option maxHeartbeats 4000000
namespace Ov
open PySem L2
/-! several values at once, some of them lists of their own -/
inductive RvAll (K : PySem.W.Frag) (H G : Hp) : List V → List Wv → List Addr → Prop
  | nil : RvAll K H G [] [] []
  | cons {v : V} {w : Wv} {vs : List V} {ws : List Wv} {a b : List Addr} : RpW K H G v w a → RvAll K H G vs ws b → RvAll K H G (v :: vs) (w :: ws) (a ++ b)
section
variable {K : PySem.W.Frag} {E : XK} {bx : Bool}
theorem RvAll.mv {H H' G G' : Hp} (s : Same G G') : ∀ {vs : List V} {ws : List Wv} {l : List Addr}, RvAll K H G vs ws l → (∀ q ∈ l, H' q = H q) → RvAll K H' G' vs ws l
  | _, _, _, .nil, _ => .nil
  | _, _, _, .cons q r, k => .cons (q.mv s fun c z => k c (List.mem_append_left _ z)) (RvAll.mv s r fun c z => k c (List.mem_append_right _ z))
theorem RvAll.trk {H G : Hp} : ∀ {vs : List V} {ws : List Wv} {l : List Addr}, RvAll K H G vs ws l → ∀ q ∈ l, ∃ o, H q = some o ∧ NT o
  | _, _, _, .nil, q, z => by cases z
  | _, _, _, .cons h r, q, z => (List.mem_append.mp z).elim (fun z => RpW.trk h q z) fun z => RvAll.trk r q z
theorem RvAll.len {H G : Hp} : ∀ {vs : List V} {ws : List Wv} {l : List Addr}, RvAll K H G vs ws l → vs.length = ws.length
  | _, _, _, .nil => rfl
  | _, _, _, .cons _ r => by rw [List.length_cons, List.length_cons, RvAll.len r]
def PostV (K : PySem.W.Frag) (E : XK) (B : Addr → Prop) (σ : St) (H : Hp) (l : List Addr) (rs : Rs (List Wv)) (Q : List V → Hp → Prop) : Prop :=
  match rs with
  | .ok ws env' => ∀ vs H' lw, Rep K (un B lw) σ H' env' l → Fr l H H' → RvAll K H' (off (un (un B lw) l) H') vs ws lw → lw.Nodup → (∀ b ∈ lw, H b = none) → Q vs H'
  | .ex C f d => Exn K E B H l C f d
structure OkV (K : PySem.W.Frag) (E : XK) (t : TA) (f : M (List Wv)) : Prop where
  run : ∀ {B : Addr → Prop} {σ : St} {H : Hp} {env : En} {l : List Addr} {rs : Rs (List Wv)}, Rep K B σ H env l → f env = some rs → ∀ {Q : List V → Hp → Prop}, PostV K E B σ H l rs Q → t σ H Q
theorem PostV.exn {B : Addr → Prop} {σ : St} {H : Hp} {l : List Addr} {rs : Rs (List Wv)} {Q : List V → Hp → Prop} (h : PostV K E B σ H l rs Q) : ∀ C f d, rs = .ex C f d → Exn K E B H l C f d := fun C f d e => by subst e; exact h
theorem OkV.seq {α : Type} {ta : TA} {fa : M (List Wv)} {g : List Wv → M α} (oa : OkV K E ta fa) {B : Addr → Prop} {σ : St} {H : Hp} {env : En} {l : List Addr} {rs : Rs α} (r : Rep K B σ H env l) (h : (M.bind fa g) env = some rs) {Q : List V → Hp → Prop}
    (hx : ∀ C f d, rs = .ex C f d → Exn K E B H l C f d) (hq : ∀ a e v H' lw, g a e = some rs → Rep K (un B lw) σ H' e l → Fr l H H' → RvAll K H' (off (un (un B lw) l) H') v a lw → lw.Nodup → (∀ b ∈ lw, H b = none) → Q v H') : ta σ H Q := by
  rcases bind_some h with ⟨a, e, h1, h2⟩ | ⟨C, f, d, h1, h2⟩
  · exact oa.run r h1 (fun v H' lw r' fr q n1 n2 => hq a e v H' lw h2 r' fr q n1 n2)
  · exact oa.run r h1 (hx C f d h2)
def wnil : M (List Wv) := M.pure []
def wcons (f : M Wv) (g : M (List Wv)) : M (List Wv) := M.bind f fun a => M.bind g fun as => M.pure (a :: as)
theorem OkV.nil : OkV K E tNil wnil := by
  refine ⟨?_⟩
  intro B σ H env l rs rp h Q post
  cases h
  exact post [] H [] (by rw [un_nil]; exact rp) (Fr.refl _ _) .nil List.nodup_nil fun b z => by cases z
theorem OkV.cons {ta : TE} {tr : TA} {fa : M Wv} {fr : M (List Wv)} (oa : OkW K E ta fa) (or : OkV K E tr fr) : OkV K E (tCons ta tr) (wcons fa fr) := by
  refine ⟨?_⟩
  intro B σ H env l rs rp h Q post
  refine oa.seq rp h post.exn fun w1 e1 v1 H1 l1 h1 r1 f1 q1 nd1 fr1 => ?_
  have n1 : ∀ b ∈ l1, ¬ un B l b := fun b z => rp.fresh (fr1 b z)
  have ex1 : ∀ C f d, rs = .ex C f d → Exn K E (un B l1) H1 l C f d := fun C f d e => by
    have := (post.exn C f d e).later f1
    exact this.wide
  refine or.seq r1 h1 ex1 fun ws e2 vs H2 l2 h2 r2 f2 q2 nd2 fr2 => ?_
  cases h2
  have n2 : ∀ b ∈ l2, ¬ un (un B l1) l b := fun b z => r1.fresh (fr2 b z)
  refine post (v1 :: vs) H2 (l1 ++ l2) (by rw [← un_app]; exact r2) (f1.trans f2) (.cons ?_ (by rw [← un_app]; exact q2)) ?_ fun b z => ?_
  · rw [← un_app]
    refine q1.mv (off_mono (fun b z n => ?_) fun b o n e => f2 b o (fun z => n (.inr z)) e) fun b z => ?_
    · rcases z with (z | z) | z
      · exact absurd (.inl z) n
      · exact fr2 b z
      · exact absurd (.inr z) n
    · obtain ⟨o, e, _⟩ := q1.trk b z
      rw [e]
      exact f2 b o (fun y => n1 b z (.inr y)) e
  · exact List.nodup_append.mpr ⟨nd1, nd2, fun x hx y hy e => n2 y hy (.inl (.inr (e ▸ hx)))⟩
  · rcases List.mem_append.mp z with z | z
    · exact fr1 b z
    · cases q : H b with
      | none => rfl
      | some o =>
        have := f1 b o (fun y => n2 b z (.inr y)) q
        rw [fr2 b z] at this
        cases this
end
end Ov
set_option Elab.async false
set_option linter.all false
set_option maxRecDepth 100000
set_option maxHeartbeats 4000000
namespace L2
open PySem PySem.Spec PyProof.Rows
end L2
namespace Ov
open PySem L2
section
variable {K : PySem.W.Frag} {E : XK} {bx : Bool}
theorem da_rep {H : Hp} {vs : List V} {ds : List PyData} (h : DaAll K H vs ds) : ∀ n : Nat, DaAll K H (List.replicate n vs).flatten (List.replicate n ds).flatten
  | 0 => .nil
  | n + 1 => by
    rw [List.replicate_succ, List.replicate_succ, List.flatten_cons, List.flatten_cons]
    exact daAll_append h (da_rep h n)
/-! list(range(..)) -/
def lrE (fr : M (Int × Int)) : M R := M.bind fr fun r => M.bind (lift (chk (decide (-(2 ^ 62) ≤ r.1 ∧ r.1 < 2 ^ 62 ∧ -(2 ^ 62) ≤ r.2 ∧ r.2 < 2 ^ 62 ∧ (r.2 - r.1).toNat ≤ 1000000)))) fun _ => M.pure (.dat (.list ((rngL r.1 r.2).map .int)))
theorem OkE.lstRg2 {ta tb : TE} {fa fb : M R} (oa : OkE K E ta fa) (ob : OkE K E tb fb) : OkE K E (tLstRg (tRg2 ta tb)) (lrE (rg2 fa fb)) := by
  refine ⟨?_⟩
  intro B σ H env l rs rp h Q post
  have h' : (M.bind fa fun a => M.bind fb fun b => M.bind (lift (asI a)) fun i => M.bind (lift (asI b)) fun j => M.bind (lift (chk (decide (-(2 ^ 62) ≤ i ∧ i < 2 ^ 62 ∧ -(2 ^ 62) ≤ j ∧ j < 2 ^ 62 ∧ (j - i).toNat ≤ 1000000)))) fun _ => M.pure (.dat (.list ((rngL i j).map .int)))) env = some rs := by
    rw [← h]
    unfold lrE rg2 M.bind
    cases fa env with
    | none => rfl
    | some z =>
      cases z with
      | ex _ _ _ => rfl
      | ok a e =>
        simp only
        cases fb e with
        | none => rfl
        | some z =>
          cases z with
          | ex _ _ _ => rfl
          | ok b e2 =>
            simp only
            cases asI a with
            | none => rfl
            | some i =>
              cases asI b with
              | none => rfl
              | some j => rfl
  refine oa.seq rp h' post.exn fun a e v1 H1 h1 r1 f1 q1 => ?_
  refine ob.seq r1 h1 (exn_later post.exn f1) fun b e2 v2 H2 h2 r2 f2 q2 => ?_
  obtain ⟨i, h3, h4⟩ := lift_step h2
  obtain ⟨j, h5, h6⟩ := lift_step h4
  rw [asI_some h3] at q1
  rw [asI_some h5] at q2
  cases q1
  cases q2
  obtain ⟨u, h7, h8⟩ := lift_step h6
  cases h8
  have hc := of_decide_eq_true (chk_ok h7)
  refine ⟨i, j, rfl, rfl, ⟨hc.1, hc.2.1, hc.2.2.1, hc.2.2.2.1, Nat.le_trans hc.2.2.2.2 (by decide)⟩, fun p hp => ?_⟩
  rw [rgV_eq]
  exact post _ _ (r2.same (same_new hp _)) ((f1.trans f2).trans (Fr.of (same_new hp _))) (new_dp r2.tl hp (da_ints _)).1
end
end Ov
set_option Elab.async false
set_option linter.all false
set_option maxRecDepth 100000
set_option maxHeartbeats 4000000
namespace Ov
open PySem L2
section
variable {K : PySem.W.Frag} {E : XK} {bx : Bool}
def ownW : Wv → Option (List PyData)
  | .own xs => itds xs
  | _ => none
/-- a call whose box is made on the spot -/
def callBt (F : List PyData → List PyData → Option (Wv × List PyData)) (fa : M Wv) : M Wv := M.bind fa fun w => M.bind (lift (ownW w)) fun bs => lift ((F bs []).map (·.1))
theorem OkW.callBt {F : List PyData → List PyData → Option (Wv × List PyData)} {E' : XK} {ta : TE} {fa : M Wv} (oa : OkW K E ta fa) : OkW K E (tCall (spB K F) [] E' (tCons ta tNil)) (Ov.callBt F fa) := by
  refine ⟨?_⟩
  intro B σ H env l rs rp h Q post
  refine oa.seq rp h post.exn fun w0 e v0 H1 lw0 h1 r1 f1 q1 nd1 fr1 => ?_
  obtain ⟨bs, h2, h3⟩ := lift_step h1
  obtain ⟨w, h4, h5⟩ := lift_some h3
  subst h5
  obtain ⟨⟨w', bs'⟩, h6, h7⟩ := Option.map_eq_some_iff.mp h4
  cases h7
  cases w0 with
  | dat d => cases h2
  | exc C f d => cases h2
  | dct ks => cases h2
  | dci ks => cases h2
  | dtk ks => cases h2
  | dts ks => cases h2
  | pin _ _ => cases h2
  | dtn _ => cases h2
  | nd _ => cases h2
  | lkd _ => cases h2
  | own xs =>
    have ex : xs = dats bs := itds_eq h2
    subst ex
    obtain ⟨p, vs1, b, rfl, el, hp, rp1⟩ := q1
    obtain ⟨rfl, da⟩ := rp1s_dats rp1
    subst el
    have np : ¬ un B l p := rp.fresh (fr1 p (List.mem_cons_self ..))
    show spB K F ([V.ref p] ++ []) H1 Q E'
    refine ⟨un B l, p, vs1, bs, [], [], w', bs', rfl, hp, np, DaAll.same (off_mono (fun b z n => absurd ?_ n) fun b o n e => e) _ da, .nil, fun b z => r1.tl b (z.elim (fun z => .inl (.inl z)) .inr), h6, fun v H' lw bv' fr hb' db' rw' nd fw => ?_⟩
    · rcases z with (z | z) | z
      · exact .inl (.inl z)
      · exact .inr z
      · exact .inl (.inr z)
    have nb : ∀ b, un B l b → b ≠ p := fun b z y => np (by rw [← y]; exact z)
    have hl : ∀ b ∈ lw, ¬ un (un B [p]) l b := fun b z => r1.fresh (fw b z)
    have sub : Same (off (un (un B [p]) l) H1) (off (un (un B lw) l) H') := off_mono (fun b z n => by
      rcases z with (z | z) | z
      · exact absurd (.inl (.inl z)) n
      · exact fw b z
      · exact absurd (.inr z) n) fun b o n e => fr b o (fun z => n (.inl (.inr z))) e
    have rp' : Rep K (un B lw) σ H' e l := by
      refine ⟨r1.rp.mv sub fun q z => ?_, r1.nd, fun b z y => ?_, fun b z => ?_⟩
      · obtain ⟨o, e, _⟩ := r1.rp.trk q z
        rw [e]
        exact fr q o (fun y => nb q (.inr z) (List.mem_singleton.mp y)) e
      · rcases y with y | y
        · exact r1.out b z (.inl y)
        · exact hl b y (.inr z)
      · rcases z with z | z
        · obtain ⟨o, e, n⟩ := r1.tb b (.inl z)
          exact ⟨o, fr b o (fun y => nb b (.inl z) (List.mem_singleton.mp y)) e, n⟩
        · exact rw'.trk b z
    refine post v H' lw rp' (fun b o n e => fr b o (fun y => ?_) (f1 b o n e)) (rw'.mv (off_mono (fun b z n => absurd ?_ n) fun b o n e => e) fun _ _ => rfl) nd fun b z => ?_
    · rw [List.mem_singleton.mp y, fr1 p (List.mem_cons_self ..)] at e
      cases e
    · rcases z with (z | z) | z
      · exact .inl (.inl (.inl z))
      · exact .inl (.inr z)
      · exact .inl (.inl (.inr z))
    · cases q : H b with
      | none => rfl
      | some o =>
        have := f1 b o (fun y => hl b z (.inr y)) q
        rw [fw b z] at this
        cases this
end
end Ov
set_option Elab.async false
set_option linter.all false
set_option maxRecDepth 100000
set_option maxHeartbeats 4000000
set_option Elab.async false
set_option linter.all false
set_option maxRecDepth 100000
set_option maxHeartbeats 4000000
namespace Ov
open PySem L2
/-! what each piece does, as equations to be put together by a tool -/
section
variable {α : Type} {env e e1 e2 e3 : En} {f g h : M R} {r s q : R} {rs : List R} {fa fr : M (List R)} {a b c d : PyData} {ds : List PyData} {F : List PyData → Option Wv} {t u : M Bool} {x y : Bool} {st su : M Fl} {i j : Nat} {W W2 : M Wv} {w w2 : Wv} {X : Option (Rs Fl)}
theorem get_x (h : env[i]? = some (some (.dat d))) : get i env = some (.ok (.dat d) env) := by rw [v_get, h]; rfl
theorem getO_x {xs : List It1} (h : env[i]? = some (some (.own xs))) : get i env = some (.ok (.slot i) env) := by rw [v_get, h]; rfl
theorem con_x : con d env = some (.ok (.dat d) env) := rfl
theorem vwd_x : vw (.dat d) env = some (.ok d env) := rfl
theorem vws_x (h : env[i]? = some (some (.own (dats ds)))) : vw (.slot i) env = some (.ok (.list ds) env) := by
  rw [v_vws, h]
  show lift ((itds (dats ds)).map PyData.list) env = _
  rw [itds_dats]
  rfl
theorem op2_x {fo : PyData → PyData → Option PyData} (h1 : f env = some (.ok r e1)) (h2 : g e1 = some (.ok s e2)) (v1 : vw r e2 = some (.ok a e2)) (v2 : vw s e2 = some (.ok b e2)) (h3 : fo a b = some c) : op2 fo f g env = some (.ok (.dat c) e2) := by
  rw [v_op2, h1, v_ok, v_bind, h2, v_ok, v_bind, v1, v_ok, v_bind, v2, v_ok, v_bind, h3]
  rfl
theorem op1_x {fo : PyData → Option PyData} (h1 : f env = some (.ok r e1)) (v1 : vw r e1 = some (.ok a e1)) (h3 : fo a = some c) : op1 fo f env = some (.ok (.dat c) e1) := by
  rw [v_op1, h1, v_ok, v_bind, v1, v_ok, v_bind, h3]
  rfl
theorem anil_x : anil env = some (.ok [] env) := rfl
theorem acons_x (h1 : f env = some (.ok r e1)) (h2 : fr e1 = some (.ok rs e2)) : acons f fr env = some (.ok (r :: rs) e2) := by
  rw [v_acons, h1, v_ok, v_bind, h2]
  rfl
theorem vw0_x : vws [] env = some (.ok [] env) := rfl
theorem vwC_x (h1 : vw r env = some (.ok d env)) (h2 : vws rs env = some (.ok ds env)) : vws (r :: rs) env = some (.ok (d :: ds) env) := by
  rw [v_vwsC, h1, v_ok, v_bind, h2]
  rfl
theorem cb_x {fo : List PyData → Option PyData} (h1 : fa env = some (.ok rs e1)) (v : vws rs e1 = some (.ok ds e1)) (h : fo ds = some d) : cb fo fa env = some (.ok (.dat d) e1) := by
  rw [v_cb, h1, v_ok, v_bind, v, v_ok, v_bind, h]
  rfl
theorem tup_x (h1 : fa env = some (.ok rs e1)) (h2 : dds rs = some ds) (h3 : ds.length ≤ 1000000) : tupD fa env = some (.ok (.dat (.tuple ds)) e1) := by
  rw [v_tupD, h1, v_ok, v_bind, h2, v_lift, v_ok, v_bind, v_sz _ h3]
  rfl
theorem lst_x (h1 : fa env = some (.ok rs e1)) (h2 : dds rs = some ds) (h3 : ds.length ≤ 1000000) : lstD fa env = some (.ok (.dat (.list ds)) e1) := by
  rw [v_lstD, h1, v_ok, v_bind, h2, v_lift, v_ok, v_bind, v_sz _ h3]
  rfl
theorem lstW_x (h1 : fa env = some (.ok rs e1)) (h2 : dds rs = some ds) (h3 : ds.length ≤ 1000000) : lstW fa env = some (.ok (.own (dats ds)) e1) := by
  rw [v_lstW, h1, v_ok, v_bind, h2, v_lift, v_ok, v_bind, v_sz _ h3]
  rfl
theorem callA_x (h1 : fa env = some (.ok rs e1)) (h2 : dds rs = some ds) (h3 : F ds = some w) : callA F fa env = some (.ok w e1) := by
  rw [v_callA, h1, v_ok, v_bind, h2, v_lift, v_ok, h3]
  rfl
theorem ownD_x (h : env[i]? = some (some (.own (dats ds)))) : ownD i env = some (.ok ds env) := by
  rw [v_ownD, h]
  show lift (itds (dats ds)) env = _
  rw [itds_dats]
  rfl
theorem callB_x {FB : List PyData → List PyData → Option (Wv × List PyData)} {b0 bs bs' : List PyData} (h0 : env[i]? = some (some (.own (dats b0)))) (h1 : fa env = some (.ok rs e1)) (h2 : dds rs = some ds) (hb : e1[i]? = some (some (.own (dats bs)))) (h3 : FB bs ds = some (w, bs')) : callB i FB fa env = some (.ok w (e1.set i (some (.own (dats bs'))))) := by
  rw [v_callB, ownD_x h0, v_ok, v_bind, h1, v_ok, v_bind, h2, v_lift, v_ok, v_bind, ownD_x hb, v_ok, v_bind, h3]
  rfl
theorem fz_x (h : W env = some (.ok w e)) (hw : ofW w = some r) : fz W env = some (.ok r e) := by
  rw [v_fz, h, v_ok, hw]
  rfl
theorem pl_x (h : f env = some (.ok r e)) (hw : toW r = some w) : pl f env = some (.ok w e) := by
  rw [v_pl, h, v_ok, hw]
  rfl
theorem tb_x (h : f env = some (.ok r e)) (v : vw r e = some (.ok (.bool x) e)) : tb1 f env = some (.ok x e) := by
  rw [v_tb1, h, v_ok, v_bind, v]
  rfl
theorem orT_t (h : t env = some (.ok true e1)) : orT t u env = some (.ok true e1) := by rw [v_orT, h]; rfl
theorem orT_f (h : t env = some (.ok false e1)) (h2 : u e1 = some (.ok x e2)) : orT t u env = some (.ok x e2) := by rw [v_orT, h, v_ok, if_neg (by decide), h2]
theorem notT_x (h : t env = some (.ok x e1)) : notT t env = some (.ok (!x) e1) := by rw [v_notT, h]; rfl
theorem ifE_t (h : t env = some (.ok true e1)) (h2 : f e1 = some (.ok r e2)) : ifE t f g env = some (.ok r e2) := by rw [v_ifE, h, v_ok, if_pos rfl, h2]
theorem ifE_f (h : t env = some (.ok false e1)) (h2 : g e1 = some (.ok r e2)) : ifE t f g env = some (.ok r e2) := by rw [v_ifE, h, v_ok, if_neg (by decide), h2]
theorem poN_x : poN env = some (.ok none env) := rfl
theorem poS_x {k : Int} (h : f env = some (.ok (.dat (.int k)) e)) : poS f env = some (.ok (some k) e) := by rw [v_poS, h]; rfl
theorem sl_x {fl fh : M (Option Int)} {lo hi : Option Int} (h1 : f env = some (.ok r e1)) (h2 : fl e1 = some (.ok lo e2)) (h3 : fh e2 = some (.ok hi e3)) (v : vw r e3 = some (.ok a e3)) (h4 : cutD a lo hi = some c) : slD f fl fh env = some (.ok (.dat c) e3) := by
  rw [v_slD, h1, v_ok, v_bind, h2, v_ok, v_bind, h3, v_ok, v_bind, v, v_ok, v_bind, h4]
  rfl
theorem isi2_x {T U : String} (h : f env = some (.ok r e)) (v : vw r e = some (.ok a e)) (hb : kitD T a = some x) (hb2 : kitD U a = some y) : isiE2 T U f env = some (.ok (.dat (.bool (x || y))) e) := by
  rw [v_isiE2, h, v_ok, v_bind, v, v_ok, v_bind, hb, v_lift, v_ok, v_bind, hb2]
  rfl
theorem mth_x {fo : List PyData → List PyData → Option (List PyData × PyData)} {b0 bs : List PyData} {z : List PyData × PyData} (h0 : env[i]? = some (some (.own (dats b0)))) (h1 : fa env = some (.ok rs e1)) (h2 : dds rs = some ds) (hb : e1[i]? = some (some (.own (dats bs)))) (h3 : fo bs ds = some z) : mthE i fo fa env = some (.ok (.dat z.2) (e1.set i (some (.own (dats z.1))))) := by
  rw [v_mthE, ownD_x h0, v_ok, v_bind, h1, v_ok, v_bind, h2, v_lift, v_ok, v_bind, ownD_x hb, v_ok, v_bind, h3]
  rfl
theorem rg2_x {k l : Int} (h1 : f env = some (.ok (.dat (.int k)) e1)) (h2 : g e1 = some (.ok (.dat (.int l)) e2)) : rg2 f g env = some (.ok (k, l) e2) := by
  rw [v_rg2, h1, v_ok, v_bind, h2]
  rfl
theorem then_x (h1 : st env = some (.ok .nx e)) (h2 : su e = X) : thenS st su env = X := (then_nx h1).trans h2
theorem expr_x (h : f env = some (.ok r e)) : exprS f env = some (.ok .nx e) := by rw [v_exprS, h]; rfl
theorem ret_x (h : W env = some (.ok w e)) : retS W env = some (.ok (.rt w) e) := by rw [v_retS, h]; rfl
theorem ifS_t (h : t env = some (.ok true e)) (h2 : st e = X) : ifS t st su env = X := by rw [v_ifS, h, v_ok, if_pos rfl, h2]
theorem ifS_f (h : t env = some (.ok false e)) (h2 : su e = X) : ifS t st su env = X := by rw [v_ifS, h, v_ok, if_neg (by decide), h2]
theorem nxt_x : nxt env = some (.ok .nx env) := rfl
theorem set_x (h : W env = some (.ok w e)) (hi : i < e.length) : setS i W env = some (.ok .nx (e.set i (some w))) := by
  rw [v_setS, h, v_ok, v_bind, v_putM _ _ hi]
  rfl
theorem par_x (h : W env = some (.ok w e)) (h2 : W2 e = some (.ok w2 e2)) (hi : i < e2.length) (hj : j < e2.length) : parS i j W W2 env = some (.ok .nx ((e2.set i (some w)).set j (some w2))) := by
  rw [v_parS, h, v_ok, v_bind, h2, v_ok, v_bind, v_putM _ _ hi, v_ok, v_bind, v_putM _ _ (by rw [List.length_set]; exact hj)]
  rfl
theorem un_x {p : PyData → En → Option En} (h : f env = some (.ok (.dat d) e1)) (hp : p d e1 = some e2) : unS p f env = some (.ok .nx e2) := by
  rw [v_unS, h, v_ok]
  show cont ((p d e1).map fun e => Rs.ok () e) _ = _
  rw [hp]
  rfl
theorem for_x {fi : M (List PyData)} {p : PyData → En → Option En} (h : fi env = some (.ok ds e)) (h2 : forM p st ds e = X) : forS fi p st env = X := by
  rw [v_forS, h, v_ok]
  exact h2
theorem seq_x (h : f env = some (.ok (.dat d) e)) (hs : seqD d = some ds) : seqI f env = some (.ok ds e) := by
  rw [v_seqI, h, v_ok, v_bind, v_asD, v_lift, v_ok, hs]
  rfl
theorem argI_x {fo : List PyData → Option (List PyData)} {es : List PyData} (h : fa env = some (.ok rs e)) (h2 : dds rs = some ds) (h3 : fo ds = some es) : argI fo fa env = some (.ok es e) := by
  rw [v_argI, h, v_ok, v_bind, h2, v_lift, v_ok, h3]
  rfl
theorem move_x (h : env[i]? = some (some (.own (dats ds)))) : moveS i env = some (.ok (.rt (.own (dats ds))) (env.set i none)) := v_moveS i _ h
theorem min_x (k l : Int) : minD [.int k, .int l] = some (.int (min k l)) := by rw [v_min]; congr 2; split <;> omega
theorem lenLm_x {β : Type} (l : List β) (z : β → PyData) : lenD [.list (l.map z)] = some (.int (l.length : Nat)) := by rw [v_lenL, List.length_map]
theorem lenTm_x {β : Type} (l : List β) (z : β → PyData) : lenD [.tuple (l.map z)] = some (.int (l.length : Nat)) := by rw [v_lenT, List.length_map]
theorem addI_x (k l : Int) : addD (.int k) (.int l) = some (.int (k + l)) := rfl
theorem ltI_x (k l : Int) : ltD (.int k) (.int l) = some (.bool (decide (k < l))) := rfl
end
/-- a comprehension over pictures, each element by what it gives -/
theorem comp_x {β : Type} {env : En} {p : PyData → En → Option En} {ft : M Bool} {fe : M R} {vs : List Nat} {z : β → PyData} (g : β → PyData) (t : β → Bool) : ∀ (l : List β) (acc : List PyData), acc.length + l.length < 1000000 →
    (∀ x ∈ l, ∃ e, p (z x) env = some e ∧ ft e = some (.ok (t x) e) ∧ (t x = true → fe e = some (.ok (.dat (g x)) e)) ∧ freeB e vs = true ∧ wipeE e vs = env) → compM p ft fe vs (l.map z) acc env = some (.ok (acc ++ (l.filter t).map g) env)
  | [], acc, _, _ => by simp [compM, M.pure]
  | x :: l, acc, hl, h => by
    obtain ⟨e, h1, h2, h3, h4, h5⟩ := h x (List.mem_cons_self ..)
    rw [List.length_cons] at hl
    rw [List.map_cons]
    cases q : t x with
    | true =>
      rw [q] at h2
      rw [comp_yes h1 h2 (h3 q) h4 (by omega), h5, comp_x g t l (acc ++ [g x]) (by rw [List.length_append]; show acc.length + 1 + _ < _; omega) fun y hy => h y (List.mem_cons_of_mem _ hy)]
      simp [q]
    | false =>
      rw [q] at h2
      rw [comp_no h1 h2 h4, h5, comp_x g t l acc (by omega) fun y hy => h y (List.mem_cons_of_mem _ hy)]
      simp [q]
theorem compM_x {β : Type} {env : En} {p : PyData → En → Option En} {ft : M Bool} {fe : M R} {vs : List Nat} {z : β → PyData} (g : β → PyData) (l : List β) (hl : l.length < 1000000)
    (h : ∀ x ∈ l, ∃ e, p (z x) env = some e ∧ ft e = some (.ok true e) ∧ fe e = some (.ok (.dat (g x)) e) ∧ freeB e vs = true ∧ wipeE e vs = env) : compM p ft fe vs (l.map z) [] env = some (.ok (l.map g) env) := by
  have := comp_x (env := env) (p := p) (ft := ft) (fe := fe) (vs := vs) (z := z) g (fun _ => true) l [] (by show 0 + _ < _; omega) fun x hx => by
    obtain ⟨e, h1, h2, h3, h4, h5⟩ := h x hx
    exact ⟨e, h1, h2, fun _ => h3, h4, h5⟩
  rw [List.filter_eq_self.mpr fun _ _ => rfl, List.nil_append] at this
  exact this
end Ov
set_option Elab.async false
set_option linter.all false
set_option maxRecDepth 100000
set_option maxHeartbeats 4000000
namespace Ov
open PySem L2
/-! general facts for the values of defs -/
def nI (i : Nat) : PyData := .int (i : Int)
section
variable {env e e1 e2 : En} {f g : M R} {r : R} {d : PyData} {x : Bool}
theorem lr_x {k l : Int} {z : M (Int × Int)} (h1 : z env = some (.ok (k, l) e)) (h2 : -(2 ^ 62) ≤ k ∧ k < 2 ^ 62 ∧ -(2 ^ 62) ≤ l ∧ l < 2 ^ 62 ∧ (l - k).toNat ≤ 1000000) : lrE z env = some (.ok (.dat (.list ((rngL k l).map .int))) e) := by
  unfold lrE
  rw [v_bind, h1, v_ok, v_bind, decide_eq_true h2]
  rfl
end
/-! ranges -/
theorem rng_int (a b : Nat) : (rngL (a : Int) (b : Int)).map PyData.int = (List.range' a (b - a)).map nI := by
  unfold rngL nI
  rw [List.map_map, List.range'_eq_map_range, List.map_map, show ((b : Int) - (a : Int)).toNat = b - a by omega]
  refine List.map_congr_left fun k _ => ?_
  show PyData.int ((a : Int) + (k : Int)) = .int ((a + k : Nat) : Int)
  rw [Int.natCast_add]
theorem rng1N {n : Nat} (h : n ≤ 1000000) : rngD [.int (n : Int)] = some ((List.range' 0 n).map nI) := by
  have g : -(2 ^ 62) ≤ (n : Int) ∧ (n : Int) < 2 ^ 62 := ⟨by omega, by omega⟩
  have := rng_int 0 n
  rw [Nat.sub_zero] at this
  rw [← this]
  show rngD [.int (n : Int)] = some ((rngL 0 (n : Int)).map .int)
  generalize (n : Int) = N at g ⊢
  exact if_pos g
theorem rng2N {a b : Nat} (h : a ≤ 1000000) (h2 : b ≤ 1000000) : rngD2 [.int (a : Int), .int (b : Int)] = some ((List.range' a (b - a)).map nI) := by
  have g : -(2 ^ 62) ≤ (a : Int) ∧ (a : Int) < 2 ^ 62 ∧ -(2 ^ 62) ≤ (b : Int) ∧ (b : Int) < 2 ^ 62 := ⟨by omega, by omega, by omega, by omega⟩
  rw [← rng_int]
  generalize (a : Int) = A at g ⊢
  generalize (b : Int) = N at g ⊢
  exact if_pos g
/-! shapes -/
def Sh (k : Nat) (d : PyData) : Prop := PyData.canLay0 d = true ∧ PyData.depth d ≤ k
theorem Sh.shp {k : Nat} {d : PyData} (h : Sh k d) (hk : k ≤ 64) : shp d = true := by
  unfold Ov.shp SeqAt.shaped
  rw [h.1, decide_eq_true (show PyData.depth d ≤ 64 from Nat.le_trans h.2 hk)]
  rfl
theorem Sh.int (i : Int) {k : Nat} : Sh (k + 1) (.int i) := ⟨rfl, by show 0 ≤ _; omega⟩
theorem Sh.none {k : Nat} : Sh (k + 1) .none := ⟨rfl, by show 0 ≤ _; omega⟩
theorem Sh.bool (b : Bool) {k : Nat} : Sh (k + 1) (.bool b) := ⟨rfl, by show 0 ≤ _; omega⟩
theorem sh_all : ∀ {k : Nat} {l : List PyData}, (∀ x ∈ l, Sh k x) → PyData.canLayAll0 l = true ∧ PyData.depthAll l ≤ k
  | k, [], _ => ⟨rfl, Nat.zero_le _⟩
  | k, x :: l, h => by
    have h1 := h x (List.mem_cons_self ..)
    have h2 := sh_all fun y hy => h y (List.mem_cons_of_mem _ hy)
    constructor
    · show (PyData.canLay0 x && PyData.canLayAll0 l) = true
      rw [h1.1, h2.1]
      rfl
    · show max (PyData.depth x) (PyData.depthAll l) ≤ k
      have := h1.2
      have := h2.2
      omega
theorem Sh.lst {k : Nat} {l : List PyData} (h : ∀ x ∈ l, Sh k x) : Sh (k + 1) (.list l) := ⟨(sh_all h).1, by show PyData.depthAll l + 1 ≤ k + 1; have := (sh_all h).2; omega⟩
theorem Sh.tup {k : Nat} {l : List PyData} (h : ∀ x ∈ l, Sh k x) : Sh (k + 1) (.tuple l) := ⟨(sh_all h).1, by show PyData.depthAll l + 1 ≤ k + 1; have := (sh_all h).2; omega⟩
theorem Sh.mono {k m : Nat} {d : PyData} (h : Sh k d) (e : k ≤ m) : Sh m d := ⟨h.1, Nat.le_trans h.2 e⟩
theorem Sh.ints (l : List Int) {k : Nat} : ∀ x ∈ l.map PyData.int, Sh (k + 1) x := fun x hx => by
  obtain ⟨i, _, rfl⟩ := List.mem_map.mp hx
  exact .int i
/-! data without bools: equal by == only if the same -/
/-! items and parts of pictures -/
theorem ixT_map {β : Type} {z : β → PyData} {l : List β} {k : Nat} {x : β} (h : l[k]? = some x) : ixD (.tuple (l.map z)) (.int (k : Int)) = some (z x) := by
  have hk := (List.getElem?_eq_some_iff.mp h).1
  show (L2.ixN (l.map z).length (k : Int)).bind (fun j => (l.map z)[j]?) = _
  unfold L2.ixN
  rw [if_pos (by omega), if_pos (by rw [List.length_map]; omega)]
  show (l.map z)[(k : Int).toNat]? = _
  rw [Int.toNat_natCast, List.getElem?_map, h]
  rfl
theorem atI_neg1 {β : Type} {z : β → PyData} {l : List β} {x : β} (h : l.getLast? = some x) : ixD (.tuple (l.map z)) (.int (-1)) = some (z x) := by
  have hl : l.length ≠ 0 := fun e => by rw [List.length_eq_zero_iff.mp e] at h; cases h
  show (L2.ixN (l.map z).length (-1)).bind (fun j => (l.map z)[j]?) = _
  unfold L2.ixN
  rw [if_neg (by omega), if_pos (by rw [List.length_map]; omega)]
  show (l.map z)[(-1 + ((l.map z).length : Int)).toNat]? = _
  rw [List.length_map, show (-1 + (l.length : Int)).toNat = l.length - 1 by omega, List.getElem?_map, ← List.getLast?_eq_getElem?, h]
  rfl
theorem ixL_map {β : Type} {z : β → PyData} {l : List β} {k : Nat} {x : β} (h : l[k]? = some x) : ixD (.list (l.map z)) (.int (k : Int)) = some (z x) := ixT_map h
theorem cutT_from {β : Type} {z : β → PyData} {l : List β} {k : Nat} : cutD (.tuple (l.map z)) (some (k : Int)) none = some (.tuple ((l.drop k).map z)) := by
  show some (PyData.tuple (cutL _ _ _)) = _
  unfold cutL
  rw [HT.sIx_nat, HT.sIx_none, List.length_map, List.map_drop]
  congr 2
  by_cases h : k ≤ l.length
  · rw [Nat.min_eq_left h, List.take_of_length_le (by rw [List.length_drop, List.length_map]; omega)]
  · rw [Nat.min_eq_right (by omega), Nat.sub_self, List.take_zero, List.drop_eq_nil_of_le (by rw [List.length_map]; omega)]
theorem cutT_to {β : Type} {z : β → PyData} {l : List β} {k : Nat} : cutD (.tuple (l.map z)) none (some (k : Int)) = some (.tuple ((l.take k).map z)) := by
  show some (PyData.tuple (cutL _ _ _)) = _
  unfold cutL
  rw [HT.sIx_nat, HT.sIx_none, List.length_map, List.map_take, List.drop_zero, Nat.sub_zero]
  congr 2
  by_cases h : k ≤ l.length
  · rw [Nat.min_eq_left h]
  · rw [Nat.min_eq_right (by omega), List.take_of_length_le (by rw [List.length_map]; omega), List.take_of_length_le (by rw [List.length_map]; omega)]
theorem cutL_to' {β : Type} {z : β → PyData} {l : List β} {k : Nat} : cutD (.list (l.map z)) none (some (k : Int)) = some (.list ((l.take k).map z)) := by
  have e : some (PyData.tuple (cutL (l.map z) none (some (k : Int)))) = some (.tuple ((l.take k).map z)) := cutT_to (z := z) (l := l) (k := k)
  show some (PyData.list (cutL _ _ _)) = _
  injection e with e
  injection e with e
  rw [e]
theorem zip_map {β γ : Type} {z : β → PyData} {y : γ → PyData} : ∀ (a : List β) (b : List γ), pairUp (a.map z) (b.map y) = (a.zip b).map fun p => .tuple [z p.1, y p.2]
  | [], _ => by simp [pairUp]
  | _ :: _, [] => by simp [pairUp]
  | x :: a, w :: b => by
    show .tuple [z x, y w] :: pairUp (a.map z) (b.map y) = _
    rw [zip_map a b]
    rfl
end Ov
set_option Elab.async false
set_option linter.all false
set_option maxRecDepth 100000
set_option maxHeartbeats 4000000
namespace Ov
section
open PySem PySem.Spec PyProof.Rows L2
/-! sorted of pairs of numbers, whatever they stand in -/
def PrsV (K : PySem.W.Frag) (H : Hp) (xs : List V) (ps : List (Int × Int)) : Prop := xs.length = ps.length ∧ ∀ (i : Nat) (x : V) (p : Int × Int), xs[i]? = some x → ps[i]? = some p → ∃ t, x = .ref t ∧ TP H t [.int p.1, .int p.2]
end
open PySem L2
/-! the same over data -/
def prD (p : Int × Int) : PyData := .tuple [.int p.1, .int p.2]
section
variable {K : PySem.W.Frag} {E : XK}
theorem PrsV.same {H H' : Hp} (s : Same H H') {xs : List V} {ps : List (Int × Int)} (h : PrsV K H xs ps) : PrsV K H' xs ps :=
  ⟨h.1, fun i x p hx hp => by obtain ⟨t, e, q⟩ := h.2 i x p hx hp; exact ⟨t, e, q.same s⟩⟩
/-! [..] * n -/
def repX (w : Wv) (r : R) : Option PyData :=
  match w, r with
  | .own xs, .dat (.int k) => (itds xs).bind fun ds => if -(2 ^ 62) ≤ k ∧ k < 2 ^ 62 ∧ ds.length * k.toNat ≤ 1000000 then some (.list (List.replicate k.toNat ds).flatten) else none
  | _, _ => none
def repW (f : M Wv) (g : M R) : M R := M.bind f fun w => M.bind g fun r => M.bind (lift (repX w r)) fun d => M.pure (.dat d)
theorem okE_repW {ta tb : TE} {f : M Wv} {g : M R} (oa : OkW K E ta f) (ob : OkE K E tb g) : OkE K E (tOp rRep ta tb) (Ov.repW f g) := by
  refine ⟨?_⟩
  intro B σ H env l rs rp h Q post
  refine oa.seq rp h post.exn fun w1 e1 v1 H1 l1 h1 r1 f1 q1 nd1 fr1 => ?_
  have n1 : ∀ b ∈ l1, ¬ un B l b := fun b z => rp.fresh (fr1 b z)
  have ex1 : ∀ C f d, rs = .ex C f d → Exn K E (un B l1) H1 l C f d := fun C f d e => by
    have := (post.exn C f d e).later f1
    exact this.wide
  refine ob.seq r1 h1 ex1 fun r e2 v2 H2 h2 r2 f2 q2 => ?_
  obtain ⟨d, h3, h4⟩ := lift_step h2
  cases h4
  unfold repX at h3
  split at h3
  · rename_i xs k
    obtain ⟨ds, e3, e4⟩ := Option.bind_eq_some_iff.mp h3
    split at e4
    · rename_i hc
      cases e4
      have ex := itds_eq e3
      subst ex
      obtain ⟨p, vs, b, rfl, el, hp, rp1⟩ := q1
      obtain ⟨rfl, da⟩ := rp1s_dats rp1
      subst el
      have np : p ∉ l := fun z => n1 p (List.mem_cons_self ..) (.inr z)
      have hp2 : H2 p = some (.lst vs) := f2 p _ np hp
      have q2 : Da K (off (un (un B [p]) l) H2) v2 (.int k) := q2
      cases q2
      refine ⟨p, k, vs, rfl, rfl, hp2, by omega, by omega, ?_, fun p' hp' => ?_⟩
      · rw [daAll_len da]
        exact Nat.le_trans hc.2.2 (by decide)
      · have rb : Rep K B σ H2 e2 l := r2.less fun b z => .inl z
        refine post _ _ (rb.same (same_new hp' _)) ((f1.trans f2).trans (Fr.of (same_new hp' _))) ?_
        refine (new_dp rb.tl hp' (da_rep (DaAll.same ?_ _ da) _)).1
        exact off_mono (fun b z n => absurd (z.elim (fun z => .inl (.inl z)) .inr) n) fun b o n e => f2 b o (fun z => n (.inr z)) e
    · cases e4
  · cases h3
end
theorem repW_x {env e1 e2 : En} {f : M Wv} {g : M R} {ds : List PyData} {k : Int} (h1 : f env = some (.ok (.own (dats ds)) e1)) (h2 : g e1 = some (.ok (.dat (.int k)) e2)) (h3 : -(2 ^ 62) ≤ k ∧ k < 2 ^ 62 ∧ ds.length * k.toNat ≤ 1000000) : repW f g env = some (.ok (.dat (.list (List.replicate k.toNat ds).flatten)) e2) := by
  unfold repW
  rw [v_bind, h1, v_ok, v_bind, h2, v_ok, v_bind]
  show cont (lift ((itds (dats ds)).bind fun ds => if -(2 ^ 62) ≤ k ∧ k < 2 ^ 62 ∧ ds.length * k.toNat ≤ 1000000 then some (PyData.list (List.replicate k.toNat ds).flatten) else none) e2) _ = _
  rw [itds_dats]
  show cont (lift (if -(2 ^ 62) ≤ k ∧ k < 2 ^ 62 ∧ ds.length * k.toNat ≤ 1000000 then some (PyData.list (List.replicate k.toNat ds).flatten) else none) e2) _ = _
  rw [if_pos h3]
  rfl
end Ov
set_option Elab.async false
set_option linter.all false
set_option maxRecDepth 100000
set_option maxHeartbeats 4000000
set_option Elab.async false
set_option linter.all false
set_option maxRecDepth 100000
set_option maxHeartbeats 4000000
set_option Elab.async false
set_option linter.all false
set_option maxRecDepth 100000
set_option maxHeartbeats 4000000
namespace Ov
open PySem L2
/-! a def that may raise beside its reading in which nothing is raised -/
theorem FnG.imp {P : Program} {w : World} {K : PySem.W.Frag} {mg : Str → Option Value} {base : Heap} {k : Nat} {f : Addr} {fd : FuncData} {ps : List Str} {sp sp' : Sp} (F : FnG P w K mg base k f fd ps sp) (h : ∀ vs H Q E, sp' vs H Q E → sp vs H Q E) : FnG P w K mg base k f fd ps sp' :=
  ⟨fun q => F.count (h _ _ _ _ q), fun hg hr he hb hv hs => F.go hg hr he hb hv (h _ _ _ _ hs)⟩
/-! the one reading goes as far as the other -/
def Le {α : Type} (x y : M α) : Prop := ∀ env v, x env = some v → y env = some v
section
variable {α β : Type} {env e e1 e2 : En} {C : Addr} {fl : Str} {d : PyData}
theorem Le.refl (x : M α) : Le x x := fun _ _ h => h
/-! an error on its way -/
theorem bind_go {x : M α} {f : α → M β} {a : α} {v : Option (Rs β)} (h : x env = some (.ok a e)) (g : f a e = v) : M.bind x f env = v := by
  unfold M.bind
  rw [h]
  exact g
end
end Ov
set_option Elab.async false
set_option linter.all false
set_option maxRecDepth 100000
set_option maxHeartbeats 4000000
namespace Ov
open PySem L2
/-! what is shown, by its size -/
def FL (L dep : Nat) (d : PyData) : Prop := d.hasDict = false ∧ d.depth ≤ dep ∧ d.showable = true ∧ d.shown.length ≤ L
theorem FL.int {i : Int} (h : -(10 ^ 30) ≤ i ∧ i ≤ 10 ^ 30) : FL 2000 1 (.int i) := leaf_fits (m := 0) (by decide) (show -(10 ^ 30 + ((0 : Nat) : Int)) ≤ i ∧ i ≤ 10 ^ 30 + ((0 : Nat) : Int) from ⟨by omega, by omega⟩)
theorem FL.none : FL 2000 1 .none := leaf_fits (m := 0) (by decide) trivial
theorem FL.mono {L L' dep dep' : Nat} {d : PyData} (h : FL L dep d) (e : L ≤ L') (e' : dep ≤ dep') : FL L' dep' d := ⟨h.1, Nat.le_trans h.2.1 e', h.2.2.1, Nat.le_trans h.2.2.2 e⟩
theorem fl_all {L dep : Nat} : ∀ {ds : List PyData}, (∀ e ∈ ds, FL L dep e) → PyData.hasDictAll ds = false ∧ PyData.depthAll ds ≤ dep ∧ PyData.showableAll ds = true ∧ ((PyData.shownAll ds).map (·.length)).sum ≤ ds.length * L ∧ (PyData.shownAll ds).length = ds.length
  | [], _ => ⟨rfl, Nat.zero_le _, rfl, Nat.zero_le _, rfl⟩
  | d :: r, h => by
    obtain ⟨a1, a2, a3, a4⟩ := h d (List.mem_cons_self ..)
    obtain ⟨b1, b2, b3, b4, b5⟩ := fl_all (ds := r) fun e he => h e (List.mem_cons_of_mem _ he)
    refine ⟨?_, ?_, ?_, ?_, ?_⟩
    · show (PyData.hasDict d || PyData.hasDictAll r) = false
      rw [a1, b1]
      rfl
    · show max d.depth (PyData.depthAll r) ≤ dep
      omega
    · show (PyData.showable d && PyData.showableAll r) = true
      rw [a3, b3]
      rfl
    · show d.shown.length + ((PyData.shownAll r).map (·.length)).sum ≤ (r.length + 1) * L
      rw [Nat.succ_mul]
      omega
    · show (PyData.shownAll r).length + 1 = r.length + 1
      rw [b5]
theorem fl_seq {L dep m : Nat} {ds : List PyData} (h : ∀ e ∈ ds, FL L dep e) (hl : ds.length ≤ m) : FL (m * (L + 2) + 3) (dep + 1) (.list ds) ∧ FL (m * (L + 2) + 3) (dep + 1) (.tuple ds) := by
  obtain ⟨b1, b2, b3, b4, b5⟩ := fl_all h
  have w : ds.length * (L + 2) ≤ m * (L + 2) := Nat.mul_le_mul_right _ hl
  rw [Nat.mul_add] at w
  have fin : ∀ x : Nat, x ≤ ((PyData.shownAll ds).map (·.length)).sum + 2 * (PyData.shownAll ds).length + 3 → x ≤ m * (L + 2) + 3 := fun x hx => by omega
  exact ⟨⟨b1, by show PyData.depthAll ds + 1 ≤ _; omega, b3, fin _ (listText_len_le _)⟩, ⟨b1, by show PyData.depthAll ds + 1 ≤ _; omega, b3, fin _ (tupleText_len_le _)⟩⟩
theorem FL.canShow {L dep : Nat} {d : PyData} (f : FL L dep d) (hL : L ≤ 2 ^ 24) (hd : dep ≤ 60) : canShow d = true := by
  have z : d.shown.length ≤ sizeLine := Nat.le_trans f.2.2.2 hL
  unfold Ov.canShow
  rw [f.2.2.1, f.1, decide_eq_true (show d.depth ≤ 60 by have := f.2.1; omega), decide_eq_true z]
  rfl
theorem FL.repr {L dep : Nat} {d : PyData} (f : FL L dep d) (hL : L ≤ 2 ^ 24) (hd : dep ≤ 60) : reprD [d] = some (.str d.shown) := by
  show (chk (Ov.canShow d)).map _ = _
  rw [f.canShow hL hd]
  rfl
theorem FL.ints {l : List Int} (h : ∀ x ∈ l, -(10 ^ 30) ≤ x ∧ x ≤ 10 ^ 30) : ∀ e ∈ l.map PyData.int, FL 2000 1 e := fun e he => by
  obtain ⟨i, hi, rfl⟩ := List.mem_map.mp he
  exact .int (h i hi)
/-! which class an error is of -/
/-! loops that end in an error -/
end Ov
set_option Elab.async false
set_option linter.all false
set_option maxRecDepth 100000
set_option maxHeartbeats 4000000
set_option Elab.async false
set_option linter.all false
set_option maxRecDepth 100000
set_option maxHeartbeats 4000000
namespace Ov
open PySem L2
/-! lists of own lists -/
section
variable {K : PySem.W.Frag} {E : XK}
/-! own lists lent to a call that gives back something plain -/
theorem off_wide {B : Addr → Prop} {l : List Addr} {H : Hp} : Same (off (un B l) H) (off B H) := off_mono (fun b z n => absurd (.inl z) n) fun b o n e => e
/-! x[k].append(v) -/
theorem Rp1s.focus : ∀ {H G : Hp} {vs : List V} {xs : List It1} {l : List Addr} {k : Nat} {x : It1}, Rp1s K H G vs xs l → xs[k]? = some x → ∃ v a lx ly, vs[k]? = some v ∧ l = lx ++ (a ++ ly) ∧ Rp1 K H G v x a ∧
    ∀ {H' G' : Hp} {x' : It1} {a' : List Addr}, Same G G' → (∀ q ∈ lx, H' q = H q) → (∀ q ∈ ly, H' q = H q) → Rp1 K H' G' v x' a' → Rp1s K H' G' vs (xs.set k x') (lx ++ (a' ++ ly))
  | H, G, [], [], l, k, x, h, q => by simp at q
  | H, G, v :: vs, x :: xs, l, 0, _, ⟨a, b, z, h1, h2⟩, q => by
    cases q
    exact ⟨v, a, [], b, rfl, z, h1, fun {H' G' x' a'} sg kx ky h' => ⟨a', b, rfl, h', h2.mv sg ky⟩⟩
  | H, G, v :: vs, x :: xs, l, k + 1, x0, ⟨a, b, z, h1, h2⟩, q => by
    obtain ⟨v0, a0, lx, ly, q1, q2, q3, q4⟩ := Rp1s.focus (k := k) (x := x0) h2 q
    refine ⟨v0, a0, a ++ lx, ly, q1, by rw [z, q2, List.append_assoc], q3, fun {H' G' x' a'} sg kx ky h' => ?_⟩
    refine ⟨a, lx ++ (a' ++ ly), by rw [List.append_assoc], h1.mv sg fun q y => kx q (List.mem_append_left _ y), q4 sg (fun q y => kx q (List.mem_append_right _ y)) ky h'⟩
end
end Ov
set_option Elab.async false
set_option linter.all false
set_option maxRecDepth 100000
set_option maxHeartbeats 4000000
namespace Ov
open PySem L2
/-! data without lists -/
section
variable {K : PySem.W.Frag} {E : XK} {S : Addr → Prop} {H : Hp}
/-- what a slot holds, an own list too -/
def vslot (env : En) (i : Nat) : Option PyData := match env[i]? with
  | some (some (.dat d)) => some d
  | some (some (.own xs)) => some (.list (xs.map itD))
  | _ => none
theorem vslot_da {B : Addr → Prop} {σ : St} {env : En} {l : List Addr} {i : Nat} {d : PyData} (r1 : Rep K B σ H env l) (e : vslot env i = some d) : ∃ v, σ[i]? = some (some v) ∧ Da K (off B H) v d := by
  unfold vslot at e
  split at e
  · rename_i d' hx
    cases e
    obtain ⟨s, a, lx, ly, q1, q2, ⟨v', rfl, q3, q4⟩, _⟩ := r1.rp.focus hx
    exact ⟨v', q1, Da.same off_wide _ q4⟩
  · rename_i xs hx
    cases e
    obtain ⟨s, a, lx, ly, q1, q2, ⟨v', rfl, p, vs, b, rfl, rfl, q6, q7⟩, _⟩ := r1.rp.focus hx
    have nB : ∀ c ∈ p :: b, ¬ B c := fun c z => r1.out c (by rw [q2]; exact List.mem_append_right _ (List.mem_append_left _ z))
    exact ⟨_, q1, .lst (SqL.of ((off_ne (nB p (List.mem_cons_self ..))).trans q6)) (rp1s_free off_wide (fun c z us h => (off_ne (nB c (List.mem_cons_of_mem _ z))).trans h) q7)⟩
  · cases e
def vsM (i : Nat) : M PyData := fun env => (vslot env i).map fun d => .ok d env
theorem vsM_step {α : Type} {i : Nat} {g : PyData → M α} {env : En} {z : Rs α} (h : (M.bind (vsM i) g) env = some z) : ∃ d, vslot env i = some d ∧ g d env = some z := by
  rcases bind_some h with ⟨a, e, h1, h2⟩ | ⟨C, f, d, h1, h2⟩
  · obtain ⟨ds, e1, e2⟩ := Option.map_eq_some_iff.mp (show (vslot env i).map (fun d => Rs.ok d env) = _ from h1)
    cases e2
    exact ⟨_, e1, h2⟩
  · obtain ⟨ds, e1, e2⟩ := Option.map_eq_some_iff.mp (show (vslot env i).map (fun d => Rs.ok d env) = _ from h1)
    cases e2
end
section
variable {env e : En}
theorem vsM_x {i : Nat} {d : PyData} (h : vslot env i = some d) : vsM i env = some (.ok d env) := by unfold vsM; rw [h]; rfl
end
end Ov
set_option Elab.async false
set_option linter.all false
set_option maxRecDepth 100000
set_option maxHeartbeats 4000000
namespace Ov
open PySem L2
/-! a, b = a tuple or a list -/
def gUnE (K : PySem.W.Frag) (n : Nat) (t : TGs) : TG := fun v σ H Q => gTup K n t v σ H Q ∨ gUnl K n t v σ H Q
theorem pg_unE {X : Cx} {pos : Pos} {es : List Expr} {k : Nat} {t : TGs} {n : Nat} (hc : X.calm = true) (h : PGs X es t)
    (hn : (assignEach es X.env).length = n := by rfl) (hst : (assignEach es X.env).findIdx? (·.1) = none := by rfl) : PG X (.Tuple es k pos) (gUnE X.K n t) :=
  ⟨fun pins s σ H v u Q I r hw => hw.elim ((pg_tup hc h hn hst).run pins s σ H v u Q I r) ((pg_unl hc h hn hst).run pins s σ H v u Q I r)⟩
section
variable {K : PySem.W.Frag}
def gTL (q : List PyData → En → Option En) (d : PyData) (env : En) : Option En :=
  match d with
  | .tuple ds => q ds env
  | .list ds => q ds env
  | _ => none
theorem OkG.tupL {gs : TGs} {js : List Nat} {n : Nat} {q : List PyData → En → Option En} (os : OkGs K gs js n q) : OkG K (gUnE K n gs) js (gTL q) := by
  refine ⟨?_, ?_⟩
  · intro B σ H env env' l v d r h e Q k
    cases d with
    | tuple ds =>
      cases h with
      | tup hq ha =>
        exact .inl ⟨_, _, rfl, seqP (off_sub _ _) hq, (daAll_len ha).trans (os.len (show q ds env = some env' from e)), os.run r ha e k⟩
    | list ds =>
      cases h with
      | lst hq ha =>
        exact .inr ⟨_, _, rfl, rd_same (off_sub _ _) hq, (daAll_len ha).trans (os.len (show q ds env = some env' from e)), os.run r ha e k⟩
    | none => cases e
    | bool _ => cases e
    | int _ => cases e
    | str _ => cases e
    | dict _ => cases e
  · intro d env env' e
    cases d with
    | tuple ds => exact os.keep (show q ds env = some env' from e)
    | list ds => exact os.keep (show q ds env = some env' from e)
    | none => cases e
    | bool _ => cases e
    | int _ => cases e
    | str _ => cases e
    | dict _ => cases e
end
end Ov
namespace Ov
open PySem L2
theorem putIx_x {env e : En} {i j : Nat} {d : PyData} {f : M R} {L : List PyData} {k : Int} (h1 : f env = some (.ok (.dat (.int k)) e)) (h2 : e[i]? = some (some (.own (dats L)))) (h0 : ∃ L0, env[i]? = some (some (.own (dats L0)))) (hk : ixN L.length k = some j) : putIx i d f env = some (.ok () (e.set i (some (.own (dats (L.set j d)))))) := by
  obtain ⟨L0, h0⟩ := h0
  unfold putIx
  refine bind_go (a := L0) (e := env) (by unfold ownD; rw [h0]; simp only [itds_dats]; rfl) (bind_go h1 (bind_go (a := k) (e := e) rfl (bind_go (a := L) (e := e) (by unfold ownD; rw [h2]; simp only [itds_dats]; rfl) (bind_go (a := j) (e := e) (by rw [hk]; rfl) rfl))))
theorem sw_x {env e e2 e3 : En} {i j1 j2 : Nat} {x y : PyData} {fe f1 f2 : M R} {L : List PyData} {k1 k2 : Int} (h : fe env = some (.ok (.dat (.tuple [x, y])) e)) (g1 : f1 e = some (.ok (.dat (.int k1)) e)) (o1 : e[i]? = some (some (.own (dats L)))) (n1 : ixN L.length k1 = some j1) (g2 : f2 (e.set i (some (.own (dats (L.set j1 x))))) = some (.ok (.dat (.int k2)) (e.set i (some (.own (dats (L.set j1 x))))))) (n2 : ixN (L.set j1 x).length k2 = some j2) :
    swS i fe f1 f2 env = some (.ok .nx (e.set i (some (.own (dats ((L.set j1 x).set j2 y)))))) := by
  have hi : i < e.length := by
    by_cases z : i < e.length
    · exact z
    · rw [List.getElem?_eq_none (by omega)] at o1; cases o1
  have o2 : (e.set i (some (.own (dats (L.set j1 x)))))[i]? = some (some (.own (dats (L.set j1 x)))) := by rw [List.getElem?_set_self hi]
  unfold swS
  refine bind_go h (bind_go (a := (x, y)) (e := e) rfl (bind_go (putIx_x g1 o1 ⟨L, o1⟩ n1) (bind_go (putIx_x g2 o2 ⟨_, o2⟩ n2) ?_)))
  rw [List.set_set]
  rfl
end Ov
set_option Elab.async false
set_option linter.all false
set_option maxRecDepth 100000
set_option maxHeartbeats 4000000
namespace Ov
open PySem L2
theorem sw_y {env e : En} {i j1 j2 : Nat} {x y : PyData} {fe f1 f2 : M R} {L : List PyData} {k1 k2 : Int} (h : fe env = some (.ok (.dat (.tuple [x, y])) e)) (g1 : f1 e = some (.ok (.dat (.int k1)) e)) (o1 : e[i]? = some (some (.own (dats L)))) (n1 : ixN L.length k1 = some j1) (g2 : f2 (e.set i (some (.own (dats (L.set j1 x))))) = some (.ok (.dat (.int k2)) (e.set i (some (.own (dats (L.set j1 x))))))) (n2 : ixN (L.set j1 x).length k2 = some j2) :
    swS i fe f1 f2 env = some (.ok .nx (e.set i (some (.own (dats ((L.set j1 x).set j2 y)))))) := sw_x (e2 := []) (e3 := []) h g1 o1 n1 g2 n2
end Ov
set_option Elab.async false
set_option linter.all false
set_option maxRecDepth 100000
set_option maxHeartbeats 4000000
namespace Ov
open PySem L2
section
variable {K : PySem.W.Frag} {E : XK} {bx : Bool}
theorem OkWat.seq {α : Type} {σ : St} {ta : TE} {fa : M Wv} {g : Wv → M α} (oa : OkWat K E σ ta fa) {B : Addr → Prop} {H : Hp} {env : En} {l : List Addr} {rs : Rs α} (r : Rep K B σ H env l) (h : (M.bind fa g) env = some rs) {Q : VK}
    (hx : ∀ C f d, rs = .ex C f d → Exn K E B H l C f d) (hq : ∀ a e v H' lw, g a e = some rs → Rep K (un B lw) σ H' e l → Fr l H H' → RpW K H' (off (un (un B lw) l) H') v a lw → lw.Nodup → (∀ b ∈ lw, H b = none) → Q v H') : ta σ H Q := by
  rcases bind_some h with ⟨a, e, h1, h2⟩ | ⟨C, f, d, h1, h2⟩
  · exact oa.run r h1 (fun v H' lw r' fr q n1 n2 => hq a e v H' lw h2 r' fr q n1 n2)
  · exact oa.run r h1 (hx C f d h2)
end
end Ov
set_option Elab.async false
set_option linter.all false
set_option maxRecDepth 100000
set_option maxHeartbeats 4000000
set_option Elab.async false
set_option linter.all false
set_option maxRecDepth 100000
set_option maxHeartbeats 4000000
namespace Ov
open PySem L2
/-! x.append(y); y = f(y, c): y is an own list, x a list of own lists. y goes into x, and f is lent it -/
section
variable {K : PySem.W.Frag} {E : XK} {bx : Bool}
theorem OkS.cut2 {t1 t2 u : TS} {f g : M Fl} (o : OkS K E bx (Evl.tCut t1 t2) f) (o' : OkS K E bx u g) : OkS K E bx (Evl.tCut t1 (Evl.tCut t2 u)) (thenS f g) := by
  refine ⟨?_⟩
  intro B σ H env l rs rp h D post
  obtain ⟨P2, ⟨P1, h1, h12⟩, h2⟩ := (OkS.cut o o').run rp h post
  exact ⟨P1, h1, fun σ' H' p => ⟨P2, h12 σ' H' p, h2⟩⟩
end
/-! f(..)[k], f gives back a list of own lists: one of them, now by itself -/
end Ov
set_option Elab.async false
set_option linter.all false
set_option maxRecDepth 100000
set_option maxHeartbeats 4000000
namespace Ov
open PySem L2 PySem.Spec PyProof.Rows
/-! dict(zip(a, b)), each of them a list or a tuple -/
theorem SeB.ob {t : Bool} {h : Heap} {l : Addr} {its : Array Value} (x : SeB t h l its) : ∃ o, h.get? l = some o := by
  cases t with
  | true => obtain ⟨o, e, _⟩ := x; exact ⟨o, e⟩
  | false => obtain ⟨o, e, _⟩ := x; exact ⟨o, e⟩
theorem SeB.up {t : Bool} {h h' : Heap} {l : Addr} {its : Array Value} (x : SeB t h l its) (f : ∀ o, h.get? l = some o → h'.get? l = some o) : SeB t h' l its := by
  cases t with
  | true => obtain ⟨o, e, r⟩ := x; exact ⟨o, f _ e, r⟩
  | false => obtain ⟨o, e, r⟩ := x; exact ⟨o, f _ e, r⟩
/-! as data -/
end Ov
set_option Elab.async false
set_option linter.all false
set_option maxRecDepth 100000
set_option maxHeartbeats 4000000
set_option Elab.async false
set_option linter.all false
set_option maxRecDepth 100000
set_option maxHeartbeats 4000000
set_option Elab.async false
set_option linter.all false
set_option maxRecDepth 100000
set_option maxHeartbeats 4000000
namespace Ov
section
open PySem PySem.Spec PySem.Calls PyProof.Rows L2
/-! sorted of tuples of numbers: all of them with items, or all without -/
section
variable {prog : Program} {w : World} {A : Around} {E : Value → Shared → Prop} {s : Shared} {Q : Bool → Shared → Prop} {b : Bool}
theorem lex_any : ∀ {xs ys : List Value} {ns ms : List Int} (i : Nat), IntsAre xs ns → IntsAre ys ms → ∀ {fin : Bool}, fin = decide (ns.length < ms.length) → Q (HT.lexLt ns ms) s → PySem.W.KatLex prog w A b fin Q (xs.zip ys) i s
  | _, _, _, _, i, .nil, .nil, fin, hf, h => by
    rw [HT.lexLt_nil_nil] at h
    rw [hf]
    exact PySem.W.kat_nil h
  | _, _, _, _, i, .nil, .cons c u hy, fin, hf, h => by
    rw [HT.lexLt_nil_cons] at h
    have : fin = true := by rw [hf]; exact decide_eq_true (by simp)
    rw [this]
    exact PySem.W.kat_nil h
  | _, _, _, _, i, .cons a t hx, .nil, fin, hf, h => by
    rw [HT.lexLt_cons_nil] at h
    have : fin = false := by rw [hf]; exact decide_eq_false (by simp)
    rw [this]
    exact PySem.W.kat_nil h
  | _, _, _, _, i, @IntsAre.cons p t xs ns hx, @IntsAre.cons q u ys ms hy, fin, hf, h => by
    show PySem.W.KatLex prog w A b fin Q ((Value.int p t, Value.int q u) :: xs.zip ys) i s
    rw [HT.lexLt_cons] at h
    refine PySem.W.kat_cons (wpAny_eqBool_int ?_)
    by_cases e : p = q
    · subst e
      rw [beq_self_eq_true]
      rw [if_pos rfl] at h
      exact PySem.W.kat_yes (lex_any (i + 1) hx hy (by rw [hf, List.length_cons, List.length_cons]; exact decide_eq_decide.mpr (by omega)) h)
    · have e' : (p == q) = false := by simpa using e
      rw [if_neg e] at h
      rw [e']
      exact PySem.W.kat_no (TS.oneLt_ints _ h)
theorem tups_cmp1 {vs : List Value} {k : Value → List Int} (hp : ∀ v ∈ vs, TS.TupInts s.heap v (k v)) : SrtO.Cmp prog w A s (tuples' true) (fun p => p.1 ∈ vs) (SrtO.lt2 fun v u => HT.lexLt (k v) (k u)) := by
  intro p q hm hm'
  have h1 := hp _ hm
  have h2 := hp _ hm'
  show wpAny (model prog w) A (keyLt' (tuples' true) p.1 q.1) (fun r s' => s' = s ∧ r = HT.lexLt (k p.1) (k q.1)) (fun _ _ => False) s
  generalize k p.1 = ns at h1 ⊢
  generalize k q.1 = ms at h2 ⊢
  obtain ⟨a, xs, e, ⟨o, ho, hc, n, hd⟩, i⟩ := h1
  obtain ⟨a', ys, e', ⟨o', ho', hc', n', hd'⟩, i'⟩ := h2
  rw [e, e']
  refine PySem.W.kat_lt ho hd ho' hd' (lex_any 0 i i' ?_ ⟨rfl, rfl⟩)
  have l1 := i.length
  have l2 := i'.length
  rw [Array.length_toList] at l1 l2
  rw [l1, l2]
theorem call_ltT {a c : Addr} {xs ys : Array Value} {ns ms : List Int} {P : Value → Shared → Prop} {E : Value → Shared → Prop} (ha : IsTup s.heap a xs) (hb : IsTup s.heap c ys) (ia : IntsAre xs.toList ns) (ib : IntsAre ys.toList ms) (h : P (.bool (HT.lexLt ns ms)) s) :
    wpAny (model prog w) A (call (.builtin "tuple.__lt__") [.ref a, .ref c]) P E s := by
  obtain ⟨⟨cls, dd, data, sl⟩, ho, hc, n, hd⟩ := id ha
  obtain ⟨⟨cls2, dd2, data2, sl2⟩, ho2, hc2, n2, hd2⟩ := id hb
  simp only at hc hd hc2 hd2
  subst hc hd hc2 hd2
  refine wpAny_call (codeAny_call_builtin PySem.F.slot_tuple_lt.plain PySem.F.entry_tuple_lt (PySem.F.slot_tuple_lt.check _ _ _ _ _ _ _ _ ⟨_, ho, rfl⟩ (PySem.F.args_tuple_lt_2 _ _) (wpAny_mono (HT.tuple_lt_ints a c xs ys n n2 dd dd2 sl sl2 ns ms ia ib prog w _ (wants P E) s ⟨ho, ho2, h⟩) (fun fin s' q => ?_) fun _ _ z => z)))
  cases fin with
  | done f => exact q
  | again c => exact q
theorem tups_cmp0 {vs : List Value} {k : Value → List Int} (hu : A.units < cLine) (hp : ∀ v ∈ vs, TS.TupInts s.heap v (k v)) : SrtO.Cmp prog w A s oneType' (fun p => p.1 ∈ vs) (SrtO.lt2 fun v u => HT.lexLt (k v) (k u)) := by
  intro p q hm hm'
  have h1 := hp _ hm
  have h2 := hp _ hm'
  show wpAny (model prog w) A (keyLt' oneType' p.1 q.1) (fun r s' => s' = s ∧ r = HT.lexLt (k p.1) (k q.1)) (fun _ _ => False) s
  generalize k p.1 = ns at h1 ⊢
  generalize k q.1 = ms at h2 ⊢
  obtain ⟨a, xs, e, ha, i⟩ := h1
  obtain ⟨a', ys, e', hb, i'⟩ := h2
  rw [e, e', keyLt'_oneType, oneLt'_eq]
  simp only [if_true]
  refine wpAny_bind (wpAny_cRoomFor hu ?_)
  obtain ⟨o, ho, hc, n, hd⟩ := id ha
  refine wpAny_bind (wpAny_callSpecialIfBound?_slot ⟨_, ho, hc⟩ PySem.F.slot_tuple_lt (call_ltT ha hb i i' ?_))
  exact wpAny_truthy_bool ⟨rfl, rfl⟩
theorem firsts_any {h : Heap} {k : Value → List Int} : ∀ vs : List Value, (∀ v ∈ vs, TS.TupInts h v (k v) ∧ k v ≠ []) → ∃ fs, PySem.W.KatTups h vs fs ∧ fs.length = vs.length ∧ ∀ f, f ∈ fs → ∃ n t, f = Value.int n t
  | [], _ => ⟨[], PySem.W.KatTups.nil, rfl, fun f hf => by simp at hf⟩
  | v :: vs, x => by
    obtain ⟨fs, g, hl, hi⟩ := firsts_any vs fun u hu => x u (List.mem_cons_of_mem _ hu)
    obtain ⟨⟨a, xs, rfl, ⟨o, ho, hc, n, hdt⟩, i⟩, hn⟩ := x v (List.mem_cons_self ..)
    obtain ⟨y, ys, e⟩ : ∃ y ys, xs.toList = y :: ys := by
      cases q : xs.toList with
      | nil =>
        rw [q] at i
        have l := i.length
        rw [List.length_nil] at l
        exact absurd (List.length_eq_zero_iff.mp l.symm) hn
      | cons y ys => exact ⟨y, ys, rfl⟩
    obtain ⟨m, t, hy⟩ := i.all y (by rw [e]; exact List.mem_cons_self ..)
    refine ⟨y :: fs, PySem.W.KatTups.cons ho hc hdt ?_ g, by simp [hl], ?_⟩
    · have z := congrArg (fun l : List Value => l[0]?) e
      simpa using z
    · intro f hf
      rcases List.mem_cons.mp hf with rfl | hf
      · exact ⟨m, t, hy⟩
      · exact hi f hf
theorem keep_tup {h h' : Heap} {a : Addr} {v : Value} {ns : List Int} (ha : ∀ o, h.get? a = some o → o.cls ≠ .type "tuple") (keep : ∀ b o, b ≠ a → h.get? b = some o → h'.get? b = some o) (x : TS.TupInts h v ns) : TS.TupInts h' v ns :=
  x.keeps fun b o e c => keep b o (fun z => by subst z; exact ha o e c) e
theorem tups_sort1 {a : Addr} {vs : List Value} {k : Value → List Int} (h0 : 0 < vs.length) (hp : ∀ v ∈ vs, TS.TupInts s.heap v (k v) ∧ k v ≠ []) (ha : ∀ o, s.heap.get? a = some o → o.cls ≠ .type "tuple") :
    SrtO.SortableO prog w A s a vs fun v u => HT.lexLt (k v) (k u) := by
  intro h' keep
  have hp' : ∀ v ∈ vs, TS.TupInts h' v (k v) ∧ k v ≠ [] := fun v hm => ⟨keep_tup ha keep (hp v hm).1, (hp v hm).2⟩
  obtain ⟨fs, h1, h2, h3⟩ := firsts_any vs hp'
  refine ⟨tuples' true, fun Q E hq => ?_, tups_cmp1 (s := { s with heap := h' }) fun v hm => (hp' v hm).1⟩
  refine PySem.W.kat_kind (T := .type "int") h1 (by omega) (fun f hm => ?_) (by rfl) ?_
  · obtain ⟨x, t, rfl⟩ := h3 f hm
    exact PySem.W.Looks.now
  · have e : (Value.type "int" != Value.type "tuple") = true := by first | decide +kernel | rfl | decide
    rw [e]
    exact hq
theorem kind0 {M : Model} {vs : List Value} {Q : SortKind → Shared → Prop} (h2 : 2 ≤ vs.length) (hp : ∀ v ∈ vs, TS.TupInts s.heap v []) (h : Q oneType' s) : wpAny M A (keyKind' vs.toArray) Q E s := by
  have hT : ∀ v ∈ vs, PySem.W.Looks M s.heap (typeOf v) (Value.type "tuple") := fun v hv => by
    obtain ⟨a, xs, rfl, ⟨o, ho, hc, n, hdt⟩, i⟩ := hp v hv
    have : PySem.W.Looks M s.heap (typeOf (.ref a)) o.cls := (PySem.W.Looks.ld ho).andThen .now
    rwa [hc] at this
  obtain ⟨v₁, v₂, rest, rfl⟩ : ∃ v₁ v₂ rest, vs = v₁ :: v₂ :: rest := by
    match vs, h2 with
    | [], h2 => simp at h2
    | [_], h2 => simp at h2
    | v₁ :: v₂ :: rest, _ => exact ⟨v₁, v₂, rest, rfl⟩
  have hT2 : (Value.type "tuple" == Value.type "tuple") = true := by first | rfl | decide +kernel
  have hT1 : ¬ (Value.type "tuple" != Value.type "tuple") = true := by first | decide +kernel | decide
  rw [keyKind'_eq, List.mapM_toArray, map_eq_pure_bind]
  refine wpAny_bind (wpAny_bind (PySem.W.kas_mapM (r := none) _ (fun v hv Q' hq => ?_) (wpAny_pure ?_)))
  · rw [PySem.W.kas_first_eq]
    refine wpAny_bind ((hT v hv).here ?_)
    rw [if_neg hT1]
    obtain ⟨a, xs, rfl, ⟨o, ho, hc, n, hdt⟩, i⟩ := hp v hv
    refine wpAny_bind (listItems_at ho hdt (wpAny_pure ?_))
    have l : xs.size = 0 := by
      have := i.length
      rw [Array.length_toList] at this
      exact this
    have : xs[0]? = none := Array.getElem?_eq_none (by omega)
    rw [this]
    exact hq
  · rw [if_neg (by simp), if_neg (by simp)]
    rw [oneTypeOnly'_eq, List.mapM_toArray, map_eq_pure_bind]
    refine wpAny_bind (wpAny_bind (wpAny_bind (PySem.W.kas_mapM (r := Value.type "tuple") _ (fun v hv Q' hq => (hT v hv).here hq) (wpAny_pure ?_))))
    have hall : ((List.map (fun _ => Value.type "tuple") (v₁ :: v₂ :: rest)).toArray.all fun x => x == Value.type "tuple") = true := by
      simp only [List.all_toArray, List.all_map, List.all_eq_true]
      intro _ _
      exact hT2
    have h0 : (List.map (fun _ => Value.type "tuple") (v₁ :: v₂ :: rest)).toArray[0]? = some (Value.type "tuple") := by simp
    rw [h0]
    simp only [hall, if_true]
    exact wpAny_pure (wpAny_pure h)
theorem tups_sort0 {a : Addr} {vs : List Value} {k : Value → List Int} (hu : A.units < cLine) (h2 : 2 ≤ vs.length) (hp : ∀ v ∈ vs, TS.TupInts s.heap v (k v) ∧ k v = []) (ha : ∀ o, s.heap.get? a = some o → o.cls ≠ .type "tuple") :
    SrtO.SortableO prog w A s a vs fun v u => HT.lexLt (k v) (k u) := by
  intro h' keep
  have hp' : ∀ v ∈ vs, TS.TupInts h' v (k v) := fun v hm => keep_tup ha keep (hp v hm).1
  exact ⟨oneType', fun Q E hq => kind0 (s := { s with heap := h' }) h2 (fun v hm => by have := hp' v hm; rwa [(hp v hm).2] at this) hq, tups_cmp0 (s := { s with heap := h' }) hu hp'⟩
end
/-- sorted(xs), xs a list of tuples of numbers -/
def NsV (K : PySem.W.Frag) (H : Hp) (xs : List V) (nss : List (List Int)) : Prop := xs.length = nss.length ∧ ∀ (i : Nat) (x : V) (ns : List Int), xs[i]? = some x → nss[i]? = some ns → ∃ t, x = .ref t ∧ TP H t (ns.map V.int)
end
open PySem L2
/-! the same over data -/
def inL : List PyData → Option (List Int)
  | [] => some []
  | .int i :: r => (inL r).map (i :: ·)
  | _ :: _ => none
theorem inL_map : ∀ ns : List Int, inL (ns.map .int) = some ns
  | [] => rfl
  | n :: r => by show (inL (r.map .int)).map (n :: ·) = _; rw [inL_map r]; rfl
theorem inL_some : ∀ {ds : List PyData} {ns : List Int}, inL ds = some ns → ds = ns.map .int
  | [], ns, h => by cases h; rfl
  | d :: r, ns, h => by
    unfold inL at h
    split at h
    · rename_i heq; cases heq
    · rename_i i r' heq
      cases heq
      obtain ⟨z, h1, h2⟩ := Option.map_eq_some_iff.mp h
      subst h2
      rw [List.map_cons, ← inL_some h1]
    · cases h
def nssD : List PyData → Option (List (List Int))
  | [] => some []
  | .tuple ds :: r => (inL ds).bind fun ns => (nssD r).map (ns :: ·)
  | _ :: _ => none
def tnD (ns : List Int) : PyData := .tuple (ns.map .int)
theorem nssD_map : ∀ nss : List (List Int), nssD (nss.map tnD) = some nss
  | [] => rfl
  | ns :: r => by
    show (inL (ns.map .int)).bind (fun ns => (nssD (r.map tnD)).map (ns :: ·)) = _
    rw [inL_map, nssD_map r]
    rfl
theorem nssD_some : ∀ {ds : List PyData} {nss : List (List Int)}, nssD ds = some nss → ds = nss.map tnD
  | [], nss, h => by cases h; rfl
  | d :: r, nss, h => by
    unfold nssD at h
    split at h
    · rename_i heq; cases heq
    · rename_i ds r' heq
      cases heq
      obtain ⟨ns, h1, h2⟩ := Option.bind_eq_some_iff.mp h
      obtain ⟨z, h3, h4⟩ := Option.map_eq_some_iff.mp h2
      subst h4
      rw [List.map_cons, ← nssD_some h3, inL_some h1]
      rfl
    · cases h
def leLb (a b : List Int) : Bool := !HT.lexLt b a
def sortL (nss : List (List Int)) : List (List Int) := nss.mergeSort leLb
theorem sortL_perm (nss : List (List Int)) : (sortL nss).Perm nss := List.mergeSort_perm ..
theorem lex_tot : ∀ a b : List Int, HT.lexLt a b = false → HT.lexLt b a = false → a = b
  | [], [], _, _ => rfl
  | [], y :: b, h, _ => by rw [HT.lexLt_nil_cons] at h; cases h
  | x :: a, [], _, h => by rw [HT.lexLt_nil_cons] at h; cases h
  | x :: a, y :: b, h1, h2 => by
    rw [HT.lexLt_cons] at h1 h2
    by_cases e : x = y
    · rw [if_pos e] at h1
      rw [if_pos e.symm] at h2
      rw [e, lex_tot a b h1 h2]
    · rw [if_neg e] at h1
      rw [if_neg (Ne.symm e)] at h2
      have := of_decide_eq_false h1
      have := of_decide_eq_false h2
      omega
theorem sortL_pw (nss : List (List Int)) : (sortL nss).Pairwise fun a b => HT.lexLt b a = false := by
  have := List.pairwise_mergeSort (le := leLb) (fun a b c h1 h2 => by
    unfold leLb at *
    have h1' : HT.lexLt b a = false := by simpa using h1
    have h2' : HT.lexLt c b = false := by simpa using h2
    simpa using NtL.lex_tr a b c h1' h2') (fun a b => by
    unfold leLb
    rcases hq : HT.lexLt b a with _ | _
    · rfl
    · have := NtL.lex_asym _ _ hq
      rw [this]
      rfl) nss
  exact this.imp fun h => by unfold leLb at h; simpa using h
theorem sortL_uniq {a b : List (List Int)} (p : a.Perm b) (ha : a.Pairwise fun a b => HT.lexLt b a = false) (hb : b.Pairwise fun a b => HT.lexLt b a = false) : a = b := p.eq_of_pairwise (fun x y _ _ h1 h2 => lex_tot x y h2 h1) ha hb
def alike (nss : List (List Int)) : Bool := nss.all (fun ns => !ns.isEmpty) || nss.all fun ns => ns.isEmpty
theorem alike_or {nss : List (List Int)} (h : alike nss = true) : (∀ ns ∈ nss, ns ≠ []) ∨ ∀ ns ∈ nss, ns = [] := by
  unfold alike at h
  rcases (Bool.or_eq_true _ _).mp h with h | h
  · exact .inl fun ns hn z => by
      have := List.all_eq_true.mp h ns hn
      rw [z] at this
      cases this
  · exact .inr fun ns hn => List.isEmpty_iff.mp (List.all_eq_true.mp h ns hn)
section
variable {K : PySem.W.Frag} {E : XK}
theorem da_nums : ∀ {H : Hp} {xs : List V} {ns : List Int}, DaAll K H xs (ns.map .int) → xs = ns.map V.int
  | H, _, [], .nil => rfl
  | H, _, n :: ns, .cons h t => by
    cases h
    rw [List.map_cons, ← da_nums t]
theorem nums_da {H : Hp} : ∀ ns : List Int, DaAll K H (ns.map V.int) (ns.map .int)
  | [] => .nil
  | n :: ns => .cons (.int _) (nums_da ns)
theorem nsV_da {H : Hp} : ∀ {xs : List V} {nss : List (List Int)}, NsV K H xs nss → DaAll K H xs (nss.map tnD)
  | [], [], _ => .nil
  | [], _ :: _, h => by have := h.1; simp at this
  | _ :: _, [], h => by have := h.1; simp at this
  | x :: xs, p :: ps, h => by
    obtain ⟨t, rfl, q⟩ := h.2 0 x p rfl rfl
    exact .cons (.tup q (nums_da p)) (nsV_da ⟨by have := h.1; simpa using this, fun i y z hy hz => h.2 (i + 1) y z (by simpa using hy) (by simpa using hz)⟩)
theorem NsV.same {H H' : Hp} (s : Same H H') {xs : List V} {nss : List (List Int)} (h : NsV K H xs nss) : NsV K H' xs nss :=
  ⟨h.1, fun i x p hx hp => by obtain ⟨t, e, q⟩ := h.2 i x p hx hp; exact ⟨t, e, q.same s⟩⟩
end
end Ov
set_option Elab.async false
set_option linter.all false
set_option maxRecDepth 100000
set_option maxHeartbeats 4000000
namespace Ov
section
open PySem PySem.Spec L2
variable {K : PySem.W.Frag} {E : XK}
/-! list(range(n)) that a slot owns -/
def lrW (fa : M R) : M Wv := M.bind fa fun a => M.bind (lift (asI a)) fun j => M.bind (lift (chk (decide (-(2 ^ 62) ≤ j ∧ j < 2 ^ 62 ∧ (j - 0).toNat ≤ 1000000)))) fun _ => M.pure (.own (dats ((rngL 0 j).map .int)))
theorem OkW.lstRg1 {ta : TE} {fa : M R} (oa : OkE K E ta fa) : OkW K E (tLstRg (tRg1 ta)) (lrW fa) := by
  refine ⟨?_⟩
  intro B σ H env l rs rp h Q post
  refine oa.seq rp h post.exn fun a e v1 H1 h1 r1 f1 q1 => ?_
  obtain ⟨j, h3, h4⟩ := lift_step h1
  rw [asI_some h3] at q1
  cases q1
  obtain ⟨u, h7, h8⟩ := lift_step h4
  cases h8
  have hc := of_decide_eq_true (chk_ok h7)
  refine ⟨j, rfl, ⟨by decide, by decide, hc.1, hc.2.1, Nat.le_trans hc.2.2 (by decide)⟩, fun p hp => ?_⟩
  rw [rgV_eq]
  obtain ⟨n1, n2⟩ := new_own r1 hp (da_ints (rngL 0 j))
  exact post _ _ [p] n1 (f1.trans (Fr.of (same_new hp _))) n2 (List.nodup_cons.mpr ⟨by simp, List.nodup_nil⟩) (fresh_back r1 f1 hp)
/-! x.pop() -/
/-! max and min of a list of numbers -/
/-! range(i, j, -1) -/
end
end Ov
set_option Elab.async false
set_option linter.all false
set_option maxRecDepth 100000
set_option maxHeartbeats 4000000
namespace Ov
section
open PySem PySem.Spec L2
/-! sorted(set(xs)), xs pairs of small numbers -/
def ltQ (p q : Int × Int) : Prop := p.1 < q.1 ∨ (p.1 = q.1 ∧ p.2 < q.2)
instance (p q : Int × Int) : Decidable (ltQ p q) := inferInstanceAs (Decidable (_ ∨ _))
def insU (p : Int × Int) : List (Int × Int) → List (Int × Int)
  | [] => [p]
  | q :: r => if ltQ p q then p :: q :: r else if p = q then q :: r else q :: insU p r
def ssP (ps : List (Int × Int)) : List (Int × Int) := ps.foldr insU []
theorem insU_mem {p x : Int × Int} : ∀ {l : List (Int × Int)}, x ∈ insU p l ↔ x = p ∨ x ∈ l
  | [] => by simp [insU]
  | q :: r => by
    unfold insU
    split
    · simp
    · split
      · rename_i h
        subst h
        simp
      · rw [List.mem_cons, insU_mem (l := r), List.mem_cons]
        exact ⟨fun z => z.elim (fun z => .inr (.inl z)) fun z => z.elim .inl fun z => .inr (.inr z), fun z => z.elim (fun z => .inr (.inl z)) fun z => z.elim .inl fun z => .inr (.inr z)⟩
theorem ltQ_tr {a b c : Int × Int} (h1 : ltQ a b) (h2 : ltQ b c) : ltQ a c := by unfold ltQ at *; omega
theorem ltQ_tot {a b : Int × Int} (h1 : ¬ ltQ a b) (h2 : a ≠ b) : ltQ b a := by
  unfold ltQ at *
  obtain ⟨a1, a2⟩ := a
  obtain ⟨b1, b2⟩ := b
  simp only at *
  by_cases e : a1 = b1
  · by_cases f : a2 = b2
    · exact absurd (by rw [e, f]) h2
    · omega
  · omega
theorem insU_pw {p : Int × Int} : ∀ {l : List (Int × Int)}, l.Pairwise ltQ → (insU p l).Pairwise ltQ
  | [], _ => List.pairwise_singleton _ _
  | q :: r, h => by
    have ⟨h1, h2⟩ := List.pairwise_cons.mp h
    unfold insU
    split
    · rename_i c
      exact List.pairwise_cons.mpr ⟨fun y hy => by
        rcases List.mem_cons.mp hy with rfl | hy
        · exact c
        · exact ltQ_tr c (h1 y hy), h⟩
    · rename_i c
      split
      · exact h
      · rename_i e
        exact List.pairwise_cons.mpr ⟨fun y hy => by
          rcases insU_mem.mp hy with rfl | hy
          · exact ltQ_tot c e
          · exact h1 y hy, insU_pw h2⟩
theorem ssP_mem {x : Int × Int} : ∀ {ps : List (Int × Int)}, x ∈ ssP ps ↔ x ∈ ps
  | [] => Iff.rfl
  | p :: r => by
    show x ∈ insU p (ssP r) ↔ _
    rw [insU_mem, ssP_mem (ps := r), List.mem_cons]
theorem ssP_pw : ∀ ps : List (Int × Int), (ssP ps).Pairwise ltQ
  | [] => List.Pairwise.nil
  | p :: r => insU_pw (ssP_pw r)
theorem ltQ_irr {a b : Int × Int} (h : ltQ a b) : a ≠ b := fun e => by subst e; unfold ltQ at h; omega
def lsP (p : Int × Int) : List Int := [p.1, p.2]
end
end Ov
set_option Elab.async false
set_option linter.all false
set_option maxRecDepth 100000
set_option maxHeartbeats 4000000
namespace Ov
section
open PySem PySem.Spec L2
variable {K : PySem.W.Frag} {E : XK}
/-! x[k].append(y), k and y numbers in slots -/
theorem Rep.int {B : Addr → Prop} {σ : St} {H : Hp} {env : En} {l : List Addr} {j : Nat} {k : Int} (r : Rep K B σ H env l) (h : env[j]? = some (some (.dat (.int k)))) : σ[j]? = some (some (.int k)) := by
  obtain ⟨s, a, lx, ly, q1, q2, ⟨v, q3, q4⟩, _⟩ := r.rp.focus h
  subst q3
  have := q4.2
  cases this
  exact q1
/-! [[] for x in ..] -/
end
end Ov
set_option Elab.async false
set_option linter.all false
set_option maxRecDepth 100000
set_option maxHeartbeats 4000000
set_option Elab.async false
set_option linter.all false
set_option maxRecDepth 100000
set_option maxHeartbeats 4000000
set_option Elab.async false
set_option linter.all false
set_option maxRecDepth 100000
set_option maxHeartbeats 4000000
namespace L2
open PySem PySem.Spec PyProof.Rows
end L2
set_option Elab.async false
set_option linter.all false
set_option maxRecDepth 100000
set_option maxHeartbeats 4000000
namespace L2
open PySem PySem.Spec PyProof.Rows
/-! min of a list of pairs of numbers; the greatest value of a dict of tuples -/
end L2
set_option Elab.async false
set_option linter.all false
set_option maxRecDepth 100000
set_option maxHeartbeats 4000000
namespace L2
open PySem PySem.Spec PyProof.Rows
end L2
set_option Elab.async false
set_option linter.all false
set_option maxRecDepth 100000
set_option maxHeartbeats 4000000
namespace Ov
open PySem L2
section
variable {K : PySem.W.Frag} {E : XK} {bx : Bool}
/-! dicts of tuples of numbers whose values are numbers -/
def tupI : PyData → Option (List Int)
  | .tuple ds => intsD ds
  | _ => none
def asTI : R → Option (List Int)
  | .dat d => tupI d
  | _ => none
theorem asTI_some {a : R} {k : List Int} (h : asTI a = some k) : ∃ ds, a = .dat (.tuple ds) ∧ intsD ds = some k := by
  unfold asTI at h
  split at h
  · rename_i d
    unfold tupI at h
    split at h
    · exact ⟨_, rfl, h⟩
    · cases h
  · cases h
def kK (k : List Int) : List L2.Key := k.map Sum.inl
theorem kK_kV (k : List Int) : (kK k).map kV = k.map V.int := by
  unfold kK
  rw [List.map_map]
  rfl
theorem kK_inj {a b : List Int} (h : kK a = kK b) : a = b := by
  unfold kK at h
  induction a generalizing b with
  | nil => cases b <;> simp_all
  | cons x a ih =>
    cases b with
    | nil => simp at h
    | cons y b =>
      rw [List.map_cons, List.map_cons] at h
      injection h with h1 h2
      rw [Sum.inl.inj h1, ih h2]
theorem tup_key {S : Addr → Prop} {H : Hp} {σ : St} {v : V} {a : R} {k : List Int} (q : RpR K (off S H) σ v a) (h : asTI a = some k) : ∃ b, v = .ref b ∧ H b = some (.tup ((kK k).map kV)) := by
  obtain ⟨ds, rfl, h2⟩ := asTI_some h
  cases (show Da K (off S H) v (.tuple ds) from q) with
  | tup t d =>
    refine ⟨_, rfl, ?_⟩
    have e := ints_da d h2
    rw [kK_kV, ← e]
    exact t.off
/-! the slot -/
end
end Ov
set_option Elab.async false
set_option linter.all false
set_option maxRecDepth 100000
set_option maxHeartbeats 4000000
set_option Elab.async false
set_option linter.all false
set_option maxRecDepth 100000
set_option maxHeartbeats 4000000
set_option Elab.async false
set_option linter.all false
set_option maxRecDepth 100000
set_option maxHeartbeats 4000000
namespace Ov
open PySem L2
section
variable {K : PySem.W.Frag} {E : XK} {bx : Bool}
theorem OkW.callBtG {F : List PyData → List PyData → Option (Wv × List PyData)} {ta : TE} {fa : M Wv} (oa : OkW K E ta fa) : OkW K E (tCallG (spB K F) (tCons ta tNil)) (Ov.callBt F fa) := by
  have o := OkW.callBt (F := F) (E' := L2.E0) oa
  refine ⟨?_⟩
  intro B σ H env l rs rp h Q post
  have := o.run rp h post
  show tCons ta tNil σ H fun vs H1 => spB K F vs H1 Q L2.E0
  have e : (fun vs H1 => spB K F vs H1 Q L2.E0) = fun vs H1 => spB K F (vs ++ []) H1 Q L2.E0 := by
    funext vs H1
    rw [List.append_nil]
  rw [e]
  exact this
end
end Ov
set_option Elab.async false
set_option linter.all false
set_option maxRecDepth 100000
set_option maxHeartbeats 4000000
set_option Elab.async false
set_option linter.all false
set_option maxRecDepth 100000
set_option maxHeartbeats 4000000
namespace Ov
section
open PySem PySem.Spec PySem.Calls PyProof.Rows L2
/-- sorted(d), d a dict of tuples of numbers -/
def rSortDT (K : PySem.W.Frag) : List V → Hp → VK → Prop := fun vs H Q => ∃ (a : Addr) (kvs : List (List L2.Key × V)) (nss : List (List Int)), vs = [V.ref a] ∧ H a = some (.dT kvs) ∧ kvs.map (·.1) = nss.map kK ∧ ((∀ ns ∈ nss, ns ≠ []) ∨ ∀ ns ∈ nss, ns = []) ∧
  ∀ (ys : List V) (mss : List (List Int)) (p : Addr), mss.Perm nss → mss.Pairwise (fun a b => HT.lexLt b a = false) → NsV K H ys mss → H p = none → Q (.ref p) (upd H p (.lst ys))
theorem cr_sortDT {X : Cx} (hc : X.calm = true) (hu : X.A.units + 64 < cLine) : CallR X (.builtin "sorted") (rSortDT X.K) := by
  intro pins s σ H xs us Q I r h
  obtain ⟨d, kvs, nss, rfl, hd, hks, hal, q⟩ := h
  obtain ⟨u, rfl, rx⟩ := r.one
  cases rx
  obtain ⟨z, hs, ks, pr, o, es, ep, ho, hx, hdt, he, hn⟩ := (show ObjOk X.prog X.w H s.heap d (.dT kvs) from I.hok _ _ hd)
  have l1 : es.size = ks.length := size_of_entries he
  have l2 : kvs.length = ks.length := Paired.length pr
  have l3 : kvs.length = nss.length := by
    have := congrArg List.length hks
    simpa using this
  refine call_function_entry kind_sorted plain_sorted entry_sorted (args_sorted1 _) ?_
  unfold Builtin.«sorted»
  refine wpAny_bind (m := checkCount "sorted" 1 1 _) (wpAny_pure ?_)
  refine wpAny_bind (PySem.W.kdu_collect (A := X.A.in1) (kdl_raw hs hx hdt) (I.ok.hd hc) ho (by omega) fun h' tk acc' kp it => ?_)
  have ea : acc'.toList = ks.map fun x => Value.ref x.2.1 := by
    have hl : acc'.toList.length = ks.length := by rw [Array.length_toList, it.1]; exact l1
    apply List.ext_getElem?
    intro j
    rw [List.getElem?_map]
    cases hj : acc'.toList[j]? with
    | none =>
      have h1 := List.getElem?_eq_none_iff.mp hj
      rw [List.getElem?_eq_none (by omega)]
      all_goals rfl
    | some v =>
      obtain ⟨en, hen, hv⟩ := it.2 j v (by rw [← Array.getElem?_toList]; exact hj)
      have qe := entry_at he j
      rw [hen] at qe
      cases hb : ks[j]? with
      | none =>
        rw [hb] at qe
        exact nomatch (show some en = none from qe)
      | some b =>
        rw [hb] at qe
        have e2 : en = entryOfKey (tupleKind (mixKind X.prog X.w)) b := Option.some.inj qe
        rw [hv, e2]
        all_goals rfl
  -- each key is a tuple of numbers
  have hk1 : ∀ (j : Nat) (x : List L2.Key × Addr × Value) (ns : List Int), ks[j]? = some x → nss[j]? = some ns → TP H x.2.1 (ns.map V.int) := fun j x ns h1 h2 => by
    have hj : j < kvs.length := by rw [l2]; exact (List.getElem?_eq_some_iff.mp h1).1
    have h3 : kvs[j]? = some kvs[j] := List.getElem?_eq_getElem hj
    have h4 : (kvs.map (·.1))[j]? = some (kK ns) := by rw [hks, List.getElem?_map, h2]; rfl
    rw [List.getElem?_map, h3] at h4
    have h5 : kvs[j].1 = kK ns := Option.some.inj h4
    have h6 := isKeys_of pr
    have h7 : ∀ {l : List (List L2.Key × V)} {bs : List Addr}, IsKeys H l bs → ∀ (i : Nat) (p : List L2.Key × V) (b : Addr), l[i]? = some p → bs[i]? = some b → H b = some (.tup (p.1.map kV)) := fun hh => by
      unfold IsKeys at hh
      induction hh with
      | nil => intro i p b e; simp at e
      | cons w t ih =>
        intro i p b e e'
        cases i with
        | zero => cases (Option.some.inj (show some _ = some p from e)); cases (Option.some.inj (show some _ = some b from e')); exact w
        | succ i => exact ih i p b (by simpa using e) (by simpa using e')
    have h8 := h7 h6 j kvs[j] x.2.1 h3 (by rw [List.getElem?_map, h1]; rfl)
    rw [h5, kK_kV] at h8
    exact h8
  have I1 : Inv X pins σ H { s with heap := h', toks := tk } := I.kept kp
  let vs := acc'.toList
  have lv : vs.length = nss.length := by show acc'.toList.length = _; rw [ea, List.length_map]; omega
  have prr : ∀ (i : Nat) (v : Value) (ns : List Int), vs[i]? = some v → nss[i]? = some ns → TS.TupInts h' v ns ∧ ∃ t, v = .ref t ∧ TP H t (ns.map V.int) := fun i v ns h1 h2 => by
    have h1 : acc'.toList[i]? = some v := h1
    rw [ea, List.getElem?_map] at h1
    obtain ⟨x, hx1, rfl⟩ := Option.map_eq_some_iff.mp h1
    have tp := hk1 i x ns hx1 h2
    exact ⟨tupI_raw I1 tp.sq, _, rfl, tp⟩
  have hk : vs.map (TS.intsOf h') = nss := by
    apply List.ext_getElem?
    intro i
    rw [List.getElem?_map]
    cases h1 : vs[i]? with
    | none =>
      have : vs.length ≤ i := List.getElem?_eq_none_iff.mp h1
      rw [List.getElem?_eq_none (by omega)]
      rfl
    | some v =>
      have lt : i < vs.length := (List.getElem?_eq_some_iff.mp h1).1
      have h2 : nss[i]? = some (nss[i]'(by omega)) := List.getElem?_eq_getElem (by omega)
      rw [h2]
      show some (TS.intsOf h' v) = _
      rw [(prr i v _ h1 h2).1.ints]
  have mem : ∀ v ∈ vs, TS.intsOf h' v ∈ nss ∧ TS.TupInts h' v (TS.intsOf h' v) ∧ ∃ t, v = .ref t ∧ TP H t ((TS.intsOf h' v).map V.int) := fun v hv => by
    obtain ⟨i, hi, e⟩ := List.getElem_of_mem hv
    have h2 : nss[i]? = some (nss[i]'(by omega)) := List.getElem?_eq_getElem (by omega)
    obtain ⟨k1, k3⟩ := prr i v _ (by rw [← e]; exact List.getElem?_eq_getElem hi) h2
    rw [k1.ints]
    exact ⟨List.getElem_mem _, k1, k3⟩
  have hza : vs.length ≤ sizeLine := by omega
  refine wpAny_bind (wpAny_newList ?_ hza)
  have hoL : (h'.push (seqObj "list" vs.toArray 0)).get? h'.objs.size = some (seqObj "list" vs.toArray 0) := Heap.get?_push_size _ rfl
  show wpAny _ _ _ _ _ { s with heap := h'.push (seqObj "list" vs.toArray 0), toks := tk }
  refine wpAny_bind (wpAny_holding (wpAny_call_entry slot_list_sort ⟨_, hoL, rfl⟩ entry_list_sort
    (SrtO.list_sort_ord (s := { s with heap := h'.push (seqObj "list" vs.toArray 0), toks := tk }) (NtL.swo_lexL (TS.intsOf h')) hoL hza (fun h2 => ?_) fun out g1 g2 => ⟨_, rfl, ?_⟩) (args_list_sort _)))
  · have hp' : ∀ v ∈ vs, TS.TupInts (h'.push (seqObj "list" vs.toArray 0)) v (TS.intsOf h' v) := fun v hm => (mem v hm).2.1.keeps fun b o e _ => Heap.get?_push_of_some _ e
    have hcl : ∀ o, (h'.push (seqObj "list" vs.toArray 0)).get? h'.objs.size = some o → o.cls ≠ .type "tuple" := fun o e => by
      have e' : some o = some (seqObj "list" vs.toArray 0) := e.symm.trans hoL
      cases e'
      intro c
      exact absurd (Value.type.inj c) (by decide)
    rcases hal with hd | hd
    · exact tups_sort1 (s := { s with heap := h'.push (seqObj "list" vs.toArray 0), toks := tk }) (by omega) (fun v hm => ⟨hp' v hm, hd _ (mem v hm).1⟩) hcl
    · exact tups_sort0 (s := { s with heap := h'.push (seqObj "list" vs.toArray 0), toks := tk }) (by show X.A.units + 1 + 1 < cLine; omega) h2 (fun v hm => ⟨hp' v hm, hd _ (mem v hm).1⟩) hcl
  · obtain ⟨e', he'⟩ := sortedHeap_at (vs := vs) (out := out.toArray) hoL
    have h3 : ∀ u ∈ out, ∃ a, u = Value.ref a := fun u hu => by
      obtain ⟨_, _, t, e, _⟩ := mem u (g2.perm.mem_iff.mp hu)
      exact ⟨t, e⟩
    have lo : out.length = vs.length := g2.perm.length_eq
    refine wpAny_pure ⟨_, rfl, .ref h'.objs.size, upd H h'.objs.size (.lst (out.map backV)), I1.laid (t' := tk) (fun b u e => ?_) (Nat.le_refl _)
      (show ObjOk X.prog X.w _ _ _ (.lst (out.map backV)) from ⟨by rw [List.length_map, lo]; exact hza, out, e', vals_back h3, he'⟩), rfl, q _ (out.map (TS.intsOf h')) h'.objs.size ?_ ?_ ⟨by rw [List.length_map, List.length_map], fun i y w hy hw => ?_⟩ (I1.hok.fresh (Nat.le_refl _))⟩
    · have hb : b < h'.objs.size := Heap.lt_size e
      rw [sortedHeap_old (Nat.ne_of_lt hb) (by rw [size_push']; exact Nat.lt_succ_of_lt hb)]
      exact Heap.get?_push_of_some _ e
    · rw [← hk]
      exact g2.perm.map _
    · exact List.pairwise_map.mpr (List.Pairwise.imp (fun z => z) g1)
    · rw [List.getElem?_map] at hy hw
      obtain ⟨u, hu, rfl⟩ := Option.map_eq_some_iff.mp hy
      obtain ⟨u', hu', rfl⟩ := Option.map_eq_some_iff.mp hw
      rw [hu] at hu'
      cases hu'
      obtain ⟨_, _, t, e, k3⟩ := mem u (g2.perm.mem_iff.mp (List.mem_of_getElem? hu))
      refine ⟨t, ?_, k3⟩
      rw [e]
      rfl
end
open PySem L2
section
variable {X : Cx} {K : PySem.W.Frag} (hK : X.K = K)
include hK
theorem k_sortDT (hc : X.calm = true) (hu : X.A.units + 64 < cLine) : CallR X (.builtin "sorted") (rSortDT K) := by subst hK; exact cr_sortDT hc hu
end
end Ov
set_option Elab.async false
set_option linter.all false
set_option maxRecDepth 100000
set_option maxHeartbeats 4000000
namespace Ov
open PySem L2 PySem.Spec PyProof.Rows
/-! a comprehension over zip(a, b) with one name as target: the zip keeps its first pair -/
structure Lq (X : Cx) (pins : List (Addr × Obj)) (σ : L2.St) (t u : Bool) (a b : Addr) (xs ys : List V) (z m n c d : Addr) (H0 : Hp) (i : Nat) (H : Hp) (s : Shared) : Prop where
  lz : Lz X pins σ t u a b xs ys z m n c d H0 i H s
  nt : ∃ x y, IsTupOf2 s.heap n x y
section
variable {X : Cx} {pins : List (Addr × Obj)} {σ : L2.St} {t u : Bool} {a b z m n c d : Addr} {xs ys : List V} {H0 H : Hp} {i : Nat} {s : Shared} {A : Around} {E : Value → Shared → Prop}
theorem Lq.obj (L : Lq X pins σ t u a b xs ys z m n c d H0 i H s) : ∀ e ∈ [z, m, n, c, d], ∃ o, s.heap.get? e = some o ∧ ∀ v, o.data ≠ .cell v := fun e he => by
  simp only [List.mem_cons, List.not_mem_nil, or_false] at he
  rcases he with rfl | rfl | rfl | rfl | rfl
  · rcases L.lz.zs with ⟨k, _⟩ | ⟨T, f, x, y, k, _⟩
    · exact ⟨_, k, fun v q => nomatch q⟩
    · exact ⟨_, k, fun v q => nomatch q⟩
  · exact ⟨_, L.lz.tm, fun v q => nomatch q⟩
  · obtain ⟨x, y, k⟩ := L.nt; exact ⟨_, k, fun v q => nomatch q⟩
  · obtain ⟨o, k, z⟩ := L.lz.i1.ob; exact ⟨o, k, z⟩
  · obtain ⟨o, k, z⟩ := L.lz.i2.ob; exact ⟨o, k, z⟩
theorem Lq.item {Q : Option Value → Shared → Prop} {x y : V} (L : Lq X pins σ t u a b xs ys z m n c d H0 i H s) (hA : A.handled = none) (D : ZipSep2 z m n c d [c, a] [d, b]) (na : a ≠ c) (nb : b ≠ d) (ex : xs[i]? = some x) (ey : ys[i]? = some y)
    (q : ∀ T s', H T = none → Lq X pins σ t u a b xs ys z m n c d H0 (i + 1) (upd H T (.tup [x, y])) s' → Q (some (.ref T)) s') : wpAny (model X.prog X.w) A (pyNext (.ref z)) Q E s := by
  obtain ⟨L, x9, y9, n9⟩ := L
  have ln : n < s.heap.objs.size := Heap.lt_size n9
  obtain ⟨is, rx, px⟩ := (L.fa.same L.base).read L.inv
  obtain ⟨js, ry, py⟩ := (L.fb.same L.base).read L.inv
  obtain ⟨v1, e1, r1⟩ := rx.get ex
  obtain ⟨v2, e2, r2⟩ := ry.get ey
  have b1 : i < is.toArray.size := by simpa using (List.getElem?_eq_some_iff.mp e1).1
  have b2 : i < js.toArray.size := by simpa using (List.getElem?_eq_some_iff.mp e2).1
  have fr : H s.heap.objs.size = none := L.inv.hok.fresh (Nat.le_refl _)
  have lt : ∀ e ∈ [z, m, n, c, d], e < s.heap.objs.size := fun e he => by
    rcases L.obj e he with rfl | ⟨o, k⟩
    · exact ln
    · exact Heap.lt_size k
  have fin : ∀ (w1 w2 : Value) (h' : Heap) (tk : Nat), is.toArray[i]? = some w1 → js.toArray[i]? = some w2 → Zs h' (upd H s.heap.objs.size (.tup [x, y])) z m n → ItB t h' c a (i + 1) → ItB u h' d b (i + 1) → IsTupOf2 h' s.heap.objs.size w1 w2 → (∃ x y, IsTupOf2 h' n x y) →
      (∀ e o, e ≠ z → e ≠ n → e ≠ c → e ≠ d → s.heap.get? e = some o → h'.get? e = some o) → Q (some (.ref s.heap.objs.size)) { s with heap := h', toks := tk } := fun w1 w2 h' tk g1 g2 z' s1 s2 nw n' hk => by
    have c1 : w1 = v1 := Option.some.inj (g1.symm.trans (by simpa using e1))
    have c2 : w2 = v2 := Option.some.inj (g2.symm.trans (by simpa using e2))
    subst c1 c2
    have ok : ObjOk X.prog X.w (upd H s.heap.objs.size (.tup [x, y])) h' s.heap.objs.size (.tup [x, y]) := ⟨by show 2 ≤ sizeLine; decide, [w1, w2], .cons r1 (.cons r2 .nil), ⟨_, nw, rfl, _, rfl⟩⟩
    have I1 : Inv X pins σ (upd H s.heap.objs.size (.tup [x, y])) { s with heap := h', toks := tk } := by
      refine L.inv.turnedNew (t' := tk) (ch := [z, m, n, c, d]) (fun e o he k => ?_) L.free (Nat.le_refl _) ok
      simp only [List.mem_cons, List.not_mem_nil, or_false, not_or] at he
      exact hk e o he.1 he.2.2.1 he.2.2.2.1 he.2.2.2.2 k
    refine q _ _ fr ⟨⟨I1, L.fa, L.fb, L.base.trans (same_new fr _), fun e he => ⟨?_, (L.free e he).2⟩, z', hk _ _ D.TIz D.TITO D.TIi1 D.TIi2 L.tm, s1, s2⟩, n'⟩
    rw [upd_ne (Nat.ne_of_lt (lt e he))]
    exact (L.free e he).1
  rcases L.zs with ⟨k, x0, y0, k0⟩ | ⟨T, f, x0, y0, k, k0⟩
  · refine wpAny_pyNext_zipD2_item D (drB t (A := A.in1) hA c a na is.toArray) (drB u (A := A.in1) hA d b nb js.toArray) k L.tm k0 ⟨L.i1, px⟩ ⟨L.i2, py⟩ b1 b2 ?_
    intro w1 w2 h' tk p1 p2 z' n' s1 s2 nw hsz hk
    exact fin w1 w2 h' tk p1 p2 (.inr ⟨s.heap.objs.size, false, x, y, z', upd_same⟩) s1.1 s2.1 nw ⟨_, _, n'⟩ hk
  · obtain ⟨oT, kT⟩ := tup_live L.inv k0
    refine zh_item D (drB t (A := A.in1) hA c a na is.toArray) (drB u (A := A.in1) hA d b nb js.toArray) k kT L.tm ⟨L.i1, px⟩ ⟨L.i2, py⟩ b1 b2 ?_
    intro w1 w2 h' tk p1 p2 z' s1 s2 nw hk
    refine fin w1 w2 h' tk p1 p2 (.inr ⟨T, true, x0, y0, z', ?_⟩) s1.1 s2.1 nw ⟨_, _, hk _ _ D.TOz D.Ti1 D.Ti2 n9⟩ fun e o q1 _ q3 q4 => hk e o q1 q3 q4
    rw [upd_ne (ne_of_none k0 fr)]
    exact k0
end
end Ov
set_option Elab.async false
set_option linter.all false
set_option maxRecDepth 100000
set_option maxHeartbeats 4000000
set_option Elab.async false
set_option linter.all false
set_option maxRecDepth 100000
set_option maxHeartbeats 4000000
set_option Elab.async false
set_option linter.all false
set_option maxRecDepth 100000
set_option maxHeartbeats 4000000
set_option Elab.async false
set_option linter.all false
set_option maxRecDepth 100000
set_option maxHeartbeats 4000000
set_option Elab.async false
set_option linter.all false
set_option maxRecDepth 100000
set_option maxHeartbeats 4000000
set_option Elab.async false
set_option linter.all false
set_option maxRecDepth 100000
set_option maxHeartbeats 4000000
set_option Elab.async false
set_option linter.all false
set_option maxRecDepth 100000
set_option maxHeartbeats 4000000
namespace Ov
open PySem L2 PySem.Spec PyProof.Rows
/-! a set out of a list, whatever is known of it after i items: J i -/
section
variable {P : Program} {w : World} {A : Around} {E : Value → Shared → Prop} {s : Shared}
/-- what one more item does -/
def AddsJ (P : Program) (w : World) (A : Around) (S : Addr) (J : Nat → Heap → Prop) (n : Nat) (Pv : Nat → Value → Prop) : Prop :=
  ∀ (i : Nat) (v : Value) (s : Shared) (E : Value → Shared → Prop) (Q : Shared → Prop), i < n → Pv i v → J i s.heap → (∀ h' tk, s.toks ≤ tk → Heap.SameBut S s.heap h' → J (i + 1) h' → Q { s with heap := h', toks := tk }) → wpAny (model P w) A (holding [v] (setAdd S v)) (fun _ s' => Q s') E s
theorem set_loopJ {I S : Addr} {fp wr : List Addr} {G : Array GenState → Array GenState → Prop} {n : Nat} {Pv : Nat → Value → Prop} {St : Nat → Shared → Prop} {R : Result → Shared → Prop} {J : Nat → Heap → Prop} (W : WalksS P w A.in1 I fp wr G n Pv St) (hSf : S ∉ fp)
    (kp : ∀ i h h', J i h → (∀ b o, b ∉ wr → h.get? b = some o → h'.get? b = some o) → J i h') (ad : AddsJ P w A.in1 S J n Pv) :
    ∀ (k i : Nat) (s : Shared), n - i = k → i ≤ n → St i s → J i s.heap → (∀ s', Moved (S :: wr) G s s' → J n s'.heap → R (.ok (.ret .none)) s') → codeAny (model P w) A (.builtin "set.update.loop" ⟨[.ref S, .ref I], []⟩) R s := by
  have sub : ∀ b ∈ wr, b ∈ S :: wr := fun b hb => List.mem_cons_of_mem _ hb
  have mv : ∀ {i : Nat} {s s' : Shared}, Moved wr G s s' → J i s.heap → J i s'.heap := fun m j => kp _ _ _ j fun b o hb e => m.heap b o hb e
  intro k
  induction k with
  | zero =>
    intro i s h1 h2 st j hR
    obtain rfl : i = n := by omega
    exact codeAny_builtin F.entry_set_update_loop (by
      rw [Around.under_plainId F.plain_set_update_loop _]
      refine (show wpAny _ A.in1 (pyNext (.ref I) >>= _) _ _ s from wpAny_bind (W.done s _ _ st fun s' m => ?_))
      exact (show wpAny _ A.in1 (ret Value.none) _ _ s' from wpAny_pure (hR s' (m.mono sub) (mv m j))))
  | succ k ih =>
    intro i s h1 h2 st j hR
    have lt : i < n := by omega
    exact codeAny_builtin F.entry_set_update_loop (by
      rw [Around.under_plainId F.plain_set_update_loop _]
      refine (show wpAny _ A.in1 (pyNext (.ref I) >>= _) _ _ s from wpAny_bind (W.item i s _ _ lt st fun v s' hP st' m => ?_))
      refine (show wpAny _ A.in1 (holding [v] (setAdd S v) >>= _) _ _ s' from wpAny_bind (ad i v s' _ _ lt hP (mv m j) fun h' tk le sb j' => ?_))
      refine wpAny_pure ⟨plainId_quiet F.plain_set_update_loop _, ih (i + 1) _ (by omega) lt (W.frame _ s' _ _ st' le fun b hb o e => ?_) j' fun s'' m2 j2 => ?_⟩
      · exact (sb.2 b (fun h : b = S => hSf (h ▸ hb))).trans e
      · exact hR s'' (Moved.trans W.gtrans ((m.mono sub).then_heap le fun b o hb e => (sb.2 b (fun h : b = S => hb (h ▸ List.mem_cons_self))).trans e) m2) j2)
set_option maxRecDepth 100000 in
set_option maxHeartbeats 3200000 in
/-- set(xs) -/
theorem call_setJ {l : Addr} {items : Array Value} {J : Nat → Heap → Prop} {Q : Value → Shared → Prop} (hh : A.handled = none) (hl : s.heap.IsList l items) (hu : A.units + 3 < cLine)
    (kp : ∀ i h h', J i h → (∀ b o, b ≠ s.heap.objs.size + 1 → h.get? b = some o → h'.get? b = some o) → J i h')
    (j0 : ∀ h', (∀ b o, s.heap.get? b = some o → h'.get? b = some o) → h'.get? s.heap.objs.size = some { cls := .type "set", dict := none, data := .set #[] 0 (.fresh 0 0 (!w.params.followText "set-order")) } → J 0 h')
    (ad : ∀ A' : Around, A'.units < cLine → AddsJ P w A' s.heap.objs.size J items.size fun i v => items[i]? = some v)
    (h : ∀ (h' : Heap) (tk : Nat), J items.size h' → Q (.ref s.heap.objs.size) { s with heap := h', toks := tk }) :
    wpAny (model P w) A (call (.type "set") [.ref l]) Q E s := by
  obtain ⟨c, tl, hmro⟩ := F.called_set.mro
  have hmade := F.called_set.made
  have hsub := F.called_set.sub
  refine wpAny_call (codeAny_of_tree ?_)
  show wpAny _ _ (callAny (.type "set") _) _ _ _
  refine wpAny_pure ⟨Code.quiet_builtin _ (by decide +kernel), codeAny_builtin F.entry_type_call ?_⟩
  rw [Around.under_plain (weight_type_call_type "set" [.ref l] []) rfl]
  have h1 := F.called_set.notType
  have h2 := F.called_set.canCreate
  have hct := F.typeCall_set_1 (.ref l)
  repeat (any_goals (first | assumption | wp_step))

  refine codeAny_mono (code_set_led1 (.ref l) (E := E) (Q₁ := fun obj s₁ => obj = .ref s.heap.objs.size ∧ s₁ = { s with heap := s.heap.push { cls := .type "set", dict := none, data := .set #[] 0 (.fresh 0 0 (!w.params.followText "set-order")) } }) ⟨rfl, rfl⟩) fun r s₁ hr => ?_
  cases r with
  | error e => exact hr
  | ok fl =>
    cases fl with
    | ret obj =>
      obtain ⟨rfl, rfl⟩ := hr
      have hS : (s.heap.push { cls := .type "set", dict := none, data := .set #[] 0 (.fresh 0 0 (!w.params.followText "set-order")) }).get? s.heap.objs.size = some { cls := .type "set", dict := none, data := .set #[] 0 (.fresh 0 0 (!w.params.followText "set-order")) } := Heap.get?_push_size _ rfl
      have hT : Shared.TypeIs { s with heap := s.heap.push { cls := .type "set", dict := none, data := .set #[] 0 (.fresh 0 0 (!w.params.followText "set-order")) } } (.ref s.heap.objs.size) "set" := ⟨_, hS, rfl⟩
      have hli := F.called_set.init.lookup
      have hbi := F.called_set.init.bind (.ref s.heap.objs.size)
      repeat (any_goals (first | assumption | wp_step))

      refine codeAny_mono (codeAny_call_builtin (R := wants (fun r s₂ => r = .none ∧ ∃ h' tk, s₂ = { s with heap := h', toks := tk } ∧ J items.size h') E) F.called_set.init.plain F.entry_set_init (check_set_init_1 hT ?_)) fun r₂ s₂ hr₂ => ?_
      · obtain ⟨ol, hol, hcl, nl, hdl⟩ := hl
        obtain ⟨ocls, odict, odata, oslots⟩ := ol
        simp only at hcl hdl
        subst hcl; subst hdl
        have hol' : (s.heap.push { cls := .type "set", dict := none, data := .set #[] 0 (.fresh 0 0 (!w.params.followText "set-order")) }).get? l = some { cls := .type "list", dict := odict, data := .seq items nl, slots := oslots } := Heap.get?_push_of_some _ hol
        have hsls := F.sub_list_set
        have hslf := F.sub_list_frozenset
        have hne : (Value.type "list" == Value.type "dict") = false := by decide
        have hl1 : (s.heap.push { cls := .type "set", dict := none, data := .set #[] 0 (.fresh 0 0 (!w.params.followText "set-order")) }).IsList l items := ⟨_, hol', rfl, nl, rfl⟩
        unfold Builtin.«set.__init__» noKeywords Builtin.Frozenset.updateFrom
        generalize hPI : pyIter = PI
        wp_walk
        subst hPI

        refine wpAny_pyIter_list hl1 ?_
        refine wpAny_bind (wpAny_runValue ?_)
        have hlS : l < s.heap.objs.size := Heap.lt_size hol
        have hh3 : A.in1.in1.in1.handled = none := by simp [hh]
        have hz1 : (s.heap.push { cls := .type "set", dict := none, data := .set #[] 0 (.fresh 0 0 (!w.params.followText "set-order")) }).objs.size = s.heap.objs.size + 1 := Heap.size_push ..
        have hneI : l ≠ (s.heap.push { cls := .type "set", dict := none, data := .set #[] 0 (.fresh 0 0 (!w.params.followText "set-order")) }).objs.size := by
          rw [Heap.size_push]; exact Nat.ne_of_lt (Nat.lt_succ_of_lt hlS)
        have hSf : s.heap.objs.size ∉ [(s.heap.push { cls := .type "set", dict := none, data := .set #[] 0 (.fresh 0 0 (!w.params.followText "set-order")) }).objs.size, l] := by
          rw [Heap.size_push]; simp only [List.mem_cons, List.mem_singleton, List.not_mem_nil, or_false, not_or]
          exact ⟨Nat.ne_of_lt (Nat.lt_succ_self _), Nat.ne_of_gt hlS⟩
        refine set_loopJ (J := J) (Walks.list hh3 _ l hneI items).toS hSf (fun i h h' j k => kp i h h' j fun b o hb e => k b o (fun z => hb (by rw [List.mem_singleton.mp z, Heap.size_push])) e) (ad _ hu) (items.size - 0) 0 _ (by omega) (Nat.zero_le _)
          ⟨⟨_, Heap.get?_push_size _ rfl, rfl, rfl⟩, (hl1.push _)⟩ (j0 _ (fun b o e => Heap.get?_push_of_some _ (Heap.get?_push_of_some _ e)) (Heap.get?_push_of_some _ hS)) ?hR
        case hR =>
          intro s' hm j'
          obtain ⟨h', g2, d', tk', os'⟩ := s'
          have eg : g2 = s.gens := hm.gens
          have ed : d' = s.drawn := hm.drawn
          have eo : os' = s.os := hm.os
          subst eg; subst ed; subst eo
          show wpAny _ _ _ _ _ _
          refine wpAny_pure ?_
          exact (show wpAny _ _ (ret Value.none) _ _ _ from wpAny_pure ⟨rfl, h', tk', rfl, j'⟩)

      · cases r₂ with
        | error e => exact hr₂
        | ok fl₂ =>
          cases fl₂ with
          | ret r =>
            obtain ⟨rfl, h', tk, rfl, j'⟩ := hr₂
            repeat (any_goals (first | assumption | wp_step))
            exact h _ _ j'
          | _ => exact hr₂.elim
    | _ => exact hr.elim
/-! tuples, fewer than 63 different ones among them -/
end
end Ov
set_option Elab.async false
set_option linter.all false
set_option maxRecDepth 100000
set_option maxHeartbeats 4000000
set_option Elab.async false
set_option linter.all false
set_option maxRecDepth 100000
set_option maxHeartbeats 4000000
namespace Ov
open PySem L2
/-! tuple(range(n)) -/
def tg1E (fa : M R) : M R := M.bind fa fun a => M.bind (lift (asI a)) fun j => M.bind (lift (chk (decide (-(2 ^ 62) ≤ j ∧ j < 2 ^ 62 ∧ (j - 0).toNat ≤ 1000000)))) fun _ => M.pure (.dat (.tuple ((rngL 0 j).map .int)))
section
variable {K : PySem.W.Frag} {E : XK}
theorem OkE.tupRg1 {ta : TE} {fa : M R} (oa : OkE K E ta fa) : OkE K E (tTupRg (tRg1 ta)) (tg1E fa) := by
  refine ⟨?_⟩
  intro B σ H env l rs rp h Q post
  refine oa.seq rp h post.exn fun a e v1 H1 h1 r1 f1 q1 => ?_
  obtain ⟨j, h3, h4⟩ := lift_step h1
  rw [asI_some h3] at q1
  cases q1
  obtain ⟨u, h7, h8⟩ := lift_step h4
  cases h8
  have hc := of_decide_eq_true (chk_ok h7)
  refine ⟨j, rfl, ⟨by decide, by decide, hc.1, hc.2.1, Nat.le_trans hc.2.2 (by decide)⟩, fun p hp => ?_⟩
  rw [rgV_eq]
  exact post _ _ (r1.same (same_new hp _)) (f1.trans (Fr.of (same_new hp _))) (new_dp r1.tl hp (da_ints _)).2
theorem tg1_x {env e : En} {f : M R} {n : Nat} (h : f env = some (.ok (.dat (.int (n : Int))) e)) (hn : n ≤ 1000) : tg1E f env = some (.ok (.dat (.tuple ((rngL 0 (n : Int)).map .int))) e) := by
  unfold tg1E
  rw [v_bind, h, v_ok, v_bind]
  show cont (lift (some (n : Int)) e) _ = _
  rw [v_lift, v_ok, v_bind]
  have c : chk (decide (-(2 ^ 62) ≤ (n : Int) ∧ (n : Int) < 2 ^ 62 ∧ ((n : Int) - 0).toNat ≤ 1000000)) = some () := by
    rw [decide_eq_true (by omega)]
    rfl
  rw [c]
  rfl
end
end Ov
set_option Elab.async false
set_option linter.all false
set_option maxRecDepth 100000
set_option maxHeartbeats 4000000
namespace Ov
open PySem L2
/-! a dict of tuples of numbers, its values True, held by a slot -/
def putS (ks : List (List Int)) (k : List Int) : List (List Int) := if k ∈ ks then ks else ks ++ [k]
theorem kvS_put (ks : List (List Int)) (k : List Int) : putK (kvS ks) (kK k) (.bl true) = kvS (putS ks k) := by
  unfold putK putS
  have ha : ((kvS ks).any fun kv => decide (kv.1 = kK k)) = decide (k ∈ ks) := by
    unfold kvS
    rw [List.any_map, Bool.eq_iff_iff, List.any_eq_true, decide_eq_true_iff]
    constructor
    · rintro ⟨x, hx, e⟩
      have e : kK x = kK k := of_decide_eq_true e
      rw [← kK_inj e]
      exact hx
    · exact fun h => ⟨k, h, decide_eq_true rfl⟩
  rw [ha]
  by_cases h : k ∈ ks
  · rw [decide_eq_true h, if_pos rfl, if_pos h]
    unfold kvS
    rw [List.map_map]
    refine List.map_congr_left fun x _ => ?_
    show (if kK x = kK k then (kK x, V.bl true) else (kK x, V.bl true)) = _
    split <;> rfl
  · rw [decide_eq_false h, if_neg (by decide), if_neg h]
    unfold kvS
    rw [List.map_append]
    rfl
def dtsD (i : Nat) : M (List (List Int)) := fun env =>
  match env[i]? with
  | some (some (.dts ks)) => some (.ok ks env)
  | _ => none
section
variable {K : PySem.W.Frag} {E : XK} {bx : Bool}
theorem dtsD_step {α : Type} {i : Nat} {g : List (List Int) → M α} {env : En} {rs : Rs α} (h : (M.bind (dtsD i) g) env = some rs) : ∃ ks, env[i]? = some (some (.dts ks)) ∧ g ks env = some rs := by
  have key : ∀ z, dtsD i env = some z → ∃ ks, env[i]? = some (some (.dts ks)) ∧ z = .ok ks env := fun z hz => by
    unfold dtsD at hz
    split at hz
    · rename_i ks hx
      cases hz
      exact ⟨ks, hx, rfl⟩
    · cases hz
  rcases bind_some h with ⟨a, e, h1, h2⟩ | ⟨C, f, d, h1, h2⟩
  · obtain ⟨ds, e1, e2⟩ := key _ h1
    cases e2
    exact ⟨_, e1, h2⟩
  · obtain ⟨ds, e1, e2⟩ := key _ h1
    cases e2
theorem Rep.dgetS {B : Addr → Prop} {σ : St} {H : Hp} {env : En} {l : List Addr} {i : Nat} {ks : List (List Int)} (r : Rep K B σ H env l) (hx : env[i]? = some (some (.dts ks))) :
    ∃ p, σ[i]? = some (some (.ref p)) ∧ H p = some (.dT (kvS ks)) ∧ p ∈ l ∧ ∀ ks', Rep K B σ (upd H p (.dT (kvS ks'))) (env.set i (some (.dts ks'))) l := by
  obtain ⟨s, a, lx, ly, q1, q2, ⟨v, rfl, p, rfl, rfl, q6⟩, q5⟩ := r.rp.focus hx
  have hp : p ∈ l := by rw [q2]; exact List.mem_append_right _ (List.mem_append_left _ (List.mem_cons_self ..))
  refine ⟨p, q1, q6, hp, fun ks' => ?_⟩
  have nd := r.nd
  rw [q2] at nd
  obtain ⟨n1, n2, n3⟩ := List.nodup_append.mp nd
  obtain ⟨n4, n5, n6⟩ := List.nodup_append.mp n2
  have sub : Same (off (un B l) H) (off (un B l) (upd H p (.dT (kvS ks')))) := off_mono (fun b z n => absurd z n) fun b o n e => by rw [upd_ne (fun z => n (.inr (by rw [z]; exact hp)))]; exact e
  refine ⟨?_, r.nd, r.out, fun b z => ?_⟩
  · have := q5 (H' := upd H p (.dT (kvS ks'))) (s' := some (.ref p)) (e' := some (.dts ks')) (a' := [p]) sub
      (fun q z => upd_ne fun e => n3 q z p (List.mem_append_left _ (List.mem_cons_self ..)) e) (fun q z => upd_ne fun e => n6 p (List.mem_cons_self ..) q z e.symm) ⟨_, rfl, p, rfl, rfl, upd_same⟩
    rw [set_same q1] at this
    rw [q2] at this ⊢
    exact this
  · obtain ⟨o, e, n⟩ := r.tb b z
    exact ⟨o, by rw [upd_ne (fun y => r.out p hp (by rw [← y]; exact z))]; exact e, n⟩
/-- {} -/
def dnewB : M Wv := M.pure (.dts [])
theorem OkW.dnewB : OkW K E tDNewT Ov.dnewB := by
  refine ⟨?_⟩
  intro B σ H env l rs rp h Q post
  cases h
  intro p hp
  refine post _ _ [p] (rp.grow (same_new hp _) (fun _ z => .inl z) (fun b z => z.imp id fun z => by rw [List.mem_singleton.mp z]; exact hp) fun b z => ?_) (Fr.of (same_new hp _)) ⟨p, rfl, rfl, upd_same⟩ (List.nodup_cons.mpr ⟨by simp, List.nodup_nil⟩) fun b z => by rw [List.mem_singleton.mp z]; exact hp
  by_cases e : b = p
  · subst e; exact ⟨_, upd_same, trivial⟩
  · rw [upd_ne e]; exact rp.tb b (z.resolve_right fun z => e (List.mem_singleton.mp z))
def isTr : R → Option Unit
  | .dat (.bool true) => some ()
  | _ => none
theorem isTr_some {r : R} {u : Unit} (h : isTr r = some u) : r = .dat (.bool true) := by
  unfold isTr at h
  split at h
  · rfl
  · cases h
/-- found[k] = True -/
def dputB (i : Nat) (fk fv : M R) : M Fl := M.bind fv fun r0 => M.bind (lift (isTr r0)) fun _ => M.bind (dtsD i) fun _ => M.bind fk fun r => M.bind (lift (asTI r)) fun k => M.bind (dtsD i) fun ks => M.bind (lift (chk (decide (ks.length < 100000)))) fun _ => M.bind (putM i (.dts (putS ks k))) fun _ => M.pure .nx
theorem OkS.dputB {i : Nat} {tk tv : TE} {fk fv : M R} (o : OkE K E tk fk) (ov : OkE K E tv fv) : OkS K E bx (sDPut (tVar i) tk tv) (Ov.dputB i fk fv) := by
  refine ⟨?_⟩
  intro B σ H env l rs rp h D post
  refine ov.seq rp h post.exn fun a0 e0 v0 H0 h0 r0 f0 q0 => ?_
  obtain ⟨u0, g2, h0⟩ := lift_step h0
  rw [isTr_some g2] at q0
  cases q0
  obtain ⟨ks0, hx0, h0⟩ := dtsD_step h0
  obtain ⟨p, s1, s2, s3, _⟩ := r0.dgetS hx0
  refine ⟨.ref p, s1, ?_⟩
  refine o.seq r0 h0 (exn_later post.exn f0) fun a e v' H1 h1 r1 f1 q1 => ?_
  obtain ⟨k, h2, h3⟩ := lift_step h1
  obtain ⟨ks, hx, h4⟩ := dtsD_step h3
  obtain ⟨u, h4a, h4⟩ := lift_step h4
  have hn := of_decide_eq_true (chk_ok h4a)
  obtain ⟨_, h5⟩ := putM_step h4
  cases h5
  obtain ⟨b, rfl, hb⟩ := tup_key q1 h2
  obtain ⟨p', t1, t2, t3, t4⟩ := r1.dgetS hx
  rw [s1] at t1
  cases t1
  refine ⟨p, _, rfl, DPut.t t2 hb ?_, ?_⟩
  · unfold kvS
    rw [List.length_map, sizeLine_eq]
    omega
  · rw [kvS_put]
    exact post σ _ l (t4 _) (Fr2.of ((f0.trans f1).trans (fr_upd t3))) fun _ => rfl
/-- sorted(found) -/
def sortB (i : Nat) : M R := M.bind (dtsD i) fun ks => M.bind (lift (chk (alike ks))) fun _ => M.pure (.dat (.list ((sortL ks).map tnD)))
theorem OkE.sortB {i : Nat} : OkE K E (tCB (rSortDT K) (tCons (tVar i) tNil)) (Ov.sortB i) := by
  refine ⟨?_⟩
  intro B σ H env l rs rp h Q post
  obtain ⟨ks, hx, h0⟩ := dtsD_step h
  obtain ⟨p, s1, s2, s3, _⟩ := rp.dgetS hx
  obtain ⟨u, h0a, h0⟩ := lift_step h0
  have al := chk_ok h0a
  cases h0
  refine ⟨.ref p, s1, p, kvS ks, ks, rfl, s2, ?_, alike_or al, fun ys qs r pm pw py hr => ?_⟩
  · unfold kvS
    rw [List.map_map]
    rfl
  have : qs = sortL ks := sortL_uniq (pm.trans (sortL_perm _).symm) pw (sortL_pw _)
  subst this
  refine post _ _ (rp.same (same_new hr _)) (Fr.of (same_new hr _)) (new_dp rp.tl hr (nsV_da ⟨py.1, fun i y z hy hz => ?_⟩)).1
  obtain ⟨t, e, k⟩ := py.2 i y z hy hz
  exact ⟨t, e, off_P rp.tl k⟩
end
end Ov
set_option Elab.async false
set_option linter.all false
set_option maxRecDepth 100000
set_option maxHeartbeats 4000000
namespace Ov
open PySem L2
/-! the same over data, each once, ascending -/
def insT (x : List Int) : List (List Int) → List (List Int)
  | [] => [x]
  | y :: r => if x = y then y :: r else if HT.lexLt x y = true then x :: y :: r else y :: insT x r
def ssT (nss : List (List Int)) : List (List Int) := nss.foldr insT []
theorem insT_mem {x z : List Int} : ∀ {l : List (List Int)}, z ∈ insT x l ↔ z = x ∨ z ∈ l
  | [] => by simp [insT]
  | y :: r => by
    unfold insT
    split
    · rename_i h
      subst h
      simp
    · split
      · simp
      · rw [List.mem_cons, insT_mem, List.mem_cons]
        constructor
        · rintro (h | h | h)
          · exact .inr (.inl h)
          · exact .inl h
          · exact .inr (.inr h)
        · rintro (h | h | h)
          · exact .inr (.inl h)
          · exact .inl h
          · exact .inr (.inr h)
theorem ssT_mem {z : List Int} : ∀ {l : List (List Int)}, z ∈ ssT l ↔ z ∈ l
  | [] => Iff.rfl
  | x :: r => by
    show z ∈ insT x (ssT r) ↔ _
    rw [insT_mem, ssT_mem, List.mem_cons]
theorem lex_tr {a b c : List Int} (h1 : HT.lexLt a b = true) (h2 : HT.lexLt b c = true) : HT.lexLt a c = true := by
  cases h : HT.lexLt a c with
  | true => rfl
  | false =>
    -- c is not above a: then b, above a, is above c
    have := NtL.lex_tr c a b h (by
      have := NtL.lex_asym _ _ h1
      exact this)
    rw [h2] at this
    cases this
theorem insT_pw {x : List Int} : ∀ {l : List (List Int)}, l.Pairwise (fun a b => HT.lexLt a b = true) → (insT x l).Pairwise fun a b => HT.lexLt a b = true
  | [], _ => List.pairwise_singleton _ _
  | y :: r, h => by
    obtain ⟨h1, h2⟩ := List.pairwise_cons.mp h
    unfold insT
    split
    · exact h
    · rename_i ne
      split
      · rename_i lt
        exact List.pairwise_cons.mpr ⟨fun z hz => (List.mem_cons.mp hz).elim (fun e => by rw [e]; exact lt) fun hz => lex_tr lt (h1 z hz), h⟩
      · rename_i nl
        have yx : HT.lexLt y x = true := by
          cases q : HT.lexLt y x with
          | true => rfl
          | false => exact absurd (lex_tot x y (by simpa using nl) q) ne
        exact List.pairwise_cons.mpr ⟨fun z hz => (insT_mem.mp hz).elim (fun e => by rw [e]; exact yx) (h1 z), insT_pw h2⟩
theorem ssT_pw : ∀ l : List (List Int), (ssT l).Pairwise fun a b => HT.lexLt a b = true
  | [] => List.Pairwise.nil
  | _ :: r => insT_pw (ssT_pw r)
theorem lex_ir (a : List Int) : HT.lexLt a a = false := by
  cases h : HT.lexLt a a with
  | false => rfl
  | true =>
    have := NtL.lex_asym _ _ h
    rw [h] at this
    cases this
theorem ssT_nd (l : List (List Int)) : (ssT l).Nodup := (ssT_pw l).imp fun {a b} h e => by
  subst e
  rw [lex_ir] at h
  cases h
theorem ssT_le (l : List (List Int)) : (ssT l).Pairwise fun a b => HT.lexLt b a = false := (ssT_pw l).imp fun h => NtL.lex_asym _ _ h
theorem ssT_uniq {l m : List (List Int)} (nd : m.Nodup) (pw : m.Pairwise fun a b => HT.lexLt b a = false) (h : ∀ z, z ∈ m ↔ z ∈ l) : m = ssT l :=
  sortL_uniq ((List.perm_ext_iff_of_nodup nd (ssT_nd l)).mpr fun z => (h z).trans ssT_mem.symm) pw (ssT_le l)
theorem da_ns {K : PySem.W.Frag} {H : Hp} : ∀ {xs : List V} {nss : List (List Int)}, DaAll K H xs (nss.map tnD) → ∃ ks : List (Addr × List Int), xs = ks.map (fun p => V.ref p.1) ∧ ks.map (·.2) = nss ∧ ∀ p ∈ ks, TP H p.1 (p.2.map V.int)
  | [], [], _ => ⟨[], rfl, rfl, fun _ h => by cases h⟩
  | x :: xs, ns :: nss, .cons h t => by
    obtain ⟨ks, e1, e2, e3⟩ := da_ns t
    cases h with
    | tup q z =>
      refine ⟨(_, ns) :: ks, by rw [e1]; rfl, by rw [List.map_cons, e2], fun r hr => ?_⟩
      rcases List.mem_cons.mp hr with rfl | hr
      · rw [da_nums z] at q
        exact q
      · exact e3 r hr
end Ov
set_option Elab.async false
set_option linter.all false
set_option maxRecDepth 100000
set_option maxHeartbeats 4000000
namespace SG
open PySem PySem.Spec PyProof.Rows L2
/-! sets of up to 300 tuples: tables of up to 512 slots -/
def Mg (m : Nat) : Prop := MaskOk m ∨ m = 511
theorem Mg.odd {m : Nat} (h : Mg m) : m % 2 = 1 := h.elim mask_odd fun e => by rw [e]
theorem Mg.le {m : Nat} (h : Mg m) : 7 ≤ m ∧ m ≤ 511 := by
  rcases h with (h | h | h) | h <;> omega
/-- where x -> 5 x + 1 leads from i on -/
def orb (m : Nat) : Nat → Nat → List Nat
  | _, 0 => []
  | i, n + 1 => i :: orb m ((i * 5 + 1) % (m + 1)) n
theorem orb_len (m : Nat) : ∀ (n i : Nat), (orb m i n).length = n
  | 0, _ => rfl
  | n + 1, i => congrArg (· + 1) (orb_len m n _)
theorem orb_get (m : Nat) : ∀ (n k i : Nat), k < n → (orb m (lcgN m i) n)[k]? = some (lcgN m (i + k))
  | 0, k, i, h => by omega
  | n + 1, 0, i, _ => rfl
  | n + 1, k + 1, i, h => by
    refine (show (orb m (lcgN m (i + 1)) n)[k]? = some (lcgN m (i + (k + 1))) from ?_)
    rw [orb_get m n k (i + 1) (by omega), show i + 1 + k = i + (k + 1) by omega]
theorem big_all : ((List.range 512).all fun j => (orb 511 0 512).contains j) = true := by decide +kernel
theorem big_round : (orb 511 0 513)[512]? = some 0 := by decide +kernel
section
variable {m : Nat}
theorem cyc_all (hm : Mg m) {j : Nat} (hj : j ≤ m) : ∃ b, b ≤ m ∧ lcgN m b = j := by
  rcases hm with hm | rfl
  · exact lcg_all hm hj
  · have c := List.all_eq_true.mp big_all j (List.mem_range.mpr (by omega))
    obtain ⟨k, hk⟩ := List.mem_iff_getElem?.mp (List.contains_iff_mem.mp c)
    have lt : k < 512 := by
      have := (List.getElem?_eq_some_iff.mp hk).1
      rwa [orb_len] at this
    have g := orb_get 511 512 k 0 lt
    rw [Nat.zero_add] at g
    exact ⟨k, by omega, Option.some.inj (g.symm.trans hk)⟩
theorem cyc_round (hm : Mg m) : lcgN m (m + 1) = 0 := by
  rcases hm with hm | rfl
  · exact lcg_round hm
  · have g := orb_get 511 513 512 0 (by decide)
    rw [Nat.zero_add] at g
    exact Option.some.inj (g.symm.trans big_round)
theorem cyc_mod (hm : Mg m) (k : Nat) : lcgN m (m + 1 + k) = lcgN m k := by
  induction k with
  | zero => exact cyc_round hm
  | succ k ih => exact congrArg (fun x => (x * 5 + 1) % (m + 1)) ih
theorem cyc_from (hm : Mg m) {i j : Nat} (hi : i ≤ m) (hj : j ≤ m) : ∃ k, k ≤ m ∧ lcgI m i k = j := by
  obtain ⟨a, a1, rfl⟩ := cyc_all hm hi
  obtain ⟨b, b1, rfl⟩ := cyc_all hm hj
  by_cases c : a ≤ b
  · exact ⟨b - a, by omega, by rw [lcgN_add, Nat.add_sub_cancel' c]⟩
  · exact ⟨m + 1 + b - a, by omega, by rw [lcgN_add, show a + (m + 1 + b - a) = m + 1 + b by omega, cyc_mod hm]⟩
theorem run_at (hm : Mg m) (h : Int) {j : Nat} (hj : j ≤ m) : ∃ n, n ≤ m + 12 ∧ runI m (SetTable.bits h) n = j := by
  obtain ⟨k, k1, k2⟩ := cyc_from hm (runI_le m (SetTable.bits h) 12) hj
  refine ⟨12 + k, by omega, ?_⟩
  rw [runI_tail (bits_lt h), k2]
theorem way_at (hm : Mg m) (h : Int) {j : Nat} (hj : j ≤ m) : ∃ k, k < 10 * SetTable.turns m ∧ way m h k = j := by
  obtain ⟨n, n1, n2⟩ := run_at hm h hj
  obtain ⟨k, k1, k2⟩ := run_nth m (SetTable.bits h) n
  exact ⟨k, by unfold SetTable.turns; omega, (congrArg SetTable.Probe.j k2).trans n2⟩
theorem way_in (h : Int) (k : Nat) : way m h k ≤ m := by
  have lt : SetTable.bits h % (m + 1) ≤ m := Nat.le_of_lt_succ (Nat.mod_lt _ (Nat.succ_pos _))
  have e := runEnd_bd lt
  have q := nth_in k (runAt m (SetTable.bits h % (m + 1)) (SetTable.bits h)) (show SetTable.bits h % (m + 1) + (SetTable.runEnd m (SetTable.bits h % (m + 1)) - SetTable.bits h % (m + 1)) ≤ m by omega)
  exact Nat.le_trans (Nat.le_add_right _ _) q
end
/-- a table in which each entry is found again -/
structure Tb (t : SetTable) (hs : List Int) : Prop where
  up : Ris t.place.toList
  nod : t.dummies = #[]
  cnt : t.place.size = hs.length
  msk : Mg t.mask
  low : ∀ x ∈ t.place.toList, x ≤ t.mask
  rch : ∀ (i : Nat) (h : Int) (j : Nat), hs[i]? = some h → t.place.toList[i]? = some j → ∃ k, way t.mask h k = j ∧ ∀ q, q < k → way t.mask h q ∈ t.place.toList
section
variable {t : SetTable} {hs : List Int}
theorem Tb.pl (T : Tb t hs) : t.place.toList.length = hs.length := by rw [Array.length_toList, T.cnt]
theorem Tb.gap (T : Tb t hs) (hl : hs.length ≤ t.mask) (h : Int) : ∃ K, K < 10 * SetTable.turns t.mask ∧ way t.mask h K ∉ t.place.toList ∧ ∀ q, q < K → way t.mask h q ∈ t.place.toList := by
  obtain ⟨j, j1, j2⟩ := st_missing t.place.toList (t.mask + 1) (by rw [T.pl]; omega)
  obtain ⟨k, k1, k2⟩ := way_at T.msk h (show j ≤ t.mask by omega)
  obtain ⟨K, c1, c2, c3⟩ := st_least (p := fun q => way t.mask h q ∉ t.place.toList) k (fun z => j2 (k2 ▸ z))
  exact ⟨K, by omega, c2, fun q hq => Classical.not_not.mp (c3 q hq)⟩
theorem Tb.ahead (T : Tb t hs) {h : Int} {K i j : Nat} (hK : way t.mask h K ∉ t.place.toList) (hi : hs[i]? = some h) (hj : t.place.toList[i]? = some j) : ∃ k, k < K ∧ way t.mask h k = j := by
  obtain ⟨k, e, b⟩ := T.rch i h j hi hj
  refine ⟨k, ?_, e⟩
  by_cases c : K < k
  · exact absurd (b K c) hK
  · by_cases d : k = K
    · subst d
      exact absurd (e ▸ List.mem_of_getElem? hj) hK
    · omega
/-- one more entry -/
theorem Tb.ins (T : Tb t hs) {h : Int} {j p : Nat} (hp : SetTable.below t.place j = p) (hj : ∃ K, way t.mask h K = j ∧ ∀ q, q < K → way t.mask h q ∈ t.place.toList) (hn : j ∉ t.place.toList) :
    p ≤ hs.length ∧ Tb (t.put j).1 (hs.take p ++ h :: hs.drop p) ∧ (t.put j).1.fill = hs.length + 1 := by
  obtain ⟨K, eK, bK⟩ := hj
  have cut := (below_cut T.up j).1
  rw [hp] at cut
  have lp : p ≤ t.place.toList.length := by rw [Array.length_toList]; exact cut
  have lh : p ≤ hs.length := by rw [← T.pl]; exact lp
  have pp := put_place t j
  rw [hp] at pp
  have sz : (t.put j).1.place.size = hs.length + 1 := by rw [← Array.length_toList, pp, len_ins _ lp, T.pl]
  have old : ∀ x ∈ t.place.toList, x ∈ (t.put j).1.place.toList := fun x hx => by rw [pp]; exact mem_ins.mpr (.inr hx)
  refine ⟨lh, ⟨ris_insert T.up fun e => hn (List.mem_of_getElem? (by rw [Array.getElem?_toList]; exact e)), put_dm T.nod j, by rw [sz, len_ins _ lh], T.msk, fun x hx => ?_, fun i g y g1 g2 => ?_⟩, ?_⟩
  · rw [pp] at hx
    rcases mem_ins.mp hx with e | e
    · rw [e, ← eK]; exact way_in h K
    · exact T.low x e
  · rw [tins_get hs lh] at g1
    rw [pp, tins_get _ lp] at g2
    have keep : ∀ {n : Nat}, hs[n]? = some g → t.place.toList[n]? = some y → ∃ k, way t.mask g k = y ∧ ∀ q, q < k → way t.mask g q ∈ (t.put j).1.place.toList := fun {n} a b => by
      obtain ⟨k, k1, k2⟩ := T.rch n g y a b
      exact ⟨k, k1, fun q hq => old _ (k2 q hq)⟩
    rcases Nat.lt_trichotomy i p with c | c | c
    · rw [if_pos c] at g1 g2
      exact keep g1 g2
    · subst c
      rw [if_neg (Nat.lt_irrefl _), if_pos rfl] at g1 g2
      cases g1
      cases g2
      exact ⟨K, eK, fun q hq => old _ (bK q hq)⟩
    · rw [if_neg (by omega), if_neg (by omega)] at g1 g2
      exact keep g1 g2
  · have : (t.put j).1.fill = (t.put j).1.place.size + (t.put j).1.dummies.size := rfl
    rw [this, sz, put_dm T.nod j]
    rfl
end
/-! all laid anew -/
section
variable {m : Nat}
theorem spot (hm : Mg m) (owner : Array (Option Nat)) (h : Int) (ex : ∃ j, j ≤ m ∧ oAt owner j = none) :
    ∃ K, SetTable.layClean.free m owner (SetTable.turns m) (SetTable.bits h % (m + 1)) (SetTable.bits h) = some (way m h K) ∧ oAt owner (way m h K) = none ∧ ∀ q, q < K → oAt owner (way m h q) ≠ none := by
  obtain ⟨j, hj, hf⟩ := ex
  obtain ⟨n, n1, n2⟩ := run_at hm h hj
  have at_ : way m h (off m (SetTable.bits h % (m + 1)) (SetTable.bits h) n) = j := (congrArg SetTable.Probe.j ((nth_off m n _ _).trans (by rw [itL_run]))).trans n2
  obtain ⟨K, c1, c2, c3⟩ := st_least (p := fun q => oAt owner (way m h q) = none) _ (show oAt owner (way m h (off m (SetTable.bits h % (m + 1)) (SetTable.bits h) n)) = none by rw [at_]; exact hf)
  have isn : ∀ {o : Option Nat}, (o.isNone = false) ↔ o ≠ none := fun {o} => by cases o <;> simp
  exact ⟨K, free_spec m owner _ n _ _ K (by unfold SetTable.turns; omega) c1 (fun q hq => isn.mpr (c3 q hq)) (by rw [show oAt owner (nth m _ K).j = none from c2]; rfl), c2, c3⟩
theorem own_next (hm : Mg m) {done : List Int} {owner : Array (Option Nat)} (W : Own m done owner) (hl : done.length ≤ m) (h : Int) :
    ∃ j, SetTable.layClean.free m owner (SetTable.turns m) (SetTable.bits h % (m + 1)) (SetTable.bits h) = some j ∧ Own m (done ++ [h]) (owner.setIfInBounds j (some done.length)) := by
  obtain ⟨ps, ps1, ps2⟩ := W.ps
  obtain ⟨K, f1, f2, f3⟩ := spot hm owner h (by
    obtain ⟨j, j1, j2⟩ := st_missing ps (m + 1) (by omega)
    refine ⟨j, by omega, ?_⟩
    cases c : oAt owner j with
    | none => rfl
    | some x => exact absurd (ps2 j (by omega) (by rw [c]; exact Option.some_ne_none x)) j2)
  have inb : way m h K < owner.size := by rw [W.sz]; have := way_in (m := m) h K; omega
  generalize hj : way m h K = j at *
  have new : oAt (owner.setIfInBounds j (some done.length)) j = some done.length := oAt_set_self _ inb
  have rest : ∀ {i : Nat}, i ≠ j → oAt (owner.setIfInBounds j (some done.length)) i = oAt owner i := fun {i} h => oAt_set_ne _ h
  have more : ∀ i, oAt owner i ≠ none → oAt (owner.setIfInBounds j (some done.length)) i ≠ none := fun i hi => by
    by_cases c : i = j
    · rw [c, new]; exact Option.some_ne_none _
    · rw [rest c]; exact hi
  refine ⟨j, f1, by rw [Array.size_setIfInBounds, W.sz], fun i k hi e => ?_, fun k hk => ?_, j :: ps, by simp [ps1], fun i hi e => ?_⟩
  · by_cases c : i = j
    · rw [c, new] at e
      cases e
      refine ⟨h, K, ?_, hj.trans c.symm, fun q hq => more _ (f3 q hq)⟩
      rw [List.getElem?_append_right (Nat.le_refl _), Nat.sub_self]
      rfl
    · rw [rest c] at e
      obtain ⟨g, K2, g1, g2, g3⟩ := W.at_ i k hi e
      exact ⟨g, K2, (List.getElem?_append_left (List.getElem?_eq_some_iff.mp g1).1).trans g1, g2, fun q hq => more _ (g3 q hq)⟩
  · rw [List.length_append] at hk
    have hk : k < done.length + 1 := hk
    by_cases c : k = done.length
    · rw [c]
      exact ⟨j, by rw [← hj]; exact way_in h K, new⟩
    · obtain ⟨i, i1, i2⟩ := W.all k (by omega)
      exact ⟨i, i1, by rw [rest fun z => by rw [z, f2] at i2; cases i2]; exact i2⟩
  · by_cases c : i = j
    · rw [c]; exact List.mem_cons_self ..
    · rw [rest c] at e
      exact List.mem_cons_of_mem _ (ps2 i hi e)
theorem own_all (hm : Mg m) (rest : List Int) : ∀ (done : List Int) (owner : Array (Option Nat)), Own m done owner → done.length + rest.length ≤ m →
    ∃ o2, rest.foldl (stepF m) (some (owner, done.length)) = some (o2, (done ++ rest).length) ∧ Own m (done ++ rest) o2 := by
  induction rest with
  | nil => exact fun done owner W _ => ⟨owner, by rw [List.append_nil]; rfl, by rwa [List.append_nil]⟩
  | cons h rest ih =>
    intro done owner W hl
    rw [List.length_cons] at hl
    obtain ⟨j, e, W2⟩ := own_next hm W (by omega) h
    obtain ⟨o2, f, W3⟩ := ih (done ++ [h]) _ W2 (by rw [List.length_append]; show done.length + 1 + _ ≤ m; omega)
    rw [List.append_assoc, List.length_append] at f
    rw [List.append_assoc] at W3
    exact ⟨o2, by rw [List.foldl_cons, stepF_some e]; exact f, W3⟩
theorem laid_all (hm : Mg m) {hs : Array Int} (hn : hs.size ≤ m) : ∃ owner, SetTable.layClean m hs = some owner ∧ Own m hs.toList owner := by
  obtain ⟨o2, f, W⟩ := own_all hm hs.toList [] _ (Own.init m) (by rw [List.length_nil, Array.length_toList]; omega)
  refine ⟨o2, ?_, W⟩
  rw [layClean_eq, show (0 : Nat) = ([] : List Int).length from rfl, f]
  rfl
theorem laid_tab (t : SetTable) {hs : Array Int} {wanted : Nat} (hw : SetTable.sizeAbove wanted - 1 = m) (hm : Mg m) (hn : hs.size ≤ m) :
    ∃ t2 order, t.relaid hs wanted = some (t2, order) ∧ order.toList.Perm (List.range hs.size) ∧ Tb t2 (order.toList.map fun i => hs.getD i 0) ∧ t2.mask = m ∧ t2.led = t.led ∧ t2.plain = t.plain := by
  obtain ⟨owner, e, W⟩ := laid_all hm hn
  have two := ris_live (fun j => owner.getD j none) (List.range (m + 1)) (by unfold Ris; first | exact List.pairwise_lt_range | exact List.pairwise_lt_range _)
  have upL : Ris ((liveOf m owner).map (·.1)) := two.1
  have inL : ∀ {j k : Nat}, (j, k) ∈ liveOf m owner ↔ j ≤ m ∧ oAt owner j = some k := fun {j k} => mem_live W.sz
  obtain ⟨ps, ps1, ps2⟩ := W.ps
  have up1 : ((liveOf m owner).map (·.1)).length ≤ ps.length := nat_nodup_len _ ps (upL.imp fun h => Nat.ne_of_lt h) fun x hx => by
    obtain ⟨⟨y, k⟩, hq, rfl⟩ := List.mem_map.mp hx
    exact ps2 y (inL.mp hq).1 (by rw [(inL.mp hq).2]; exact Option.some_ne_none k)
  have all2 : ∀ k, k < hs.size → k ∈ (liveOf m owner).map (·.2) := fun k hk => by
    obtain ⟨j, b1, b2⟩ := W.all k (by rw [Array.length_toList]; exact hk)
    exact List.mem_map.mpr ⟨(j, k), inL.mpr ⟨b1, b2⟩, rfl⟩
  have up2 := nat_nodup_len (List.range hs.size) ((liveOf m owner).map (·.2)) List.nodup_range fun k hk => all2 k (List.mem_range.mp hk)
  rw [List.length_map, ps1, Array.length_toList] at up1
  rw [List.length_map, List.length_range] at up2
  have cnt : (liveOf m owner).length = hs.size := Nat.le_antisymm up1 up2
  refine ⟨tabOf t m owner, ((liveOf m owner).map (·.2)).toArray, by rw [relaid_eq, hw, e]; rfl, perm_range hs.size _ (by simpa using cnt) all2, ⟨upL, rfl, ?_, hm, fun x hx => ?_, fun i h j h1 h2 => ?_⟩, rfl, rfl, rfl⟩
  · show ((liveOf m owner).map (·.1)).toArray.size = _
    simp
  · obtain ⟨⟨y, k⟩, hq, rfl⟩ := List.mem_map.mp (show x ∈ (liveOf m owner).map (·.1) from hx)
    exact (inL.mp hq).1
  · have h1 : (((liveOf m owner).map (·.2)).map fun i => hs.getD i 0)[i]? = some h := h1
    have h2 : ((liveOf m owner).map (·.1))[i]? = some j := h2
    rw [List.getElem?_map] at h2
    obtain ⟨⟨y, k⟩, hq, rfl⟩ := Option.map_eq_some_iff.mp h2
    rw [List.getElem?_map, List.getElem?_map, hq] at h1
    have h1 : hs.getD k 0 = h := Option.some.inj h1
    obtain ⟨b1, b2⟩ := inL.mp (List.mem_of_getElem? hq)
    obtain ⟨g, K, g1, g2, g3⟩ := W.at_ y k b1 b2
    have eg : g = h := by rw [← h1, Array.getD_eq_getD_getElem?, ← Array.getElem?_toList, g1]; rfl
    subst eg
    refine ⟨K, g2, fun q hq => ?_⟩
    obtain ⟨k2, e2⟩ := Option.ne_none_iff_exists'.mp (g3 q hq)
    exact List.mem_map.mpr ⟨(way m g q, k2), inL.mpr ⟨way_in g q, e2⟩, rfl⟩
end
theorem size_big : SetTable.sizeAbove (SetTable.grown 77) = 512 := by decide +kernel
end SG
set_option Elab.async false
set_option linter.all false
set_option maxRecDepth 100000
set_option maxHeartbeats 4000000
namespace SG
open PySem PySem.Spec PyProof.Rows L2
/-- a set of tuples of numbers, at most 300 -/
structure SR (P : Program) (w : World) (h : Heap) (a : Addr) (L : List (Addr × List Int)) (es : Array (Int × Value)) (ep : Nat) (t : SetTable) : Prop where
  here : ∃ o, h.get? a = some o ∧ o.ExactSet ∧ o.data = .set es ep t
  ents : es.toList = rowsOf P w L
  tb : Tb t (L.map fun p => thash P w p.2)
  uni : (L.map (·.2)).Nodup
  tups : ∀ p ∈ L, IsT P w h p.2 p.1
  pln : t.plain = true
  ledd : w.params.followText "set-order" = true ∨ t.led = true
  roomy : L.length * 5 < t.mask * 3
  most : L.length ≤ 300
section
variable {P : Program} {w : World} {A : Around} {E : Value → Shared → Prop} {s : Shared} {h h' : Heap} {a : Addr} {L : List (Addr × List Int)} {es : Array (Int × Value)} {ep : Nat} {t : SetTable}
theorem ents_size (e : es.toList = rowsOf P w L) : es.size = L.length := by
  rw [← Array.length_toList, e]
  exact List.length_map _
theorem ents_get (e : es.toList = rowsOf P w L) {i : Nat} {p : Addr × List Int} (g : L[i]? = some p) : es[i]? = some (thash P w p.2, Value.ref p.1) := by
  rw [← Array.getElem?_toList, e]
  exact (List.getElem?_map ..).trans (by rw [g]; rfl)
theorem SR.len (R : SR P w h a L es ep t) : t.place.toList.length = L.length := R.tb.pl.trans (List.length_map _)
theorem SR.fit (R : SR P w h a L es ep t) : t.fits es.size = true := by
  have n : t.place.size = es.size := by rw [ents_size R.ents, ← R.len, Array.length_toList]
  have l := ents_size R.ents
  have r := R.roomy
  have f : t.fill = es.size := by
    have : t.fill = t.place.size + t.dummies.size := rfl
    rw [this, R.tb.nod, n]
    rfl
  unfold SetTable.fits
  rw [n, f, beq_self_eq_true, Bool.true_and]
  exact decide_eq_true (by omega)
theorem SR.sound (R : SR P w h a L es ep t) : ¬ t.gaveWay = true := by
  have o := R.tb.msk.odd
  unfold SetTable.gaveWay
  rw [o]
  exact Bool.false_ne_true
theorem nth_dm (m : Nat) : ∀ (n : Nat) (p : SetTable.Probe), p.dummy = none → (nth m p n).dummy = none
  | 0, _, e => e
  | n + 1, p, e => nth_dm m n (adv m p) (by unfold adv; split <;> exact e)
/-- the search, from the c-th step on -/
theorem seek (R : SR P w s.heap a L es ep t) {x : Addr} {k : List Int} (hx : IsT P w s.heap k x) (hu : A.units < cLine) {K : Nat} (hK : K < 10 * SetTable.turns t.mask) (gap : way t.mask (thash P w k) K ∉ t.place.toList) (occ : ∀ q, q < K → way t.mask (thash P w k) q ∈ t.place.toList)
    {Q : SetFound → Shared → Prop} (yes : k ∈ L.map (·.2) → Q (.there none) s) (no : k ∉ L.map (·.2) → Q (.free (way t.mask (thash P w k) K) false) s) (f : Nat) :
    ∀ (c : Nat) (stand : Option SetTable.Probe), stand.getD (t.probeStart (thash P w k)) = nth t.mask (t.probeStart (thash P w k)) c → c + (K - c) = K → K - c < f →
      (∀ (i : Nat) (p : Addr × List Int), L[i]? = some p → p.2 = k → ∃ n, c ≤ n ∧ n < K ∧ t.place.toList[i]? = some (way t.mask (thash P w k) n)) → wpAny (model P w) A (setSearchFrom a (.ref x) (thash P w k) true f stand) Q E s := by
  induction f with
  | zero => intro c stand _ _ z; omega
  | succ f ih =>
    intro c stand est ec ef left
    obtain ⟨o, ho, _, hd⟩ := R.here
    have st : wpAny (model P w) A (setState a) (fun r s' => r = (es, ep, t) ∧ s = s') E s := wpAny_setState_of ho hd R.fit ⟨rfl, rfl⟩
    generalize hg : thash P w k = g at *
    have step : ∀ q, (nth t.mask (nth t.mask (t.probeStart g) c) q) = nth t.mask (t.probeStart g) (c + q) := fun q => (nth_add t.mask c (t.probeStart g) q).symm
    have stepW : ∀ q, (nth t.mask (nth t.mask (t.probeStart g) c) q).j = way t.mask g (c + q) := fun q => congrArg SetTable.Probe.j (step q)
    have hashes : ∀ {i : Nat} {p : Addr × List Int}, L[i]? = some p → p.2 = k → (es[i]?.map (·.1)).getD 0 = g := fun {i p} z e => by
      rw [ents_get R.ents z, e, hg]
      rfl
    have two := go_spec t R.tb.up R.tb.nod (fun i => (es[i]?.map (·.1)).getD 0) g (10 * SetTable.turns t.mask) (K - c) (nth t.mask (t.probeStart g) c) (nth_dm t.mask c _ rfl) (by omega) (fun q hq => by rw [stepW]; exact occ _ (by omega)) (by rw [stepW, ec]; exact gap)
    rw [setSearchFrom_succ]
    refine wpAny_bind (wpAny_mono st ?_ fun _ _ z => z)
    rintro _ _ ⟨rfl, rfl⟩
    dsimp only
    refine wp_if_neg R.sound ?_
    try refine wpAny_bind (wpAny_pure ?_)
    rcases two with ⟨q, i, hq, hi, eh, before, ep'⟩ | ⟨before, ep'⟩
    · have pr : t.probe (fun i => (es[i]?.map (·.1)).getD 0) g (stand.getD (t.probeStart g)) = some (.candidate (way t.mask g (c + q)) i (nth t.mask (t.probeStart g) (c + (q + 1)))) := by
        rw [est, ← stepW, ← step]
        exact ep'
      rw [pr]
      dsimp only
      rw [stepW] at hi
      have li : i < L.length := by rw [← R.len]; exact (List.getElem?_eq_some_iff.mp hi).1
      obtain ⟨p, hp⟩ : ∃ p, L[i]? = some p := ⟨_, List.getElem?_eq_getElem li⟩
      have pm : p ∈ L := List.mem_of_getElem? hp
      have after : wpAny (model P w) A (searchRest a (.ref x) g true f es t (way t.mask g (c + q)) i (nth t.mask (t.probeStart g) (c + (q + 1)))) Q E s := by
        unfold searchRest
        rw [ents_get R.ents hp]
        dsimp only
        refine wpAny_bind (wpAny_holding (wpAny_eqBool_tuple hu (R.tups p pm) hx ?_))
        refine wpAny_bind (wpAny_mono st ?_ fun _ _ z => z)
        rintro _ _ ⟨rfl, rfl⟩
        dsimp only
        by_cases same : p.2 = k
        · refine wp_if_pos (by simp [same]) (wpAny_pure (yes ?_))
          rw [← same]
          exact List.mem_map_of_mem pm
        · refine wp_if_neg (by simp [same]) ?_
          try refine wpAny_bind (wpAny_pure ?_)
          rw [sameMem]
          dsimp only
          have live : t.slot (way t.mask g (c + q)) = .live i := slot_live R.tb.up hi
          simp only [if_true, live, ents_get R.ents hp]
          refine wpAny_bind (wpAny_isSame_ref_self (wpAny_bind (wpAny_pure ?_)))
          simp only [if_true]
          refine wp_if_neg (by simp [same]) (ih (c + (q + 1)) _ rfl (by omega) (by omega) fun i0 p0 z0 e0 => ?_)
          obtain ⟨n, n1, n2, n3⟩ := left i0 p0 z0 e0
          refine ⟨n, ?_, n2, n3⟩
          have lo : c + q ≤ n := Nat.le_of_not_lt fun z => before (n - c) i0 (by omega) (by rw [stepW, show c + (n - c) = n by omega]; exact n3) (hashes z0 e0)
          have ne : n ≠ c + q := fun z => by
            have l0 := slot_live R.tb.up n3
            rw [z, live] at l0
            injection l0 with l0
            rw [← l0, hp] at z0
            cases z0
            exact same e0
          omega
      by_cases hl : t.led = true
      · refine wp_if_neg (by simp [hl]) ?_
        try refine wpAny_bind (wpAny_pure ?_)
        exact after
      · refine wp_if_pos (by simp [hl]) (wpAny_bind (seen_tup hx (fun y hy => ?_) ?_))
        · obtain ⟨e, e1, rfl⟩ := List.mem_map.mp hy
          have e2 : e ∈ es.toList := by
            have : e ∈ es ∧ e.1 = g := by simpa using e1
            simpa using this.1
          rw [R.ents] at e2
          obtain ⟨p2, m2, rfl⟩ := List.mem_map.mp e2
          exact ⟨p2.2, p2.1, rfl, R.tups p2 m2⟩
        · refine wp_if_neg (by decide) ?_
          try refine wpAny_bind (wpAny_pure ?_)
          exact after
    · have pr : t.probe (fun i => (es[i]?.map (·.1)).getD 0) g (stand.getD (t.probeStart g)) = some (.empty (way t.mask g K) none) := by
        have e2 := stepW (K - c)
        rw [ec] at e2
        rw [est, ← e2]
        exact ep'
      rw [pr]
      refine wpAny_pure (no fun hm => ?_)
      obtain ⟨p0, m0, e0⟩ := List.mem_map.mp hm
      obtain ⟨i0, z0⟩ := List.mem_iff_getElem?.mp m0
      obtain ⟨n, n1, n2, n3⟩ := left i0 p0 z0 e0
      exact before (n - c) i0 (by omega) (by rw [stepW, show c + (n - c) = n by omega]; exact n3) (hashes z0 e0)
theorem seekS (R : SR P w s.heap a L es ep t) {x : Addr} {k : List Int} (hx : IsT P w s.heap k x) (hu : A.units < cLine) {Q : SetFound → Shared → Prop} (yes : k ∈ L.map (·.2) → Q (.there none) s)
    (no : ∀ j, k ∉ L.map (·.2) → j ∉ t.place.toList → (∃ K, way t.mask (thash P w k) K = j ∧ ∀ q, q < K → way t.mask (thash P w k) q ∈ t.place.toList) → Q (.free j false) s) : wpAny (model P w) A (setSearch a (.ref x) (thash P w k) true) Q E s := by
  have r := R.roomy
  have ml := R.tb.msk.le
  obtain ⟨K, k1, k2, k3⟩ := R.tb.gap (by rw [List.length_map]; omega) (thash P w k)
  have big : K < 100000 := by
    have : 10 * SetTable.turns t.mask = 10 * (t.mask + 15) := rfl
    omega
  unfold setSearch
  refine seek R hx hu k1 k2 k3 yes (fun n => no _ n k2 ⟨K, rfl, k3⟩) 100000 0 none rfl (by omega) (by omega) fun i p z e => ?_
  have li : i < t.place.toList.length := by rw [R.len]; exact (List.getElem?_eq_some_iff.mp z).1
  obtain ⟨n, n1, n2⟩ := R.tb.ahead (h := thash P w k) k2 (i := i) (by rw [List.getElem?_map, z, ← e]; rfl) (List.getElem?_eq_getElem li)
  exact ⟨n, Nat.zero_le _, n1, by rw [n2]; exact List.getElem?_eq_getElem li⟩
/-- the table laid anew -/
theorem relayS {o : Obj} (ho : s.heap.get? a = some o) (hex : o.ExactSet) (hd : o.data = .set es ep t) (ee : es.toList = rowsOf P w L) (fit : t.fits es.size = true) (uni : (L.map (·.2)).Nodup) (tups : ∀ p ∈ L, IsT P w s.heap p.2 p.1) (pln : t.plain = true) (led : w.params.followText "set-order" = true ∨ t.led = true)
    (most : L.length ≤ 300) {wanted m : Nat} (hw : SetTable.sizeAbove wanted = m + 1) (hm : Mg m) (hn : L.length * 5 < m * 3) {Q : Unit → Shared → Prop}
    (q : ∀ h2 L2 es2 ep2 t2, Heap.SameBut a s.heap h2 → SR P w h2 a L2 es2 ep2 t2 → L2.Perm L → Q () { s with heap := h2 }) : wpAny (model P w) A (setRelay a wanted) Q E s := by
  have sz := ents_size ee
  have ml := hm.le
  obtain ⟨t2, order, e, op, T, em, el, epl⟩ := laid_tab t (hs := es.map (·.1)) (wanted := wanted) (m := m) (by omega) hm (by rw [Array.size_map, sz]; omega)
  rw [Array.size_map, sz] at op
  obtain ⟨L2, r1, r2, r3⟩ := order_rows L es order ee op
  rw [← r3] at T
  have sz2 : (order.filterMap (es[·]?)).size = es.size := by rw [ents_size r1, r2.length_eq, sz]
  rw [setRelay_eq]
  refine wpAny_bind (wpAny_setState_of ho hd fit ?_)
  dsimp only
  refine wp_if_neg (by rw [sizeLine_eq]; omega) ?_
  try refine wpAny_bind (wpAny_pure ?_)
  rw [e]
  dsimp only
  refine wpAny_bind (wp_if_neg (by rw [sz2]; simp) ?_)
  try refine wpAny_bind (wpAny_pure ?_)
  refine wpAny_pure ?_
  dsimp only
  have sb : Heap.SameBut a s.heap (s.heap.update a (Obj.putSet (order.filterMap (es[·]?)) t2)) := Heap.SameBut.update ..
  refine wpAny_storeSet_of ho hd (q _ L2 _ (ep + 1) t2 sb ⟨⟨_, store_at ho hd, ⟨hex.1, hex.2.1, hex.2.2⟩, rfl⟩, r1, T, (r2.map (·.2)).nodup_iff.mpr uni, fun p hp => isT_same (tups p (r2.mem_iff.mp hp)) ho hd sb, epl.trans pln, led.imp id fun z => el.trans z, ?_, ?_⟩ r2) (by rw [sz2, sz, sizeLine_eq]; omega)
  · rw [r2.length_eq, em]; exact hn
  · rw [r2.length_eq]; exact most
theorem grown_size {n m : Nat} (hm : Mg m) (h1 : (n + 1) * 5 ≥ m * 3) (h2 : n * 5 < m * 3) (h3 : n + 1 ≤ 300) : ∃ m2, SetTable.sizeAbove (SetTable.grown (n + 1)) = m2 + 1 ∧ Mg m2 ∧ (n + 1) * 5 < m2 * 3 := by
  rcases hm with (e | e | e) | e
  · obtain rfl : n = 4 := by omega
    exact ⟨31, size_20, .inl (.inr (.inl rfl)), by decide⟩
  · obtain rfl : n = 18 := by omega
    exact ⟨127, size_76, .inl (.inr (.inr rfl)), by decide⟩
  · obtain rfl : n = 76 := by omega
    exact ⟨511, size_big, .inr rfl, by decide⟩
  · omega
/-- one more -/
theorem addS (R : SR P w s.heap a L es ep t) {x : Addr} {k : List Int} (hx : IsT P w s.heap k x) (hu : A.units < cLine) (few : L.length + 1 ≤ 300) {Q : Bool → Shared → Prop}
    (q : ∀ b h2 L2 es2 ep2 t2, Heap.SameBut a s.heap h2 → SR P w h2 a L2 es2 ep2 t2 → (k ∈ L.map (·.2) → L2 = L) → (k ∉ L.map (·.2) → L2.Perm ((x, k) :: L)) → Q b { s with heap := h2 }) : wpAny (model P w) A (setAddHashed a (.ref x) (thash P w k)) Q E s := by
  obtain ⟨o, ho, hex, hd⟩ := R.here
  have sz := ents_size R.ents
  have rm := R.roomy
  have ml := R.tb.msk.le
  have st : wpAny (model P w) A (setState a) (fun r s' => r = (es, ep, t) ∧ s = s') E s := wpAny_setState_of ho hd R.fit ⟨rfl, rfl⟩
  unfold setAddHashed
  refine wpAny_holding ?_
  rw [show (100000 : Nat) = 99999 + 1 from rfl, setAddHashedIn_succ]
  refine wpAny_bind (wpAny_mono st ?_ fun _ _ z => z)
  rintro _ _ ⟨rfl, rfl⟩
  dsimp only
  refine wp_if_neg (by simp [byScan, Value.scannable]) ?_
  try refine wpAny_bind (wpAny_pure ?_)
  refine wpAny_bind (seekS R hx hu (fun hm => wpAny_pure (q false s.heap L es ep t (Heap.SameBut.refl a s.heap) R (fun _ => rfl) fun z => absurd hm z)) fun j hm hj hw => ?_)
  dsimp only
  refine wpAny_bind (wpAny_mono st ?_ fun _ _ z => z)
  rintro _ _ ⟨rfl, rfl⟩
  dsimp only
  obtain ⟨b, eb⟩ : ∃ b, SetTable.below t.place j = b := ⟨_, rfl⟩
  obtain ⟨i1, T1, fl⟩ := R.tb.ins eb hw hj
  have pm := put_perm L b (x, k)
  have ln : (L.take b ++ (x, k) :: L.drop b).length = L.length + 1 := pm.length_eq
  have hh : (L.map fun p => thash P w p.2).take b ++ thash P w k :: (L.map fun p => thash P w p.2).drop b = (L.take b ++ (x, k) :: L.drop b).map fun p => thash P w p.2 := by rw [List.map_append, List.map_cons, List.map_take, List.map_drop]
  rw [hh] at T1
  rw [List.length_map] at fl
  have uni : ((L.take b ++ (x, k) :: L.drop b).map (·.2)).Nodup := (pm.map (·.2)).nodup_iff.mpr (List.nodup_cons.mpr ⟨hm, R.uni⟩)
  have ee : (SetTable.insertAt es b (thash P w k, Value.ref x)).toList = rowsOf P w (L.take b ++ (x, k) :: L.drop b) := by rw [SetTable.toList_insertAt, rows_put, R.ents]
  have keep : (t.put j).2 = b ∧ (t.put j).1.mask = t.mask ∧ (t.put j).1.led = t.led ∧ (t.put j).1.plain = t.plain := ⟨eb, rfl, rfl, rfl⟩
  generalize t.put j = tp at T1 fl keep ⊢
  obtain ⟨t1, b1⟩ := tp
  obtain ⟨k1, k2, k3, k4⟩ := keep
  dsimp only at T1 fl k1 k2 k3 k4 ⊢
  subst k1
  have pl1 : t1.plain = true := k4.trans R.pln
  first
    | (refine wpAny_bind ?_; refine wp_if_pos pl1 ?_; refine hashBy_tup hx ?_)
    | refine wp_if_pos pl1 (wpAny_bind (hashBy_tup hx ?_))
  simp only [if_true]
  have sz1 := ents_size ee
  rw [ln] at sz1
  generalize SetTable.insertAt es b1 (thash P w k, Value.ref x) = es1 at ee sz1 ⊢
  generalize L.take b1 ++ (x, k) :: L.drop b1 = L1 at pm ln T1 uni ee
  refine wpAny_bind (wpAny_storeSet_of ho hd ?_ (by rw [sz1, sizeLine_eq]; omega))
  have sb : Heap.SameBut a s.heap (s.heap.update a (Obj.putSet es1 t1)) := Heap.SameBut.update ..
  have ho1 := store_at (es' := es1) (t' := t1) ho hd
  generalize s.heap.update a (Obj.putSet es1 t1) = h1 at sb ho1 ⊢
  have tups1 : ∀ p ∈ L1, IsT P w h1 p.2 p.1 := fun p hp => (List.mem_cons.mp (pm.mem_iff.mp hp)).elim (fun e => by rw [e]; exact isT_same hx ho hd sb) fun hp => isT_same (R.tups p hp) ho hd sb
  have led1 : w.params.followText "set-order" = true ∨ t1.led = true := R.ledd.imp id fun z => k3.trans z
  have tf : t1.tooFull = decide ((L.length + 1) * 5 ≥ t.mask * 3) := by
    unfold SetTable.tooFull
    rw [fl, k2]
  have fit1 : t1.fits es1.size = true := by
    have n : t1.place.size = es1.size := by rw [T1.cnt, List.length_map, ln, sz1]
    unfold SetTable.fits
    rw [n, fl, beq_self_eq_true, Bool.true_and, k2]
    exact decide_eq_true (by omega)
  by_cases full : (L.length + 1) * 5 ≥ t.mask * 3
  · have hf : t1.tooFull = true := tf.trans (decide_eq_true full)
    obtain ⟨m2, g1, g2, g3⟩ := grown_size R.tb.msk full rm few
    have go : wpAny (model P w) A (setRelay a (SetTable.grown (L.length + 1))) (fun _ s' => wpAny (model P w) A (pure true) Q E s') E { s with heap := h1 } :=
      relayS (s := { s with heap := h1 }) ho1 ⟨hex.1, hex.2.1, hex.2.2⟩ rfl ee fit1 uni tups1 pl1 led1 (by rw [ln]; exact few) g1 g2 (by rw [ln]; exact g3) fun h2 L2 es2 ep2 t2 sb2 R2 pm2 => wpAny_pure (q true h2 L2 es2 ep2 t2 (sb.trans sb2) R2 (fun z => absurd z hm) fun _ => pm2.trans pm)
    rw [sz]
    first
      | (refine wpAny_bind ?_; refine wp_if_pos (by simp [hf]) ?_; exact go)
      | (refine wp_if_pos (by simp [hf]) ?_; exact wpAny_bind go)
  · have hf : t1.tooFull = false := tf.trans (decide_eq_false full)
    have fin : wpAny (model P w) A (pure true) Q E { s with heap := h1 } := wpAny_pure (q true h1 L1 es1 (ep + 1) t1 sb ⟨⟨_, ho1, ⟨hex.1, hex.2.1, hex.2.2⟩, rfl⟩, ee, T1, uni, tups1, pl1, led1, by rw [ln, k2]; omega, by rw [ln]; exact few⟩ (fun z => absurd z hm) fun _ => pm)
    first
      | (refine wp_if_neg (by simp [hf]) ?_; exact fin)
      | (refine wpAny_bind ?_; refine wp_if_neg (by simp [hf]) ?_; refine wpAny_pure ?_; exact fin)
theorem SR.keep (R : SR P w h a L es ep t) (k : ∀ b o, h.get? b = some o → h'.get? b = some o) : SR P w h' a L es ep t := by
  obtain ⟨o, ho, r⟩ := R.here
  exact ⟨⟨o, k a o ho, r⟩, R.ents, R.tb, R.uni, fun p hp => isT_keep (R.tups p hp) k, R.pln, R.ledd, R.roomy, R.most⟩
theorem SR.new (ho : h.get? a = some { cls := .type "set", dict := none, data := .set #[] 0 (.fresh 0 0 (!w.params.followText "set-order")) }) : SR P w h a [] #[] 0 (.fresh 0 0 (!w.params.followText "set-order")) := by
  refine ⟨⟨_, ho, ⟨rfl, rfl, rfl⟩, rfl⟩, rfl, ⟨List.Pairwise.nil, rfl, rfl, .inl (.inl rfl), fun x z => (by cases z), fun i g j z => (by simp at z)⟩, List.nodup_nil, fun p z => (by cases z), rfl, ?_, by show 0 * 5 < 7 * 3; decide, Nat.zero_le _⟩
  show w.params.followText "set-order" = true ∨ (!w.params.followText "set-order") = true
  cases w.params.followText "set-order" <;> simp
end
end SG
set_option Elab.async false
set_option linter.all false
set_option maxRecDepth 100000
set_option maxHeartbeats 4000000
namespace Ov
section
open PySem PySem.Spec PySem.Calls PyProof.Rows L2 SG
/-! sets of up to 299 different tuples -/
structure SR0 (P : Program) (w : World) (h : Heap) (a : Addr) (L : List (Addr × List Int)) : Prop where
  all : ∃ (es : Array (Int × Value)) (ep : Nat) (t : SetTable), (∃ o, h.get? a = some o ∧ o.ExactSet ∧ o.data = .set es ep t) ∧ es.toList = rowsOf P w L ∧ Tb t (L.map fun p => thash P w p.2) ∧ (L.map (·.2)).Nodup ∧ t.plain = true ∧ (w.params.followText "set-order" = true ∨ t.led = true) ∧ L.length * 5 < t.mask * 3 ∧ L.length ≤ 300
def SO (P : Program) (w : World) (a : Addr) (L : List (Addr × List Int)) : HO := .ext fun h => SR0 P w h a L
section
variable {P : Program} {w : World} {A : Around} {E : Value → Shared → Prop} {s : Shared} {h : Heap} {a : Addr} {L : List (Addr × List Int)}
theorem SO_of {es : Array (Int × Value)} {ep : Nat} {t : SetTable} (R : SR P w h a L es ep t) : SR0 P w h a L := ⟨es, ep, t, R.here, R.ents, R.tb, R.uni, R.pln, R.ledd, R.roomy, R.most⟩
theorem SO_full (R : SR0 P w h a L) (ht : ∀ p ∈ L, IsT P w h p.2 p.1) : ∃ es ep t, SR P w h a L es ep t := by
  obtain ⟨es, ep, t, c1, c2, c3, c4, c5, c6, c7, c8⟩ := R.all
  exact ⟨es, ep, t, c1, c2, c3, c4, ht, c5, c6, c7, c8⟩
theorem SO_new {H : Hp} (R : SR0 P w h a L) : ObjOk P w H h a (SO P w a L) := by
  have ⟨es, ep, t, ⟨o, ho, r⟩, q⟩ := R.all
  refine ⟨R, ⟨o, ho⟩, fun h1 h2 p k => ?_⟩
  obtain ⟨es', ep', t', ⟨o', ho', r'⟩, q'⟩ := SR0.all p
  exact ⟨es', ep', t', ⟨o', k o' ho', r'⟩, q'⟩
theorem adds_many {ks : List (Addr × List Int)} {items : Array Value} {h0 : Heap} {S : Addr} (hit : items.toList = ks.map fun p => Value.ref p.1) (hk : ∀ p ∈ ks, IsT P w h0 p.2 p.1) (hS0 : h0.get? S = none) (few : ∀ L : List (Addr × List Int), (L.map (·.2)).Nodup → (∀ p ∈ L, p ∈ ks) → L.length + 1 ≤ 300)
    (A : Around) (hu : A.units < cLine) : AddsJ P w A S (fun i h => (∀ b o, h0.get? b = some o → h.get? b = some o) ∧ ∃ L es ep t, SR P w h S L es ep t ∧ Got ks i L) items.size fun i v => items[i]? = some v := by
  rintro i v s E Q hi hv ⟨kp, L, es, ep, t, R, g⟩ q
  obtain ⟨p, hp, rfl⟩ : ∃ p, ks[i]? = some p ∧ v = .ref p.1 := by
    have z : items.toList[i]? = some v := by rw [Array.getElem?_toList]; exact hv
    rw [hit, List.getElem?_map] at z
    cases y : ks[i]? with
    | none => rw [y] at z; cases z
    | some p => rw [y] at z; exact ⟨p, rfl, (Option.some.inj z).symm⟩
  have sub : ∀ r ∈ L, r ∈ ks := fun r hr => List.mem_of_mem_take (g.sub r hr)
  have hx : IsT P w s.heap p.2 p.1 := isT_keep (hk p (List.mem_of_getElem? hp)) kp
  refine wpAny_holding ?_
  unfold setAdd
  refine wpAny_holding (wpAny_bind (wpAny_pyHash_tuple hu hx ?_))
  refine addS (s := { s with toks := s.toks + (p.2.length + 1) }) R hx hu (few L R.uni sub) fun b h' L' es' ep' t' sb R' c1 c2 => ?_
  refine q h' _ (Nat.le_add_right _ _) sb ⟨fun b o e => (sb.2 b fun z => by rw [z, hS0] at e; cases e).trans (kp b o e), L', es', ep', t', R', ?_⟩
  rcases Classical.em (p.2 ∈ L.map (·.2)) with c | c
  · rw [c1 c]; exact g.same hp c
  · exact g.more hp (c2 c)
end
section
variable {X : Cx}
def rSetZ (K : PySem.W.Frag) (P : Program) (w : World) : List V → Hp → VK → Prop := fun xs H Q => ∃ (l : Addr) (ks : List (Addr × List Int)), xs = [V.ref l] ∧ SqL K H l (ks.map fun p => V.ref p.1) ∧ (∀ p ∈ ks, SqT K H p.1 (p.2.map V.int)) ∧
  (∀ L : List (Addr × List Int), (L.map (·.2)).Nodup → (∀ p ∈ L, p ∈ ks) → L.length + 1 ≤ 300) ∧
  ∀ a L, H a = none → (∀ p ∈ L, p ∈ ks) → (∀ p ∈ ks, p.2 ∈ L.map (·.2)) → Q (.ref a) (upd H a (SO P w a L))
theorem cr_setZ (hc : X.calm = true) (hu : X.A.units + 64 < cLine) : CallR X (.type "set") (rSetZ X.K X.prog X.w) := by
  intro pins s σ H xs us Q I r h
  obtain ⟨l, ks, rfl, hl, hk, hf, q⟩ := h
  rw [Vals.ref1 r]
  obtain ⟨its, rv, pl, hz⟩ := I.list hl
  have hn : H s.heap.objs.size = none := I.hok.fresh (Nat.le_refl _)
  have hS0 : s.heap.get? s.heap.objs.size = none := by
    cases z : s.heap.get? s.heap.objs.size with
    | none => rfl
    | some o => exact absurd (Heap.lt_size z) (Nat.lt_irrefl _)
  have hI0 : ∀ b o, s.heap.get? b = some o → b ≠ s.heap.objs.size + 1 := fun b o e z => absurd (Heap.lt_size e) (by rw [z]; exact Nat.not_lt.mpr (Nat.le_succ _))
  have hit : its.toArray.toList = ks.map fun p => Value.ref p.1 := by simpa using refs_of_vals rv
  have isz : its.toArray.size = ks.length := by
    have := congrArg List.length hit
    simpa using this
  have hkT : ∀ p ∈ ks, IsT X.prog X.w s.heap p.2 p.1 := fun p hp => I.isT (hk p hp)
  refine call_setJ (P := X.prog) (w := X.w) (J := fun i h => (∀ b o, s.heap.get? b = some o → h.get? b = some o) ∧ ∃ L es ep t, SR X.prog X.w h s.heap.objs.size L es ep t ∧ Got ks i L) (I.ok.hd hc) pl.isList (by omega) ?_ ?_ (adds_many hit hkT hS0 hf) ?_
  · rintro i h h' ⟨k, L, es, ep, t, R, g⟩ kk
    have k' : ∀ b o, s.heap.get? b = some o → h'.get? b = some o := fun b o e => kk b o (hI0 b o e) (k b o e)
    obtain ⟨o, ho, r⟩ := R.here
    exact ⟨k', L, es, ep, t, ⟨⟨o, kk _ o (by omega) ho, r⟩, R.ents, R.tb, R.uni, fun p hp => isT_keep (hkT p (List.mem_of_mem_take (g.sub p hp))) k', R.pln, R.ledd, R.roomy, R.most⟩, g⟩
  · exact fun h' k e => ⟨k, [], #[], 0, _, SR.new e, Got.zero ks⟩
  · rintro h' tk ⟨k, L, es, ep, t, R, g⟩
    rw [isz] at g
    exact ⟨.ref s.heap.objs.size, upd H s.heap.objs.size (SO X.prog X.w s.heap.objs.size L), I.laid (t' := tk) k (Nat.le_refl _) (SO_new (SO_of R)), rfl, q _ L hn (fun p hp => List.mem_of_mem_take (g.sub p hp)) fun p hp => g.all p (by rw [List.take_length]; exact hp)⟩
end
/-- sorted of such a set -/
def rSortSZ (K : PySem.W.Frag) (P : Program) (w : World) : List V → Hp → VK → Prop := fun vs H Q => ∃ (a : Addr) (L : List (Addr × List Int)), vs = [V.ref a] ∧ H a = some (SO P w a L) ∧ (∀ p ∈ L, TP H p.1 (p.2.map V.int)) ∧ ((∀ p ∈ L, p.2 ≠ []) ∨ ∀ p ∈ L, p.2 = []) ∧
  ∀ (ys : List V) (mss : List (List Int)) (p : Addr), mss.Perm (L.map (·.2)) → (L.map (·.2)).Nodup → mss.Pairwise (fun a b => HT.lexLt b a = false) → NsV K H ys mss → H p = none → Q (.ref p) (upd H p (.lst ys))
theorem cr_sortSZ {X : Cx} (hc : X.calm = true) (hu : X.A.units + 64 < cLine) : CallR X (.builtin "sorted") (rSortSZ X.K X.prog X.w) := by
  intro pins s σ H xs us Q I r h
  obtain ⟨a, L, rfl, ha, hk, hal, q⟩ := h
  obtain ⟨es, ep, t, R⟩ := SO_full (show SR0 X.prog X.w s.heap a L from (I.hok a _ ha).1) fun p hp => I.isT (hk p hp).sq
  rw [Vals.ref1 r]
  obtain ⟨o, ho, hex, hd⟩ := R.here
  have few := R.most
  have size := SG.ents_size R.ents
  refine call_function_entry kind_sorted plain_sorted entry_sorted (args_sorted1 _) ?_
  unfold Builtin.«sorted»
  refine wpAny_bind (m := checkCount "sorted" 1 1 _) (wpAny_pure ?_)
  refine wpAny_bind (collect_set (A := X.A.in1) (I.ok.hd hc) ⟨o, ho, hex.1, hd⟩ R.fit (by unfold scanBound; omega) R.tb.up R.ledd fun z vs kz hz gz oz pm => ?_)
  have he : es.toList.map (·.2) = L.map fun q => Value.ref q.1 := by
    rw [R.ents]
    exact List.map_map
  rw [he] at pm
  have lv : vs.length = L.length := by rw [pm.length_eq, List.length_map]
  have mem : ∀ v ∈ vs, ∃ q ∈ L, v = Value.ref q.1 ∧ TS.TupInts s.heap v q.2 := fun v hv => by
    obtain ⟨q, hq, e⟩ := List.mem_map.mp (pm.mem_iff.mp hv)
    refine ⟨q, hq, e.symm, ?_⟩
    rw [← e]
    exact tupI_raw I (hk q hq).sq
  have za : vs.length ≤ sizeLine := by rw [lv, sizeLine_eq]; omega
  refine wpAny_bind (wpAny_newList ?_ za)
  have hoL : (z.heap.push (seqObj "list" vs.toArray 0)).get? z.heap.objs.size = some (seqObj "list" vs.toArray 0) := Heap.get?_push_size _ rfl
  have old : ∀ b u, s.heap.get? b = some u → (z.heap.push (seqObj "list" vs.toArray 0)).get? b = some u := fun b u e => Heap.get?_push_of_some _ (kz b u e)
  refine wpAny_bind (wpAny_holding (wpAny_call_entry slot_list_sort ⟨_, hoL, rfl⟩ entry_list_sort
    (SrtO.list_sort_ord (s := { z with heap := z.heap.push (seqObj "list" vs.toArray 0) }) (NtL.swo_lexL (TS.intsOf s.heap)) hoL za (fun h2 => ?_) fun out g1 g2 => ⟨_, rfl, ?_⟩) (args_list_sort _)))
  · have hp' : ∀ v ∈ vs, TS.TupInts (z.heap.push (seqObj "list" vs.toArray 0)) v (TS.intsOf s.heap v) := fun v hm => by
      obtain ⟨q, _, _, k⟩ := mem v hm
      rw [k.ints]
      exact k.keeps fun b u e _ => old b u e
    have hcl : ∀ u, (z.heap.push (seqObj "list" vs.toArray 0)).get? z.heap.objs.size = some u → u.cls ≠ .type "tuple" := fun u e => by
      cases e.symm.trans hoL
      exact fun c => absurd (Value.type.inj c) (by decide)
    rcases hal with hd | hd
    · exact tups_sort1 (s := { z with heap := z.heap.push (seqObj "list" vs.toArray 0) }) (by omega) (fun v hm => ⟨hp' v hm, by
        obtain ⟨q, hq, _, k⟩ := mem v hm
        rw [k.ints]
        exact hd q hq⟩) hcl
    · exact tups_sort0 (s := { z with heap := z.heap.push (seqObj "list" vs.toArray 0) }) (by show X.A.units + 1 + 1 < cLine; omega) h2 (fun v hm => ⟨hp' v hm, by
        obtain ⟨q, hq, _, k⟩ := mem v hm
        rw [k.ints]
        exact hd q hq⟩) hcl
  · obtain ⟨c, hcn⟩ := sortedHeap_at (vs := vs) (out := out.toArray) hoL
    have mem3 : ∀ u ∈ out, ∃ q ∈ L, u = Value.ref q.1 ∧ TS.TupInts s.heap u q.2 := fun u hu => mem u (g2.perm.mem_iff.mp hu)
    have h3 : ∀ u ∈ out, ∃ b, u = Value.ref b := fun u hu => by
      obtain ⟨q, _, e, _⟩ := mem3 u hu
      exact ⟨q.1, e⟩
    have lo : out.length = vs.length := g2.perm.length_eq
    have keep : ∀ b u, s.heap.get? b = some u → (sortedHeap (z.heap.push (seqObj "list" vs.toArray 0)) z.heap.objs.size vs out.toArray).get? b = some u := fun b u e => by
      have hb := Heap.lt_size (kz b u e)
      rw [sortedHeap_old (Nat.ne_of_lt hb) (by rw [size_push']; exact Nat.lt_succ_of_lt hb)]
      exact old b u e
    have hn : H z.heap.objs.size = none := I.hok.fresh hz
    have J : Inv X pins σ (upd H z.heap.objs.size (.lst (out.map backV))) { s with heap := sortedHeap (z.heap.push (seqObj "list" vs.toArray 0)) z.heap.objs.size vs out.toArray, gens := z.gens, drawn := z.drawn, toks := z.toks } :=
      I.call (ch := []) (Un.laid keep hz hn) (I.hok.laid keep hz ⟨by rw [List.length_map, lo]; exact za, out, c, vals_back h3, hcn⟩) (by rw [gz]; exact I.bare) (fun _ y => nomatch y)
    have e : ({ z with heap := sortedHeap (z.heap.push (seqObj "list" vs.toArray 0)) z.heap.objs.size vs out.toArray } : Shared) = { s with heap := sortedHeap (z.heap.push (seqObj "list" vs.toArray 0)) z.heap.objs.size vs out.toArray, gens := z.gens, drawn := z.drawn, toks := z.toks } := by
      cases z
      cases s
      cases oz
      rfl
    refine wpAny_pure ⟨_, rfl, ?_⟩
    show ∃ v' H', Inv X pins σ H' { z with heap := sortedHeap (z.heap.push (seqObj "list" vs.toArray 0)) z.heap.objs.size vs out.toArray } ∧ _ ∧ _
    rw [e]
    refine ⟨.ref z.heap.objs.size, _, J, rfl, q _ (out.map (TS.intsOf s.heap)) z.heap.objs.size ?_ R.uni ?_ ⟨by rw [List.length_map, List.length_map], fun i y x hy hx => ?_⟩ hn⟩
    · refine ((g2.perm.trans pm).map _).trans ?_
      rw [List.map_map]
      refine List.Perm.of_eq (List.map_congr_left fun p hp => ?_)
      exact (tupI_raw I (hk p hp).sq).ints
    · exact List.pairwise_map.mpr (List.Pairwise.imp (fun y => y) g1)
    · rw [List.getElem?_map] at hy hx
      obtain ⟨u, hu, rfl⟩ := Option.map_eq_some_iff.mp hy
      obtain ⟨u', hu', rfl⟩ := Option.map_eq_some_iff.mp hx
      cases hu.symm.trans hu'
      obtain ⟨p, hp, e, k⟩ := mem3 u (List.mem_of_getElem? hu)
      refine ⟨p.1, by rw [e]; rfl, ?_⟩
      rw [k.ints]
      exact hk p hp
end
open PySem L2
/-! pairs -/
theorem lsP_lt {p q : Int × Int} (h : ltQ p q) : HT.lexLt (lsP p) (lsP q) = true := by
  obtain ⟨a, b⟩ := p
  obtain ⟨c, d⟩ := q
  have h : a < c ∨ (a = c ∧ b < d) := h
  show HT.lexLt [a, b] [c, d] = true
  rw [HT.lexLt_cons, HT.lexLt_cons]
  by_cases e : a = c
  · rw [if_pos e, if_neg (by omega)]
    exact decide_eq_true (by omega)
  · rw [if_neg e]
    exact decide_eq_true (by omega)
theorem ssT_prs (ps : List (Int × Int)) : ssT (ps.map lsP) = (ssP ps).map lsP := by
  have pw : ((ssP ps).map lsP).Pairwise fun a b => HT.lexLt a b = true := List.pairwise_map.mpr ((ssP_pw ps).imp fun h => lsP_lt h)
  refine (ssT_uniq (pw.imp fun {a b} h e => ?_) (pw.imp fun h => NtL.lex_asym _ _ h) fun z => ?_).symm
  · subst e
    rw [lex_ir] at h
    cases h
  · rw [List.mem_map, List.mem_map]
    exact ⟨fun ⟨x, h1, h2⟩ => ⟨x, ssP_mem.mp h1, h2⟩, fun ⟨x, h1, h2⟩ => ⟨x, ssP_mem.mpr h1, h2⟩⟩
end Ov
set_option Elab.async false
set_option linter.all false
set_option maxRecDepth 100000
set_option maxHeartbeats 4000000
namespace Ov
open PySem L2
/-! told = [x, ..]; if not f(told, d): return False: x a list of one's own, which stays so; told is not read again -/
def bW : Wv → Option Bool
  | .dat (.bool b) => some b
  | _ => none
theorem bW_eq {w : Wv} {b : Bool} (h : bW w = some b) : w = .dat (.bool b) := by
  unfold bW at h
  split at h
  · cases h; rfl
  · cases h
def clrM (j : Nat) : M Unit := fun env => if j < env.length then some (.ok () (env.set j none)) else none
def tellS (i j : Nat) (F : List PyData → Option Wv) (fe : M (List R)) (fd : M R) : M Fl := M.bind (vsM i) fun _ => M.bind fe fun rs => M.bind (lift (dds rs)) fun d1 => M.bind (lift (sz (d1.length + 1))) fun _ => M.bind (clrM j) fun _ => M.bind fd fun r => M.bind (lift (dds [r])) fun d => M.bind (vsM i) fun x => M.bind (lift ((F (.list (x :: d1) :: d)).bind bW)) fun b => M.pure (if b = true then .nx else .rt (.dat (.bool false)))
section
variable {K : PySem.W.Frag} {E : XK} {bx : Bool}
theorem Rep.clr {B : Addr → Prop} {σ : St} {H : Hp} {env : En} {l : List Addr} {j : Nat} (r : Rep K B σ H env l) (hj : j < env.length) (v : V) : ∃ l', Rep K B (σ.set j (some v)) H (env.set j none) l' ∧ ∀ b ∈ l', b ∈ l := by
  obtain ⟨s, a, lx, ly, q1, q2, q3, q5⟩ := r.rp.focus (List.getElem?_eq_getElem hj)
  have nd := r.nd
  rw [q2] at nd
  obtain ⟨n1, n2, n3⟩ := List.nodup_append.mp nd
  obtain ⟨n4, n5, n6⟩ := List.nodup_append.mp n2
  have mem : ∀ b ∈ lx ++ ([] ++ ly), b ∈ l := fun b z => by
    rw [q2]
    rcases List.mem_append.mp z with z | z
    · exact List.mem_append_left _ z
    · exact List.mem_append_right _ (List.mem_append_right _ (by simpa using z))
  refine ⟨lx ++ ([] ++ ly), ⟨q5 (off_mono (fun b z n => absurd (z.imp id (mem b)) n) fun b o n e => e) (fun _ _ => rfl) (fun _ _ => rfl) rfl, ?_, fun b z => r.out b (mem b z), r.tb⟩, mem⟩
  rw [List.nil_append]
  exact List.nodup_append.mpr ⟨n1, n5, fun x hx y hy => n3 x hx y (List.mem_append_right _ hy)⟩
theorem OkS.tell {i j : Nat} (hij : i ≠ j) (hb : bx = true → j ≠ 0) {F : List PyData → Option Wv} {E' : XK} {te : TA} {td : TE} {fe : M (List R)} {fd : M R} (oe : OkA K E te fe) (od : OkE K E td fd) :
    OkS K E bx (Evl.tCut (tAsg (tLst (tCons (tVar i) te)) (gName j)) (tIfS (tNot (tB (tCall (spA K F) [] E' (tCons (tVar j) (tCons td tNil))))) (tRet (tC (.bl false))) tNext)) (tellS i j F fe fd) := by
  refine ⟨?_⟩
  intro B σ H env l rs rp h D post
  obtain ⟨x0, hx0, h⟩ := vsM_step h
  obtain ⟨vi, si, _⟩ := vslot_da rp hx0
  refine ⟨fun σ' H' => ∃ e vs d1 l' q, (M.bind fd fun r => M.bind (lift (dds [r])) fun d => M.bind (vsM i) fun x => M.bind (lift ((F (.list (x :: d1) :: d)).bind bW)) fun b => M.pure (if b = true then .nx else .rt (.dat (.bool false)))) e = some rs ∧ Rep K B σ' H' e l' ∧ Fr2 l H l' H' ∧ (bx = true → σ'[0]? = σ[0]?) ∧ σ'[i]? = some (some vi) ∧ σ'[j]? = some (some (.ref q)) ∧ ¬ un B l' q ∧ H' q = some (.lst (vi :: vs)) ∧ DaAll K (off (un B l') H') vs d1, ?_, ?_⟩
  · refine ⟨vi, si, ?_⟩
    refine oe.seq rp h post.exn fun a e vs H1 h1 r1 f1 q1 => ?_
    obtain ⟨d1, h2, h3⟩ := lift_step h1
    obtain ⟨u, h4, h5⟩ := lift_step h3
    have da := dds_ok q1 h2
    refine ⟨by show vs.length + 1 ≤ _; rw [daAll_len da]; exact sz_ok h4, fun p hp => ?_⟩
    have np := r1.fresh hp
    have s0 := same_new hp (.lst (vi :: vs))
    have r2 := r1.same s0
    have hj : j < e.length ∧ (M.bind fd fun r => M.bind (lift (dds [r])) fun d => M.bind (vsM i) fun x => M.bind (lift ((F (.list (x :: d1) :: d)).bind bW)) fun b => M.pure (if b = true then .nx else .rt (.dat (.bool false)))) (e.set j none) = some rs := by
      rcases bind_some h5 with ⟨a', e', c1, c2⟩ | ⟨C, f, d, c1, c2⟩
      · unfold clrM at c1
        split at c1
        · cases c1; exact ⟨by assumption, c2⟩
        · cases c1
      · unfold clrM at c1
        split at c1 <;> cases c1
    obtain ⟨l', r3, sub⟩ := r2.clr hj.1 (.ref p)
    have lσ : j < σ.length := by rw [r1.len]; exact hj.1
    refine ⟨e.set j none, vs, d1, l', p, hj.2, r3, ⟨(f1.trans (Fr.of s0)), fun b z => .inl (sub b z)⟩, fun z => List.getElem?_set_ne (hb z), by rw [List.getElem?_set_ne (Ne.symm hij)]; exact si, List.getElem?_set_self lσ, fun z => np (z.imp id (sub p)), upd_same, ?_⟩
    exact DaAll.same (off_mono (fun b z n => absurd (z.imp id (sub b)) n) fun b o n e => e) _ (DaAll.same (Fr.of s0).keep _ da)
  · rintro σ' H' ⟨e, vs, d1, l', q, h1, r1, f1, b1, s1, s2, nq, hq, da⟩
    refine ⟨.ref q, s2, ?_⟩
    have pe : ∀ C f d, rs = .ex C f d → Exn K E B H' l' C f d := fun C f d z => by subst z; exact Exn.later2 (show Exn K E B H l C f d from post) f1
    refine od.seq r1 h1 pe fun a e2 v H2 h2 r2 f2 q2 => ?_
    obtain ⟨d, h3, h4⟩ := lift_step h2
    obtain ⟨x, hx, h5⟩ := vsM_step h4
    obtain ⟨b, h6, h7⟩ := lift_step h5
    obtain ⟨w, h8, h9⟩ := Option.bind_eq_some_iff.mp h6
    have ew := bW_eq h9
    subst ew
    cases h7
    obtain ⟨vi', si', dx⟩ := vslot_da r2 hx
    rw [s1] at si'
    cases si'
    show spA K F [V.ref q, v] H2 _ E'
    have hq2 : H2 q = some (.lst (vi :: vs)) := f2 q _ (fun z => nq (.inr z)) hq
    have dd := dds_ok (vs := [v]) (rs := [a]) ⟨q2, trivial⟩ h3
    refine ⟨B, _, .dat (.bool b), .cons (.lst (SqL.of ((off_ne fun z => nq (.inl z)).trans hq2)) (.cons dx (DaAll.same off_wide _ (DaAll.same f2.keep _ da)))) (DaAll.same off_wide _ dd), r2.tb, h8, fun v' H3 lw sm rv nd fr => ?_⟩
    obtain ⟨_, dv⟩ := rv
    cases dv
    refine ⟨b, rfl, ?_⟩
    have r3 := r2.same sm
    have ff : Fr2 l H l' H3 := f1.trans (Fr2.of (f2.trans (Fr.of sm)))
    cases b with
    | true =>
      refine iteF ?_
      exact post σ' H3 l' r3 ff b1
    | false =>
      refine iteT ?_
      exact post (.bl false) σ' H3 l' [] (by rw [un_nil]; exact r3) ⟨ff.fr, fun b z => (List.mem_append.mp z).elim (fun z => ff.sub b z) fun z => by cases z⟩ b1 ⟨rfl, .bl _⟩ List.nodup_nil fun _ z => by cases z
theorem tellS_x {i j : Nat} {F : List PyData → Option Wv} {fe : M (List R)} {fd : M R} {env e1 e2 : En} {x0 x : PyData} {rs : List R} {r : R} {d1 d : List PyData} {b : Bool} (h0 : vslot env i = some x0) (h1 : fe env = some (.ok rs e1)) (h2 : dds rs = some d1) (hl : d1.length + 1 ≤ 1000000) (hj : j < e1.length) (h3 : fd (e1.set j none) = some (.ok r e2)) (h4 : dds [r] = some d) (h5 : vslot e2 i = some x) (h6 : F (.list (x :: d1) :: d) = some (.dat (.bool b))) :
    tellS i j F fe fd env = some (.ok (if b = true then .nx else .rt (.dat (.bool false))) e2) := by
  refine bind_go (vsM_x h0) (bind_go h1 (bind_go (a := d1) (e := e1) (by rw [h2]; rfl) (bind_go (a := ()) (e := e1) (by unfold sz; rw [if_pos hl]; rfl) (bind_go (a := ()) (e := e1.set j none) (by unfold clrM; rw [if_pos hj]) (bind_go h3 (bind_go (a := d) (e := e2) (by rw [h4]; rfl) (bind_go (vsM_x h5) (bind_go (a := b) (e := e2) (by rw [h6]; rfl) rfl))))))))
/-! sorted(set(xs)) as a list of one's own -/
def sortSetZL (as : List PyData) : Option (List PyData) :=
  match as with
  | [.list ds] => (nssD ds).bind fun nss => if (ssT nss).length + 1 ≤ 300 ∧ alike nss = true then some ((ssT nss).map tnD) else none
  | _ => none
theorem sortSetZL_out {as : List PyData} {es : List PyData} (h : sortSetZL as = some es) : ∃ ds nss, as = [.list ds] ∧ nssD ds = some nss ∧ ((ssT nss).length + 1 ≤ 300 ∧ alike nss = true) ∧ es = (ssT nss).map tnD := by
  unfold sortSetZL at h
  split at h
  case h_2 => cases h
  rename_i ds
  obtain ⟨nss, e1, e2⟩ := Option.bind_eq_some_iff.mp h
  split at e2
  case isFalse => cases e2
  rename_i hc
  cases e2
  exact ⟨ds, nss, rfl, e1, hc, rfl⟩
def sortSetZO (fa : M (List R)) : M Wv := M.bind fa fun a => M.bind (vws a) fun ds => M.bind (lift (sortSetZL ds)) fun es => M.pure (.own (dats es))
theorem OkW.sortSetZO {P : Program} {w : World} {t : TA} {fa : M (List R)} (oa : OkA K E t fa) : OkW K E (tCB (rSortSZ K P w) (tCons (tCB (rSetZ K P w) t) tNil)) (Ov.sortSetZO fa) := by
  refine ⟨?_⟩
  intro B σ H env l rs rp h Q post
  refine oa.seq rp h post.exn fun a e vs H1 h1 r1 f1 q1 => ?_
  obtain ⟨ds, h2, hw⟩ := vws_ok r1 q1 h1
  obtain ⟨es9, h5, h6⟩ := lift_step h2
  cases h6
  obtain ⟨es, nss, rfl, e1, hc, rfl⟩ := sortSetZL_out h5
  obtain ⟨x, rfl, wx⟩ := vwAll1 hw
  obtain ⟨p, xs, rfl, hl, hd⟩ := vw_list wx
  rw [nssD_some e1] at hd
  obtain ⟨ks, k1, k2, k3⟩ := da_ns hd
  subst k1
  have sub : Same (off (Ov.un B l) H1) H1 := off_sub _ _
  have k4 : ∀ q ∈ ks, TP H1 q.1 (q.2.map V.int) := fun q hq => (k3 q hq).same sub
  have inn : ∀ q ∈ ks, q.2 ∈ nss := fun q hq => by rw [← k2]; exact List.mem_map.mpr ⟨q, hq, rfl⟩
  have few : ∀ L : List (Addr × List Int), (L.map (·.2)).Nodup → (∀ q ∈ L, q ∈ ks) → L.length + 1 ≤ 300 := fun L nd sb => by
    have := nd.length_le_of_subset (l₂ := ssT nss) fun y hy => by
      obtain ⟨q, hq, rfl⟩ := List.mem_map.mp hy
      exact ssT_mem.mpr (inn q (sb q hq))
    rw [List.length_map] at this
    have := hc.1
    omega
  refine ⟨p, ks, rfl, hl, (fun q hq => (k4 q hq).sq), few, fun b L ha hL1 hL2 => ?_⟩
  have r2 := r1.same (same_new ha (SO P w b L))
  have k5 : ∀ q ∈ L, TP (upd H1 b (SO P w b L)) q.1 (q.2.map V.int) := fun q hq => (k4 q (hL1 q hq)).same (same_new ha _)
  have al := alike_or hc.2
  refine ⟨b, L, rfl, upd_same, k5, al.imp (fun z q hq => z _ (inn q (hL1 q hq))) fun z q hq => z _ (inn q (hL1 q hq)), fun ys mss r pm nd pw py hp' => ?_⟩
  have key : mss = ssT nss := ssT_uniq (pm.nodup_iff.mpr nd) pw fun z => by
    rw [pm.mem_iff]
    constructor
    · intro hz
      obtain ⟨q, hq, rfl⟩ := List.mem_map.mp hz
      exact inn q (hL1 q hq)
    · intro hz
      rw [← k2] at hz
      obtain ⟨q, hq, rfl⟩ := List.mem_map.mp hz
      exact hL2 q hq
  subst key
  obtain ⟨n1, n2⟩ := new_own r2 hp' (ds := (ssT nss).map tnD) (nsV_da ⟨py.1, fun i y z hy hz => (by
    obtain ⟨t, e, k⟩ := py.2 i y z hy hz
    exact ⟨t, e, off_P r2.tl k⟩)⟩)
  exact post _ _ [r] n1 ((f1.trans (Fr.of (same_new ha _))).trans (Fr.of (same_new hp' _))) n2 (List.nodup_cons.mpr ⟨by simp, List.nodup_nil⟩) (fresh_back r2 (f1.trans (Fr.of (same_new ha _))) hp')
theorem sortSetZO_x {env e1 : En} {fa : M (List R)} {rs : List R} {ps : List (Int × Int)} (h1 : fa env = some (.ok rs e1)) (v : vws rs e1 = some (.ok [.list (ps.map prD)] e1)) (h : (ssP ps).length + 1 ≤ 300) : sortSetZO fa env = some (.ok (.own (dats ((ssP ps).map prD))) e1) := by
  refine bind_go h1 (bind_go v (bind_go (a := (ssP ps).map prD) (e := e1) ?_ rfl))
  have e : ∀ l : List (Int × Int), l.map prD = (l.map lsP).map tnD := fun l => by rw [List.map_map]; rfl
  have al : alike (ps.map lsP) = true := (Bool.or_eq_true _ _).mpr (.inl (List.all_eq_true.mpr fun x hx => by
    obtain ⟨p, _, rfl⟩ := List.mem_map.mp hx
    rfl))
  have : sortSetZL [.list (ps.map prD)] = some ((ssP ps).map prD) := by
    rw [e ps]
    show (nssD ((ps.map lsP).map tnD)).bind _ = _
    rw [nssD_map]
    show (if (ssT (ps.map lsP)).length + 1 ≤ 300 ∧ alike (ps.map lsP) = true then some ((ssT (ps.map lsP)).map tnD) else none) = _
    rw [if_pos ⟨by rw [ssT_prs, List.length_map]; exact h, al⟩, ssT_prs, e (ssP ps)]
  rw [this]
  rfl
end
end Ov
set_option Elab.async false
set_option linter.all false
set_option maxRecDepth 100000
set_option maxHeartbeats 4000000
namespace Ov
open PySem L2
def top (i : Nat) : Stmt := PySem.Challenge.pw_overlooks_k33_comparisons_of_reports.main.body.getD i (.Pass ⟨0, 0, 0, 0⟩)
abbrev S_orders : Stmt := top 1
abbrev N_orders : List Str := ["many", "reports", "people", "found", "left", "right"]
abbrev P_orders : List Str := ["many", "reports"]
theorem sc_orders : FnScope N_orders P_orders (defScope S_orders) := ⟨rfl, rfl, rfl, by decide +kernel, rfl, by decide +kernel, by decide +kernel⟩
abbrev S_comparisons : Stmt := top 2
abbrev N_comparisons : List Str := ["many", "reports", "found", "people", "left", "right", "person"]
abbrev P_comparisons : List Str := ["many", "reports"]
theorem sc_comparisons : FnScope N_comparisons P_comparisons (defScope S_comparisons) := ⟨rfl, rfl, rfl, by decide +kernel, rfl, by decide +kernel, by decide +kernel⟩
abbrev S_end_of : Stmt := top 3
abbrev N_end_of : List Str := ["many", "reports"]
abbrev P_end_of : List Str := ["many", "reports"]
theorem sc_end_of : FnScope N_end_of P_end_of (defScope S_end_of) := ⟨rfl, rfl, rfl, by decide +kernel, rfl, by decide +kernel, by decide +kernel⟩
abbrev S_cell_at : Stmt := top 5
abbrev N_cell_at : List Str := ["_law_script", "_law_k"]
abbrev P_cell_at : List Str := ["_law_script", "_law_k"]
theorem sc_cell_at : FnScope N_cell_at P_cell_at (defScope S_cell_at) := ⟨rfl, rfl, rfl, by decide +kernel, rfl, by decide +kernel, by decide +kernel⟩
abbrev S_box : Stmt := top 6
abbrev N_box : List Str := ["_law_script", "_law_k", "_law_core"]
abbrev P_box : List Str := ["_law_script", "_law_k"]
theorem sc_box : FnScope N_box P_box (defScope S_box) := ⟨rfl, rfl, rfl, by decide +kernel, rfl, by decide +kernel, by decide +kernel⟩
abbrev S_take : Stmt := top 7
abbrev N_take : List Str := ["_law_box_here", "_law_below", "_law_found", "_law_once", "_law_twice"]
abbrev P_take : List Str := ["_law_box_here", "_law_below"]
theorem sc_take : FnScope N_take P_take (defScope S_take) := ⟨rfl, rfl, rfl, by decide +kernel, rfl, by decide +kernel, by decide +kernel⟩
abbrev S_of : Stmt := top 8
abbrev N_of : List Str := ["_law_box_here", "_law_some"]
abbrev P_of : List Str := ["_law_box_here", "_law_some"]
theorem sc_of : FnScope N_of P_of (defScope S_of) := ⟨rfl, rfl, rfl, by decide +kernel, rfl, by decide +kernel, by decide +kernel⟩
abbrev S_same : Stmt := top 9
abbrev N_same : List Str := ["_law_found", "_law_due", "_law_a", "_law_b"]
abbrev P_same : List Str := ["_law_found", "_law_due"]
theorem sc_same : FnScope N_same P_same (defScope S_same) := ⟨rfl, rfl, rfl, by decide +kernel, rfl, by decide +kernel, by decide +kernel⟩
abbrev S_strewn : Stmt := top 10
abbrev N_strewn : List Str := ["_law_box_here", "_law_some", "_law_left", "_law_found"]
abbrev P_strewn : List Str := ["_law_box_here", "_law_some"]
theorem sc_strewn : FnScope N_strewn P_strewn (defScope S_strewn) := ⟨rfl, rfl, rfl, by decide +kernel, rfl, by decide +kernel, by decide +kernel⟩
abbrev S_lists : Stmt := top 11
abbrev N_lists : List Str := ["_law_part", "_law_piece"]
abbrev P_lists : List Str := ["_law_part"]
theorem sc_lists : FnScope N_lists P_lists (defScope S_lists) := ⟨rfl, rfl, rfl, by decide +kernel, rfl, by decide +kernel, by decide +kernel⟩
abbrev S_sees : Stmt := top 12
abbrev N_sees : List Str := ["_law_crowd", "_law_i", "_law_j", "_law_soul"]
abbrev P_sees : List Str := ["_law_crowd", "_law_i", "_law_j"]
theorem sc_sees : FnScope N_sees P_sees (defScope S_sees) := ⟨rfl, rfl, rfl, by decide +kernel, rfl, by decide +kernel, by decide +kernel⟩
abbrev S_swaps : Stmt := top 13
abbrev N_swaps : List Str := ["_law_crowd", "_law_found", "_law_i", "_law_j"]
abbrev P_swaps : List Str := ["_law_crowd"]
theorem sc_swaps : FnScope N_swaps P_swaps (defScope S_swaps) := ⟨rfl, rfl, rfl, by decide +kernel, rfl, by decide +kernel, by decide +kernel⟩
abbrev S_turned : Stmt := top 14
abbrev N_turned : List Str := ["_law_crowd", "_law_swap", "_law_i", "_law_j"]
abbrev P_turned : List Str := ["_law_crowd", "_law_swap"]
theorem sc_turned : FnScope N_turned P_turned (defScope S_turned) := ⟨rfl, rfl, rfl, by decide +kernel, rfl, by decide +kernel, by decide +kernel⟩
abbrev S_seen_in : Stmt := top 15
abbrev N_seen_in : List Str := ["_law_count", "_law_tour", "_law_here", "_law_found", "_law_i", "_law_j", "_law_low"]
abbrev P_seen_in : List Str := ["_law_count", "_law_tour"]
theorem sc_seen_in : FnScope N_seen_in P_seen_in (defScope S_seen_in) := ⟨rfl, rfl, rfl, by decide +kernel, rfl, by decide +kernel, by decide +kernel⟩
abbrev S_tests : Stmt := top 16
abbrev N_tests : List Str := ["_law_box_here", "_law_count", "_law_most", "_law_odds", "_law_here", "_law_found", "_law_turn", "_law_some", "_law_i", "_law_j"]
abbrev P_tests : List Str := ["_law_box_here", "_law_count", "_law_most", "_law_odds"]
theorem sc_tests : FnScope N_tests P_tests (defScope S_tests) := ⟨rfl, rfl, rfl, by decide +kernel, rfl, by decide +kernel, by decide +kernel⟩
abbrev S_right : Stmt := top 17
abbrev N_right : List Str := ["_law_box_here", "_law_turn", "_law_count", "_law_tour", "_law_kept", "_law_there", "_law_due", "_law_found", "_law_told", "_law_at"]
abbrev P_right : List Str := ["_law_box_here"]
theorem sc_right : FnScope N_right P_right (defScope S_right) := ⟨rfl, rfl, rfl, by decide +kernel, rfl, by decide +kernel, by decide +kernel⟩
abbrev S_law : Stmt := top 18
abbrev N_law : List Str := ["_law_script", "_law_k"]
abbrev P_law : List Str := ["_law_script"]
theorem sc_law : FnScope N_law P_law (defScope S_law) := ⟨rfl, rfl, rfl, by decide +kernel, rfl, by decide +kernel, by decide +kernel⟩
def s_cell_at_0 : M Fl :=
    (ifS (tb1 (op2 ltD (get 1) (cb lenD (acons (get 0) anil)))) (retS (pl (op2 ixD (get 0) (get 1)))) nxt)
def s_cell_at_1 : M Fl :=
    (retS (pl (con (.int 0))))
def f_cell_at : M Fl :=
    (thenS s_cell_at_0 s_cell_at_1)
def F_cell_at : List PyData → Option Wv := runA 2 2 f_cell_at
section
variable {P : Program} {w : World} {K : PySem.W.Frag} {mg : Str → Option Value} {base : Heap} {f : Addr} {fd : FuncData}
theorem dk_cell_at (F : Fun K "_law_cell_at" "_law_cell_at" S_cell_at f fd)  (B : Blt mg) : FnOk P w K mg base CX0 1 f fd P_cell_at (spA K F_cell_at) := by
  refine F.ok sc_cell_at (fun vs H Q E h => lenA h) (fun cdv A outer s H vs Q E hr h => ⟨_, (Evl.pss_cut (ps_if (pt_cmpR op_lt (pv 1) (pe_callB (k_len (K := K) rfl) rfl B.len PySem.boot_len (pa_cons (pv 0) pa_nil)) (nomark _)) (pss_one (ps_ret (pe_ix (k_ix (K := K) rfl) (pv 0) (pv 1) (fun _ _ => rfl)))) pss_nil)
      (pss_one (ps_ret pe_int))), ?_⟩)
  exact finA (N := N_cell_at) (by unfold f_cell_at s_cell_at_1 s_cell_at_0; exact (OkS.cut (OkS.ife (OkT.test (OkE.op ok_lt (OkE.var 1) (OkE.cb ok_len (OkA.cons (OkE.var 0) OkA.nil)))) (OkS.ret (OkE.w (OkE.op ok_ix (OkE.var 0) (OkE.var 1)))) OkS.nil)
      (OkS.ret (OkE.w (OkE.con fun _ => .int _))))) h
end
def s_box_0 : M Fl :=
    (setS 2 (pl (fz (callA F_cell_at (acons (get 0) (acons (get 1) anil))))))
def s_box_1 : M Fl :=
    (retS (lstW (acons (op2 mulD (cb absD (acons (get 2) anil)) (cb intD (acons (op2 geD (cb absD (acons (get 2) anil)) (op2 powD (con (.int 10)) (con (.int 18)))) anil))) (acons (op2 addD (op2 addD (op2 modD (get 2) (con (.int 2305843009213693951))) (op2 mulD (con (.int 39373)) (get 1))) (con (.int 29))) (acons (con (.int 0)) anil)))))
def f_box : M Fl :=
    (thenS s_box_0 s_box_1)
def F_box : List PyData → Option Wv := runA 2 3 f_box
section
variable {P : Program} {w : World} {K : PySem.W.Frag} {mg : Str → Option Value} {base : Heap} {f : Addr} {fd : FuncData}
theorem dk_box (F : Fun K "_law_box" "_law_box" S_box f fd) {g_cell_at : Addr} {d_cell_at : FuncData} (G_cell_at : FnOk P w K mg base CX0 1 g_cell_at d_cell_at P_cell_at (spA K F_cell_at)) (b_cell_at : Binds K d_cell_at P_cell_at []) (k_cell_at : PySem.W.keepIn K (.ref g_cell_at) = true) (m_cell_at : mg "_law_cell_at" = some (.ref g_cell_at)) (B : Blt mg) : FnOk P w K mg base CX0 2 f fd P_box (spA K F_box) := by
  refine F.ok sc_box (fun vs H Q E h => lenA h) (fun cdv A outer s H vs Q E hr h => ⟨_, (Evl.pss_cut (ps_set (i := 2) sc_box.nd rfl (by first | exact Or.inl rfl | exact Or.inr rfl) (pe_call G_cell_at (hr.mono (by decide)) rfl m_cell_at k_cell_at b_cell_at .nil pass0 (pa_cons (pv 0) (pa_cons (pv 1) pa_nil))))
      (pss_one (ps_ret (pe_lst (pa_cons (pe_op op_mul (pe_callB call_abs rfl B.abs (by decide +kernel) (pa_cons (pv 2) pa_nil)) (pe_callTy call_int1 rfl B.int (by decide +kernel) (pa_cons (pe_cmpR op_ge (pe_callB call_abs rfl B.abs (by decide +kernel) (pa_cons (pv 2) pa_nil)) (pe_op op_pow pe_int pe_int) (nomark _)) pa_nil))) (pa_cons (pe_op op_add (pe_op op_add (pe_op op_mod (pv 2) pe_int) (pe_op op_mul pe_int (pv 1))) pe_int) (pa_cons pe_int pa_nil))))))), ?_⟩)
  exact finA (N := N_box) (by unfold f_box s_box_1 s_box_0; exact (OkS.cut (OkS.set (fun z => by cases z) (OkE.w (OkW.e (OkW.call (OkA.cons (OkE.var 0) (OkA.cons (OkE.var 1) OkA.nil))))))
      (OkS.ret (OkW.lst (OkA.cons (OkE.op ok_mul (OkE.cb ok_abs (OkA.cons (OkE.var 2) OkA.nil)) (OkE.cb ok_int (OkA.cons (OkE.op ok_ge (OkE.cb ok_abs (OkA.cons (OkE.var 2) OkA.nil)) (OkE.op ok_pow (OkE.con fun _ => .int _) (OkE.con fun _ => .int _))) OkA.nil))) (OkA.cons (OkE.op ok_add (OkE.op ok_add (OkE.op ok_mod (OkE.var 2) (OkE.con fun _ => .int _)) (OkE.op ok_mul (OkE.con fun _ => .int _) (OkE.var 1))) (OkE.con fun _ => .int _)) (OkA.cons (OkE.con fun _ => .int _) OkA.nil))))))) h
end
def f_take (rec : List PyData → List PyData → Option (Wv × List PyData)) : M Fl :=
    (thenS (ifS (tb1 (op2 gtD (op2 ixD (get 0) (con (.int 0))) (con (.int 0)))) (thenS (setS 2 (pl (op2 modD (op2 ixD (get 0) (con (.int 0))) (get 1))))
    (thenS (setIx 0 (op2 divD (op2 ixD (get 0) (con (.int 0))) (get 1)) (con (.int 0)))
    (retS (pl (get 2))))) nxt)
    (thenS (ifS (tb1 (op2 gtD (get 1) (op2 powD (con (.int 10)) (con (.int 7))))) (retS (pl (op2 modD (op2 addD (fz (callB 0 rec (acons (op2 powD (con (.int 10)) (con (.int 7))) anil))) (op2 mulD (op2 powD (con (.int 10)) (con (.int 7))) (fz (callB 0 rec (acons (op2 addD (op2 divD (get 1) (op2 powD (con (.int 10)) (con (.int 7)))) (con (.int 1))) anil))))) (get 1)))) nxt)
    (thenS (setIx 0 (op2 addD (op2 ixD (get 0) (con (.int 2))) (con (.int 1))) (con (.int 2)))
    (thenS (setS 3 (pl (op2 modD (op2 mulD (op2 addD (op2 ixD (get 0) (con (.int 1))) (op2 mulD (con (.int 48271)) (op2 ixD (get 0) (con (.int 2))))) (op2 addD (con (.int 39373)) (op2 ixD (get 0) (con (.int 2))))) (con (.int 2147483647)))))
    (thenS (setS 4 (pl (op2 modD (op2 mulD (op2 addD (op2 addD (get 3) (op2 ixD (get 0) (con (.int 2)))) (op2 divD (op2 ixD (get 0) (con (.int 1))) (con (.int 1000003)))) (op2 addD (op2 modD (get 3) (con (.int 40009))) (con (.int 7)))) (con (.int 2147483629)))))
    (retS (pl (op2 modD (op2 divD (op2 modD (op2 addD (op2 mulD (get 4) (con (.int 48271))) (get 3)) (con (.int 2147483587))) (con (.int 64))) (get 1)))))))))
def F_take : Nat → List PyData → List PyData → Option (Wv × List PyData)
  | 0 => fun _ _ => none
  | n + 1 => runB 2 5 (f_take (F_take n))
section
variable {P : Program} {w : World} {K : PySem.W.Frag} {mg : Str → Option Value} {base : Heap} {f : Addr} {fd : FuncData}
theorem dk_take (F : Fun K "_law_take" "_law_take" S_take f fd)  (b : Binds K fd P_take []) (m : mg "_law_take" = some (.ref f)) (B : Blt mg) : ∀ n, FnOk P w K mg base CX0 (0 + n) f fd P_take (spB K (F_take n))
  | 0 => ⟨fun vs H Q E h => (vacB h).elim, fun A outer s H args us vs Q E hr he hb hv h => (vacB h).elim⟩
  | n + 1 => by
    have G := dk_take F  b m B n
    refine F.ok sc_take (fun vs H Q E h => lenB h) (fun cdv A outer s H vs Q E hr h => ⟨_, (Evl.pss_cut (ps_if (pt_cmpR op_gt (pe_ix (k_ix (K := K) rfl) (pv 0) pe_int (fun _ _ => rfl)) pe_int (nomark _)) (Evl.pss_cut (ps_set (i := 2) sc_take.nd rfl (by first | exact Or.inl rfl | exact Or.inr rfl) (pe_op op_mod (pe_ix (k_ix (K := K) rfl) (pv 0) pe_int (fun _ _ => rfl)) (pv 1)))
      (Evl.pss_cut (ps_asg (pe_op op_fdiv (pe_ix (k_ix (K := K) rfl) (pv 0) pe_int (fun _ _ => rfl)) (pv 1)) (pg_sub (pv 0) pe_int set_list))
      (pss_one (ps_ret (pv 2))))) pss_nil)
      (Evl.pss_cut (ps_if (pt_cmpR op_gt (pv 1) (pe_op op_pow pe_int pe_int) (nomark _)) (pss_one (ps_ret (pe_op op_mod (pe_op op_add (pe_call G hr rfl m F.kp b .nil pass0 (pa_cons (pv 0) (pa_cons (pe_op op_pow pe_int pe_int) pa_nil))) (pe_op op_mul (pe_op op_pow pe_int pe_int) (pe_call G hr rfl m F.kp b .nil pass0 (pa_cons (pv 0) (pa_cons (pe_op op_add (pe_op op_fdiv (pv 1) (pe_op op_pow pe_int pe_int)) pe_int) pa_nil))))) (pv 1)))) pss_nil)
      (Evl.pss_cut (ps_asg (pe_op op_add (pe_ix (k_ix (K := K) rfl) (pv 0) pe_int (fun _ _ => rfl)) pe_int) (pg_sub (pv 0) pe_int set_list))
      (Evl.pss_cut (ps_set (i := 3) sc_take.nd rfl (by first | exact Or.inl rfl | exact Or.inr rfl) (pe_op op_mod (pe_op op_mul (pe_op op_add (pe_ix (k_ix (K := K) rfl) (pv 0) pe_int (fun _ _ => rfl)) (pe_op op_mul pe_int (pe_ix (k_ix (K := K) rfl) (pv 0) pe_int (fun _ _ => rfl)))) (pe_op op_add pe_int (pe_ix (k_ix (K := K) rfl) (pv 0) pe_int (fun _ _ => rfl)))) pe_int))
      (Evl.pss_cut (ps_set (i := 4) sc_take.nd rfl (by first | exact Or.inl rfl | exact Or.inr rfl) (pe_op op_mod (pe_op op_mul (pe_op op_add (pe_op op_add (pv 3) (pe_ix (k_ix (K := K) rfl) (pv 0) pe_int (fun _ _ => rfl))) (pe_op op_fdiv (pe_ix (k_ix (K := K) rfl) (pv 0) pe_int (fun _ _ => rfl)) pe_int)) (pe_op op_add (pe_op op_mod (pv 3) pe_int) pe_int)) pe_int))
      (pss_one (ps_ret (pe_op op_mod (pe_op op_fdiv (pe_op op_mod (pe_op op_add (pe_op op_mul (pv 4) pe_int) (pv 3)) pe_int) pe_int) (pv 1))))))))), ?_⟩)
    exact finB (N := N_take) (by unfold f_take; exact (OkS.cut (OkS.ife (OkT.test (OkE.op ok_gt (OkE.op ok_ix (OkE.var 0) (OkE.con fun _ => .int _)) (OkE.con fun _ => .int _))) (OkS.cut (OkS.set (fun _ => by decide) (OkE.w (OkE.op ok_mod (OkE.op ok_ix (OkE.var 0) (OkE.con fun _ => .int _)) (OkE.var 1))))
      (OkS.cut (OkS.setIx (OkE.op ok_div (OkE.op ok_ix (OkE.var 0) (OkE.con fun _ => .int _)) (OkE.var 1)) (OkE.con fun _ => .int _))
      (OkS.ret (OkE.w (OkE.var 2))))) OkS.nil)
      (OkS.cut (OkS.ife (OkT.test (OkE.op ok_gt (OkE.var 1) (OkE.op ok_pow (OkE.con fun _ => .int _) (OkE.con fun _ => .int _)))) (OkS.ret (OkE.w (OkE.op ok_mod (OkE.op ok_add (OkW.e (OkW.callB (OkA.cons (OkE.op ok_pow (OkE.con fun _ => .int _) (OkE.con fun _ => .int _)) OkA.nil))) (OkE.op ok_mul (OkE.op ok_pow (OkE.con fun _ => .int _) (OkE.con fun _ => .int _)) (OkW.e (OkW.callB (OkA.cons (OkE.op ok_add (OkE.op ok_div (OkE.var 1) (OkE.op ok_pow (OkE.con fun _ => .int _) (OkE.con fun _ => .int _))) (OkE.con fun _ => .int _)) OkA.nil))))) (OkE.var 1)))) OkS.nil)
      (OkS.cut (OkS.setIx (OkE.op ok_add (OkE.op ok_ix (OkE.var 0) (OkE.con fun _ => .int _)) (OkE.con fun _ => .int _)) (OkE.con fun _ => .int _))
      (OkS.cut (OkS.set (fun _ => by decide) (OkE.w (OkE.op ok_mod (OkE.op ok_mul (OkE.op ok_add (OkE.op ok_ix (OkE.var 0) (OkE.con fun _ => .int _)) (OkE.op ok_mul (OkE.con fun _ => .int _) (OkE.op ok_ix (OkE.var 0) (OkE.con fun _ => .int _)))) (OkE.op ok_add (OkE.con fun _ => .int _) (OkE.op ok_ix (OkE.var 0) (OkE.con fun _ => .int _)))) (OkE.con fun _ => .int _))))
      (OkS.cut (OkS.set (fun _ => by decide) (OkE.w (OkE.op ok_mod (OkE.op ok_mul (OkE.op ok_add (OkE.op ok_add (OkE.var 3) (OkE.op ok_ix (OkE.var 0) (OkE.con fun _ => .int _))) (OkE.op ok_div (OkE.op ok_ix (OkE.var 0) (OkE.con fun _ => .int _)) (OkE.con fun _ => .int _))) (OkE.op ok_add (OkE.op ok_mod (OkE.var 3) (OkE.con fun _ => .int _)) (OkE.con fun _ => .int _))) (OkE.con fun _ => .int _))))
      (OkS.ret (OkE.w (OkE.op ok_mod (OkE.op ok_div (OkE.op ok_mod (OkE.op ok_add (OkE.op ok_mul (OkE.var 4) (OkE.con fun _ => .int _)) (OkE.var 3)) (OkE.con fun _ => .int _)) (OkE.con fun _ => .int _)) (OkE.var 1)))))))))) h
end
def f_of : M Fl :=
    (retS (pl (op2 ixD (get 1) (fz (callB 0 (F_take 2) (acons (cb lenD (acons (get 1) anil)) anil))))))
def F_of : List PyData → List PyData → Option (Wv × List PyData) := runB 2 2 f_of
section
variable {P : Program} {w : World} {K : PySem.W.Frag} {mg : Str → Option Value} {base : Heap} {f : Addr} {fd : FuncData}
theorem dk_of (F : Fun K "_law_of" "_law_of" S_of f fd) {g_take : Addr} {d_take : FuncData} (G_take : FnOk P w K mg base CX0 2 g_take d_take P_take (spB K (F_take 2))) (b_take : Binds K d_take P_take []) (k_take : PySem.W.keepIn K (.ref g_take) = true) (m_take : mg "_law_take" = some (.ref g_take)) (B : Blt mg) : FnOk P w K mg base CX0 3 f fd P_of (spB K F_of) := by
  refine F.ok sc_of (fun vs H Q E h => lenB h) (fun cdv A outer s H vs Q E hr h => ⟨_, (pss_one (ps_ret (pe_ix (k_ix (K := K) rfl) (pv 1) (pe_call G_take (hr.mono (by decide)) rfl m_take k_take b_take .nil pass0 (pa_cons (pv 0) (pa_cons (pe_callB (k_len (K := K) rfl) rfl B.len PySem.boot_len (pa_cons (pv 1) pa_nil)) pa_nil))) (fun _ _ => rfl)))), ?_⟩)
  exact finB (N := N_of) (by unfold f_of; exact (OkS.ret (OkE.w (OkE.op ok_ix (OkE.var 1) (OkW.e (OkW.callB (OkA.cons (OkE.cb ok_len (OkA.cons (OkE.var 1) OkA.nil)) OkA.nil))))))) h
end
def f_same (rec : List PyData → Option Wv) : M Fl :=
    (thenS (ifS (tb1 (isiE2 "list" "tuple" (get 1))) (thenS (ifS (orT (tb1 (op2 (eqA true) (isiE "list" (get 0)) (isiE "list" (get 1)))) (tb1 (op2 (eqA true) (isiE "tuple" (get 0)) (isiE "tuple" (get 1))))) (retS (pl (con (.bool false)))) nxt)
    (retS (pl (andV (op2 (eqA false) (cb lenD (acons (get 0) anil)) (cb lenD (acons (get 1) anil))) (cb allD (acons (fz (lcW (argI zipD (acons (get 0) (acons (get 1) anil))) (gT (gsC (gN 2) (gsC (gN 3) gsN))) yesT (fz (callA rec (acons (get 2) (acons (get 3) anil)))) [2, 3])) anil)))))) nxt)
    (thenS (ifS (orT (tb1 (isNE false (get 1))) (tb1 (isiE2 "bool" "str" (get 1)))) (retS (pl (andV (op2 (eqvD false) (get 0) (get 1)) (andV (op2 (eqA false) (isiE "bool" (get 0)) (isiE "bool" (get 1))) (op2 (eqA false) (isNE false (get 0)) (isNE false (get 1))))))) nxt)
    (retS (pl (andV (isiE "int" (get 0)) (andV (notV (isiE "bool" (get 0))) (op2 (eqvD false) (get 0) (get 1))))))))
def F_same : Nat → List PyData → Option Wv
  | 0 => fun _ => none
  | n + 1 => runA 2 4 (f_same (F_same n))
section
variable {P : Program} {w : World} {K : PySem.W.Frag} {mg : Str → Option Value} {base : Heap} {f : Addr} {fd : FuncData}
theorem dk_same (F : Fun K "_law_same" "_law_same" S_same f fd)  (b : Binds K fd P_same []) (m : mg "_law_same" = some (.ref f)) (B : Blt mg) : ∀ n, FnOk P w K mg base CX0 (0 + n) f fd P_same (spA K (F_same n))
  | 0 => ⟨fun vs H Q E h => (vacA h).elim, fun A outer s H args us vs Q E hr he hb hv h => (vacA h).elim⟩
  | n + 1 => by
    have G := dk_same F  b m B n
    refine F.ok sc_same (fun vs H Q E h => lenA h) (fun cdv A outer s H vs Q E hr h => ⟨_, (Evl.pss_cut (ps_if (pt_val (pe_callB (k_isiT (K := K) rfl) rfl B.isinstance (by decide +kernel) (pa_cons (pv 1) (pa_cons (pe_tup (pa_cons (pe_bltn (v := .ty "list") rfl B.list (by decide +kernel) rfl) (pa_cons (pe_bltn (v := .ty "tuple") rfl B.tuple (by decide +kernel) rfl) pa_nil))) pa_nil)))) (Evl.pss_cut (ps_if (PW.pt (pw_or (pt_cmpR op_ne (pe_callB (k_isi (K := K) rfl) rfl B.isinstance (by decide +kernel) (pa_cons (pv 0) (pa_cons (pe_bltn (v := .ty "list") rfl B.list (by decide +kernel) rfl) pa_nil))) (pe_callB (k_isi (K := K) rfl) rfl B.isinstance (by decide +kernel) (pa_cons (pv 1) (pa_cons (pe_bltn (v := .ty "list") rfl B.list (by decide +kernel) rfl) pa_nil))) (nomark _)) (pw_or1 (pt_cmpR op_ne (pe_callB (k_isi (K := K) rfl) rfl B.isinstance (by decide +kernel) (pa_cons (pv 0) (pa_cons (pe_bltn (v := .ty "tuple") rfl B.tuple (by decide +kernel) rfl) pa_nil))) (pe_callB (k_isi (K := K) rfl) rfl B.isinstance (by decide +kernel) (pa_cons (pv 1) (pa_cons (pe_bltn (v := .ty "tuple") rfl B.tuple (by decide +kernel) rfl) pa_nil))) (nomark _))))) (pss_one (ps_ret pe_bl)) pss_nil)
      (pss_one (ps_ret (pe_and (pe_cmpR op_eq (pe_callB (k_len (K := K) rfl) rfl B.len PySem.boot_len (pa_cons (pv 0) pa_nil)) (pe_callB (k_len (K := K) rfl) rfl B.len PySem.boot_len (pa_cons (pv 1) pa_nil)) (nomark _)) (pe_one (pe_callB (k_all (K := K) rfl rfl) rfl B.all (by decide +kernel) (pa_cons (pe_lc (own := [("_law_a", 2), ("_law_b", 3)]) (g := (gTup K 2 (gCons (gName 2) (gCons (gName 3) gNil)))) rfl sc_same.nd (k_zipA (K := K) rfl rfl B.zip (pa_cons (pv 0) (pa_cons (pv 1) pa_nil))) (blkOk_by (own := [("_law_a", 2), ("_law_b", 3)]) (N := ["_law_found", "_law_due", "_law_a", "_law_b"]) (sc := defScope S_same) (by decide +kernel)) (fun _ _ _ _ _ => by exact (pg_tup rfl (pgs_cons (pg_name (i := 2) sc_same.nd rfl (by first | exact Or.inl rfl | exact Or.inr rfl)) (pgs_cons (pg_name (i := 3) sc_same.nd rfl (by first | exact Or.inl rfl | exact Or.inr rfl)) pgs_nil)))) (fun _ _ _ _ _ => pts_nil) (fun _ _ _ _ _ => (pe_call G hr rfl m F.kp b .nil pass0 (pa_cons (pv 2) (pa_cons (pv 3) pa_nil))))) pa_nil))))))) pss_nil)
      (Evl.pss_cut (ps_if (PW.pt (pw_or (pt_cmpR op_isN (pv 1) pe_non (nomark _)) (pw_or1 (pt_val (pe_callB (k_isiT (K := K) rfl) rfl B.isinstance (by decide +kernel) (pa_cons (pv 1) (pa_cons (pe_tup (pa_cons (pe_bltn (v := .ty "bool") rfl B.bool (by decide +kernel) rfl) (pa_cons (pe_bltn (v := .ty "str") rfl B.str (by decide +kernel) rfl) pa_nil))) pa_nil))))))) (pss_one (ps_ret (pe_and (pe_cmpR (k_eqD (K := K) rfl hr.units) (pv 0) (pv 1) (nomark _)) (pe_and (pe_cmpR op_eq (pe_callB (k_isi (K := K) rfl) rfl B.isinstance (by decide +kernel) (pa_cons (pv 0) (pa_cons (pe_bltn (v := .ty "bool") rfl B.bool (by decide +kernel) rfl) pa_nil))) (pe_callB (k_isi (K := K) rfl) rfl B.isinstance (by decide +kernel) (pa_cons (pv 1) (pa_cons (pe_bltn (v := .ty "bool") rfl B.bool (by decide +kernel) rfl) pa_nil))) (nomark _)) (pe_one (pe_cmpR op_eq (pe_cmpR op_isN (pv 0) pe_non (nomark _)) (pe_cmpR op_isN (pv 1) pe_non (nomark _)) (nomark _))))))) pss_nil)
      (pss_one (ps_ret (pe_and (pe_callB (k_isi (K := K) rfl) rfl B.isinstance (by decide +kernel) (pa_cons (pv 0) (pa_cons (pe_bltn (v := .ty "int") rfl B.int (by decide +kernel) rfl) pa_nil))) (pe_and (pe_not (pe_callB (k_isi (K := K) rfl) rfl B.isinstance (by decide +kernel) (pa_cons (pv 0) (pa_cons (pe_bltn (v := .ty "bool") rfl B.bool (by decide +kernel) rfl) pa_nil)))) (pe_one (pe_cmpR (k_eqD (K := K) rfl hr.units) (pv 0) (pv 1) (nomark _))))))))), ?_⟩)
    exact finA (N := N_same) (by unfold f_same; exact (OkS.cut (OkS.ife (OkT.val (OkE.isi2 (OkE.var 1))) (OkS.cut (OkS.ife (OkT.or (OkT.test (OkE.op ok_ne (OkE.isi (OkE.var 0)) (OkE.isi (OkE.var 1)))) (OkT.test (OkE.op ok_ne (OkE.isi (OkE.var 0)) (OkE.isi (OkE.var 1))))) (OkS.ret (OkE.w (OkE.con fun _ => .bl _))) OkS.nil)
      (OkS.ret (OkE.w (OkE.and (OkE.op ok_eq (OkE.cb ok_len (OkA.cons (OkE.var 0) OkA.nil)) (OkE.cb ok_len (OkA.cons (OkE.var 1) OkA.nil))) (OkE.cb ok_all (OkA.cons (OkW.e (OkW.lc (vs := [2, 3]) (OkI.zipA (OkA.cons (OkE.var 0) (OkA.cons (OkE.var 1) OkA.nil))) (OkG.tup (OkGs.cons (OkG.name 2) (OkGs.cons (OkG.name 3) OkGs.nil))) (by decide) OkT.yes (OkW.e (OkW.call (OkA.cons (OkE.var 2) (OkA.cons (OkE.var 3) OkA.nil)))))) OkA.nil)))))) OkS.nil)
      (OkS.cut (OkS.ife (OkT.or (OkT.test (OkE.isN (OkE.var 1))) (OkT.val (OkE.isi2 (OkE.var 1)))) (OkS.ret (OkE.w (OkE.and (OkE.op ok_eqD (OkE.var 0) (OkE.var 1)) (OkE.and (OkE.op ok_eq (OkE.isi (OkE.var 0)) (OkE.isi (OkE.var 1))) (OkE.op ok_eq (OkE.isN (OkE.var 0)) (OkE.isN (OkE.var 1))))))) OkS.nil)
      (OkS.ret (OkE.w (OkE.and (OkE.isi (OkE.var 0)) (OkE.and (OkE.not (OkE.isi (OkE.var 0))) (OkE.op ok_eqD (OkE.var 0) (OkE.var 1))))))))) h
end
def s_strewn_0 : M Fl :=
    (parS 2 3 (listW (acons (get 1) anil)) (lstW anil))
def s_strewn_1 : M Fl :=
    (whileM (tb1 (op2 (eqvD true) (get 2) (lstD anil))) (exprS (mthE 3 appD (acons (mthE 2 popD (acons (fz (callB 0 (F_take 2) (acons (cb lenD (acons (get 2) anil)) anil))) anil)) anil))) 100)
def s_strewn_2 : M Fl :=
    (moveS 3)
def f_strewn : M Fl :=
    (thenS s_strewn_0 (thenS s_strewn_1 s_strewn_2))
def F_strewn : List PyData → List PyData → Option (Wv × List PyData) := runB 2 4 f_strewn
section
variable {P : Program} {w : World} {K : PySem.W.Frag} {mg : Str → Option Value} {base : Heap} {f : Addr} {fd : FuncData}
theorem dk_strewn (F : Fun K "_law_strewn" "_law_strewn" S_strewn f fd) {g_take : Addr} {d_take : FuncData} (G_take : FnOk P w K mg base CX0 2 g_take d_take P_take (spB K (F_take 2))) (b_take : Binds K d_take P_take []) (k_take : PySem.W.keepIn K (.ref g_take) = true) (m_take : mg "_law_take" = some (.ref g_take)) (B : Blt mg) : FnOk P w K mg base CX0 3 f fd P_strewn (spB K F_strewn) := by
  refine F.ok sc_strewn (fun vs H Q E h => lenB h) (fun cdv A outer s H vs Q E hr h => ⟨_, (Evl.pss_cut (ps_par (i := 2) (j := 3) rfl sc_strewn.nd rfl rfl (by decide) rfl rfl (pa_cons (pe_callTy (k_list (K := K) rfl) rfl B.list (by decide +kernel) (pa_cons (pv 1) pa_nil)) (pa_cons (pe_lst pa_nil) pa_nil)) rfl)
      (Evl.pss_cut (ps_while PassesOwn.never (pt_cmpR (k_neD (K := K) rfl hr.units) (pv 2) (pe_lst pa_nil) (nomark _))
      (pss_one (ps_expr (k_bm (K := K) rfl PySem.F.plainAttrs_list PySem.F.slot_list_append PySem.F.type_list_append mt_append (pv 3) (pa_cons (k_bm (K := K) rfl PySem.F.plainAttrs_list PySem.F.slot_list_pop PySem.F.type_list_pop mt_popAt (pv 2) (pa_cons (pe_call G_take (hr.mono (by decide)) rfl m_take k_take b_take .nil pass0 (pa_cons (pv 0) (pa_cons (pe_callB (k_len (K := K) rfl) rfl B.len PySem.boot_len (pa_cons (pv 2) pa_nil)) pa_nil))) pa_nil)) pa_nil)))))
      (pss_one (ps_ret (pv 3))))), ?_⟩)
  exact finB (N := N_strewn) (by unfold f_strewn s_strewn_2 s_strewn_1 s_strewn_0; exact (OkS.cut (OkS.par (fun _ => ⟨by decide, by decide⟩) (OkW.list (OkA.cons (OkE.var 1) OkA.nil)) (OkW.lst OkA.nil))
      (OkS.cut (OkS.while 100 (OkT.test (OkE.op ok_neD (OkE.var 2) (OkE.lst OkA.nil))) (OkS.expr (OkE.mth ok_app (OkA.cons (OkE.mth ok_pop (OkA.cons (OkW.e (OkW.callB (OkA.cons (OkE.cb ok_len (OkA.cons (OkE.var 2) OkA.nil)) OkA.nil))) OkA.nil)) OkA.nil))))
      (OkS.move 3)))) h
end
def f_lists (rec : List PyData → Option Wv) : M Fl :=
    (retS (pl (ifE (tb1 (isiE2 "list" "tuple" (get 0))) (fz (lcW (seqI (get 0)) (gN 1) yesT (fz (callA rec (acons (get 1) anil))) [1])) (get 0))))
def F_lists : Nat → List PyData → Option Wv
  | 0 => fun _ => none
  | n + 1 => runA 1 2 (f_lists (F_lists n))
section
variable {P : Program} {w : World} {K : PySem.W.Frag} {mg : Str → Option Value} {base : Heap} {f : Addr} {fd : FuncData}
theorem dk_lists (F : Fun K "_law_lists" "_law_lists" S_lists f fd)  (b : Binds K fd P_lists []) (m : mg "_law_lists" = some (.ref f)) (B : Blt mg) : ∀ n, FnOk P w K mg base CX0 (0 + n) f fd P_lists (spA K (F_lists n))
  | 0 => ⟨fun vs H Q E h => (vacA h).elim, fun A outer s H args us vs Q E hr he hb hv h => (vacA h).elim⟩
  | n + 1 => by
    have G := dk_lists F  b m B n
    refine F.ok sc_lists (fun vs H Q E h => lenA h) (fun cdv A outer s H vs Q E hr h => ⟨_, (pss_one (ps_ret (pe_ifExp (pt_val (pe_callB (k_isiT (K := K) rfl) rfl B.isinstance (by decide +kernel) (pa_cons (pv 0) (pa_cons (pe_tup (pa_cons (pe_bltn (v := .ty "list") rfl B.list (by decide +kernel) rfl) (pa_cons (pe_bltn (v := .ty "tuple") rfl B.tuple (by decide +kernel) rfl) pa_nil))) pa_nil)))) (pe_lc (own := [("_law_piece", 1)]) (g := (gName 1)) rfl sc_lists.nd (k_seq (K := K) rfl (pv 0)) (blkOk_by (own := [("_law_piece", 1)]) (N := ["_law_part", "_law_piece"]) (sc := defScope S_lists) (by decide +kernel)) (fun _ _ _ _ _ => by exact (pg_name (i := 1) sc_lists.nd rfl (by first | exact Or.inl rfl | exact Or.inr rfl))) (fun _ _ _ _ _ => pts_nil) (fun _ _ _ _ _ => (pe_call G hr rfl m F.kp b .nil pass0 (pa_cons (pv 1) pa_nil)))) (pv 0)))), ?_⟩)
    exact finA (N := N_lists) (by unfold f_lists; exact (OkS.ret (OkE.w (OkE.ife (OkT.val (OkE.isi2 (OkE.var 0))) (OkW.e (OkW.lc (vs := [1]) (OkI.seq (OkE.var 0)) (OkG.name 1) (by decide) OkT.yes (OkW.e (OkW.call (OkA.cons (OkE.var 1) OkA.nil))))) (OkE.var 0))))) h
end
def f_sees : M Fl :=
    (retS (pl (cb allD (acons (fz (lcW (seqI (slD (get 0) (poS (op2 addD (get 1) (con (.int 1)))) (poS (get 2)))) (gN 3) yesT (op2 ltD (get 3) (cb minD (acons (op2 ixD (get 0) (get 1)) (acons (op2 ixD (get 0) (get 2)) anil)))) [3])) anil))))
def F_sees : List PyData → Option Wv := runA 3 4 f_sees
section
variable {P : Program} {w : World} {K : PySem.W.Frag} {mg : Str → Option Value} {base : Heap} {f : Addr} {fd : FuncData}
theorem dk_sees (F : Fun K "_law_sees" "_law_sees" S_sees f fd)  (B : Blt mg) : FnOk P w K mg base CX0 1 f fd P_sees (spA K F_sees) := by
  refine F.ok sc_sees (fun vs H Q E h => lenA h) (fun cdv A outer s H vs Q E hr h => ⟨_, (pss_one (ps_ret (pe_callB (k_all (K := K) rfl rfl) rfl B.all (by decide +kernel) (pa_cons (pe_lc (own := [("_law_soul", 3)]) (g := (gName 3)) rfl sc_sees.nd (k_seq (K := K) rfl (pe_slice (k_cut (K := K) rfl) (pv 0) (po_some (pe_op op_add (pv 1) pe_int)) (po_some (pv 2)))) (blkOk_by (own := [("_law_soul", 3)]) (N := ["_law_crowd", "_law_i", "_law_j", "_law_soul"]) (sc := defScope S_sees) (by decide +kernel)) (fun _ _ _ _ _ => by exact (pg_name (i := 3) sc_sees.nd rfl (by first | exact Or.inl rfl | exact Or.inr rfl))) (fun _ _ _ _ _ => pts_nil) (fun _ _ _ _ _ => (pe_cmpR op_lt (pv 3) (pe_callB (call_min2 rfl) rfl B.min (by decide +kernel) (pa_cons (pe_ix (k_ix (K := K) rfl) (pv 0) (pv 1) (fun _ _ => rfl)) (pa_cons (pe_ix (k_ix (K := K) rfl) (pv 0) (pv 2) (fun _ _ => rfl)) pa_nil))) (nomark _)))) pa_nil)))), ?_⟩)
  exact finA (N := N_sees) (by unfold f_sees; exact (OkS.ret (OkE.w (OkE.cb ok_all (OkA.cons (OkW.e (OkW.lc (vs := [3]) (OkI.seq (OkE.sl (OkE.var 0) (OkP.some (OkE.op ok_add (OkE.var 1) (OkE.con fun _ => .int _))) (OkP.some (OkE.var 2)))) (OkG.name 3) (by decide) OkT.yes (OkE.op ok_lt (OkE.var 3) (OkE.cb ok_min (OkA.cons (OkE.op ok_ix (OkE.var 0) (OkE.var 1)) (OkA.cons (OkE.op ok_ix (OkE.var 0) (OkE.var 2)) OkA.nil)))))) OkA.nil))))) h
end
def s_swaps_0 : M Fl :=
    (setS 1 (pl (lstD anil)))
def b_swaps_1 : M Fl :=
    (setS 1 (pl (op2 catD (get 1) (fz (lcW (argI rngD2 (acons (op2 addD (get 2) (con (.int 2))) (acons (cb lenD (acons (get 0) anil)) anil))) (gN 3) (tb1 (fz (callA F_sees (acons (get 0) (acons (get 2) (acons (get 3) anil)))))) (tupD (acons (get 2) (acons (get 3) anil))) [3])))))
def s_swaps_1 : M Fl :=
    (forS (argI rngD (acons (cb lenD (acons (get 0) anil)) anil)) (gN 2) b_swaps_1)
def s_swaps_2 : M Fl :=
    (retS (pl (get 1)))
def f_swaps : M Fl :=
    (thenS s_swaps_0 (thenS s_swaps_1 s_swaps_2))
def F_swaps : List PyData → Option Wv := runA 1 4 f_swaps
section
variable {P : Program} {w : World} {K : PySem.W.Frag} {mg : Str → Option Value} {base : Heap} {f : Addr} {fd : FuncData}
theorem dk_swaps (F : Fun K "_law_swaps" "_law_swaps" S_swaps f fd) {g_sees : Addr} {d_sees : FuncData} (G_sees : FnOk P w K mg base CX0 1 g_sees d_sees P_sees (spA K F_sees)) (b_sees : Binds K d_sees P_sees []) (k_sees : PySem.W.keepIn K (.ref g_sees) = true) (m_sees : mg "_law_sees" = some (.ref g_sees)) (B : Blt mg) : FnOk P w K mg base CX0 2 f fd P_swaps (spA K F_swaps) := by
  refine F.ok sc_swaps (fun vs H Q E h => lenA h) (fun cdv A outer s H vs Q E hr h => ⟨_, (Evl.pss_cut (ps_set (i := 1) sc_swaps.nd rfl (by first | exact Or.inl rfl | exact Or.inr rfl) (pe_lst pa_nil))
      (Evl.pss_cut (ps_for PassesOwn.never rfl (pi_range1 rfl B.range (pa_cons (pe_callB (k_len (K := K) rfl) rfl B.len PySem.boot_len (pa_cons (pv 0) pa_nil)) pa_nil)) (pg_name (i := 2) sc_swaps.nd rfl (by first | exact Or.inl rfl | exact Or.inr rfl))
      (pss_one (ps_set (i := 1) sc_swaps.nd rfl (by first | exact Or.inl rfl | exact Or.inr rfl) (pe_op op_catL (pv 1) (pe_lc (own := [("_law_j", 3)]) (g := (gName 3)) rfl sc_swaps.nd (pi_range2 rfl B.range (pa_cons (pe_op op_add (pv 2) pe_int) (pa_cons (pe_callB (k_len (K := K) rfl) rfl B.len PySem.boot_len (pa_cons (pv 0) pa_nil)) pa_nil))) (blkOk_by (own := [("_law_j", 3)]) (N := ["_law_crowd", "_law_found", "_law_i", "_law_j"]) (sc := defScope S_swaps) (by decide +kernel)) (fun _ _ _ _ _ => by exact (pg_name (i := 3) sc_swaps.nd rfl (by first | exact Or.inl rfl | exact Or.inr rfl))) (fun _ _ _ _ _ => (pts_one (pt_val (pe_call G_sees (hr.mono (by decide)) rfl m_sees k_sees b_sees .nil pass0 (pa_cons (pv 0) (pa_cons (pv 2) (pa_cons (pv 3) pa_nil))))))) (fun _ _ _ _ _ => (pe_tup (pa_cons (pv 2) (pa_cons (pv 3) pa_nil)))))))))
      (pss_one (ps_ret (pv 1))))), ?_⟩)
  exact finA (N := N_swaps) (by unfold f_swaps s_swaps_2 s_swaps_1 b_swaps_1 s_swaps_0; exact (OkS.cut (OkS.set (fun z => by cases z) (OkE.w (OkE.lst OkA.nil)))
      (OkS.cut (OkS.for (OkI.range1 (OkA.cons (OkE.cb ok_len (OkA.cons (OkE.var 0) OkA.nil)) OkA.nil)) (OkG.name 2) (fun z => by cases z) (OkS.set (fun z => by cases z) (OkE.w (OkE.op ok_catL (OkE.var 1) (OkW.e (OkW.lc (vs := [3]) (OkI.range2 (OkA.cons (OkE.op ok_add (OkE.var 2) (OkE.con fun _ => .int _)) (OkA.cons (OkE.cb ok_len (OkA.cons (OkE.var 0) OkA.nil)) OkA.nil))) (OkG.name 3) (by decide) (OkT.val (OkW.e (OkW.call (OkA.cons (OkE.var 0) (OkA.cons (OkE.var 2) (OkA.cons (OkE.var 3) OkA.nil)))))) (OkE.tup (OkA.cons (OkE.var 2) (OkA.cons (OkE.var 3) OkA.nil)))))))))
      (OkS.ret (OkE.w (OkE.var 1)))))) h
end
def s_turned_0 : M Fl :=
    (unS (gT (gsC (gN 2) (gsC (gN 3) gsN))) (get 1))
def s_turned_1 : M Fl :=
    (retS (pl (op2 catT (op2 catT (op2 catT (op2 catT (slD (get 0) poN (poS (get 2))) (tupD (acons (op2 ixD (get 0) (get 3)) anil))) (slD (get 0) (poS (op2 addD (get 2) (con (.int 1)))) (poS (get 3)))) (tupD (acons (op2 ixD (get 0) (get 2)) anil))) (slD (get 0) (poS (op2 addD (get 3) (con (.int 1)))) poN))))
def f_turned : M Fl :=
    (thenS s_turned_0 s_turned_1)
def F_turned : List PyData → Option Wv := runA 2 4 f_turned
section
variable {P : Program} {w : World} {K : PySem.W.Frag} {mg : Str → Option Value} {base : Heap} {f : Addr} {fd : FuncData}
theorem dk_turned (F : Fun K "_law_turned" "_law_turned" S_turned f fd)  (B : Blt mg) : FnOk P w K mg base CX0 1 f fd P_turned (spA K F_turned) := by
  refine F.ok sc_turned (fun vs H Q E h => lenA h) (fun cdv A outer s H vs Q E hr h => ⟨_, (Evl.pss_cut (ps_asg (pv 1) (pg_tup rfl (pgs_cons (pg_name (i := 2) sc_turned.nd rfl (by first | exact Or.inl rfl | exact Or.inr rfl)) (pgs_cons (pg_name (i := 3) sc_turned.nd rfl (by first | exact Or.inl rfl | exact Or.inr rfl)) pgs_nil))))
      (pss_one (ps_ret (pe_op (k_catW (K := K) rfl) (pe_op (k_catW (K := K) rfl) (pe_op (k_catW (K := K) rfl) (pe_op (k_catW (K := K) rfl) (pe_slice (k_cut (K := K) rfl) (pv 0) po_none (po_some (pv 2))) (pe_tup (pa_cons (pe_ix (k_ix (K := K) rfl) (pv 0) (pv 3) (fun _ _ => rfl)) pa_nil))) (pe_slice (k_cut (K := K) rfl) (pv 0) (po_some (pe_op op_add (pv 2) pe_int)) (po_some (pv 3)))) (pe_tup (pa_cons (pe_ix (k_ix (K := K) rfl) (pv 0) (pv 2) (fun _ _ => rfl)) pa_nil))) (pe_slice (k_cut (K := K) rfl) (pv 0) (po_some (pe_op op_add (pv 3) pe_int)) po_none))))), ?_⟩)
  exact finA (N := N_turned) (by unfold f_turned s_turned_1 s_turned_0; exact (OkS.cut (OkS.unpack (OkG.tup (OkGs.cons (OkG.name 2) (OkGs.cons (OkG.name 3) OkGs.nil))) (fun z => by cases z) (OkE.var 1))
      (OkS.ret (OkE.w (OkE.op ok_catT (OkE.op ok_catT (OkE.op ok_catT (OkE.op ok_catT (OkE.sl (OkE.var 0) OkP.none (OkP.some (OkE.var 2))) (OkE.tup (OkA.cons (OkE.op ok_ix (OkE.var 0) (OkE.var 3)) OkA.nil))) (OkE.sl (OkE.var 0) (OkP.some (OkE.op ok_add (OkE.var 2) (OkE.con fun _ => .int _))) (OkP.some (OkE.var 3)))) (OkE.tup (OkA.cons (OkE.op ok_ix (OkE.var 0) (OkE.var 2)) OkA.nil))) (OkE.sl (OkE.var 0) (OkP.some (OkE.op ok_add (OkE.var 3) (OkE.con fun _ => .int _))) OkP.none)))))) h
end
def s_seen_in_0 : M Fl :=
    (parS 2 3 (pl (tg1E (get 0))) dnewB)
def b_seen_in_1 : M Fl :=
    (thenS (forS (seqI (slD (get 2) (poS (op2 addD (get 4) (con (.int 1)))) (poS (get 5)))) (gN 6) (thenS (dputB 3 (tupD (acons (get 6) (acons (op2 ixD (get 2) (get 4)) anil))) (con (.bool true)))
    (dputB 3 (tupD (acons (get 6) (acons (op2 ixD (get 2) (get 5)) anil))) (con (.bool true)))))
    (setS 2 (pl (fz (callA F_turned (acons (get 2) (acons (tupD (acons (get 4) (acons (get 5) anil))) anil)))))))
def s_seen_in_1 : M Fl :=
    (forS (seqI (get 1)) (gT (gsC (gN 4) (gsC (gN 5) gsN))) b_seen_in_1)
def s_seen_in_2 : M Fl :=
    (retS (pl (tupD (acons (get 2) (acons (sortB 3) anil)))))
def f_seen_in : M Fl :=
    (thenS s_seen_in_0 (thenS s_seen_in_1 s_seen_in_2))
def F_seen_in : List PyData → Option Wv := runA 2 7 f_seen_in
section
variable {P : Program} {w : World} {K : PySem.W.Frag} {mg : Str → Option Value} {base : Heap} {f : Addr} {fd : FuncData}
theorem dk_seen_in (F : Fun K "_law_seen_in" "_law_seen_in" S_seen_in f fd) {g_turned : Addr} {d_turned : FuncData} (G_turned : FnOk P w K mg base CX0 1 g_turned d_turned P_turned (spA K F_turned)) (b_turned : Binds K d_turned P_turned []) (k_turned : PySem.W.keepIn K (.ref g_turned) = true) (m_turned : mg "_law_turned" = some (.ref g_turned)) (B : Blt mg) : FnOk P w K mg base CX0 2 f fd P_seen_in (spA K F_seen_in) := by
  refine F.ok sc_seen_in (fun vs H Q E h => lenA h) (fun cdv A outer s H vs Q E hr h => ⟨_, (Evl.pss_cut (ps_par (i := 2) (j := 3) rfl sc_seen_in.nd rfl rfl (by decide) rfl rfl (pa_cons (pe_tupRg rfl rfl B.tuple (prg_1 rfl B.range (pv 0))) (pa_cons pe_dnewT pa_nil)) rfl)
      (Evl.pss_cut (ps_for PassesOwn.never rfl (k_seq (K := K) rfl (pv 1)) (pg_tup rfl (pgs_cons (pg_name (i := 4) sc_seen_in.nd rfl (by first | exact Or.inl rfl | exact Or.inr rfl)) (pgs_cons (pg_name (i := 5) sc_seen_in.nd rfl (by first | exact Or.inl rfl | exact Or.inr rfl)) pgs_nil)))
      (Evl.pss_cut (ps_for PassesOwn.never rfl (k_seq (K := K) rfl (pe_slice (k_cut (K := K) rfl) (pv 2) (po_some (pe_op op_add (pv 4) pe_int)) (po_some (pv 5)))) (pg_name (i := 6) sc_seen_in.nd rfl (by first | exact Or.inl rfl | exact Or.inr rfl))
      (Evl.pss_cut (ps_dput (hu_of hr) (pv 3) (pe_tup (pa_cons (pv 6) (pa_cons (pe_ix (k_ix (K := K) rfl) (pv 2) (pv 4) (fun _ _ => rfl)) pa_nil))) pe_bl rfl)
      (pss_one (ps_dput (hu_of hr) (pv 3) (pe_tup (pa_cons (pv 6) (pa_cons (pe_ix (k_ix (K := K) rfl) (pv 2) (pv 5) (fun _ _ => rfl)) pa_nil))) pe_bl rfl))))
      (pss_one (ps_set (i := 2) sc_seen_in.nd rfl (by first | exact Or.inl rfl | exact Or.inr rfl) (pe_call G_turned (hr.mono (by decide)) rfl m_turned k_turned b_turned .nil pass0 (pa_cons (pv 2) (pa_cons (pe_tup (pa_cons (pv 4) (pa_cons (pv 5) pa_nil))) pa_nil)))))))
      (pss_one (ps_ret (pe_tup (pa_cons (pv 2) (pa_cons (pe_callB (k_sortDT (K := K) rfl rfl hr.units) rfl B.sorted (by decide +kernel) (pa_cons (pv 3) pa_nil)) pa_nil))))))), ?_⟩)
  exact finA (N := N_seen_in) (by unfold f_seen_in s_seen_in_2 s_seen_in_1 b_seen_in_1 s_seen_in_0; exact (OkS.cut (OkS.par (fun z => by cases z) (OkE.w (OkE.tupRg1 (OkE.var 0))) OkW.dnewB)
      (OkS.cut (OkS.for (OkI.seq (OkE.var 1)) (OkG.tup (OkGs.cons (OkG.name 4) (OkGs.cons (OkG.name 5) OkGs.nil))) (fun z => by cases z) (OkS.cut (OkS.for (OkI.seq (OkE.sl (OkE.var 2) (OkP.some (OkE.op ok_add (OkE.var 4) (OkE.con fun _ => .int _))) (OkP.some (OkE.var 5)))) (OkG.name 6) (fun z => by cases z) (OkS.cut (OkS.dputB (OkE.tup (OkA.cons (OkE.var 6) (OkA.cons (OkE.op ok_ix (OkE.var 2) (OkE.var 4)) OkA.nil))) (OkE.con fun _ => .bl _))
      (OkS.dputB (OkE.tup (OkA.cons (OkE.var 6) (OkA.cons (OkE.op ok_ix (OkE.var 2) (OkE.var 5)) OkA.nil))) (OkE.con fun _ => .bl _))))
      (OkS.set (fun z => by cases z) (OkE.w (OkW.e (OkW.call (OkA.cons (OkE.var 2) (OkA.cons (OkE.tup (OkA.cons (OkE.var 4) (OkA.cons (OkE.var 5) OkA.nil))) OkA.nil))))))))
      (OkS.ret (OkE.w (OkE.tup (OkA.cons (OkE.var 2) (OkA.cons OkE.sortB OkA.nil)))))))) h
end
def s_tests_0 : M Fl :=
    (parS 4 5 (pl (cb tupleD (acons (fz (callB 0 F_strewn (acons (lrE (rg2 (con (.int 1)) (op2 addD (get 1) (con (.int 1))))) anil))) anil))) (lstW anil))
def b_tests_1 : M Fl :=
    (thenS (setS 7 (pl (fz (callA F_swaps (acons (get 4) anil)))))
    (thenS (ifS (orT (tb1 (op2 ltD (fz (callB 0 (F_take 2) (acons (con (.int 24)) anil))) (get 3))) (tb1 (op2 (eqvD false) (get 7) (lstD anil)))) (thenS (setS 7 (pl (lstD anil)))
    (forS (argI rngD (acons (get 1) anil)) (gN 8) (setS 7 (pl (op2 catD (get 7) (fz (lcW (argI rngD2 (acons (op2 addD (get 8) (con (.int 2))) (acons (get 1) anil))) (gN 9) yesT (tupD (acons (get 8) (acons (get 9) anil))) [9]))))))) nxt)
    (ifS (tb1 (op2 (eqvD true) (get 7) (lstD anil))) (thenS (exprS (mthE 5 appD (acons (fz (callB 0 F_of (acons (get 7) anil))) anil)))
    (setS 4 (pl (fz (callA F_turned (acons (get 4) (acons (op2 ixD (get 5) (op1 negD (con (.int 1)))) anil))))))) nxt)))
def s_tests_1 : M Fl :=
    (forS (argI rngD (acons (fz (callB 0 (F_take 2) (acons (op2 addD (get 2) (con (.int 1))) anil))) anil)) (gN 6) b_tests_1)
def s_tests_2 : M Fl :=
    (moveS 5)
def f_tests : M Fl :=
    (thenS s_tests_0 (thenS s_tests_1 s_tests_2))
def F_tests : List PyData → List PyData → Option (Wv × List PyData) := runB 4 10 f_tests
section
variable {P : Program} {w : World} {K : PySem.W.Frag} {mg : Str → Option Value} {base : Heap} {f : Addr} {fd : FuncData}
theorem dk_tests (F : Fun K "_law_tests" "_law_tests" S_tests f fd) {g_take : Addr} {d_take : FuncData} (G_take : FnOk P w K mg base CX0 2 g_take d_take P_take (spB K (F_take 2))) (b_take : Binds K d_take P_take []) (k_take : PySem.W.keepIn K (.ref g_take) = true) (m_take : mg "_law_take" = some (.ref g_take)) {g_strewn : Addr} {d_strewn : FuncData} (G_strewn : FnOk P w K mg base CX0 3 g_strewn d_strewn P_strewn (spB K F_strewn)) (b_strewn : Binds K d_strewn P_strewn []) (k_strewn : PySem.W.keepIn K (.ref g_strewn) = true) (m_strewn : mg "_law_strewn" = some (.ref g_strewn)) {g_swaps : Addr} {d_swaps : FuncData} (G_swaps : FnOk P w K mg base CX0 2 g_swaps d_swaps P_swaps (spA K F_swaps)) (b_swaps : Binds K d_swaps P_swaps []) (k_swaps : PySem.W.keepIn K (.ref g_swaps) = true) (m_swaps : mg "_law_swaps" = some (.ref g_swaps)) {g_of : Addr} {d_of : FuncData} (G_of : FnOk P w K mg base CX0 3 g_of d_of P_of (spB K F_of)) (b_of : Binds K d_of P_of []) (k_of : PySem.W.keepIn K (.ref g_of) = true) (m_of : mg "_law_of" = some (.ref g_of)) {g_turned : Addr} {d_turned : FuncData} (G_turned : FnOk P w K mg base CX0 1 g_turned d_turned P_turned (spA K F_turned)) (b_turned : Binds K d_turned P_turned []) (k_turned : PySem.W.keepIn K (.ref g_turned) = true) (m_turned : mg "_law_turned" = some (.ref g_turned)) (B : Blt mg) : FnOk P w K mg base CX0 4 f fd P_tests (spB K F_tests) := by
  refine F.ok sc_tests (fun vs H Q E h => lenB h) (fun cdv A outer s H vs Q E hr h => ⟨_, (Evl.pss_cut (ps_par (i := 4) (j := 5) rfl sc_tests.nd rfl rfl (by decide) rfl rfl (pa_cons (pe_callTy (k_tup (K := K) rfl) rfl B.tuple (by decide +kernel) (pa_cons (pe_call G_strewn (hr.mono (by decide)) rfl m_strewn k_strewn b_strewn .nil pass0 (pa_cons (pv 0) (pa_cons (pe_listRg rfl rfl B.list (prg_2 rfl B.range pe_int (pe_op op_add (pv 1) pe_int))) pa_nil))) pa_nil)) (pa_cons (pe_lst pa_nil) pa_nil)) rfl)
      (Evl.pss_cut (ps_for PassesOwn.never rfl (pi_range1 rfl B.range (pa_cons (pe_call G_take (hr.mono (by decide)) rfl m_take k_take b_take .nil pass0 (pa_cons (pv 0) (pa_cons (pe_op op_add (pv 2) pe_int) pa_nil))) pa_nil)) (pg_name (i := 6) sc_tests.nd rfl (by first | exact Or.inl rfl | exact Or.inr rfl))
      (Evl.pss_cut (ps_set (i := 7) sc_tests.nd rfl (by first | exact Or.inl rfl | exact Or.inr rfl) (pe_call G_swaps (hr.mono (by decide)) rfl m_swaps k_swaps b_swaps .nil pass0 (pa_cons (pv 4) pa_nil)))
      (Evl.pss_cut (ps_if (PW.pt (pw_or (pt_cmpR op_lt (pe_call G_take (hr.mono (by decide)) rfl m_take k_take b_take .nil pass0 (pa_cons (pv 0) (pa_cons pe_int pa_nil))) (pv 3) (nomark _)) (pw_or1 (pt_cmpR (k_eqD (K := K) rfl hr.units) (pv 7) (pe_lst pa_nil) (nomark _))))) (Evl.pss_cut (ps_set (i := 7) sc_tests.nd rfl (by first | exact Or.inl rfl | exact Or.inr rfl) (pe_lst pa_nil))
      (pss_one (ps_for PassesOwn.never rfl (pi_range1 rfl B.range (pa_cons (pv 1) pa_nil)) (pg_name (i := 8) sc_tests.nd rfl (by first | exact Or.inl rfl | exact Or.inr rfl))
      (pss_one (ps_set (i := 7) sc_tests.nd rfl (by first | exact Or.inl rfl | exact Or.inr rfl) (pe_op op_catL (pv 7) (pe_lc (own := [("_law_j", 9)]) (g := (gName 9)) rfl sc_tests.nd (pi_range2 rfl B.range (pa_cons (pe_op op_add (pv 8) pe_int) (pa_cons (pv 1) pa_nil))) (blkOk_by (own := [("_law_j", 9)]) (N := ["_law_box_here", "_law_count", "_law_most", "_law_odds", "_law_here", "_law_found", "_law_turn", "_law_some", "_law_i", "_law_j"]) (sc := defScope S_tests) (by decide +kernel)) (fun _ _ _ _ _ => by exact (pg_name (i := 9) sc_tests.nd rfl (by first | exact Or.inl rfl | exact Or.inr rfl))) (fun _ _ _ _ _ => pts_nil) (fun _ _ _ _ _ => (pe_tup (pa_cons (pv 8) (pa_cons (pv 9) pa_nil))))))))))) pss_nil)
      (pss_one (ps_if (pt_cmpR (k_neD (K := K) rfl hr.units) (pv 7) (pe_lst pa_nil) (nomark _)) (Evl.pss_cut (ps_expr (k_bm (K := K) rfl PySem.F.plainAttrs_list PySem.F.slot_list_append PySem.F.type_list_append mt_append (pv 5) (pa_cons (pe_call G_of (hr.mono (by decide)) rfl m_of k_of b_of .nil pass0 (pa_cons (pv 0) (pa_cons (pv 7) pa_nil))) pa_nil)))
      (pss_one (ps_set (i := 4) sc_tests.nd rfl (by first | exact Or.inl rfl | exact Or.inr rfl) (pe_call G_turned (hr.mono (by decide)) rfl m_turned k_turned b_turned .nil pass0 (pa_cons (pv 4) (pa_cons (pe_ix (k_ix (K := K) rfl) (pv 5) (pe_un un_neg pe_int) (fun _ _ => rfl)) pa_nil)))))) pss_nil)))))
      (pss_one (ps_ret (pv 5))))), ?_⟩)
  exact finB (N := N_tests) (by unfold f_tests s_tests_2 s_tests_1 b_tests_1 s_tests_0; exact (OkS.cut (OkS.par (fun _ => ⟨by decide, by decide⟩) (OkE.w (OkE.cb ok_tuple (OkA.cons (OkW.e (OkW.callB (OkA.cons (OkE.lstRg2 (OkE.con fun _ => .int _) (OkE.op ok_add (OkE.var 1) (OkE.con fun _ => .int _))) OkA.nil))) OkA.nil))) (OkW.lst OkA.nil))
      (OkS.cut (OkS.for (OkI.range1 (OkA.cons (OkW.e (OkW.callB (OkA.cons (OkE.op ok_add (OkE.var 2) (OkE.con fun _ => .int _)) OkA.nil))) OkA.nil)) (OkG.name 6) (fun _ => by decide) (OkS.cut (OkS.set (fun _ => by decide) (OkE.w (OkW.e (OkW.call (OkA.cons (OkE.var 4) OkA.nil)))))
      (OkS.cut (OkS.ife (OkT.or (OkT.test (OkE.op ok_lt (OkW.e (OkW.callB (OkA.cons (OkE.con fun _ => .int _) OkA.nil))) (OkE.var 3))) (OkT.test (OkE.op ok_eqD (OkE.var 7) (OkE.lst OkA.nil)))) (OkS.cut (OkS.set (fun _ => by decide) (OkE.w (OkE.lst OkA.nil)))
      (OkS.for (OkI.range1 (OkA.cons (OkE.var 1) OkA.nil)) (OkG.name 8) (fun _ => by decide) (OkS.set (fun _ => by decide) (OkE.w (OkE.op ok_catL (OkE.var 7) (OkW.e (OkW.lc (vs := [9]) (OkI.range2 (OkA.cons (OkE.op ok_add (OkE.var 8) (OkE.con fun _ => .int _)) (OkA.cons (OkE.var 1) OkA.nil))) (OkG.name 9) (by decide) OkT.yes (OkE.tup (OkA.cons (OkE.var 8) (OkA.cons (OkE.var 9) OkA.nil)))))))))) OkS.nil)
      (OkS.ife (OkT.test (OkE.op ok_neD (OkE.var 7) (OkE.lst OkA.nil))) (OkS.cut (OkS.expr (OkE.mth ok_app (OkA.cons (OkW.e (OkW.callB (OkA.cons (OkE.var 7) OkA.nil))) OkA.nil)))
      (OkS.set (fun _ => by decide) (OkE.w (OkW.e (OkW.call (OkA.cons (OkE.var 4) (OkA.cons (OkE.op ok_ix (OkE.var 5) (OkE.un ok_neg (OkE.con fun _ => .int _))) OkA.nil))))))) OkS.nil))))
      (OkS.move 5)))) h
end
def s_orders_0 : M Fl :=
    (setS 2 (lrW (get 0)))
def s_orders_1 : M Fl :=
    (setS 3 (lstW (acons (cb tupleD (acons (get 2) anil)) anil)))
def b_orders_2 : M Fl :=
    (thenS (swS 2 (tupD (acons (op2 ixD (get 2) (get 5)) (acons (op2 ixD (get 2) (get 4)) anil))) (get 4) (get 5))
    (exprS (mthE 3 appD (acons (cb tupleD (acons (get 2) anil)) anil))))
def s_orders_2 : M Fl :=
    (forS (seqI (get 1)) (gTL (gsC (gN 4) (gsC (gN 5) gsN))) b_orders_2)
def s_orders_3 : M Fl :=
    (moveS 3)
def f_orders : M Fl :=
    (thenS s_orders_0 (thenS s_orders_1 (thenS s_orders_2 s_orders_3)))
def F_orders : List PyData → Option Wv := runA 2 6 f_orders
section
variable {P : Program} {w : World} {K : PySem.W.Frag} {mg : Str → Option Value} {base : Heap} {f : Addr} {fd : FuncData}
theorem dk_orders (F : Fun K "orders" "orders" S_orders f fd)  (B : Blt mg) : FnOk P w K mg base CX0 1 f fd P_orders (spA K F_orders) := by
  refine F.ok sc_orders (fun vs H Q E h => lenA h) (fun cdv A outer s H vs Q E hr h => ⟨_, (Evl.pss_cut (ps_set (i := 2) sc_orders.nd rfl (by first | exact Or.inl rfl | exact Or.inr rfl) (pe_listRg rfl rfl B.list (prg_1 rfl B.range (pv 0))))
      (Evl.pss_cut (ps_set (i := 3) sc_orders.nd rfl (by first | exact Or.inl rfl | exact Or.inr rfl) (pe_lst (pa_cons (pe_callTy (k_tup (K := K) rfl) rfl B.tuple (by decide +kernel) (pa_cons (pv 2) pa_nil)) pa_nil)))
      (Evl.pss_cut (ps_for PassesOwn.never rfl (k_seq (K := K) rfl (pv 1)) (pg_unE rfl (pgs_cons (pg_name (i := 4) sc_orders.nd rfl (by first | exact Or.inl rfl | exact Or.inr rfl)) (pgs_cons (pg_name (i := 5) sc_orders.nd rfl (by first | exact Or.inl rfl | exact Or.inr rfl)) pgs_nil)))
      (Evl.pss_cut (ps_asg (pe_tup (pa_cons (pe_ix (k_ix (K := K) rfl) (pv 2) (pv 5) (fun _ _ => rfl)) (pa_cons (pe_ix (k_ix (K := K) rfl) (pv 2) (pv 4) (fun _ _ => rfl)) pa_nil))) (pg_tup rfl (pgs_cons (pg_sub (pv 2) (pv 4) set_list) (pgs_cons (pg_sub (pv 2) (pv 5) set_list) pgs_nil))))
      (pss_one (ps_expr (k_bm (K := K) rfl PySem.F.plainAttrs_list PySem.F.slot_list_append PySem.F.type_list_append mt_append (pv 3) (pa_cons (pe_callTy (k_tup (K := K) rfl) rfl B.tuple (by decide +kernel) (pa_cons (pv 2) pa_nil)) pa_nil))))))
      (pss_one (ps_ret (pv 3)))))), ?_⟩)
  exact finA (N := N_orders) (by unfold f_orders s_orders_3 s_orders_2 b_orders_2 s_orders_1 s_orders_0; exact (OkS.cut (OkS.set (fun z => by cases z) (OkW.lstRg1 (OkE.var 0)))
      (OkS.cut (OkS.set (fun z => by cases z) (OkW.lst (OkA.cons (OkE.cb ok_tuple (OkA.cons (OkE.var 2) OkA.nil)) OkA.nil)))
      (OkS.cut (OkS.for (OkI.seq (OkE.var 1)) (OkG.tupL (OkGs.cons (OkG.name 4) (OkGs.cons (OkG.name 5) OkGs.nil))) (fun z => by cases z) (OkS.cut (OkS.sw (OkE.tup (OkA.cons (OkE.op ok_ix (OkE.var 2) (OkE.var 5)) (OkA.cons (OkE.op ok_ix (OkE.var 2) (OkE.var 4)) OkA.nil))) (OkE.var 4) (OkE.var 5))
      (OkS.expr (OkE.mth ok_app (OkA.cons (OkE.cb ok_tuple (OkA.cons (OkE.var 2) OkA.nil)) OkA.nil)))))
      (OkS.move 3))))) h
end
def s_comparisons_0 : M Fl :=
    (setS 2 (lstW anil))
def b_comparisons_1 : M Fl :=
    (forS (seqI (slD (get 3) (poS (op2 addD (get 4) (con (.int 1)))) (poS (get 5)))) (gN 6) (thenS (exprS (mthE 2 appD (acons (tupD (acons (get 6) (acons (op2 ixD (get 3) (get 4)) anil))) anil)))
    (exprS (mthE 2 appD (acons (tupD (acons (get 6) (acons (op2 ixD (get 3) (get 5)) anil))) anil)))))
def s_comparisons_1 : M Fl :=
    (forS (argI zipM (acons (fz (callA F_orders (acons (get 0) (acons (get 1) anil)))) (acons (get 1) anil))) (gTL (gsC (gN 3) (gsC (gTL (gsC (gN 4) (gsC (gN 5) gsN))) gsN))) b_comparisons_1)
def s_comparisons_2 : M Fl :=
    (retS (sortSetZO (acons (get 2) anil)))
def f_comparisons : M Fl :=
    (thenS s_comparisons_0 (thenS s_comparisons_1 s_comparisons_2))
def F_comparisons : List PyData → Option Wv := runA 2 7 f_comparisons
section
variable {P : Program} {w : World} {K : PySem.W.Frag} {mg : Str → Option Value} {base : Heap} {f : Addr} {fd : FuncData}
theorem dk_comparisons (F : Fun K "comparisons" "comparisons" S_comparisons f fd) {g_orders : Addr} {d_orders : FuncData} (G_orders : FnOk P w K mg base CX0 1 g_orders d_orders P_orders (spA K F_orders)) (b_orders : Binds K d_orders P_orders []) (k_orders : PySem.W.keepIn K (.ref g_orders) = true) (m_orders : mg "orders" = some (.ref g_orders)) (B : Blt mg) : FnOk P w K mg base CX0 2 f fd P_comparisons (spA K F_comparisons) := by
  refine F.ok sc_comparisons (fun vs H Q E h => lenA h) (fun cdv A outer s H vs Q E hr h => ⟨_, (Evl.pss_cut (ps_set (i := 2) sc_comparisons.nd rfl (by first | exact Or.inl rfl | exact Or.inr rfl) (pe_lst pa_nil))
      (Evl.pss_cut (ps_for PassesOwn.never rfl (k_zipB (K := K) rfl rfl B.zip (pa_cons (pe_call G_orders (hr.mono (by decide)) rfl m_orders k_orders b_orders .nil pass0 (pa_cons (pv 0) (pa_cons (pv 1) pa_nil))) (pa_cons (pv 1) pa_nil))) (pg_unE rfl (pgs_cons (pg_name (i := 3) sc_comparisons.nd rfl (by first | exact Or.inl rfl | exact Or.inr rfl)) (pgs_cons (pg_unE rfl (pgs_cons (pg_name (i := 4) sc_comparisons.nd rfl (by first | exact Or.inl rfl | exact Or.inr rfl)) (pgs_cons (pg_name (i := 5) sc_comparisons.nd rfl (by first | exact Or.inl rfl | exact Or.inr rfl)) pgs_nil))) pgs_nil)))
      (pss_one (ps_for PassesOwn.never rfl (k_seq (K := K) rfl (pe_slice (k_cut (K := K) rfl) (pv 3) (po_some (pe_op op_add (pv 4) pe_int)) (po_some (pv 5)))) (pg_name (i := 6) sc_comparisons.nd rfl (by first | exact Or.inl rfl | exact Or.inr rfl))
      (Evl.pss_cut (ps_expr (k_bm (K := K) rfl PySem.F.plainAttrs_list PySem.F.slot_list_append PySem.F.type_list_append mt_append (pv 2) (pa_cons (pe_tup (pa_cons (pv 6) (pa_cons (pe_ix (k_ix (K := K) rfl) (pv 3) (pv 4) (fun _ _ => rfl)) pa_nil))) pa_nil)))
      (pss_one (ps_expr (k_bm (K := K) rfl PySem.F.plainAttrs_list PySem.F.slot_list_append PySem.F.type_list_append mt_append (pv 2) (pa_cons (pe_tup (pa_cons (pv 6) (pa_cons (pe_ix (k_ix (K := K) rfl) (pv 3) (pv 5) (fun _ _ => rfl)) pa_nil))) pa_nil))))))))
      (pss_one (ps_ret (pe_callB (cr_sortSZ rfl hr.units) rfl B.sorted (by decide +kernel) (pa_cons (pe_callTy (cr_setZ rfl hr.units) rfl B.set (by decide +kernel) (pa_cons (pv 2) pa_nil)) pa_nil)))))), ?_⟩)
  exact finA (N := N_comparisons) (by unfold f_comparisons s_comparisons_2 s_comparisons_1 b_comparisons_1 s_comparisons_0; exact (OkS.cut (OkS.set (fun z => by cases z) (OkW.lst OkA.nil))
      (OkS.cut (OkS.for (OkI.zipB (OkA.cons (OkW.e (OkW.call (OkA.cons (OkE.var 0) (OkA.cons (OkE.var 1) OkA.nil)))) (OkA.cons (OkE.var 1) OkA.nil))) (OkG.tupL (OkGs.cons (OkG.name 3) (OkGs.cons (OkG.tupL (OkGs.cons (OkG.name 4) (OkGs.cons (OkG.name 5) OkGs.nil))) OkGs.nil))) (fun z => by cases z) (OkS.for (OkI.seq (OkE.sl (OkE.var 3) (OkP.some (OkE.op ok_add (OkE.var 4) (OkE.con fun _ => .int _))) (OkP.some (OkE.var 5)))) (OkG.name 6) (fun z => by cases z) (OkS.cut (OkS.expr (OkE.mth ok_app (OkA.cons (OkE.tup (OkA.cons (OkE.var 6) (OkA.cons (OkE.op ok_ix (OkE.var 3) (OkE.var 4)) OkA.nil))) OkA.nil)))
      (OkS.expr (OkE.mth ok_app (OkA.cons (OkE.tup (OkA.cons (OkE.var 6) (OkA.cons (OkE.op ok_ix (OkE.var 3) (OkE.var 5)) OkA.nil))) OkA.nil))))))
      (OkS.ret (OkW.sortSetZO (OkA.cons (OkE.var 2) OkA.nil)))))) h
end
def f_end_of : M Fl :=
    (retS (pl (op2 ixD (fz (callA F_orders (acons (get 0) (acons (get 1) anil)))) (op1 negD (con (.int 1))))))
def F_end_of : List PyData → Option Wv := runA 2 2 f_end_of
section
variable {P : Program} {w : World} {K : PySem.W.Frag} {mg : Str → Option Value} {base : Heap} {f : Addr} {fd : FuncData}
theorem dk_end_of (F : Fun K "end_of" "end_of" S_end_of f fd) {g_orders : Addr} {d_orders : FuncData} (G_orders : FnOk P w K mg base CX0 1 g_orders d_orders P_orders (spA K F_orders)) (b_orders : Binds K d_orders P_orders []) (k_orders : PySem.W.keepIn K (.ref g_orders) = true) (m_orders : mg "orders" = some (.ref g_orders)) (B : Blt mg) : FnOk P w K mg base CX0 2 f fd P_end_of (spA K F_end_of) := by
  refine F.ok sc_end_of (fun vs H Q E h => lenA h) (fun cdv A outer s H vs Q E hr h => ⟨_, (pss_one (ps_ret (pe_ix (k_ix (K := K) rfl) (pe_call G_orders (hr.mono (by decide)) rfl m_orders k_orders b_orders .nil pass0 (pa_cons (pv 0) (pa_cons (pv 1) pa_nil))) (pe_un un_neg pe_int) (fun _ _ => rfl)))), ?_⟩)
  exact finA (N := N_end_of) (by unfold f_end_of; exact (OkS.ret (OkE.w (OkE.op ok_ix (OkW.e (OkW.call (OkA.cons (OkE.var 0) (OkA.cons (OkE.var 1) OkA.nil)))) (OkE.un ok_neg (OkE.con fun _ => .int _)))))) h
end
def b_right_0 : M Fl :=
    (thenS (setS 2 (pl (fz (callB 0 (F_take 2) (acons (con (.int 11)) anil)))))
    (thenS (setS 3 (pl (fz (callB 0 F_tests (acons (get 2) (acons (con (.int 20)) (acons (fz (callB 0 F_of (acons (lstD (acons (con (.int 0)) (acons (con (.int 3)) (acons (con (.int 24)) anil)))) anil))) anil)))))))
    (thenS (unS (gT (gsC (gN 4) (gsC (gT (gsC (gN 5) (gsC (gN 6) gsN))) gsN))) (tupD (acons (cb reprD (acons (get 3) anil)) (acons (fz (callA F_seen_in (acons (get 2) (acons (get 3) anil)))) anil))))
    (thenS (setS 7 (callA F_comparisons (acons (get 2) (acons (get 3) anil))))
    (thenS (tellS 7 8 (F_same 5) (acons (fz (callA (fun ds => if ds.length = 2 then F_comparisons ([1, 0].map fun i => ds.getD i .none) else none) (acons (fz (callA (F_lists 4) (acons (get 3) anil))) (acons (get 2) anil)))) (acons (fz (callA F_comparisons (acons (get 2) (acons (cb tupleD (acons (get 3) anil)) anil)))) anil)) (repW (lstW (acons (get 6) anil)) (con (.int 3))))
    (thenS (exprS (mthE 7 appD (acons (con (.str "more")) anil)))
    (thenS (ifS (notT (tb1 (fz (callA (F_same 5) (acons (fz (callA F_comparisons (acons (get 2) (acons (get 3) anil)))) (acons (get 6) anil)))))) (retS (pl (con (.bool false)))) nxt)
    (thenS (setS 8 (pl (lstD (acons (fz (callA F_end_of (acons (get 2) (acons (get 3) anil)))) (acons (fz (callA (fun ds => if ds.length = 2 then F_end_of ([1, 0].map fun i => ds.getD i .none) else none) (acons (fz (callA (F_lists 4) (acons (get 3) anil))) (acons (get 2) anil)))) (acons (fz (callA F_end_of (acons (get 2) (acons (lstD anil) anil)))) anil))))))
    (thenS (ifS (orT (notT (tb1 (fz (callA (F_same 5) (acons (get 8) (acons (lstD (acons (get 5) (acons (get 5) (acons (tg1E (get 2)) anil)))) anil)))))) (tb1 (op2 (eqA true) (cb reprD (acons (get 3) anil)) (get 4)))) (retS (pl (con (.bool false)))) nxt)
    (thenS (setS 9 (pl (fz (callB 0 (F_take 2) (acons (op2 addD (cb lenD (acons (get 3) anil)) (con (.int 1))) anil)))))
    (ifS (notT (tb1 (fz (callA (F_same 5) (acons (lstD (acons (fz (callA F_end_of (acons (get 2) (acons (slD (get 3) poN (poS (get 9))) anil)))) (acons (fz (callA F_comparisons (acons (get 2) (acons (lstD anil) anil)))) anil))) (acons (lstD (acons (op2 ixD (fz (callA F_seen_in (acons (get 2) (acons (slD (get 3) poN (poS (get 9))) anil)))) (con (.int 0))) (acons (lstD anil) anil))) anil)))))) (retS (pl (con (.bool false)))) nxt)))))))))))
def s_right_0 : M Fl :=
    (forS (argI rngD (acons (con (.int 3)) anil)) (gN 1) b_right_0)
def s_right_1 : M Fl :=
    (retS (pl (con (.bool true))))
def f_right : M Fl :=
    (thenS s_right_0 s_right_1)
def F_right : List PyData → List PyData → Option (Wv × List PyData) := runB 1 10 f_right
section
variable {P : Program} {w : World} {K : PySem.W.Frag} {mg : Str → Option Value} {base : Heap} {f : Addr} {fd : FuncData}
theorem dk_right (F : Fun K "_law_right" "_law_right" S_right f fd) {g_take : Addr} {d_take : FuncData} (G_take : FnOk P w K mg base CX0 2 g_take d_take P_take (spB K (F_take 2))) (b_take : Binds K d_take P_take []) (k_take : PySem.W.keepIn K (.ref g_take) = true) (m_take : mg "_law_take" = some (.ref g_take)) {g_of : Addr} {d_of : FuncData} (G_of : FnOk P w K mg base CX0 3 g_of d_of P_of (spB K F_of)) (b_of : Binds K d_of P_of []) (k_of : PySem.W.keepIn K (.ref g_of) = true) (m_of : mg "_law_of" = some (.ref g_of)) {g_tests : Addr} {d_tests : FuncData} (G_tests : FnOk P w K mg base CX0 4 g_tests d_tests P_tests (spB K F_tests)) (b_tests : Binds K d_tests P_tests []) (k_tests : PySem.W.keepIn K (.ref g_tests) = true) (m_tests : mg "_law_tests" = some (.ref g_tests)) {g_seen_in : Addr} {d_seen_in : FuncData} (G_seen_in : FnOk P w K mg base CX0 2 g_seen_in d_seen_in P_seen_in (spA K F_seen_in)) (b_seen_in : Binds K d_seen_in P_seen_in []) (k_seen_in : PySem.W.keepIn K (.ref g_seen_in) = true) (m_seen_in : mg "_law_seen_in" = some (.ref g_seen_in)) {g_comparisons : Addr} {d_comparisons : FuncData} (G_comparisons : FnOk P w K mg base CX0 2 g_comparisons d_comparisons P_comparisons (spA K F_comparisons)) (b_comparisons : Binds K d_comparisons P_comparisons []) (k_comparisons : PySem.W.keepIn K (.ref g_comparisons) = true) (m_comparisons : mg "comparisons" = some (.ref g_comparisons)) (q_comparisons_0 : KBn K d_comparisons P_comparisons 0 ["reports", "many"] (fun _ ws => [1, 0].map fun i => ws.getD i .none) (fun _ zs => [1, 0].map fun i => zs.getD i .non)) {g_lists : Addr} {d_lists : FuncData} (G_lists : FnOk P w K mg base CX0 4 g_lists d_lists P_lists (spA K (F_lists 4))) (b_lists : Binds K d_lists P_lists []) (k_lists : PySem.W.keepIn K (.ref g_lists) = true) (m_lists : mg "_law_lists" = some (.ref g_lists)) {g_same : Addr} {d_same : FuncData} (G_same : FnOk P w K mg base CX0 5 g_same d_same P_same (spA K (F_same 5))) (b_same : Binds K d_same P_same []) (k_same : PySem.W.keepIn K (.ref g_same) = true) (m_same : mg "_law_same" = some (.ref g_same)) {g_end_of : Addr} {d_end_of : FuncData} (G_end_of : FnOk P w K mg base CX0 2 g_end_of d_end_of P_end_of (spA K F_end_of)) (b_end_of : Binds K d_end_of P_end_of []) (k_end_of : PySem.W.keepIn K (.ref g_end_of) = true) (m_end_of : mg "end_of" = some (.ref g_end_of)) (q_end_of_0 : KBn K d_end_of P_end_of 0 ["reports", "many"] (fun _ ws => [1, 0].map fun i => ws.getD i .none) (fun _ zs => [1, 0].map fun i => zs.getD i .non)) (B : Blt mg) : FnG P w K mg base 6 f fd P_right (spB K F_right) := by
  refine Ov.Fun.okG F sc_right (fun vs H Q E h => lenB h) (fun cdv A outer s H vs Q E hG hr h => ⟨_, (Evl.pss_cut (ps_for PassesOwn.never rfl (pi_range1 rfl B.range (pa_cons pe_int pa_nil)) (pg_name (i := 1) sc_right.nd rfl (by first | exact Or.inl rfl | exact Or.inr rfl))
      (Evl.pss_cut (ps_set (i := 2) sc_right.nd rfl (by first | exact Or.inl rfl | exact Or.inr rfl) (pe_call G_take (hr.mono (by decide)) rfl m_take k_take b_take .nil pass0 (pa_cons (pv 0) (pa_cons pe_int pa_nil))))
      (Evl.pss_cut (ps_set (i := 3) sc_right.nd rfl (by first | exact Or.inl rfl | exact Or.inr rfl) (pe_call G_tests (hr.mono (by decide)) rfl m_tests k_tests b_tests .nil pass0 (pa_cons (pv 0) (pa_cons (pv 2) (pa_cons pe_int (pa_cons (pe_call G_of (hr.mono (by decide)) rfl m_of k_of b_of .nil pass0 (pa_cons (pv 0) (pa_cons (pe_lst (pa_cons pe_int (pa_cons pe_int (pa_cons pe_int pa_nil)))) pa_nil))) pa_nil))))))
      (Evl.pss_cut (ps_asg (pe_tup (pa_cons (pe_callB (k_repr (K := K) rfl hG hr.units) rfl B.repr (by decide +kernel) (pa_cons (pv 3) pa_nil)) (pa_cons (pe_call G_seen_in (hr.mono (by decide)) rfl m_seen_in k_seen_in b_seen_in .nil pass0 (pa_cons (pv 2) (pa_cons (pv 3) pa_nil))) pa_nil))) (pg_tup rfl (pgs_cons (pg_name (i := 4) sc_right.nd rfl (by first | exact Or.inl rfl | exact Or.inr rfl)) (pgs_cons (pg_tup rfl (pgs_cons (pg_name (i := 5) sc_right.nd rfl (by first | exact Or.inl rfl | exact Or.inr rfl)) (pgs_cons (pg_name (i := 6) sc_right.nd rfl (by first | exact Or.inl rfl | exact Or.inr rfl)) pgs_nil))) pgs_nil))))
      (Evl.pss_cut (ps_set (i := 7) sc_right.nd rfl (by first | exact Or.inl rfl | exact Or.inr rfl) (pe_call G_comparisons (hr.mono (by decide)) rfl m_comparisons k_comparisons b_comparisons .nil pass0 (pa_cons (pv 2) (pa_cons (pv 3) pa_nil))))
      (Evl.pss_cut (ps_set (i := 8) sc_right.nd rfl (by first | exact Or.inl rfl | exact Or.inr rfl) (pe_lst (pa_cons (pv 7) (pa_cons (pe_callK0 G_comparisons (hr.mono (by decide)) rfl m_comparisons k_comparisons q_comparisons_0 pass0 (pk_cons (pe_call G_lists (hr.mono (by decide)) rfl m_lists k_lists b_lists .nil pass0 (pa_cons (pv 3) pa_nil)) (pk_cons (pv 2) pk_nil))) (pa_cons (pe_call G_comparisons (hr.mono (by decide)) rfl m_comparisons k_comparisons b_comparisons .nil pass0 (pa_cons (pv 2) (pa_cons (pe_callTy (k_tup (K := K) rfl) rfl B.tuple (by decide +kernel) (pa_cons (pv 3) pa_nil)) pa_nil))) pa_nil)))))
      (Evl.pss_cut (ps_if (pt_not (pt_val (pe_call G_same (hr.mono (by decide)) rfl m_same k_same b_same .nil pass0 (pa_cons (pv 8) (pa_cons (pe_op op_rep (pe_lst (pa_cons (pv 6) pa_nil)) pe_int) pa_nil))))) (pss_one (ps_ret pe_bl)) pss_nil)
      (Evl.pss_cut (ps_expr (k_bm (K := K) rfl PySem.F.plainAttrs_list PySem.F.slot_list_append PySem.F.type_list_append mt_append (pv 7) (pa_cons pe_str pa_nil)))
      (Evl.pss_cut (ps_if (pt_not (pt_val (pe_call G_same (hr.mono (by decide)) rfl m_same k_same b_same .nil pass0 (pa_cons (pe_call G_comparisons (hr.mono (by decide)) rfl m_comparisons k_comparisons b_comparisons .nil pass0 (pa_cons (pv 2) (pa_cons (pv 3) pa_nil))) (pa_cons (pv 6) pa_nil))))) (pss_one (ps_ret pe_bl)) pss_nil)
      (Evl.pss_cut (ps_set (i := 8) sc_right.nd rfl (by first | exact Or.inl rfl | exact Or.inr rfl) (pe_lst (pa_cons (pe_call G_end_of (hr.mono (by decide)) rfl m_end_of k_end_of b_end_of .nil pass0 (pa_cons (pv 2) (pa_cons (pv 3) pa_nil))) (pa_cons (pe_callK0 G_end_of (hr.mono (by decide)) rfl m_end_of k_end_of q_end_of_0 pass0 (pk_cons (pe_call G_lists (hr.mono (by decide)) rfl m_lists k_lists b_lists .nil pass0 (pa_cons (pv 3) pa_nil)) (pk_cons (pv 2) pk_nil))) (pa_cons (pe_call G_end_of (hr.mono (by decide)) rfl m_end_of k_end_of b_end_of .nil pass0 (pa_cons (pv 2) (pa_cons (pe_lst pa_nil) pa_nil))) pa_nil)))))
      (Evl.pss_cut (ps_if (PW.pt (pw_or (pt_not (pt_val (pe_call G_same (hr.mono (by decide)) rfl m_same k_same b_same .nil pass0 (pa_cons (pv 8) (pa_cons (pe_lst (pa_cons (pv 5) (pa_cons (pv 5) (pa_cons (pe_tupRg rfl rfl B.tuple (prg_1 rfl B.range (pv 2))) pa_nil)))) pa_nil))))) (pw_or1 (pt_cmpR op_ne (pe_callB (k_repr (K := K) rfl hG hr.units) rfl B.repr (by decide +kernel) (pa_cons (pv 3) pa_nil)) (pv 4) (nomark _))))) (pss_one (ps_ret pe_bl)) pss_nil)
      (Evl.pss_cut (ps_set (i := 9) sc_right.nd rfl (by first | exact Or.inl rfl | exact Or.inr rfl) (pe_call G_take (hr.mono (by decide)) rfl m_take k_take b_take .nil pass0 (pa_cons (pv 0) (pa_cons (pe_op op_add (pe_callB (k_len (K := K) rfl) rfl B.len PySem.boot_len (pa_cons (pv 3) pa_nil)) pe_int) pa_nil))))
      (pss_one (ps_if (pt_not (pt_val (pe_call G_same (hr.mono (by decide)) rfl m_same k_same b_same .nil pass0 (pa_cons (pe_lst (pa_cons (pe_call G_end_of (hr.mono (by decide)) rfl m_end_of k_end_of b_end_of .nil pass0 (pa_cons (pv 2) (pa_cons (pe_slice (k_cut (K := K) rfl) (pv 3) po_none (po_some (pv 9))) pa_nil))) (pa_cons (pe_call G_comparisons (hr.mono (by decide)) rfl m_comparisons k_comparisons b_comparisons .nil pass0 (pa_cons (pv 2) (pa_cons (pe_lst pa_nil) pa_nil))) pa_nil))) (pa_cons (pe_lst (pa_cons (pe_ix (k_ix (K := K) rfl) (pe_call G_seen_in (hr.mono (by decide)) rfl m_seen_in k_seen_in b_seen_in .nil pass0 (pa_cons (pv 2) (pa_cons (pe_slice (k_cut (K := K) rfl) (pv 3) po_none (po_some (pv 9))) pa_nil))) pe_int (fun _ _ => rfl)) (pa_cons (pe_lst pa_nil) pa_nil))) pa_nil))))) (pss_one (ps_ret pe_bl)) pss_nil))))))))))))))
      (pss_one (ps_ret pe_bl))), ?_⟩)
  exact finB (N := N_right) (by unfold f_right s_right_1 s_right_0 b_right_0; exact (OkS.cut (OkS.for (OkI.range1 (OkA.cons (OkE.con fun _ => .int _) OkA.nil)) (OkG.name 1) (fun _ => by decide) (OkS.cut (OkS.set (fun _ => by decide) (OkE.w (OkW.e (OkW.callB (OkA.cons (OkE.con fun _ => .int _) OkA.nil)))))
      (OkS.cut (OkS.set (fun _ => by decide) (OkE.w (OkW.e (OkW.callB (OkA.cons (OkE.var 2) (OkA.cons (OkE.con fun _ => .int _) (OkA.cons (OkW.e (OkW.callB (OkA.cons (OkE.lst (OkA.cons (OkE.con fun _ => .int _) (OkA.cons (OkE.con fun _ => .int _) (OkA.cons (OkE.con fun _ => .int _) OkA.nil)))) OkA.nil))) OkA.nil)))))))
      (OkS.cut (OkS.unpack (OkG.tup (OkGs.cons (OkG.name 4) (OkGs.cons (OkG.tup (OkGs.cons (OkG.name 5) (OkGs.cons (OkG.name 6) OkGs.nil))) OkGs.nil))) (fun _ => by decide) (OkE.tup (OkA.cons (OkE.cb ok_repr (OkA.cons (OkE.var 3) OkA.nil)) (OkA.cons (OkW.e (OkW.call (OkA.cons (OkE.var 2) (OkA.cons (OkE.var 3) OkA.nil)))) OkA.nil))))
      (OkS.cut (OkS.set (fun _ => by decide) (OkW.call (OkA.cons (OkE.var 2) (OkA.cons (OkE.var 3) OkA.nil))))
      (OkS.cut2 (OkS.tell (i := 7) (j := 8) (by decide) (fun _ => by decide) (F := (F_same 5)) (OkA.cons (OkW.e (OkW.callK (n := 2) (gD := fun ds => [1, 0].map fun i => ds.getD i .none) (kw_da (by decide)) (OkA.cons (OkW.e (OkW.call (OkA.cons (OkE.var 3) OkA.nil))) (OkA.cons (OkE.var 2) OkA.nil)))) (OkA.cons (OkW.e (OkW.call (OkA.cons (OkE.var 2) (OkA.cons (OkE.cb ok_tuple (OkA.cons (OkE.var 3) OkA.nil)) OkA.nil)))) OkA.nil)) (okE_repW (OkW.lst (OkA.cons (OkE.var 6) OkA.nil)) (OkE.con fun _ => .int _)))
      (OkS.cut (OkS.expr (OkE.mth ok_app (OkA.cons (OkE.con fun _ => .str _) OkA.nil)))
      (OkS.cut (OkS.ife (OkT.not (OkT.val (OkW.e (OkW.call (OkA.cons (OkW.e (OkW.call (OkA.cons (OkE.var 2) (OkA.cons (OkE.var 3) OkA.nil)))) (OkA.cons (OkE.var 6) OkA.nil)))))) (OkS.ret (OkE.w (OkE.con fun _ => .bl _))) OkS.nil)
      (OkS.cut (OkS.set (fun _ => by decide) (OkE.w (OkE.lst (OkA.cons (OkW.e (OkW.call (OkA.cons (OkE.var 2) (OkA.cons (OkE.var 3) OkA.nil)))) (OkA.cons (OkW.e (OkW.callK (n := 2) (gD := fun ds => [1, 0].map fun i => ds.getD i .none) (kw_da (by decide)) (OkA.cons (OkW.e (OkW.call (OkA.cons (OkE.var 3) OkA.nil))) (OkA.cons (OkE.var 2) OkA.nil)))) (OkA.cons (OkW.e (OkW.call (OkA.cons (OkE.var 2) (OkA.cons (OkE.lst OkA.nil) OkA.nil)))) OkA.nil))))))
      (OkS.cut (OkS.ife (OkT.or (OkT.not (OkT.val (OkW.e (OkW.call (OkA.cons (OkE.var 8) (OkA.cons (OkE.lst (OkA.cons (OkE.var 5) (OkA.cons (OkE.var 5) (OkA.cons (OkE.tupRg1 (OkE.var 2)) OkA.nil)))) OkA.nil)))))) (OkT.test (OkE.op ok_ne (OkE.cb ok_repr (OkA.cons (OkE.var 3) OkA.nil)) (OkE.var 4)))) (OkS.ret (OkE.w (OkE.con fun _ => .bl _))) OkS.nil)
      (OkS.cut (OkS.set (fun _ => by decide) (OkE.w (OkW.e (OkW.callB (OkA.cons (OkE.op ok_add (OkE.cb ok_len (OkA.cons (OkE.var 3) OkA.nil)) (OkE.con fun _ => .int _)) OkA.nil)))))
      (OkS.ife (OkT.not (OkT.val (OkW.e (OkW.call (OkA.cons (OkE.lst (OkA.cons (OkW.e (OkW.call (OkA.cons (OkE.var 2) (OkA.cons (OkE.sl (OkE.var 3) OkP.none (OkP.some (OkE.var 9))) OkA.nil)))) (OkA.cons (OkW.e (OkW.call (OkA.cons (OkE.var 2) (OkA.cons (OkE.lst OkA.nil) OkA.nil)))) OkA.nil))) (OkA.cons (OkE.lst (OkA.cons (OkE.op ok_ix (OkW.e (OkW.call (OkA.cons (OkE.var 2) (OkA.cons (OkE.sl (OkE.var 3) OkP.none (OkP.some (OkE.var 9))) OkA.nil)))) (OkE.con fun _ => .int _)) (OkA.cons (OkE.lst OkA.nil) OkA.nil))) OkA.nil)))))) (OkS.ret (OkE.w (OkE.con fun _ => .bl _))) OkS.nil))))))))))))
      (OkS.ret (OkE.w (OkE.con fun _ => .bl _))))) h
end
def f_law : M Fl :=
    (retS (pl (cb allD (acons (fz (lcW (argI rngD (acons (op2 addD (con (.int 1)) (cb minD (acons (con (.int 3)) (acons (cb lenD (acons (get 0) anil)) anil)))) anil)) (gN 1) yesT (fz (callBt F_right (callA F_box (acons (get 0) (acons (get 1) anil))))) [1])) anil))))
def F_law : List PyData → Option Wv := runA 1 2 f_law
section
variable {P : Program} {w : World} {K : PySem.W.Frag} {mg : Str → Option Value} {base : Heap} {f : Addr} {fd : FuncData}
theorem dk_law (F : Fun K "law" "law" S_law f fd) {g_box : Addr} {d_box : FuncData} (G_box : FnOk P w K mg base CX0 2 g_box d_box P_box (spA K F_box)) (b_box : Binds K d_box P_box []) (k_box : PySem.W.keepIn K (.ref g_box) = true) (m_box : mg "_law_box" = some (.ref g_box)) {g_right : Addr} {d_right : FuncData} (G_right : FnG P w K mg base 6 g_right d_right P_right (spB K F_right)) (b_right : Binds K d_right P_right []) (k_right : PySem.W.keepIn K (.ref g_right) = true) (m_right : mg "_law_right" = some (.ref g_right)) (B : Blt mg) : FnG P w K mg base 7 f fd P_law (spA K F_law) := by
  refine Ov.Fun.okG F sc_law (fun vs H Q E h => lenA h) (fun cdv A outer s H vs Q E hG hr h => ⟨_, (pss_one (ps_ret (pe_callB (k_all (K := K) rfl rfl) rfl B.all (by decide +kernel) (pa_cons (pe_lc (own := [("_law_k", 1)]) (g := (gName 1)) rfl sc_law.nd (pi_range1 rfl B.range (pa_cons (pe_op op_add pe_int (pe_callB (call_min2 rfl) rfl B.min (by decide +kernel) (pa_cons pe_int (pa_cons (pe_callB (k_len (K := K) rfl) rfl B.len PySem.boot_len (pa_cons (pv 0) pa_nil)) pa_nil)))) pa_nil)) (blkOk_by (own := [("_law_k", 1)]) (N := ["_law_script", "_law_k"]) (sc := defScope S_law) (by decide +kernel)) (fun _ _ _ _ _ => by exact (pg_name (i := 1) sc_law.nd rfl (by first | exact Or.inl rfl | exact Or.inr rfl))) (fun _ _ _ _ _ => pts_nil) (fun _ _ _ _ _ => (pe_callG G_right hG (hr.mono (by decide)) rfl m_right k_right b_right (pa_cons (pe_call G_box (hr.mono (by decide)) rfl m_box k_box b_box .nil pass0 (pa_cons (pv 0) (pa_cons (pv 1) pa_nil))) pa_nil)))) pa_nil)))), ?_⟩)
  exact finA (N := N_law) (by unfold f_law; exact (OkS.ret (OkE.w (OkE.cb ok_all (OkA.cons (OkW.e (OkW.lc (vs := [1]) (OkI.range1 (OkA.cons (OkE.op ok_add (OkE.con fun _ => .int _) (OkE.cb ok_min (OkA.cons (OkE.con fun _ => .int _) (OkA.cons (OkE.cb ok_len (OkA.cons (OkE.var 0) OkA.nil)) OkA.nil)))) OkA.nil)) (OkG.name 1) (by decide) OkT.yes (OkW.e (OkW.callBtG (OkW.call (OkA.cons (OkE.var 0) (OkA.cons (OkE.var 1) OkA.nil))))))) OkA.nil))))) h
end
end Ov
set_option Elab.async false
set_option linter.all false
set_option maxRecDepth 100000
set_option maxHeartbeats 4000000
namespace Ov
open PySem L2
def Bok (n : Int) (bs : List PyData) : Prop := ∃ b0 b1 b2 : Int, bs = [.int b0, .int b1, .int b2] ∧ 0 ≤ b0 ∧ 0 ≤ b1 ∧ b1 < 2 ^ 62 ∧ 0 ≤ b2 ∧ b2 ≤ n
theorem Bok.mono {n m : Int} {bs : List PyData} (h : Bok n bs) (e : n ≤ m) : Bok m bs := by
  obtain ⟨b0, b1, b2, rfl, p0, p1, p1', p2, p2'⟩ := h
  exact ⟨_, _, _, rfl, p0, p1, p1', p2, by omega⟩
theorem pMod_ok {i j : Int} (h : 0 < j) : pMod i j = true := decide_eq_true h
theorem pDiv_ok {i j : Int} (h : 0 < j) (h2 : j < 1073741824) : pDiv i j = true := decide_eq_true ⟨h, h2⟩
theorem pMul_r {i j : Int} (h : -(2 ^ 64) < j) (h2 : j < 2 ^ 64) : pMul i j = true := by
  unfold pMul
  rw [decide_eq_true (p := -(2 ^ 64) < j ∧ j < 2 ^ 64) ⟨h, h2⟩, Bool.or_true]
def tkV (b1 b2 below : Int) : Int := ((((((b1 + 48271 * (b2 + 1)) * (39373 + (b2 + 1))) % 2147483647 + (b2 + 1) + b1 / 1000003) * ((((b1 + 48271 * (b2 + 1)) * (39373 + (b2 + 1))) % 2147483647) % 40009 + 7)) % 2147483629 * 48271 + ((b1 + 48271 * (b2 + 1)) * (39373 + (b2 + 1))) % 2147483647) % 2147483587 / 64) % below
theorem take_small {n : Int} {bs : List PyData} {k : Nat} (h : Bok n bs) (hn : n ≤ 10 ^ 12) {below : Int} (h1 : 1 ≤ below) (h2 : below ≤ 10 ^ 7) : ∃ r bs', F_take (k + 1) bs [.int below] = some (.dat (.int r), bs') ∧ 0 ≤ r ∧ r < below ∧ Bok (n + 1) bs' := by
  obtain ⟨b0, b1, b2, rfl, p0, p1, p1', p2, p2'⟩ := h
  by_cases c0 : 0 < b0
  · refine ⟨b0 % below, [.int (b0 / below), .int b1, .int b2], runB_eq rfl ?_, Int.emod_nonneg _ (by omega), Int.emod_lt_of_pos _ (by omega), _, _, _, rfl, Int.ediv_nonneg p0 (by omega), p1, p1', p2, by omega⟩
    unfold f_take
    simp [env0, v_bind, v_ok, v_none, v_pure, v_lift, v_liftN, v_con, v_get, v_gkd, v_gko, v_gkc, v_vwd, v_vws, v_ok1, v_ownD, v_dctD, v_dk1, v_setOwn, v_putM, v_op2, v_op1, v_anil, v_acons, v_vws0, v_vwsC, v_cb, v_tupD, v_lstD, v_lstW, v_listW, v_dds0, v_ddsC, v_asB, v_tb1, v_andT, v_orT, v_notT, v_andV, v_orV, v_notV, v_ofB, v_ifE, v_pl, v_toW, v_fz, v_ofWd, v_ofWo, v_nxt, v_thenS, v_exprS, v_retS, v_retN, v_ifS, v_setS, v_parS, v_setIx, v_asD, v_asI, v_mthE, v_callA, v_callB, v_forS, v_argI, v_seqI, v_slD, v_poN, v_poS, v_isiE, v_isiE2, v_isNE, v_dnew, v_dinT, v_dputS, v_sortDct, v_rgE, v_rg2, v_unS, v_catW, v_chainE, v_add, v_sub, v_lt, v_le, v_gt, v_ge, v_eqI, v_eqB, v_eqS, v_ixL, v_ixT, v_lenL, v_lenT, v_abs, v_intI, v_intB, v_min, v_max, v_chk, c0, atI, ixN, v_mod, v_div, pMod_ok (show 0 < below by omega), pDiv_ok (show 0 < below by omega) (show below < 1073741824 by omega)]
  · have z : b0 = 0 := by omega
    have c1 : ¬ (10 : Int) ^ 7 < below := by omega
    have hp : pPow 10 7 = true := by decide
    refine ⟨tkV b1 b2 below, [.int 0, .int b1, .int (b2 + 1)], runB_eq rfl ?_, ?_, ?_, _, _, _, rfl, Int.le_refl _, p1, p1', by omega, by omega⟩
    · unfold f_take
      have q1 : pMul 48271 (b2 + 1) = true := by unfold pMul; simp
      have q2 : pMul (b1 + 48271 * (b2 + 1)) (39373 + (b2 + 1)) = true := pMul_r (by omega) (by omega)
      have q3 : ∀ x y : Int, pMul x (y % 40009 + 7) = true := fun x y => pMul_r (by omega) (by omega)
      have q4 : ∀ x : Int, pMul x 48271 = true := fun x => pMul_r (by decide) (by decide)
      have m1 : ∀ x : Int, pMod x 2147483647 = true := fun x => pMod_ok (by decide)
      have m2 : ∀ x : Int, pMod x 2147483629 = true := fun x => pMod_ok (by decide)
      have m3 : ∀ x : Int, pMod x 2147483587 = true := fun x => pMod_ok (by decide)
      have m4 : ∀ x : Int, pMod x 40009 = true := fun x => pMod_ok (by decide)
      have m5 : ∀ x : Int, pMod x below = true := fun x => pMod_ok (by omega)
      have d1 : ∀ x : Int, pDiv x 1000003 = true := fun x => pDiv_ok (by decide) (by decide)
      have d2 : ∀ x : Int, pDiv x 64 = true := fun x => pDiv_ok (by decide) (by decide)
      have c1' : ¬ (10000000 : Int) < below := by omega
      unfold tkV
      simp [env0, v_bind, v_ok, v_none, v_pure, v_lift, v_liftN, v_con, v_get, v_gkd, v_gko, v_gkc, v_vwd, v_vws, v_ok1, v_ownD, v_dctD, v_dk1, v_setOwn, v_putM, v_op2, v_op1, v_anil, v_acons, v_vws0, v_vwsC, v_cb, v_tupD, v_lstD, v_lstW, v_listW, v_dds0, v_ddsC, v_asB, v_tb1, v_andT, v_orT, v_notT, v_andV, v_orV, v_notV, v_ofB, v_ifE, v_pl, v_toW, v_fz, v_ofWd, v_ofWo, v_nxt, v_thenS, v_exprS, v_retS, v_retN, v_ifS, v_setS, v_parS, v_setIx, v_asD, v_asI, v_mthE, v_callA, v_callB, v_forS, v_argI, v_seqI, v_slD, v_poN, v_poS, v_isiE, v_isiE2, v_isNE, v_dnew, v_dinT, v_dputS, v_sortDct, v_rgE, v_rg2, v_unS, v_catW, v_chainE, v_add, v_sub, v_lt, v_le, v_gt, v_ge, v_eqI, v_eqB, v_eqS, v_ixL, v_ixT, v_lenL, v_lenT, v_abs, v_intI, v_intB, v_min, v_max, v_chk, z, c1, c1', atI, ixN, v_mod, v_div, v_mul, v_pow, hp, q1, q2, q3, q4, m1, m2, m3, m4, m5, d1, d2]
    · exact Int.emod_nonneg _ (by omega)
    · exact Int.emod_lt_of_pos _ (by omega)
theorem take_any {n : Int} {bs : List PyData} {k : Nat} (h : Bok n bs) (hn : n ≤ 10 ^ 11) {below : Int} (h1 : 1 ≤ below) (h2 : below < 1073741824) : ∃ r bs', F_take (k + 2) bs [.int below] = some (.dat (.int r), bs') ∧ 0 ≤ r ∧ r < below ∧ Bok (n + 2) bs' := by
  by_cases c : below ≤ 10 ^ 7
  · obtain ⟨r, bs', e, a, b, w⟩ := take_small (k := k + 1) h (by omega) h1 c
    exact ⟨r, bs', e, a, b, w.mono (by omega)⟩
  · by_cases c0 : ∃ b0 r, bs = .int b0 :: r ∧ 0 < b0
    · obtain ⟨b0, b1, b2, rfl, p0, p1, p1', p2, p2'⟩ := h
      obtain ⟨_, _, e, c0⟩ := c0
      cases e
      refine ⟨b0 % below, [.int (b0 / below), .int b1, .int b2], runB_eq rfl ?_, Int.emod_nonneg _ (by omega), Int.emod_lt_of_pos _ (by omega), _, _, _, rfl, Int.ediv_nonneg p0 (by omega), p1, p1', p2, by omega⟩
      unfold f_take
      simp [env0, v_bind, v_ok, v_none, v_pure, v_lift, v_liftN, v_con, v_get, v_gkd, v_gko, v_gkc, v_vwd, v_vws, v_ok1, v_ownD, v_dctD, v_dk1, v_setOwn, v_putM, v_op2, v_op1, v_anil, v_acons, v_vws0, v_vwsC, v_cb, v_tupD, v_lstD, v_lstW, v_listW, v_dds0, v_ddsC, v_asB, v_tb1, v_andT, v_orT, v_notT, v_andV, v_orV, v_notV, v_ofB, v_ifE, v_pl, v_toW, v_fz, v_ofWd, v_ofWo, v_nxt, v_thenS, v_exprS, v_retS, v_retN, v_ifS, v_setS, v_parS, v_setIx, v_asD, v_asI, v_mthE, v_callA, v_callB, v_forS, v_argI, v_seqI, v_slD, v_poN, v_poS, v_isiE, v_isiE2, v_isNE, v_dnew, v_dinT, v_dputS, v_sortDct, v_rgE, v_rg2, v_unS, v_catW, v_chainE, v_add, v_sub, v_lt, v_le, v_gt, v_ge, v_eqI, v_eqB, v_eqS, v_ixL, v_ixT, v_lenL, v_lenT, v_abs, v_intI, v_intB, v_min, v_max, v_chk, c0, atI, ixN, v_mod, v_div, pMod_ok (show 0 < below by omega), pDiv_ok (show 0 < below by omega) (show below < 1073741824 by omega)]
    · have h' := h
      obtain ⟨b0, b1, b2, rfl, p0, p1, p1', p2, p2'⟩ := h
      have z : ¬ 0 < b0 := fun z => c0 ⟨b0, _, rfl, z⟩
      obtain ⟨r1, bs1, e1, a1, w1, k1⟩ := take_small (k := k) h' (by omega) (below := 10 ^ 7) (by decide) (Int.le_refl _)
      obtain ⟨r2, bs2, e2, a2, w2, k2⟩ := take_small (k := k) k1 (by omega) (below := below / 10 ^ 7 + 1) (by omega) (by omega)
      refine ⟨(r1 + 10 ^ 7 * r2) % below, bs2, runB_eq rfl ?_, Int.emod_nonneg _ (by omega), Int.emod_lt_of_pos _ (by omega), k2.mono (by omega)⟩
      unfold f_take
      have hp : pPow 10 7 = true := by decide
      have c1 : (10000000 : Int) < below := by omega
      have e1' : F_take (k + 1) [.int b0, .int b1, .int b2] [.int 10000000] = some (.dat (.int r1), bs1) := e1
      have e2' : F_take (k + 1) bs1 [.int (below / 10000000 + 1)] = some (.dat (.int r2), bs2) := e2
      have m5 : ∀ x : Int, pMod x below = true := fun x => pMod_ok (by omega)
      have d1 : ∀ x : Int, pDiv x 10000000 = true := fun x => pDiv_ok (by decide) (by decide)
      have q1 : ∀ x : Int, pMul 10000000 x = true := fun x => by unfold pMul; simp
      simp [env0, v_bind, v_ok, v_none, v_pure, v_lift, v_liftN, v_con, v_get, v_gkd, v_gko, v_gkc, v_vwd, v_vws, v_ok1, v_ownD, v_dctD, v_dk1, v_setOwn, v_putM, v_op2, v_op1, v_anil, v_acons, v_vws0, v_vwsC, v_cb, v_tupD, v_lstD, v_lstW, v_listW, v_dds0, v_ddsC, v_asB, v_tb1, v_andT, v_orT, v_notT, v_andV, v_orV, v_notV, v_ofB, v_ifE, v_pl, v_toW, v_fz, v_ofWd, v_ofWo, v_nxt, v_thenS, v_exprS, v_retS, v_retN, v_ifS, v_setS, v_parS, v_setIx, v_asD, v_asI, v_mthE, v_callA, v_callB, v_forS, v_argI, v_seqI, v_slD, v_poN, v_poS, v_isiE, v_isiE2, v_isNE, v_dnew, v_dinT, v_dputS, v_sortDct, v_rgE, v_rg2, v_unS, v_catW, v_chainE, v_add, v_sub, v_lt, v_le, v_gt, v_ge, v_eqI, v_eqB, v_eqS, v_ixL, v_ixT, v_lenL, v_lenT, v_abs, v_intI, v_intB, v_min, v_max, v_chk, z, c1, atI, ixN, v_mod, v_div, v_mul, v_pow, hp, e1', e2', m5, d1, q1]
theorem of_ok {n : Int} {bs : List PyData} (h : Bok n bs) (hn : n ≤ 10 ^ 11) {ds : List PyData} (h1 : 1 ≤ ds.length) (h2 : ds.length ≤ 1000) : ∃ d bs', F_of bs [.list ds] = some (.dat d, bs') ∧ d ∈ ds ∧ Bok (n + 1) bs' := by
  obtain ⟨r, bs1, e1, a1, w1, k1⟩ := take_small (k := 1) h (by omega) (below := (ds.length : Int)) (by omega) (by omega)
  have hr : r.toNat < ds.length := by omega
  refine ⟨ds[r.toNat], bs1, runB_eq rfl ?_, List.getElem_mem hr, k1⟩
  unfold f_of
  have ea : atI ds r = some ds[r.toNat] := by
    unfold atI ixN
    rw [if_pos a1, if_pos w1]
    exact List.getElem?_eq_getElem hr
  simp [env0, v_bind, v_ok, v_none, v_pure, v_lift, v_liftN, v_con, v_get, v_gkd, v_gko, v_gkc, v_vwd, v_vws, v_ok1, v_ownD, v_dctD, v_dk1, v_setOwn, v_putM, v_op2, v_op1, v_anil, v_acons, v_vws0, v_vwsC, v_cb, v_tupD, v_lstD, v_lstW, v_listW, v_dds0, v_ddsC, v_asB, v_tb1, v_andT, v_orT, v_notT, v_andV, v_orV, v_notV, v_ofB, v_ifE, v_pl, v_toW, v_fz, v_ofWd, v_ofWo, v_nxt, v_thenS, v_exprS, v_retS, v_retN, v_ifS, v_setS, v_parS, v_setIx, v_asD, v_asI, v_mthE, v_callA, v_callB, v_forS, v_argI, v_seqI, v_slD, v_poN, v_poS, v_isiE, v_isiE2, v_isNE, v_dnew, v_dinT, v_dputS, v_sortDct, v_rgE, v_rg2, v_unS, v_catW, v_chainE, v_add, v_sub, v_lt, v_le, v_gt, v_ge, v_eqI, v_eqB, v_eqS, v_ixL, v_ixT, v_lenL, v_lenT, v_abs, v_intI, v_intB, v_min, v_max, v_chk, e1, ea]
theorem cell_ok {ns : List Int} {k : Int} (hk : 0 ≤ k) : ∃ c, F_cell_at [.list (ns.map .int), .int k] = some (.dat (.int c)) := by
  by_cases c : k < ns.length
  · have hr : k.toNat < ns.length := by omega
    refine ⟨ns[k.toNat], runA_eq rfl ?_⟩
    unfold f_cell_at s_cell_at_0 s_cell_at_1
    have ea : atI (ns.map PyData.int) k = some (.int ns[k.toNat]) := by
      unfold atI ixN
      rw [if_pos hk, List.length_map, if_pos c]
      simp [hr]
    simp [env0, v_bind, v_ok, v_none, v_pure, v_lift, v_liftN, v_con, v_get, v_gkd, v_gko, v_gkc, v_vwd, v_vws, v_ok1, v_ownD, v_dctD, v_dk1, v_setOwn, v_putM, v_op2, v_op1, v_anil, v_acons, v_vws0, v_vwsC, v_cb, v_tupD, v_lstD, v_lstW, v_listW, v_dds0, v_ddsC, v_asB, v_tb1, v_andT, v_orT, v_notT, v_andV, v_orV, v_notV, v_ofB, v_ifE, v_pl, v_toW, v_fz, v_ofWd, v_ofWo, v_nxt, v_thenS, v_exprS, v_retS, v_retN, v_ifS, v_setS, v_parS, v_setIx, v_asD, v_asI, v_mthE, v_callA, v_callB, v_forS, v_argI, v_seqI, v_slD, v_poN, v_poS, v_isiE, v_isiE2, v_isNE, v_dnew, v_dinT, v_dputS, v_sortDct, v_rgE, v_rg2, v_unS, v_catW, v_chainE, v_add, v_sub, v_lt, v_le, v_gt, v_ge, v_eqI, v_eqB, v_eqS, v_ixL, v_ixT, v_lenL, v_lenT, v_abs, v_intI, v_intB, v_min, v_max, v_chk, ea, c]
  · refine ⟨0, runA_eq rfl ?_⟩
    unfold f_cell_at s_cell_at_0 s_cell_at_1
    simp [env0, v_bind, v_ok, v_none, v_pure, v_lift, v_liftN, v_con, v_get, v_gkd, v_gko, v_gkc, v_vwd, v_vws, v_ok1, v_ownD, v_dctD, v_dk1, v_setOwn, v_putM, v_op2, v_op1, v_anil, v_acons, v_vws0, v_vwsC, v_cb, v_tupD, v_lstD, v_lstW, v_listW, v_dds0, v_ddsC, v_asB, v_tb1, v_andT, v_orT, v_notT, v_andV, v_orV, v_notV, v_ofB, v_ifE, v_pl, v_toW, v_fz, v_ofWd, v_ofWo, v_nxt, v_thenS, v_exprS, v_retS, v_retN, v_ifS, v_setS, v_parS, v_setIx, v_asD, v_asI, v_mthE, v_callA, v_callB, v_forS, v_argI, v_seqI, v_slD, v_poN, v_poS, v_isiE, v_isiE2, v_isNE, v_dnew, v_dinT, v_dputS, v_sortDct, v_rgE, v_rg2, v_unS, v_catW, v_chainE, v_add, v_sub, v_lt, v_le, v_gt, v_ge, v_eqI, v_eqB, v_eqS, v_ixL, v_ixT, v_lenL, v_lenT, v_abs, v_intI, v_intB, v_min, v_max, v_chk, c]
theorem box_ok {ns : List Int} {k : Int} (hk : 0 ≤ k) (hk2 : k ≤ 3) : ∃ bs, F_box [.list (ns.map .int), .int k] = some (.own (dats bs)) ∧ Bok 0 bs := by
  obtain ⟨c, hc⟩ := cell_ok (ns := ns) hk
  refine ⟨[.int ((if c < 0 then -c else c) * (if (10 : Int) ^ 18 ≤ (if c < 0 then -c else c) then 1 else 0)), .int (c % 2305843009213693951 + 39373 * k + 29), .int 0], runA_eq rfl ?_, _, _, _, rfl, ?_, ?_, ?_, Int.le_refl _, Int.le_refl _⟩
  · unfold f_box s_box_0 s_box_1
    have q1 : ∀ (x : Int) (b : Prop) [Decidable b], pMul x (if b then 1 else 0) = true := fun x b _ => by
      by_cases z : b
      · rw [if_pos z]; exact pMul_r (by decide) (by decide)
      · rw [if_neg z]; exact pMul_r (by decide) (by decide)
    have q2 : pMul 39373 k = true := pMul_r (by omega) (by omega)
    have hp : pPow 10 18 = true := by decide
    have m1 : ∀ x : Int, pMod x 2305843009213693951 = true := fun x => pMod_ok (by decide)
    simp [env0, v_bind, v_ok, v_none, v_pure, v_lift, v_liftN, v_con, v_get, v_gkd, v_gko, v_gkc, v_vwd, v_vws, v_ok1, v_ownD, v_dctD, v_dk1, v_setOwn, v_putM, v_op2, v_op1, v_anil, v_acons, v_vws0, v_vwsC, v_cb, v_tupD, v_lstD, v_lstW, v_listW, v_dds0, v_ddsC, v_asB, v_tb1, v_andT, v_orT, v_notT, v_andV, v_orV, v_notV, v_ofB, v_ifE, v_pl, v_toW, v_fz, v_ofWd, v_ofWo, v_nxt, v_thenS, v_exprS, v_retS, v_retN, v_ifS, v_setS, v_parS, v_setIx, v_asD, v_asI, v_mthE, v_callA, v_callB, v_forS, v_argI, v_seqI, v_slD, v_poN, v_poS, v_isiE, v_isiE2, v_isNE, v_dnew, v_dinT, v_dputS, v_sortDct, v_rgE, v_rg2, v_unS, v_catW, v_chainE, v_add, v_sub, v_lt, v_le, v_gt, v_ge, v_eqI, v_eqB, v_eqS, v_ixL, v_ixT, v_lenL, v_lenT, v_abs, v_intI, v_intB, v_min, v_max, v_chk, hc, v_mul, q1, q2, v_pow, hp, v_mod, m1, sz]
  · have : (0 : Int) ≤ if c < 0 then -c else c := by split <;> omega
    exact Int.mul_nonneg this (by split <;> omega)
  · omega
  · omega
end Ov
set_option Elab.async false
set_option linter.all false
set_option maxRecDepth 100000
set_option maxHeartbeats 4000000
namespace Ov
open PySem L2
theorem strewn_loop (w1 : Option Wv) (m : Nat) {k : Nat} {n : Int} {bs : List PyData} {l r : List Int} (hb : Bok n bs) (hn : n + m ≤ 10 ^ 10) (hl : l.length = m) (hr : m + r.length ≤ 500) (hk : m < k) :
    ∃ (q : List Int) (bs' : List PyData), whileM (tb1 (op2 (eqvD true) (get 2) (lstD anil))) (exprS (mthE 3 appD (acons (mthE 2 popD (acons (fz (callB 0 (F_take 2) (acons (cb lenD (acons (get 2) anil)) anil))) anil)) anil))) k
      [some (.own (dats bs)), w1, some (.own (dats (l.map .int))), some (.own (dats (r.map .int)))] = some (.ok .nx [some (.own (dats bs')), w1, some (.own (dats [])), some (.own (dats ((r ++ q).map .int)))]) ∧ q.Perm l ∧ Bok (n + m) bs' := by
  induction m generalizing k n bs l r with
  | zero =>
    obtain ⟨k, rfl⟩ : ∃ j, k = j + 1 := ⟨k - 1, by omega⟩
    have : l = [] := List.eq_nil_of_length_eq_zero hl
    subst this
    refine ⟨[], bs, (while_end (e := [some (.own (dats bs)), w1, some (.own (dats [])), some (.own (dats (r.map .int)))]) ?_).trans ?_, List.Perm.refl _, by simpa using hb⟩
    · have := ne_nil []
      simp only [List.map_nil] at this
      simp [v_bind, v_ok, v_none, v_pure, v_lift, v_liftN, v_con, v_get, v_gkd, v_gko, v_gkc, v_vwd, v_vws, v_ok1, v_ownD, v_dctD, v_dk1, v_setOwn, v_putM, v_op2, v_op1, v_anil, v_acons, v_vws0, v_vwsC, v_cb, v_tupD, v_lstD, v_lstW, v_listW, v_dds0, v_ddsC, v_asB, v_tb1, v_andT, v_orT, v_notT, v_andV, v_orV, v_notV, v_ofB, v_ifE, v_pl, v_toW, v_fz, v_ofWd, v_ofWo, v_nxt, v_thenS, v_exprS, v_retS, v_retN, v_ifS, v_setS, v_parS, v_setIx, v_asD, v_asI, v_mthE, v_callA, v_callB, v_forS, v_argI, v_seqI, v_slD, v_poN, v_poS, v_isiE, v_isiE2, v_isNE, v_dnew, v_dinT, v_dputS, v_sortDct, v_rgE, v_rg2, v_unS, v_catW, v_chainE, v_add, v_sub, v_lt, v_le, v_gt, v_ge, v_eqI, v_eqB, v_eqS, v_ixL, v_ixT, v_lenL, v_lenT, v_abs, v_intI, v_intB, v_min, v_max, v_chk, sz, this]
    · simp
  | succ m ih =>
    obtain ⟨k, rfl⟩ : ∃ j, k = j + 1 := ⟨k - 1, by omega⟩
    obtain ⟨x, bs1, e1, a1, b1, k1⟩ := take_small (k := 1) hb (by omega) (below := (l.length : Int)) (by omega) (by omega)
    have hx : x.toNat < l.length := by omega
    have hle : (l.eraseIdx x.toNat).length = m := by rw [List.length_eraseIdx, if_pos hx]; omega
    obtain ⟨q, bs2, e2, p2, k2⟩ := ih (k := k) (l := l.eraseIdx x.toNat) (r := r ++ [l[x.toNat]]) k1 (by omega) hle (by rw [List.length_append]; show m + (r.length + 1) ≤ 500; omega) (by omega)
    refine ⟨l[x.toNat] :: q, bs2, (while_go (e := [some (.own (dats bs)), w1, some (.own (dats (l.map .int))), some (.own (dats (r.map .int)))]) ?_ ?_).trans (e2.trans (by simp)), (p2.cons _).trans (erase_perm l _ _ (List.getElem?_eq_getElem hx)), k2.mono (by omega)⟩
    · have := ne_nil l
      have ne : l.isEmpty = false := by cases l with | nil => simp at hl | cons => rfl
      rw [ne] at this
      simp [v_bind, v_ok, v_none, v_pure, v_lift, v_liftN, v_con, v_get, v_gkd, v_gko, v_gkc, v_vwd, v_vws, v_ok1, v_ownD, v_dctD, v_dk1, v_setOwn, v_putM, v_op2, v_op1, v_anil, v_acons, v_vws0, v_vwsC, v_cb, v_tupD, v_lstD, v_lstW, v_listW, v_dds0, v_ddsC, v_asB, v_tb1, v_andT, v_orT, v_notT, v_andV, v_orV, v_notV, v_ofB, v_ifE, v_pl, v_toW, v_fz, v_ofWd, v_ofWo, v_nxt, v_thenS, v_exprS, v_retS, v_retN, v_ifS, v_setS, v_parS, v_setIx, v_asD, v_asI, v_mthE, v_callA, v_callB, v_forS, v_argI, v_seqI, v_slD, v_poN, v_poS, v_isiE, v_isiE2, v_isNE, v_dnew, v_dinT, v_dputS, v_sortDct, v_rgE, v_rg2, v_unS, v_catW, v_chainE, v_add, v_sub, v_lt, v_le, v_gt, v_ge, v_eqI, v_eqB, v_eqS, v_ixL, v_ixT, v_lenL, v_lenT, v_abs, v_intI, v_intB, v_min, v_max, v_chk, sz, this]
    · have hp : popD (l.map .int) [.int x] = some ((l.eraseIdx x.toNat).map .int, .int l[x.toNat]) := by
        unfold popD
        simp only
        rw [if_pos ⟨a1, by omega⟩, List.getElem?_map, List.getElem?_eq_getElem hx]
        simp [erase_map]
      have ha : appD (r.map PyData.int) [.int l[x.toNat]] = some ((r ++ [l[x.toNat]]).map .int, .none) := by
        rw [v_app _ _ (by rw [List.length_map]; omega)]
        simp
      have e1' : F_take 2 bs [.int ((l.map PyData.int).length : Nat)] = some (.dat (.int x), bs1) := by rw [List.length_map]; exact e1
      simp [v_bind, v_ok, v_none, v_pure, v_lift, v_liftN, v_con, v_get, v_gkd, v_gko, v_gkc, v_vwd, v_vws, v_ok1, v_ownD, v_dctD, v_dk1, v_setOwn, v_putM, v_op2, v_op1, v_anil, v_acons, v_vws0, v_vwsC, v_cb, v_tupD, v_lstD, v_lstW, v_listW, v_dds0, v_ddsC, v_asB, v_tb1, v_andT, v_orT, v_notT, v_andV, v_orV, v_notV, v_ofB, v_ifE, v_pl, v_toW, v_fz, v_ofWd, v_ofWo, v_nxt, v_thenS, v_exprS, v_retS, v_retN, v_ifS, v_setS, v_parS, v_setIx, v_asD, v_asI, v_mthE, v_callA, v_callB, v_forS, v_argI, v_seqI, v_slD, v_poN, v_poS, v_isiE, v_isiE2, v_isNE, v_dnew, v_dinT, v_dputS, v_sortDct, v_rgE, v_rg2, v_unS, v_catW, v_chainE, v_add, v_sub, v_lt, v_le, v_gt, v_ge, v_eqI, v_eqB, v_eqS, v_ixL, v_ixT, v_lenL, v_lenT, v_abs, v_intI, v_intB, v_min, v_max, v_chk, e1, hp, ha]
theorem strewn_ok {n : Int} {bs : List PyData} (h : Bok n bs) (hn : n ≤ 10 ^ 9) {ns : List Int} {d : PyData} (hd : d = .list (ns.map .int) ∨ d = .tuple (ns.map .int)) (h2 : ns.length ≤ 90) : ∃ (ms : List Int) (bs' : List PyData), F_strewn bs [d] = some (.own (dats (ms.map .int)), bs') ∧ ms.Perm ns ∧ Bok (n + 90) bs' := by
  obtain ⟨q, bs', e, p, k⟩ := strewn_loop (some (.dat d)) ns.length (k := 100) (l := ns) (r := []) h (by omega) rfl (by simp; omega) (by omega)
  refine ⟨q, bs', runB_eq rfl ?_, p, k.mono (by omega)⟩
  unfold f_strewn s_strewn_0 s_strewn_1 s_strewn_2
  have e' : whileM (tb1 (op2 (eqvD true) (get 2) (lstD anil))) (exprS (mthE 3 appD (acons (mthE 2 popD (acons (fz (callB 0 (F_take 2) (acons (cb lenD (acons (get 2) anil)) anil))) anil)) anil))) 100 [some (.own (dats bs)), some (.dat d), some (.own (dats (ns.map .int))), some (.own (dats []))] = some (.ok .nx [some (.own (dats bs')), some (.dat d), some (.own (dats [])), some (.own (dats (q.map .int)))]) := by simpa using e
  rcases hd with rfl | rfl
  · simp [env0, v_bind, v_ok, v_none, v_pure, v_lift, v_liftN, v_con, v_get, v_gkd, v_gko, v_gkc, v_vwd, v_vws, v_ok1, v_ownD, v_dctD, v_dk1, v_setOwn, v_putM, v_op2, v_op1, v_anil, v_acons, v_vws0, v_vwsC, v_cb, v_tupD, v_lstD, v_lstW, v_listW, v_dds0, v_ddsC, v_asB, v_tb1, v_andT, v_orT, v_notT, v_andV, v_orV, v_notV, v_ofB, v_ifE, v_pl, v_toW, v_fz, v_ofWd, v_ofWo, v_nxt, v_thenS, v_exprS, v_retS, v_retN, v_ifS, v_setS, v_parS, v_setIx, v_asD, v_asI, v_mthE, v_callA, v_callB, v_forS, v_argI, v_seqI, v_slD, v_poN, v_poS, v_isiE, v_isiE2, v_isNE, v_dnew, v_dinT, v_dputS, v_sortDct, v_rgE, v_rg2, v_unS, v_catW, v_chainE, v_add, v_sub, v_lt, v_le, v_gt, v_ge, v_eqI, v_eqB, v_eqS, v_ixL, v_ixT, v_lenL, v_lenT, v_abs, v_intI, v_intB, v_min, v_max, v_chk, seqD, sz, e', moveS]
  · simp [env0, v_bind, v_ok, v_none, v_pure, v_lift, v_liftN, v_con, v_get, v_gkd, v_gko, v_gkc, v_vwd, v_vws, v_ok1, v_ownD, v_dctD, v_dk1, v_setOwn, v_putM, v_op2, v_op1, v_anil, v_acons, v_vws0, v_vwsC, v_cb, v_tupD, v_lstD, v_lstW, v_listW, v_dds0, v_ddsC, v_asB, v_tb1, v_andT, v_orT, v_notT, v_andV, v_orV, v_notV, v_ofB, v_ifE, v_pl, v_toW, v_fz, v_ofWd, v_ofWo, v_nxt, v_thenS, v_exprS, v_retS, v_retN, v_ifS, v_setS, v_parS, v_setIx, v_asD, v_asI, v_mthE, v_callA, v_callB, v_forS, v_argI, v_seqI, v_slD, v_poN, v_poS, v_isiE, v_isiE2, v_isNE, v_dnew, v_dinT, v_dputS, v_sortDct, v_rgE, v_rg2, v_unS, v_catW, v_chainE, v_add, v_sub, v_lt, v_le, v_gt, v_ge, v_eqI, v_eqB, v_eqS, v_ixL, v_ixT, v_lenL, v_lenT, v_abs, v_intI, v_intB, v_min, v_max, v_chk, seqD, sz, e', moveS]
end Ov
set_option Elab.async false
set_option linter.all false
set_option maxRecDepth 100000
set_option maxHeartbeats 4000000
namespace Ov
open PySem L2
def isS : PyData → Bool
  | .str _ => true
  | _ => false
theorem v_kI (d : PyData) : kitD "int" d = some (isI d || isB d) := kit_int d
theorem v_kB (d : PyData) : kitD "bool" d = some (isB d) := kit_bool d
theorem v_kT (d : PyData) : kitD "tuple" d = some (isT d) := kit_tuple d
theorem v_kL (d : PyData) : kitD "list" d = some (isL d) := kit_list d
theorem v_kS : ∀ d : PyData, kitD "str" d = some (isS d)
  | .none => (by decide +kernel : kitB "NoneType" "str" = some false)
  | .bool _ => (by decide +kernel : kitB "bool" "str" = some false)
  | .int _ => (by decide +kernel : kitB "int" "str" = some false)
  | .str _ => (by decide +kernel : kitB "str" "str" = some true)
  | .list _ => (by decide +kernel : kitB "list" "str" = some false)
  | .tuple _ => (by decide +kernel : kitB "tuple" "str" = some false)
  | .dict _ => (by decide +kernel : kitB "dict" "str" = some false)
theorem bools_of (ds : List PyData) (g : PyData → Bool) : boolsD (ds.map fun d => .bool (g d)) = some (ds.map g) := by
  have := boolsD_map (ds.map g)
  rw [List.map_map] at this
  exact this
/-! the same data, twice -/
def okS : Nat → PyData → Prop
  | 0, _ => False
  | n + 1, d => (atomD d = true ∧ shp d = true) ∨ ∃ ds : List PyData, (d = .list ds ∨ d = .tuple ds) ∧ ds.length < 1000 ∧ ∀ x ∈ ds, okS n x
theorem eqv_atom {d : PyData} (h : atomD d = true) : PyData.eqv d d = true := by
  cases d with
  | none => rfl
  | bool b => simp [PyData.eqv]
  | int i => simp [PyData.eqv]
  | str s => simp [PyData.eqv]
  | list _ => cases h
  | tuple _ => cases h
  | dict _ => cases h
theorem pair_self : ∀ ds : List PyData, pairUp ds ds = ds.map fun x => .tuple [x, x]
  | [] => rfl
  | d :: r => by
    show .tuple [d, d] :: pairUp r r = _
    rw [pair_self r]
    rfl
theorem same_ok : ∀ {n : Nat} {d : PyData}, okS n d → F_same n [d, d] = some (.dat (.bool true)) := by
  intro n
  induction n with
  | zero => intro d h; exact h.elim
  | succ n ih =>
    intro d h
    refine runA_eq rfl ?_
    unfold f_same
    rcases h with ⟨ha, hs⟩ | ⟨ds, hd, hl, hx⟩
    · have eq : eqvD false d d = some (.bool true) := by
        unfold eqvD
        rw [hs, eqv_atom ha]
        rfl
      cases d with
      | none => simp [env0, v_bind, v_ok, v_none, v_pure, v_lift, v_liftN, v_con, v_get, v_gkd, v_gko, v_gkc, v_vwd, v_vws, v_ok1, v_ownD, v_dctD, v_dk1, v_setOwn, v_putM, v_op2, v_op1, v_anil, v_acons, v_vws0, v_vwsC, v_cb, v_tupD, v_lstD, v_lstW, v_listW, v_dds0, v_ddsC, v_asB, v_tb1, v_andT, v_orT, v_notT, v_andV, v_orV, v_notV, v_ofB, v_ifE, v_pl, v_toW, v_fz, v_ofWd, v_ofWo, v_nxt, v_thenS, v_exprS, v_retS, v_retN, v_ifS, v_setS, v_parS, v_setIx, v_asD, v_asI, v_mthE, v_callA, v_callB, v_forS, v_argI, v_seqI, v_slD, v_poN, v_poS, v_isiE, v_isiE2, v_isNE, v_dnew, v_dinT, v_dputS, v_sortDct, v_rgE, v_rg2, v_unS, v_catW, v_chainE, v_add, v_sub, v_lt, v_le, v_gt, v_ge, v_eqI, v_eqB, v_eqS, v_ixL, v_ixT, v_lenL, v_lenT, v_abs, v_intI, v_intB, v_min, v_max, v_chk, v_kI, v_kB, v_kT, v_kL, v_kS, isI, isB, isT, isL, isS, eq, isNR]
      | bool b => simp [env0, v_bind, v_ok, v_none, v_pure, v_lift, v_liftN, v_con, v_get, v_gkd, v_gko, v_gkc, v_vwd, v_vws, v_ok1, v_ownD, v_dctD, v_dk1, v_setOwn, v_putM, v_op2, v_op1, v_anil, v_acons, v_vws0, v_vwsC, v_cb, v_tupD, v_lstD, v_lstW, v_listW, v_dds0, v_ddsC, v_asB, v_tb1, v_andT, v_orT, v_notT, v_andV, v_orV, v_notV, v_ofB, v_ifE, v_pl, v_toW, v_fz, v_ofWd, v_ofWo, v_nxt, v_thenS, v_exprS, v_retS, v_retN, v_ifS, v_setS, v_parS, v_setIx, v_asD, v_asI, v_mthE, v_callA, v_callB, v_forS, v_argI, v_seqI, v_slD, v_poN, v_poS, v_isiE, v_isiE2, v_isNE, v_dnew, v_dinT, v_dputS, v_sortDct, v_rgE, v_rg2, v_unS, v_catW, v_chainE, v_add, v_sub, v_lt, v_le, v_gt, v_ge, v_eqI, v_eqB, v_eqS, v_ixL, v_ixT, v_lenL, v_lenT, v_abs, v_intI, v_intB, v_min, v_max, v_chk, v_kI, v_kB, v_kT, v_kL, v_kS, isI, isB, isT, isL, isS, eq, isNR]
      | int i => simp [env0, v_bind, v_ok, v_none, v_pure, v_lift, v_liftN, v_con, v_get, v_gkd, v_gko, v_gkc, v_vwd, v_vws, v_ok1, v_ownD, v_dctD, v_dk1, v_setOwn, v_putM, v_op2, v_op1, v_anil, v_acons, v_vws0, v_vwsC, v_cb, v_tupD, v_lstD, v_lstW, v_listW, v_dds0, v_ddsC, v_asB, v_tb1, v_andT, v_orT, v_notT, v_andV, v_orV, v_notV, v_ofB, v_ifE, v_pl, v_toW, v_fz, v_ofWd, v_ofWo, v_nxt, v_thenS, v_exprS, v_retS, v_retN, v_ifS, v_setS, v_parS, v_setIx, v_asD, v_asI, v_mthE, v_callA, v_callB, v_forS, v_argI, v_seqI, v_slD, v_poN, v_poS, v_isiE, v_isiE2, v_isNE, v_dnew, v_dinT, v_dputS, v_sortDct, v_rgE, v_rg2, v_unS, v_catW, v_chainE, v_add, v_sub, v_lt, v_le, v_gt, v_ge, v_eqI, v_eqB, v_eqS, v_ixL, v_ixT, v_lenL, v_lenT, v_abs, v_intI, v_intB, v_min, v_max, v_chk, v_kI, v_kB, v_kT, v_kL, v_kS, isI, isB, isT, isL, isS, eq, isNR]
      | str s => simp [env0, v_bind, v_ok, v_none, v_pure, v_lift, v_liftN, v_con, v_get, v_gkd, v_gko, v_gkc, v_vwd, v_vws, v_ok1, v_ownD, v_dctD, v_dk1, v_setOwn, v_putM, v_op2, v_op1, v_anil, v_acons, v_vws0, v_vwsC, v_cb, v_tupD, v_lstD, v_lstW, v_listW, v_dds0, v_ddsC, v_asB, v_tb1, v_andT, v_orT, v_notT, v_andV, v_orV, v_notV, v_ofB, v_ifE, v_pl, v_toW, v_fz, v_ofWd, v_ofWo, v_nxt, v_thenS, v_exprS, v_retS, v_retN, v_ifS, v_setS, v_parS, v_setIx, v_asD, v_asI, v_mthE, v_callA, v_callB, v_forS, v_argI, v_seqI, v_slD, v_poN, v_poS, v_isiE, v_isiE2, v_isNE, v_dnew, v_dinT, v_dputS, v_sortDct, v_rgE, v_rg2, v_unS, v_catW, v_chainE, v_add, v_sub, v_lt, v_le, v_gt, v_ge, v_eqI, v_eqB, v_eqS, v_ixL, v_ixT, v_lenL, v_lenT, v_abs, v_intI, v_intB, v_min, v_max, v_chk, v_kI, v_kB, v_kT, v_kL, v_kS, isI, isB, isT, isL, isS, eq, isNR]
      | list _ => cases ha
      | tuple _ => cases ha
      | dict _ => cases ha
    · have cm : ∀ d : PyData, zipD [d, d] = some (pairUp ds ds) → lcW (argI zipD (acons (get 0) (acons (get 1) anil))) (gT (gsC (gN 2) (gsC (gN 3) gsN))) yesT (fz (callA (F_same n) (acons (get 2) (acons (get 3) anil)))) [2, 3] [some (.dat d), some (.dat d), none, none] =
          some (.ok (.own (dats (ds.map fun _ => .bool true))) [some (.dat d), some (.dat d), none, none]) := fun d hz => by
        refine lc_eq (ds := pairUp ds ds) (e := [some (.dat d), some (.dat d), none, none]) (e2 := [some (.dat d), some (.dat d), none, none]) ?_ rfl rfl ?_
        · simp [v_bind, v_ok, v_none, v_pure, v_lift, v_liftN, v_con, v_get, v_gkd, v_gko, v_gkc, v_vwd, v_vws, v_ok1, v_ownD, v_dctD, v_dk1, v_setOwn, v_putM, v_op2, v_op1, v_anil, v_acons, v_vws0, v_vwsC, v_cb, v_tupD, v_lstD, v_lstW, v_listW, v_dds0, v_ddsC, v_asB, v_tb1, v_andT, v_orT, v_notT, v_andV, v_orV, v_notV, v_ofB, v_ifE, v_pl, v_toW, v_fz, v_ofWd, v_ofWo, v_nxt, v_thenS, v_exprS, v_retS, v_retN, v_ifS, v_setS, v_parS, v_setIx, v_asD, v_asI, v_mthE, v_callA, v_callB, v_forS, v_argI, v_seqI, v_slD, v_poN, v_poS, v_isiE, v_isiE2, v_isNE, v_dnew, v_dinT, v_dputS, v_sortDct, v_rgE, v_rg2, v_unS, v_catW, v_chainE, v_add, v_sub, v_lt, v_le, v_gt, v_ge, v_eqI, v_eqB, v_eqS, v_ixL, v_ixT, v_lenL, v_lenT, v_abs, v_intI, v_intB, v_min, v_max, v_chk, hz]
        · rw [pair_self]
          have := comp_map (env := [some (.dat d), some (.dat d), none, none]) (p := gT (gsC (gN 2) (gsC (gN 3) gsN))) (ft := yesT) (fe := fz (callA (F_same n) (acons (get 2) (acons (get 3) anil)))) (vs := [2, 3]) (fun _ => .bool true) (ds.map fun x => .tuple [x, x]) [] (by simp; omega) fun x hx' => ?_
          · simpa [Function.comp_def] using this
          · obtain ⟨y, hy, rfl⟩ := List.mem_map.mp hx'
            exact ⟨[some (.dat d), some (.dat d), some (.dat y), some (.dat y)], rfl, rfl, by simp [v_bind, v_ok, v_none, v_pure, v_lift, v_liftN, v_con, v_get, v_gkd, v_gko, v_gkc, v_vwd, v_vws, v_ok1, v_ownD, v_dctD, v_dk1, v_setOwn, v_putM, v_op2, v_op1, v_anil, v_acons, v_vws0, v_vwsC, v_cb, v_tupD, v_lstD, v_lstW, v_listW, v_dds0, v_ddsC, v_asB, v_tb1, v_andT, v_orT, v_notT, v_andV, v_orV, v_notV, v_ofB, v_ifE, v_pl, v_toW, v_fz, v_ofWd, v_ofWo, v_nxt, v_thenS, v_exprS, v_retS, v_retN, v_ifS, v_setS, v_parS, v_setIx, v_asD, v_asI, v_mthE, v_callA, v_callB, v_forS, v_argI, v_seqI, v_slD, v_poN, v_poS, v_isiE, v_isiE2, v_isNE, v_dnew, v_dinT, v_dputS, v_sortDct, v_rgE, v_rg2, v_unS, v_catW, v_chainE, v_add, v_sub, v_lt, v_le, v_gt, v_ge, v_eqI, v_eqB, v_eqS, v_ixL, v_ixT, v_lenL, v_lenT, v_abs, v_intI, v_intB, v_min, v_max, v_chk, ih (hx y hy)], rfl, rfl⟩
      have ea : allD [.list (ds.map fun _ => .bool true)] = some (.bool true) := by
        show (boolsD _).map _ = _
        rw [bools_of ds fun _ => true]
        simp
      rcases hd with rfl | rfl
      · simp [env0, v_bind, v_ok, v_none, v_pure, v_lift, v_liftN, v_con, v_get, v_gkd, v_gko, v_gkc, v_vwd, v_vws, v_ok1, v_ownD, v_dctD, v_dk1, v_setOwn, v_putM, v_op2, v_op1, v_anil, v_acons, v_vws0, v_vwsC, v_cb, v_tupD, v_lstD, v_lstW, v_listW, v_dds0, v_ddsC, v_asB, v_tb1, v_andT, v_orT, v_notT, v_andV, v_orV, v_notV, v_ofB, v_ifE, v_pl, v_toW, v_fz, v_ofWd, v_ofWo, v_nxt, v_thenS, v_exprS, v_retS, v_retN, v_ifS, v_setS, v_parS, v_setIx, v_asD, v_asI, v_mthE, v_callA, v_callB, v_forS, v_argI, v_seqI, v_slD, v_poN, v_poS, v_isiE, v_isiE2, v_isNE, v_dnew, v_dinT, v_dputS, v_sortDct, v_rgE, v_rg2, v_unS, v_catW, v_chainE, v_add, v_sub, v_lt, v_le, v_gt, v_ge, v_eqI, v_eqB, v_eqS, v_ixL, v_ixT, v_lenL, v_lenT, v_abs, v_intI, v_intB, v_min, v_max, v_chk, v_kI, v_kB, v_kT, v_kL, v_kS, isI, isB, isT, isL, isS, cm (.list ds) rfl, ea]
      · simp [env0, v_bind, v_ok, v_none, v_pure, v_lift, v_liftN, v_con, v_get, v_gkd, v_gko, v_gkc, v_vwd, v_vws, v_ok1, v_ownD, v_dctD, v_dk1, v_setOwn, v_putM, v_op2, v_op1, v_anil, v_acons, v_vws0, v_vwsC, v_cb, v_tupD, v_lstD, v_lstW, v_listW, v_dds0, v_ddsC, v_asB, v_tb1, v_andT, v_orT, v_notT, v_andV, v_orV, v_notV, v_ofB, v_ifE, v_pl, v_toW, v_fz, v_ofWd, v_ofWo, v_nxt, v_thenS, v_exprS, v_retS, v_retN, v_ifS, v_setS, v_parS, v_setIx, v_asD, v_asI, v_mthE, v_callA, v_callB, v_forS, v_argI, v_seqI, v_slD, v_poN, v_poS, v_isiE, v_isiE2, v_isNE, v_dnew, v_dinT, v_dputS, v_sortDct, v_rgE, v_rg2, v_unS, v_catW, v_chainE, v_add, v_sub, v_lt, v_le, v_gt, v_ge, v_eqI, v_eqB, v_eqS, v_ixL, v_ixT, v_lenL, v_lenT, v_abs, v_intI, v_intB, v_min, v_max, v_chk, v_kI, v_kB, v_kT, v_kL, v_kS, isI, isB, isT, isL, isS, cm (.tuple ds) rfl, ea]
theorem okS.ints {n : Nat} (ns : List Int) (h : ns.length < 1000) : okS (n + 2) (.tuple (ns.map .int)) ∧ okS (n + 2) (.list (ns.map .int)) := by
  have : ∀ x ∈ ns.map PyData.int, okS (n + 1) x := fun x hx => by
    obtain ⟨i, _, rfl⟩ := List.mem_map.mp hx
    exact .inl ⟨rfl, shp_int i⟩
  exact ⟨.inr ⟨_, .inr rfl, by rw [List.length_map]; exact h, this⟩, .inr ⟨_, .inl rfl, by rw [List.length_map]; exact h, this⟩⟩
end Ov
set_option Elab.async false
set_option linter.all false
set_option maxRecDepth 100000
set_option maxHeartbeats 4000000
namespace Ov
open PySem L2
theorem v_neg (i : Int) : negD (.int i) = some (.int (-i)) := rfl
end Ov
set_option Elab.async false
set_option linter.all false
set_option maxRecDepth 100000
set_option maxHeartbeats 4000000
namespace Ov
open PySem L2
/-! codes -/
def isSq (d : PyData) (ms : List Int) : Prop := d = .list (ms.map .int) ∨ d = .tuple (ms.map .int)
theorem isSq.seq {d : PyData} {ms : List Int} (h : isSq d ms) : seqD d = some (ms.map .int) := by rcases h with rfl | rfl <;> rfl
end Ov
set_option Elab.async false
set_option linter.all false
set_option maxRecDepth 100000
set_option maxHeartbeats 4000000
set_option Elab.async false
set_option linter.all false
set_option maxRecDepth 100000
set_option maxHeartbeats 4000000
namespace Ov
/-! runs: the intervals, by their mathematics alone -/
abbrev Iv := Int × Int
def lf (at_ : Nat) : Nat := at_ - 1
def rg (iv : List Iv) (at_ : Nat) : Nat := min (at_ + 1) (iv.length - 1)
def nx (iv : List Iv) (a : Nat) : List Iv :=
  iv.take (lf a) ++ [((iv.getD (lf a) (0, 0)).1, (iv.getD (rg iv a) (0, 0)).2 - 1)] ++ (iv.drop (rg iv a + 1)).map fun p => (p.1 - 1, p.2 - 1)
def Pt : Int → Int → List Iv → Prop
  | s, e, [] => s = e
  | s, e, p :: r => p.1 = s ∧ s ≤ p.2 ∧ Pt (p.2 + 1) e r
theorem Pt.le : ∀ {iv : List Iv} {s e : Int}, Pt s e iv → s ≤ e
  | [], s, e, h => by have : s = e := h; omega
  | p :: r, s, e, h => by have := Pt.le h.2.2; have := h.2.1; omega
theorem Pt.app : ∀ {a b : List Iv} {s m e : Int}, Pt s m a → Pt m e b → Pt s e (a ++ b)
  | [], b, s, m, e, h, k => by have : s = m := h; rw [this]; exact k
  | p :: r, b, s, m, e, h, k => ⟨h.1, h.2.1, Pt.app h.2.2 k⟩
end Ov
set_option Elab.async false
set_option linter.all false
set_option maxRecDepth 100000
set_option maxHeartbeats 4000000
namespace Ov
open PySem L2
def pD (p : Iv) : PyData := .tuple [.int p.1, .int p.2]
def ivD (iv : List Iv) : List PyData := iv.map pD
theorem iv_len (iv : List Iv) : (ivD iv).length = iv.length := List.length_map _
theorem rngD_ok {n : Nat} (h : n ≤ 1000) : rngD [.int (n : Int)] = some ((rngL 0 (n : Int)).map .int) := by
  have g : -(2 ^ 62) ≤ (n : Int) ∧ (n : Int) < 2 ^ 62 := ⟨by omega, by omega⟩
  generalize (n : Int) = N at g ⊢
  exact if_pos g
end Ov
set_option Elab.async false
set_option linter.all false
set_option maxRecDepth 100000
set_option maxHeartbeats 4000000
set_option Elab.async false
set_option linter.all false
set_option maxHeartbeats 1000000
set_option Elab.async false
set_option linter.all false
set_option maxHeartbeats 1000000
namespace Ov
/-! the codes after an exchange -/
def fh (h : Int) (l : List Int) : List Int := l.filter fun o => decide (h ≤ o)
/-! no exchange: each run is one index -/
/-! how far the codes are -/
end Ov
set_option Elab.async false
set_option linter.all false
set_option maxRecDepth 100000
set_option maxHeartbeats 4000000
namespace Ov
open PySem L2
theorem cutL_mid {α : Type} (l : List α) (a b : Nat) (h : a ≤ b) (h2 : b ≤ l.length) : cutL l (some (a : Int)) (some (b : Int)) = (l.drop a).take (b - a) := by
  unfold cutL
  have e : HT.sIx l.length 0 (some (a : Int)) = a := by simp [HT.sIx]; rw [if_neg (by omega)]; omega
  have e2 : HT.sIx l.length l.length (some (b : Int)) = b := by simp [HT.sIx]; rw [if_neg (by omega)]; omega
  rw [e, e2]
def clr (ms : List Int) (l r : Nat) : Bool := ((ms.drop (l + 1)).take (r - (l + 1))).all fun y => decide (y < min (ms.getD l 0) (ms.getD r 0))
/-! sights and exchanges -/
def sg1 (ms : List Int) (l : Nat) : List Iv := ((rngL ((l : Int) + 1) ms.length).filter fun r => clr ms l r.toNat).map fun r => ((l : Int), r)
def sg (ms : List Int) : List Nat → List Iv
  | [] => []
  | l :: ls => sg1 ms l ++ sg ms ls
theorem rng_in2 {a : Nat} {n : Nat} {k : Int} (h : k ∈ rngL ((a : Int) + 1) n) : ∃ j : Nat, k = j ∧ a < j ∧ j < n := by
  unfold rngL at h
  obtain ⟨j, hj, rfl⟩ := List.mem_map.mp h
  have := List.mem_range.mp hj
  exact ⟨a + 1 + j, by omega, by omega, by omega⟩
theorem sg_len1 (ms : List Int) (l : Nat) : (sg1 ms l).length ≤ ms.length := by
  unfold sg1
  rw [List.length_map]
  refine Nat.le_trans (List.length_filter_le _ _) ?_
  unfold rngL
  rw [List.length_map, List.length_range]
  omega
theorem sg_in {ms : List Int} {p : Iv} : ∀ {ls : List Nat}, p ∈ sg ms ls → ∃ l r : Nat, p = ((l : Int), (r : Int)) ∧ l ∈ ls ∧ l < r ∧ r < ms.length ∧ clr ms l r = true
  | [], h => by cases h
  | l :: ls, h => by
    rcases List.mem_append.mp h with h | h
    · obtain ⟨k, hk, rfl⟩ := List.mem_map.mp h
      obtain ⟨k1, k2⟩ := List.mem_filter.mp hk
      obtain ⟨j, rfl, j1, j2⟩ := rng_in2 k1
      rw [Int.toNat_natCast] at k2
      exact ⟨l, j, rfl, List.mem_cons_self .., j1, j2, k2⟩
    · obtain ⟨l', r, e, m, k⟩ := sg_in h
      exact ⟨l', r, e, List.mem_cons_of_mem _ m, k⟩
def farP (p : Iv) : Bool := decide (p.1 < p.2 - 1)
def xcs (ms : List Int) : List Iv := (sg ms (List.range ms.length)).filter farP
theorem sg_len (ms : List Int) : ∀ ls : List Nat, (sg ms ls).length ≤ ls.length * ms.length
  | [] => by show 0 ≤ _; omega
  | l :: ls => by
    have h1 := sg_len1 ms l
    have h2 := sg_len ms ls
    show (sg1 ms l ++ sg ms ls).length ≤ (ls.length + 1) * ms.length
    rw [List.length_append, Nat.add_mul]
    omega
/-! what an exchange is -/
theorem clr_iff {A B C : List Int} {a b : Int} : clr (A ++ a :: (B ++ b :: C)) A.length (A.length + 1 + B.length) = true ↔ ∀ y ∈ B, y < a ∧ y < b := by
  have g1 : (A ++ a :: (B ++ b :: C)).getD A.length 0 = a := by rw [List.getD_eq_getElem?_getD, List.getElem?_append_right (Nat.le_refl _), Nat.sub_self]; rfl
  have g2 : (A ++ a :: (B ++ b :: C)).getD (A.length + 1 + B.length) 0 = b := by
    rw [List.getD_eq_getElem?_getD, List.getElem?_append_right (by omega), show A.length + 1 + B.length - A.length = B.length + 1 by omega, List.getElem?_cons_succ, List.getElem?_append_right (Nat.le_refl _), Nat.sub_self]
    rfl
  have g3 : ((A ++ a :: (B ++ b :: C)).drop (A.length + 1)).take (A.length + 1 + B.length - (A.length + 1)) = B := by
    have : A ++ a :: (B ++ b :: C) = (A ++ [a]) ++ (B ++ b :: C) := by simp
    rw [this, show A.length + 1 = (A ++ [a]).length by simp, List.drop_left, show (A ++ [a]).length + B.length - (A ++ [a]).length = B.length by omega, List.take_left]
  unfold clr
  rw [g1, g2, g3, List.all_eq_true]
  constructor
  · intro h y hy
    have := of_decide_eq_true (h y hy)
    omega
  · intro h y hy
    have := h y hy
    exact decide_eq_true (by omega)
theorem split_at {ms : List Int} {l r : Nat} (h1 : l < r) (h2 : r < ms.length) : ∃ A a B b C, ms = A ++ a :: (B ++ b :: C) ∧ l = A.length ∧ r = A.length + 1 + B.length := by
  refine ⟨ms.take l, ms[l], (ms.drop (l + 1)).take (r - (l + 1)), ms[r], ms.drop (r + 1), ?_, by rw [List.length_take]; omega, by rw [List.length_take, List.length_take, List.length_drop]; omega⟩
  have e1 : ms = ms.take l ++ ms.drop l := (List.take_append_drop l ms).symm
  have e2 : ms.drop l = ms[l] :: ms.drop (l + 1) := List.drop_eq_getElem_cons (by omega)
  have e3 : ms.drop (l + 1) = (ms.drop (l + 1)).take (r - (l + 1)) ++ (ms.drop (l + 1)).drop (r - (l + 1)) := (List.take_append_drop _ _).symm
  have e4 : (ms.drop (l + 1)).drop (r - (l + 1)) = ms[r] :: ms.drop (r + 1) := by
    rw [List.drop_drop, show l + 1 + (r - (l + 1)) = r by omega]
    exact List.drop_eq_getElem_cons h2
  rw [e4] at e3
  rw [← e3, ← e2]
  exact e1
theorem xcs_in {ms : List Int} {p : Iv} (h : p ∈ xcs ms) : ∃ A a B b C, ms = A ++ a :: (B ++ b :: C) ∧ B ≠ [] ∧ (∀ y ∈ B, y < a ∧ y < b) ∧ p = ((A.length : Int), ((A.length + 1 + B.length : Nat) : Int)) := by
  obtain ⟨m1, m2⟩ := List.mem_filter.mp h
  obtain ⟨l, r, rfl, _, k1, k2, k3⟩ := sg_in m1
  obtain ⟨A, a, B, b, C, rfl, rfl, rfl⟩ := split_at k1 k2
  refine ⟨A, a, B, b, C, rfl, fun z => ?_, clr_iff.mp k3, rfl⟩
  subst z
  have := of_decide_eq_true m2
  simp at this
end Ov
set_option Elab.async false
set_option linter.all false
set_option maxRecDepth 100000
set_option maxHeartbeats 4000000
namespace Ov
open PySem L2
section
variable {A B C : List Int} {a b : Int}
theorem at_l : (A ++ a :: (B ++ b :: C))[A.length]? = some a := by rw [List.getElem?_append_right (Nat.le_refl _), Nat.sub_self]; rfl
theorem at_r : (A ++ a :: (B ++ b :: C))[A.length + 1 + B.length]? = some b := by
  rw [List.getElem?_append_right (by omega), show A.length + 1 + B.length - A.length = B.length + 1 by omega, List.getElem?_cons_succ, List.getElem?_append_right (Nat.le_refl _), Nat.sub_self]
  rfl
theorem len_x : (A ++ a :: (B ++ b :: C)).length = A.length + B.length + C.length + 2 := by rw [List.length_append, List.length_cons, List.length_append, List.length_cons]; omega
theorem ixN_nat {n k : Nat} (h : k < n) : ixN n (k : Int) = some k := by
  unfold ixN
  simp
  omega
end
/-! count, steps -/
end Ov
set_option Elab.async false
set_option linter.all false
set_option maxRecDepth 100000
set_option maxHeartbeats 4000000
namespace Ov
open PySem L2
theorem bools_map {β : Type} (l : List β) (t : β → Bool) : boolsD (l.map fun x => .bool (t x)) = some (l.map t) := by
  induction l with
  | nil => rfl
  | cons a r ih => show (boolsD (r.map fun x => .bool (t x))).map (t a :: ·) = _; rw [ih]; rfl
theorem all_map {β : Type} (l : List β) (t : β → Bool) : allD [.list (l.map fun x => .bool (t x))] = some (.bool (l.all t)) := by
  show ((boolsD _).map fun bs => PyData.bool (bs.all id)) = _
  rw [bools_map]
  show some (PyData.bool ((l.map t).all id)) = _
  rw [List.all_map]
  rfl
theorem cutT_mid {β : Type} {z : β → PyData} {l : List β} {a b : Nat} (h : a ≤ b) (h2 : b ≤ l.length) : cutD (.tuple (l.map z)) (some (a : Int)) (some (b : Int)) = some (.tuple (((l.drop a).take (b - a)).map z)) := by
  show some (PyData.tuple (cutL _ _ _)) = _
  rw [cutL_mid _ _ _ h (by rw [List.length_map]; exact h2), List.map_take, List.map_drop]
theorem sees_go {ms : List Int} {i j : Int} {l : List PyData} {r : Bool}
    (h1 : (lcW (seqI (slD (get 0) (poS (op2 addD (get 1) (con (.int 1)))) (poS (get 2)))) (gN 3) yesT (op2 ltD (get 3) (cb minD (acons (op2 ixD (get 0) (get 1)) (acons (op2 ixD (get 0) (get 2)) anil)))) [3]) [some (.dat (.tuple (ms.map PyData.int))), some (.dat (.int i)), some (.dat (.int j)), none] = some (.ok (.own (dats l)) [some (.dat (.tuple (ms.map PyData.int))), some (.dat (.int i)), some (.dat (.int j)), none]))
    (h2 : allD [.list l] = some (.bool r)) :
    F_sees [.tuple (ms.map PyData.int), .int i, .int j] = some (.dat (.bool r)) := by
  refine runA_eq rfl ⟨[some (.dat (.tuple (ms.map PyData.int))), some (.dat (.int i)), some (.dat (.int j)), none], ?_⟩
  show f_sees [some (.dat (.tuple (ms.map PyData.int))), some (.dat (.int i)), some (.dat (.int j)), none] = _
  unfold f_sees
  exact (ret_x (pl_x (cb_x (acons_x (fz_x h1 (v_ofWo _)) anil_x) (vwC_x vwd_x vw0_x) h2) rfl))
theorem sees_ok {ms : List Int} {l r : Nat} (h1 : l < r) (h2 : r < ms.length) (h3 : ms.length ≤ 1000) : F_sees [.tuple (ms.map .int), .int (l : Int), .int (r : Int)] = some (.dat (.bool (clr ms l r))) := by
  have gl : ms[l]? = some (ms.getD l 0) := by rw [List.getD_eq_getElem?_getD, List.getElem?_eq_getElem (by omega)]; rfl
  have gr : ms[r]? = some (ms.getD r 0) := by rw [List.getD_eq_getElem?_getD, List.getElem?_eq_getElem (by omega)]; rfl
  refine sees_go (lc_eq (seq_x (sl_x (get_x rfl) (poS_x (op2_x (get_x rfl) con_x vwd_x vwd_x ((addI_x _ _).trans (congrArg (fun z => some (PyData.int z)) (show (l : Int) + 1 = ((l + 1 : Nat) : Int) by omega))))) (poS_x (get_x rfl)) vwd_x (cutT_mid (z := PyData.int) (a := l + 1) (b := r) (by omega) (by omega))) rfl) rfl rfl (compM_x (fun y => .bool (decide (y < min (ms.getD l 0) (ms.getD r 0)))) _ (by rw [List.length_take, List.length_drop]; omega) fun y _ => ?_)) (all_map _ _)
  exact ⟨[some (.dat (.tuple (ms.map .int))), some (.dat (.int (l : Int))), some (.dat (.int (r : Int))), some (.dat (.int y))], rfl, rfl, op2_x (get_x rfl) (cb_x (acons_x (op2_x (get_x rfl) (get_x rfl) vwd_x vwd_x (ixT_map (z := PyData.int) gl)) (acons_x (op2_x (get_x rfl) (get_x rfl) vwd_x vwd_x (ixT_map (z := PyData.int) gr)) anil_x)) (vwC_x vwd_x (vwC_x vwd_x vw0_x)) (min_x _ _)) vwd_x vwd_x (ltI_x _ _), rfl, rfl⟩
/-! swaps -/
def sw1 (ms : List Int) (i : Nat) : List Iv := ((List.range' (i + 2) (ms.length - (i + 2))).filter fun j => clr ms i j).map fun j : Nat => ((i : Int), (j : Int))
def sws (ms : List Int) : List Nat → List Iv
  | [] => []
  | i :: l => sw1 ms i ++ sws ms l
theorem sw1_len (ms : List Int) (i : Nat) : (sw1 ms i).length ≤ ms.length := by
  unfold sw1
  rw [List.length_map]
  have := List.length_filter_le (fun j => clr ms i j) (List.range' (i + 2) (ms.length - (i + 2)))
  rw [List.length_range'] at this
  omega
theorem rng_range (a b : Nat) : rngL (a : Int) (b : Int) = (List.range' a (b - a)).map fun k : Nat => (k : Int) := by
  unfold rngL
  rw [List.range'_eq_map_range, List.map_map, show ((b : Int) - (a : Int)).toNat = b - a by omega]
  refine List.map_congr_left fun k _ => ?_
  show (a : Int) + (k : Int) = ((a + k : Nat) : Int)
  omega
theorem sg1_far (ms : List Int) (l : Nat) : (sg1 ms l).filter farP = sw1 ms l := by
  unfold sg1 sw1
  have e : rngL ((l : Int) + 1) ms.length = (List.range' (l + 1) (ms.length - (l + 1))).map fun k : Nat => (k : Int) := rng_range (l + 1) ms.length
  rw [e, List.filter_map, List.filter_filter, List.filter_map, List.map_map]
  have key : (List.range' (l + 1) (ms.length - (l + 1))).filter (fun j => decide (l + 1 < j) && clr ms l j) = (List.range' (l + 2) (ms.length - (l + 2))).filter fun j => clr ms l j := by
    by_cases c : l + 1 < ms.length
    · rw [show ms.length - (l + 1) = (ms.length - (l + 2)) + 1 by omega, List.range'_succ, List.filter_cons_of_neg (by simp)]
      refine List.filter_congr fun j hj => ?_
      have : l + 2 ≤ j := by have := List.mem_range'.mp hj; omega
      rw [decide_eq_true (by omega : l + 1 < j)]
      rfl
    · rw [show ms.length - (l + 1) = 0 by omega, show ms.length - (l + 2) = 0 by omega]
      rfl
  rw [← key]
  congr 1
  refine List.filter_congr fun j _ => ?_
  show (farP ((l : Int), (j : Int)) && clr ms l ((j : Int)).toNat) = _
  rw [Int.toNat_natCast]
  congr 1
  unfold farP
  rw [decide_eq_decide]
  show (l : Int) < (j : Int) - 1 ↔ _
  omega
theorem sws_far (ms : List Int) : ∀ ls : List Nat, (sg ms ls).filter farP = sws ms ls
  | [] => rfl
  | l :: ls => by rw [sg, List.filter_append, sg1_far, sws_far ms ls]; rfl
theorem sws_xcs (ms : List Int) : sws ms (List.range ms.length) = xcs ms := (sws_far ms _).symm
theorem sw_body {ms : List Int} {f y : List Iv} {i : Int}
    (h1 : (lcW (argI rngD2 (acons (op2 addD (get 2) (con (.int 2))) (acons (cb lenD (acons (get 0) anil)) anil))) (gN 3) (tb1 (fz (callA F_sees (acons (get 0) (acons (get 2) (acons (get 3) anil)))))) (tupD (acons (get 2) (acons (get 3) anil))) [3]) [some (.dat (.tuple (ms.map PyData.int))), some (.dat (.list (ivD f))), some (.dat (.int i)), none] = some (.ok (.own (dats (ivD y))) [some (.dat (.tuple (ms.map PyData.int))), some (.dat (.list (ivD f))), some (.dat (.int i)), none]))
    (h2 : (ivD f).length + (ivD y).length ≤ 1000000) :
    b_swaps_1 [some (.dat (.tuple (ms.map PyData.int))), some (.dat (.list (ivD f))), some (.dat (.int i)), none] = some (.ok .nx [some (.dat (.tuple (ms.map PyData.int))), some (.dat (.list ((ivD f) ++ (ivD y)))), some (.dat (.int i)), none]) := by
  unfold b_swaps_1
  exact (set_x (pl_x (op2_x (get_x rfl) (fz_x h1 (v_ofWo _)) vwd_x vwd_x (v_cat _ _ h2)) rfl) (Nat.le_of_ble_eq_true rfl))
theorem swaps_go {ms : List Int} {l : List PyData} {f : List Iv} {u1 u2 : Option Wv}
    (h1 : rngD [.int (ms.length : Nat)] = some l)
    (h2 : forM (gN 2) b_swaps_1 l [some (.dat (.tuple (ms.map PyData.int))), some (.dat (.list [])), none, none] = some (.ok .nx [some (.dat (.tuple (ms.map PyData.int))), some (.dat (.list (ivD f))), u1, u2])) :
    F_swaps [.tuple (ms.map PyData.int)] = some (.dat (.list (ivD f))) := by
  have s0 : s_swaps_0 [some (.dat (.tuple (ms.map PyData.int))), none, none, none] = some (.ok .nx [some (.dat (.tuple (ms.map PyData.int))), some (.dat (.list [])), none, none]) := by
    unfold s_swaps_0
    exact (set_x (pl_x (lst_x anil_x rfl (Nat.le_of_ble_eq_true rfl)) rfl) (Nat.le_of_ble_eq_true rfl))
  have s1 : s_swaps_1 [some (.dat (.tuple (ms.map PyData.int))), some (.dat (.list [])), none, none] = some (.ok .nx [some (.dat (.tuple (ms.map PyData.int))), some (.dat (.list (ivD f))), u1, u2]) := by
    unfold s_swaps_1
    exact (for_x (argI_x (acons_x (cb_x (acons_x (get_x rfl) anil_x) (vwC_x vwd_x vw0_x) (lenTm_x _ _)) anil_x) rfl h1) h2)
  refine runA_eq rfl ⟨[some (.dat (.tuple (ms.map PyData.int))), some (.dat (.list (ivD f))), u1, u2], ?_⟩
  show f_swaps [some (.dat (.tuple (ms.map PyData.int))), none, none, none] = _
  unfold f_swaps
  rw [then_nx s0, then_nx s1]
  unfold s_swaps_2
  exact (ret_x (pl_x (get_x rfl) rfl))
theorem sw_loop {ms : List Int} (hn : ms.length ≤ 30) : ∀ (j : Nat) {k : Nat} {f : List Iv} {w2 : Option Wv}, k + j ≤ ms.length → f.length + 30 * j ≤ 1000 → ∃ u2, forM (gN 2) b_swaps_1 ((List.range' k j).map nI) [some (.dat (.tuple (ms.map .int))), some (.dat (.list (ivD f))), w2, none] = some (.ok .nx [some (.dat (.tuple (ms.map .int))), some (.dat (.list (ivD (f ++ sws ms (List.range' k j))))), u2, none])
  | 0, k, f, w2, _, _ => ⟨w2, by show _ = some (Rs.ok Fl.nx [_, some (.dat (.list (ivD (f ++ [])))), _, _]); rw [List.append_nil]; exact for_nil⟩
  | j + 1, k, f, w2, h, hl => by
    have l1 := sw1_len ms k
    obtain ⟨u2, e⟩ := sw_loop hn j (k := k + 1) (f := f ++ sw1 ms k) (w2 := some (.dat (nI k))) (by omega) (by rw [List.length_append]; omega)
    have cm : lcW (argI rngD2 (acons (op2 addD (get 2) (con (.int 2))) (acons (cb lenD (acons (get 0) anil)) anil))) (gN 3) (tb1 (fz (callA F_sees (acons (get 0) (acons (get 2) (acons (get 3) anil)))))) (tupD (acons (get 2) (acons (get 3) anil))) [3] [some (.dat (.tuple (ms.map PyData.int))), some (.dat (.list (ivD f))), some (.dat (.int (k : Int))), none] = some (.ok (.own (dats (ivD (sw1 ms k)))) [some (.dat (.tuple (ms.map PyData.int))), some (.dat (.list (ivD f))), some (.dat (.int (k : Int))), none]) := by
      refine lc_eq (argI_x (acons_x (op2_x (get_x rfl) con_x vwd_x vwd_x ((addI_x _ _).trans (congrArg (fun z => some (PyData.int z)) (show (k : Int) + 2 = ((k + 2 : Nat) : Int) by omega)))) (acons_x (cb_x (acons_x (get_x rfl) anil_x) (vwC_x vwd_x vw0_x) (lenTm_x _ _)) anil_x)) rfl (rng2N (by omega) (by omega))) rfl rfl ?_
      have := comp_x (env := [some (.dat (.tuple (ms.map PyData.int))), some (.dat (.list (ivD f))), some (.dat (.int (k : Int))), none]) (p := gN 3) (ft := tb1 (fz (callA F_sees (acons (get 0) (acons (get 2) (acons (get 3) anil)))))) (fe := tupD (acons (get 2) (acons (get 3) anil))) (vs := [3]) (z := nI) (fun j => .tuple [.int (k : Int), .int (j : Int)]) (fun j => clr ms k j) (List.range' (k + 2) (ms.length - (k + 2))) [] (by rw [List.length_range']; show 0 + _ < _; omega) fun j hj => by
        have hj := List.mem_range'.mp hj
        exact ⟨[some (.dat (.tuple (ms.map PyData.int))), some (.dat (.list (ivD f))), some (.dat (.int (k : Int))), some (.dat (.int (j : Int)))], rfl, tb_x (fz_x (callA_x (acons_x (get_x rfl) (acons_x (get_x rfl) (acons_x (get_x rfl) anil_x))) rfl (sees_ok (by omega) (by omega) (by omega))) rfl) vwd_x, fun _ => tup_x (acons_x (get_x rfl) (acons_x (get_x rfl) anil_x)) rfl (Nat.le_of_ble_eq_true rfl), rfl, rfl⟩
      refine this.trans ?_
      rw [List.nil_append]
      unfold sw1 ivD
      rw [List.map_map]
      rfl
    have st := sw_body (ms := ms) (f := f) (i := (k : Int)) cm (by rw [iv_len, iv_len]; omega)
    refine ⟨u2, ?_⟩
    rw [List.range'_succ, List.map_cons]
    refine (for_go (e := [some (.dat (.tuple (ms.map .int))), some (.dat (.list (ivD f))), some (.dat (.int (k : Int))), none]) rfl st).trans (Eq.trans ?_ (e.trans ?_))
    · unfold ivD; rw [List.map_append]; rfl
    · rw [List.append_assoc]; rfl
theorem swaps_ok {ms : List Int} (hn : ms.length ≤ 30) : F_swaps [.tuple (ms.map .int)] = some (.dat (.list (ivD (xcs ms)))) := by
  obtain ⟨u2, e⟩ := sw_loop hn ms.length (k := 0) (f := []) (w2 := none) (by omega) (by show 0 + _ ≤ _; omega)
  rw [← List.range_eq_range', sws_xcs, List.nil_append] at e
  exact swaps_go (rng1N (by omega)) (by rw [← List.range_eq_range']; exact e)
/-! turned -/
theorem turned_go {i1 j1 i j b a : Int} {ms c0 c1 c2 : List Int}
    (h1 : cutD (.tuple (ms.map PyData.int)) none (some i) = some (.tuple (c0.map PyData.int)))
    (h2 : ixD (.tuple (ms.map PyData.int)) (.int j) = some (.int b))
    (h3 : (c0.map PyData.int).length + ([.int b] : List PyData).length ≤ 1000000)
    (q4 : i + 1 = i1)
    (h5 : cutD (.tuple (ms.map PyData.int)) (some i1) (some j) = some (.tuple (c1.map PyData.int)))
    (h6 : (((c0.map PyData.int) ++ [.int b]) : List PyData).length + (c1.map PyData.int).length ≤ 1000000)
    (h7 : ixD (.tuple (ms.map PyData.int)) (.int i) = some (.int a))
    (h8 : ((((c0.map PyData.int) ++ [.int b]) ++ (c1.map PyData.int)) : List PyData).length + ([.int a] : List PyData).length ≤ 1000000)
    (q9 : j + 1 = j1)
    (h10 : cutD (.tuple (ms.map PyData.int)) (some j1) none = some (.tuple (c2.map PyData.int)))
    (h11 : (((((c0.map PyData.int) ++ [.int b]) ++ (c1.map PyData.int)) ++ [.int a]) : List PyData).length + (c2.map PyData.int).length ≤ 1000000) :
    F_turned [.tuple (ms.map PyData.int), .tuple [.int i, .int j]] = some (.dat (.tuple (((((c0.map PyData.int) ++ [.int b]) ++ (c1.map PyData.int)) ++ [.int a]) ++ (c2.map PyData.int)))) := by
  have s0 : s_turned_0 [some (.dat (.tuple (ms.map PyData.int))), some (.dat (.tuple [.int i, .int j])), none, none] = some (.ok .nx [some (.dat (.tuple (ms.map PyData.int))), some (.dat (.tuple [.int i, .int j])), some (.dat (.int i)), some (.dat (.int j))]) := by
    unfold s_turned_0
    exact (un_x (get_x rfl) rfl)
  refine runA_eq rfl ⟨[some (.dat (.tuple (ms.map PyData.int))), some (.dat (.tuple [.int i, .int j])), some (.dat (.int i)), some (.dat (.int j))], ?_⟩
  show f_turned [some (.dat (.tuple (ms.map PyData.int))), some (.dat (.tuple [.int i, .int j])), none, none] = _
  unfold f_turned
  rw [then_nx s0]
  unfold s_turned_1
  exact (ret_x (pl_x (op2_x (op2_x (op2_x (op2_x (sl_x (get_x rfl) poN_x (poS_x (get_x rfl)) vwd_x h1) (tup_x (acons_x (op2_x (get_x rfl) (get_x rfl) vwd_x vwd_x h2) anil_x) rfl (Nat.le_of_ble_eq_true rfl)) vwd_x vwd_x (v_catT _ _ h3)) (sl_x (get_x rfl) (poS_x (op2_x (get_x rfl) con_x vwd_x vwd_x ((addI_x _ _).trans (congrArg (fun z => some (PyData.int z)) q4)))) (poS_x (get_x rfl)) vwd_x h5) vwd_x vwd_x (v_catT _ _ h6)) (tup_x (acons_x (op2_x (get_x rfl) (get_x rfl) vwd_x vwd_x h7) anil_x) rfl (Nat.le_of_ble_eq_true rfl)) vwd_x vwd_x (v_catT _ _ h8)) (sl_x (get_x rfl) (poS_x (op2_x (get_x rfl) con_x vwd_x vwd_x ((addI_x _ _).trans (congrArg (fun z => some (PyData.int z)) q9)))) poN_x vwd_x h10) vwd_x vwd_x (v_catT _ _ h11)) rfl))
section
variable {A B C : List Int} {a b : Int}
theorem turned_ok (hl : (A ++ a :: (B ++ b :: C)).length ≤ 1000) : F_turned [.tuple ((A ++ a :: (B ++ b :: C)).map .int), pD ((A.length : Int), ((A.length + 1 + B.length : Nat) : Int))] = some (.dat (.tuple ((A ++ b :: (B ++ a :: C)).map .int))) := by
  have ln := len_x (A := A) (B := B) (C := C) (a := a) (b := b)
  have d0 : (A ++ a :: (B ++ b :: C)).take A.length = A := by simp
  have d1 : ((A ++ a :: (B ++ b :: C)).drop (A.length + 1)).take (A.length + 1 + B.length - (A.length + 1)) = B := by
    have e : A ++ a :: (B ++ b :: C) = (A ++ [a]) ++ (B ++ b :: C) := by simp
    rw [e, List.drop_append_of_le_length (by simp), List.drop_eq_nil_of_le (by simp), List.nil_append, show A.length + 1 + B.length - (A.length + 1) = B.length by omega]
    simp
  have d2 : (A ++ a :: (B ++ b :: C)).drop (A.length + 1 + B.length + 1) = C := by
    have e : A ++ a :: (B ++ b :: C) = (A ++ a :: (B ++ [b])) ++ C := by simp
    rw [e, List.drop_append_of_le_length (by simp; omega), List.drop_eq_nil_of_le (by simp; omega)]
    rfl
  have t0 := cutT_to (z := PyData.int) (l := A ++ a :: (B ++ b :: C)) (k := A.length)
  have t1 := cutT_mid (z := PyData.int) (l := A ++ a :: (B ++ b :: C)) (a := A.length + 1) (b := A.length + 1 + B.length) (by omega) (by omega)
  have t2 := cutT_from (z := PyData.int) (l := A ++ a :: (B ++ b :: C)) (k := A.length + 1 + B.length + 1)
  rw [d0] at t0
  rw [d1] at t1
  rw [d2] at t2
  have la : A.length ≤ 1000 ∧ B.length ≤ 1000 ∧ C.length ≤ 1000 := ⟨by omega, by omega, by omega⟩
  refine (turned_go (ms := A ++ a :: (B ++ b :: C)) (i := (A.length : Int)) (j := ((A.length + 1 + B.length : Nat) : Int)) (i1 := ((A.length + 1 : Nat) : Int)) (j1 := ((A.length + 1 + B.length + 1 : Nat) : Int)) t0 (ixT_map (z := PyData.int) at_r) ?_ (by omega) t1 ?_ (ixT_map (z := PyData.int) at_l) ?_ (by omega) t2 ?_).trans ?_
  · rw [List.length_map]; show A.length + 1 ≤ _; omega
  · rw [List.length_append, List.length_map, List.length_map]; show A.length + 1 + _ ≤ _; omega
  · rw [List.length_append, List.length_append, List.length_map, List.length_map]; show A.length + 1 + B.length + 1 ≤ _; omega
  · rw [List.length_append, List.length_append, List.length_append, List.length_map, List.length_map, List.length_map]; show A.length + 1 + B.length + 1 + _ ≤ _; omega
  · congr 3
    simp
end
/-! walks -/
def Wk : List Int → List Iv → List Int → Prop
  | ms, [], ns => ns = ms
  | ms, t :: ts, ns => ∃ A a B b C, ms = A ++ a :: (B ++ b :: C) ∧ B ≠ [] ∧ (∀ y ∈ B, y < a ∧ y < b) ∧ t = ((A.length : Int), ((A.length + 1 + B.length : Nat) : Int)) ∧ Wk (A ++ b :: (B ++ a :: C)) ts ns
theorem swap_perm {A B C : List Int} {a b : Int} : (A ++ b :: (B ++ a :: C)).Perm (A ++ a :: (B ++ b :: C)) := by
  refine List.Perm.append_left A ?_
  refine (List.Perm.cons b List.perm_middle).trans ?_
  refine (List.Perm.swap a b (B ++ C)).trans ?_
  exact List.Perm.cons a List.perm_middle.symm
theorem Wk.perm : ∀ {ts : List Iv} {ms ns : List Int}, Wk ms ts ns → ns.Perm ms
  | [], ms, ns, h => by rw [show ns = ms from h]
  | t :: ts, ms, ns, ⟨A, a, B, b, C, h1, h2, h3, h4, h5⟩ => by rw [h1]; exact (Wk.perm h5).trans swap_perm
end Ov
set_option Elab.async false
set_option linter.all false
set_option maxRecDepth 100000
set_option maxHeartbeats 4000000
namespace Ov
open PySem L2
theorem ord_body {d0 d1 : Option Wv} {l : List Int} {f : List (List Int)} {i j a b : Int} {n1 n2 : Nat}
    (h1 : ixD (.list (l.map PyData.int)) (.int j) = some (.int a))
    (h2 : ixD (.list (l.map PyData.int)) (.int i) = some (.int b))
    (h3 : ixN (l.map PyData.int).length i = some n1)
    (h4 : ixN ((l.map PyData.int).set n1 (.int a)).length j = some n2)
    (h5 : (f.map tnD).length + 1 ≤ 1000000) :
    b_orders_2 [d0, d1, some (.own (dats (l.map PyData.int))), some (.own (dats (f.map tnD))), some (.dat (.int i)), some (.dat (.int j))] = some (.ok .nx [d0, d1, some (.own (dats (((l.map PyData.int).set n1 (.int a)).set n2 (.int b)))), some (.own (dats ((f.map tnD) ++ [.tuple (((l.map PyData.int).set n1 (.int a)).set n2 (.int b))]))), some (.dat (.int i)), some (.dat (.int j))]) := by
  unfold b_orders_2
  exact (then_x (sw_y (tup_x (acons_x (op2_x (getO_x rfl) (get_x rfl) (vws_x rfl) vwd_x h1) (acons_x (op2_x (getO_x rfl) (get_x rfl) (vws_x rfl) vwd_x h2) anil_x)) rfl (Nat.le_of_ble_eq_true rfl)) (get_x rfl) rfl h3 (get_x rfl) h4) (expr_x (mth_x rfl (acons_x (cb_x (acons_x (getO_x rfl) anil_x) (vwC_x (vws_x rfl) vw0_x) rfl) anil_x) rfl rfl (v_app _ _ h5))))
def b_cmp_in : M Fl :=
    (thenS (exprS (mthE 2 appD (acons (tupD (acons (get 6) (acons (op2 ixD (get 3) (get 4)) anil))) anil)))
    (exprS (mthE 2 appD (acons (tupD (acons (get 6) (acons (op2 ixD (get 3) (get 5)) anil))) anil))))
theorem cmp_in {d0 d1 : Option Wv} {f : List (Int × Int)} {l : List Int} {i j m a b : Int}
    (h1 : ixD (.tuple (l.map PyData.int)) (.int i) = some (.int a))
    (h2 : (f.map prD).length + 1 ≤ 1000000)
    (h3 : ixD (.tuple (l.map PyData.int)) (.int j) = some (.int b))
    (h4 : (((f.map prD) ++ [.tuple [.int m, .int a]]) : List PyData).length + 1 ≤ 1000000) :
    b_cmp_in [d0, d1, some (.own (dats (f.map prD))), some (.dat (.tuple (l.map PyData.int))), some (.dat (.int i)), some (.dat (.int j)), some (.dat (.int m))] = some (.ok .nx [d0, d1, some (.own (dats (((f.map prD) ++ [.tuple [.int m, .int a]]) ++ [.tuple [.int m, .int b]]))), some (.dat (.tuple (l.map PyData.int))), some (.dat (.int i)), some (.dat (.int j)), some (.dat (.int m))]) := by
  unfold b_cmp_in
  exact (then_x (expr_x (mth_x rfl (acons_x (tup_x (acons_x (get_x rfl) (acons_x (op2_x (get_x rfl) (get_x rfl) vwd_x vwd_x h1) anil_x)) rfl (Nat.le_of_ble_eq_true rfl)) anil_x) rfl rfl (v_app _ _ h2))) (expr_x (mth_x rfl (acons_x (tup_x (acons_x (get_x rfl) (acons_x (op2_x (get_x rfl) (get_x rfl) vwd_x vwd_x h3) anil_x)) rfl (Nat.le_of_ble_eq_true rfl)) anil_x) rfl rfl (v_app _ _ h4))))
theorem cmp_body {d0 d1 w6 u1 : Option Wv} {f f2 : List (Int × Int)} {l mid : List Int} {i j : Int}
    (h1 : cutD (.tuple (l.map PyData.int)) (some (i + 1)) (some j) = some (.tuple (mid.map PyData.int)))
    (h2 : forM (gN 6) (thenS (exprS (mthE 2 appD (acons (tupD (acons (get 6) (acons (op2 ixD (get 3) (get 4)) anil))) anil))) (exprS (mthE 2 appD (acons (tupD (acons (get 6) (acons (op2 ixD (get 3) (get 5)) anil))) anil)))) (mid.map PyData.int) [d0, d1, some (.own (dats (f.map prD))), some (.dat (.tuple (l.map PyData.int))), some (.dat (.int i)), some (.dat (.int j)), w6] = some (.ok .nx [d0, d1, some (.own (dats (f2.map prD))), some (.dat (.tuple (l.map PyData.int))), some (.dat (.int i)), some (.dat (.int j)), u1])) :
    b_comparisons_1 [d0, d1, some (.own (dats (f.map prD))), some (.dat (.tuple (l.map PyData.int))), some (.dat (.int i)), some (.dat (.int j)), w6] = some (.ok .nx [d0, d1, some (.own (dats (f2.map prD))), some (.dat (.tuple (l.map PyData.int))), some (.dat (.int i)), some (.dat (.int j)), u1]) := by
  unfold b_comparisons_1
  exact (for_x (seq_x (sl_x (get_x rfl) (poS_x (op2_x (get_x rfl) con_x vwd_x vwd_x (addI_x _ _))) (poS_x (get_x rfl)) vwd_x h1) rfl) h2)
end Ov
set_option Elab.async false
set_option linter.all false
set_option maxRecDepth 100000
set_option maxHeartbeats 4000000
namespace Ov
open PySem L2
theorem set_mid' {α : Type} (y : α) : ∀ (d : List α) (a : α) (r : List α), (d ++ a :: r).set d.length y = d ++ y :: r
  | [], _, _ => rfl
  | x :: d, a, r => by show x :: (d ++ a :: r).set d.length y = _; rw [set_mid' y d a r]; rfl
/-! people in their order, reports -/
def sw (l : List Int) (i j : Nat) : List Int := (l.set i (l.getD j 0)).set j (l.getD i 0)
theorem sw_split {A B C : List Int} {a b : Int} : sw (A ++ a :: (B ++ b :: C)) A.length (A.length + 1 + B.length) = A ++ b :: (B ++ a :: C) := by
  have e1 : (A ++ a :: (B ++ b :: C)).getD A.length 0 = a := by rw [List.getD_eq_getElem?_getD, List.getElem?_append_right (Nat.le_refl _), Nat.sub_self]; rfl
  have e2 : (A ++ a :: (B ++ b :: C)).getD (A.length + 1 + B.length) 0 = b := by
    rw [List.getD_eq_getElem?_getD, List.getElem?_append_right (by omega), show A.length + 1 + B.length - A.length = B.length + 1 by omega, List.getElem?_cons_succ, List.getElem?_append_right (Nat.le_refl _), Nat.sub_self]
    rfl
  unfold sw
  rw [e1, e2, set_mid' b A a, show A ++ b :: (B ++ b :: C) = (A ++ b :: B) ++ b :: C by simp, show A.length + 1 + B.length = (A ++ b :: B).length by simp; omega, set_mid' a (A ++ b :: B) b]
  simp
theorem sw_len (l : List Int) (i j : Nat) : (sw l i j).length = l.length := by unfold sw; rw [List.length_set, List.length_set]
/-- reports of places that may see each other -/
def Vt (n : Nat) (t : List (Nat × Nat)) : Prop := ∀ p ∈ t, p.1 + 2 ≤ p.2 ∧ p.2 < n
def rpz (z : Bool) (p : Nat × Nat) : PyData := match z with
  | true => .list [nI p.1, nI p.2]
  | false => .tuple [nI p.1, nI p.2]
def rpD (p : Nat × Nat) : PyData := .tuple [nI p.1, nI p.2]
def ordT : List Int → List (Nat × Nat) → List (List Int)
  | _, [] => []
  | l, p :: t => sw l p.1 p.2 :: ordT (sw l p.1 p.2) t
def midL (l : List Int) (p : Nat × Nat) : List Int := (l.drop (p.1 + 1)).take (p.2 - (p.1 + 1))
def two (a b m : Int) : List (Int × Int) := [(m, a), (m, b)]
def rawC : List Int → List (Nat × Nat) → List (Int × Int)
  | _, [] => []
  | l, p :: t => (midL l p).flatMap (two (l.getD p.1 0) (l.getD p.2 0)) ++ rawC (sw l p.1 p.2) t
theorem at_D {l : List Int} {i : Nat} (h : i < l.length) : l[i]? = some (l.getD i 0) := by rw [List.getD_eq_getElem?_getD, List.getElem?_eq_getElem h]; rfl
theorem ord_loop {d0 d1 : Option Wv} : ∀ (t : List (Nat × Nat)) (l : List Int) (acc : List (List Int)) (w4 w5 : Option Wv), Vt l.length t → acc.length + t.length ≤ 1000 →
    ∃ l2 u4 u5, forM (gTL (gsC (gN 4) (gsC (gN 5) gsN))) b_orders_2 (t.map (rpz z)) [d0, d1, some (.own (dats (l.map .int))), some (.own (dats (acc.map tnD))), w4, w5] = some (.ok .nx [d0, d1, some (.own (dats ((l2 : List Int).map .int))), some (.own (dats ((acc ++ ordT l t).map tnD))), u4, u5])
  | [], l, acc, w4, w5, _, _ => ⟨l, w4, w5, by rw [show acc ++ ordT l [] = acc from List.append_nil _]; exact for_nil⟩
  | p :: t, l, acc, w4, w5, v, h => by
    obtain ⟨v1, v2⟩ := v p (List.mem_cons_self ..)
    rw [List.length_cons] at h
    obtain ⟨l2, u4, u5, e⟩ := ord_loop (z := z) (d0 := d0) (d1 := d1) t (sw l p.1 p.2) (acc ++ [sw l p.1 p.2]) (some (.dat (nI p.1))) (some (.dat (nI p.2))) (by rw [sw_len]; exact fun q hq => v q (List.mem_cons_of_mem _ hq)) (by rw [List.length_append, List.length_singleton]; omega)
    refine ⟨l2, u4, u5, (for_go (e := [d0, d1, some (.own (dats (l.map .int))), some (.own (dats (acc.map tnD))), some (.dat (nI p.1)), some (.dat (nI p.2))]) (by cases z <;> rfl) ?_).trans (by rw [show acc ++ ordT l (p :: t) = (acc ++ [sw l p.1 p.2]) ++ ordT (sw l p.1 p.2) t by rw [ordT]; simp]; exact e)⟩
    have b := ord_body (d0 := d0) (d1 := d1) (l := l) (f := acc) (i := (p.1 : Int)) (j := (p.2 : Int)) (a := l.getD p.2 0) (b := l.getD p.1 0) (n1 := p.1) (n2 := p.2) (ixL_map (at_D v2)) (ixL_map (at_D (by omega))) (ixN_nat (by rw [List.length_map]; omega)) (ixN_nat (by rw [List.length_set, List.length_map]; omega)) (by rw [List.length_map]; omega)
    refine b.trans ?_
    have e1 : ((l.map PyData.int).set p.1 (.int (l.getD p.2 0))).set p.2 (.int (l.getD p.1 0)) = (sw l p.1 p.2).map .int := by
      unfold sw
      rw [List.map_set, List.map_set]
    rw [e1, List.map_append]
    rfl
def l0 (n : Nat) : List Int := rngL 0 (n : Int)
theorem l0_len (n : Nat) : (l0 n).length = n := by unfold l0; simp [rngL]
theorem l0_get {n k : Nat} (h : k < n) : (l0 n)[k]? = some (k : Int) := by
  unfold l0 rngL
  rw [List.getElem?_map, List.getElem?_range (by omega)]
  show some ((0 : Int) + k) = _
  rw [Int.zero_add]
theorem lrW_x {env e : En} {f : M R} {n : Nat} (h : f env = some (.ok (.dat (.int (n : Int))) e)) (hn : n ≤ 1000) : lrW f env = some (.ok (.own (dats ((l0 n).map .int))) e) := by
  unfold lrW
  rw [v_bind, h, v_ok, v_bind]
  show cont (lift (some (n : Int)) e) _ = _
  rw [v_lift, v_ok, v_bind]
  show cont (lift (chk (decide (-(2 ^ 62) ≤ (n : Int) ∧ (n : Int) < 2 ^ 62 ∧ ((n : Int) - 0).toNat ≤ 1000000))) e) _ = _
  rw [decide_eq_true (by omega)]
  rfl
theorem orders_ok {n : Nat} {t : List (Nat × Nat)} {d : PyData} (hd : seqD d = some (t.map (rpz z))) (hn : n ≤ 500) (v : Vt n t) (ht : t.length ≤ 500) : F_orders [.int (n : Int), d] = some (.own (dats ((l0 n :: ordT (l0 n) t).map tnD))) := by
  obtain ⟨l2, u4, u5, e⟩ := ord_loop (z := z) (d0 := some (.dat (.int (n : Int)))) (d1 := some (.dat d)) t (l0 n) [l0 n] none none (by rw [l0_len]; exact v) (by show 1 + _ ≤ _; omega)
  refine runA_eq rfl ⟨[some (.dat (.int (n : Int))), some (.dat d), some (.own (dats (l2.map .int))), none, u4, u5], ?_⟩
  show f_orders [some (.dat (.int (n : Int))), some (.dat d), none, none, none, none] = _
  have s0 : s_orders_0 [some (.dat (.int (n : Int))), some (.dat d), none, none, none, none] = some (.ok .nx [some (.dat (.int (n : Int))), some (.dat d), some (.own (dats ((l0 n).map .int))), none, none, none]) := by
    unfold s_orders_0
    exact set_x (lrW_x (get_x rfl) (by omega)) (Nat.le_of_ble_eq_true rfl)
  have s1 : s_orders_1 [some (.dat (.int (n : Int))), some (.dat d), some (.own (dats ((l0 n).map .int))), none, none, none] = some (.ok .nx [some (.dat (.int (n : Int))), some (.dat d), some (.own (dats ((l0 n).map .int))), some (.own (dats ([l0 n].map tnD))), none, none]) := by
    unfold s_orders_1
    exact set_x (lstW_x (acons_x (cb_x (acons_x (getO_x rfl) anil_x) (vwC_x (vws_x rfl) vw0_x) rfl) anil_x) rfl (Nat.le_of_ble_eq_true rfl)) (Nat.le_of_ble_eq_true rfl)
  have s2 : s_orders_2 [some (.dat (.int (n : Int))), some (.dat d), some (.own (dats ((l0 n).map .int))), some (.own (dats ([l0 n].map tnD))), none, none] = some (.ok .nx [some (.dat (.int (n : Int))), some (.dat d), some (.own (dats (l2.map .int))), some (.own (dats ((l0 n :: ordT (l0 n) t).map tnD))), u4, u5]) := by
    unfold s_orders_2
    exact for_x (seq_x (get_x rfl) hd) e
  unfold f_orders
  rw [then_nx s0, then_nx s1, then_nx s2]
  rfl
/-! comparisons -/
theorem cmp_in_loop {d0 d1 : Option Wv} {l : List Int} {i j : Nat} (hi : i < l.length) (hj : j < l.length) : ∀ (ms : List Int) (acc : List (Int × Int)) (w6 : Option Wv), acc.length + 2 * ms.length ≤ 9000 →
    ∃ u6, forM (gN 6) b_cmp_in (ms.map .int) [d0, d1, some (.own (dats (acc.map prD))), some (.dat (.tuple (l.map .int))), some (.dat (.int (i : Int))), some (.dat (.int (j : Int))), w6] = some (.ok .nx [d0, d1, some (.own (dats ((acc ++ ms.flatMap (two (l.getD i 0) (l.getD j 0))).map prD))), some (.dat (.tuple (l.map .int))), some (.dat (.int (i : Int))), some (.dat (.int (j : Int))), u6])
  | [], acc, w6, _ => ⟨w6, by rw [List.flatMap_nil, List.append_nil]; exact for_nil⟩
  | m :: ms, acc, w6, h => by
    rw [List.length_cons] at h
    obtain ⟨u6, e⟩ := cmp_in_loop (d0 := d0) (d1 := d1) hi hj ms (acc ++ two (l.getD i 0) (l.getD j 0) m) (some (.dat (.int m))) (by rw [List.length_append]; show acc.length + 2 + _ ≤ _; omega)
    refine ⟨u6, (for_go (e := [d0, d1, some (.own (dats (acc.map prD))), some (.dat (.tuple (l.map .int))), some (.dat (.int (i : Int))), some (.dat (.int (j : Int))), some (.dat (.int m))]) rfl ?_).trans (by rw [List.flatMap_cons, ← List.append_assoc]; exact e)⟩
    have b := cmp_in (d0 := d0) (d1 := d1) (f := acc) (l := l) (i := (i : Int)) (j := (j : Int)) (m := m) (a := l.getD i 0) (b := l.getD j 0) (ixT_map (at_D hi)) (by rw [List.length_map]; omega) (ixT_map (at_D hj)) (by rw [List.length_append, List.length_map]; show _ + 1 + 1 ≤ _; omega)
    refine b.trans ?_
    rw [List.map_append]
    simp [two, prD]
theorem cmp_loop {d0 d1 : Option Wv} : ∀ (t : List (Nat × Nat)) (l : List Int) (acc : List (Int × Int)) (w3 w4 w5 w6 : Option Wv), Vt l.length t → l.length ≤ 12 → acc.length + 20 * t.length ≤ 9000 →
    ∃ u3 u4 u5 u6, forM (gTL (gsC (gN 3) (gsC (gTL (gsC (gN 4) (gsC (gN 5) gsN))) gsN))) b_comparisons_1 (((l :: ordT l t).zip t).map fun p => .tuple [tnD p.1, (rpz z) p.2]) [d0, d1, some (.own (dats (acc.map prD))), w3, w4, w5, w6] = some (.ok .nx [d0, d1, some (.own (dats ((acc ++ rawC l t).map prD))), u3, u4, u5, u6])
  | [], l, acc, w3, w4, w5, w6, _, _, _ => ⟨w3, w4, w5, w6, by rw [List.zip_nil_right, show acc ++ rawC l [] = acc from List.append_nil _]; exact for_nil⟩
  | p :: t, l, acc, w3, w4, w5, w6, v, hl, h => by
    obtain ⟨v1, v2⟩ := v p (List.mem_cons_self ..)
    rw [List.length_cons] at h
    have ml : (midL l p).length ≤ 10 := by
      unfold midL
      rw [List.length_take]
      omega
    have fm : ∀ (ms : List Int) (a b : Int), (ms.flatMap (two a b)).length = 2 * ms.length := by
      intro ms a b
      induction ms with
      | nil => rfl
      | cons m ms ih => rw [List.flatMap_cons, List.length_append, ih, List.length_cons]; show 2 + _ = _; omega
    obtain ⟨x6, e1⟩ := cmp_in_loop (d0 := d0) (d1 := d1) (l := l) (i := p.1) (j := p.2) (by omega) v2 (midL l p) acc w6 (by omega)
    obtain ⟨u3, u4, u5, u6, e2⟩ := cmp_loop (z := z) (d0 := d0) (d1 := d1) t (sw l p.1 p.2) (acc ++ (midL l p).flatMap (two (l.getD p.1 0) (l.getD p.2 0))) (some (.dat (.tuple (l.map .int)))) (some (.dat (nI p.1))) (some (.dat (nI p.2))) x6 (by rw [sw_len]; exact fun q hq => v q (List.mem_cons_of_mem _ hq)) (by rw [sw_len]; exact hl) (by rw [List.length_append, fm]; omega)
    refine ⟨u3, u4, u5, u6, ?_⟩
    rw [List.zip_cons_cons, List.map_cons]
    have ct : cutD (.tuple (l.map PyData.int)) (some ((p.1 : Int) + 1)) (some (p.2 : Int)) = some (.tuple ((midL l p).map .int)) := by
      rw [show (p.1 : Int) + 1 = ((p.1 + 1 : Nat) : Int) by omega]
      exact cutT_mid (z := PyData.int) (l := l) (a := p.1 + 1) (b := p.2) (by omega) (by omega)
    refine (for_go (e := [d0, d1, some (.own (dats (acc.map prD))), some (.dat (.tuple (l.map .int))), some (.dat (nI p.1)), some (.dat (nI p.2)), w6]) (by cases z <;> rfl) (cmp_body ct e1)).trans ?_
    rw [rawC, ← List.append_assoc]
    exact e2
theorem sm_raw {n : Nat} : ∀ (t : List (Nat × Nat)) (l : List Int), Vt l.length t → (∀ x ∈ l, 0 ≤ x ∧ x < (n : Int)) → ∀ p ∈ rawC l t, (0 ≤ p.1 ∧ p.1 < n) ∧ 0 ≤ p.2 ∧ p.2 < n
  | [], _, _, _, p, h => by cases h
  | q :: t, l, v, hl, p, h => by
    obtain ⟨v1, v2⟩ := v q (List.mem_cons_self ..)
    have gm : ∀ k, k < l.length → l.getD k 0 ∈ l := fun k hk => List.mem_of_getElem? (at_D hk)
    rw [rawC] at h
    rcases List.mem_append.mp h with h | h
    · obtain ⟨m, hm, hp⟩ := List.mem_flatMap.mp h
      have hm' : m ∈ l := List.mem_of_mem_drop (List.mem_of_mem_take hm)
      have hp' : p = (m, l.getD q.1 0) ∨ p = (m, l.getD q.2 0) := by simpa [two] using hp
      rcases hp' with rfl | rfl
      · exact ⟨hl m hm', hl _ (gm _ (by omega))⟩
      · exact ⟨hl m hm', hl _ (gm _ v2)⟩
    · refine sm_raw t (sw l q.1 q.2) (by rw [sw_len]; exact fun r hr => v r (List.mem_cons_of_mem _ hr)) (fun x hx => ?_) p h
      unfold sw at hx
      rcases List.mem_or_eq_of_mem_set hx with hx | rfl
      · rcases List.mem_or_eq_of_mem_set hx with hx | rfl
        · exact hl x hx
        · exact hl _ (gm _ v2)
      · exact hl _ (gm _ (by omega))
theorem l0_bd {n : Nat} : ∀ x ∈ l0 n, 0 ≤ x ∧ x < (n : Int) := fun x hx => by
  unfold l0 rngL at hx
  obtain ⟨k, hk, rfl⟩ := List.mem_map.mp hx
  have := List.mem_range.mp hk
  omega
def CP (n : Nat) (t : List (Nat × Nat)) : List (Int × Int) := ssP (rawC (l0 n) t)
/-! fits -/
end Ov
set_option Elab.async false
set_option linter.all false
set_option maxRecDepth 100000
set_option maxHeartbeats 4000000
namespace Ov
open PySem L2
/-! the order in the end; parts of reports; a report again; the mirror -/
def endL : List Int → List (Nat × Nat) → List Int
  | l, [] => l
  | l, p :: t => endL (sw l p.1 p.2) t
theorem ord_last : ∀ (t : List (Nat × Nat)) (l : List Int), (l :: ordT l t)[t.length]? = some (endL l t) ∧ (ordT l t).length = t.length
  | [], l => ⟨rfl, rfl⟩
  | p :: t, l => by
    obtain ⟨a, b⟩ := ord_last t (sw l p.1 p.2)
    exact ⟨a, by rw [ordT, List.length_cons, b, List.length_cons]⟩
theorem endL_len : ∀ (t : List (Nat × Nat)) (l : List Int), (endL l t).length = l.length
  | [], l => rfl
  | p :: t, l => (endL_len t _).trans (sw_len _ _ _)
/-- the pairs of one report -/
def segC (l : List Int) (p : Nat × Nat) : List (Int × Int) := (midL l p).flatMap (two (l.getD p.1 0) (l.getD p.2 0))
theorem seg_mem {A B C : List Int} {a b : Int} {q : Int × Int} : q ∈ segC (A ++ a :: (B ++ b :: C)) (A.length, A.length + 1 + B.length) ↔ ∃ m ∈ B, q = (m, a) ∨ q = (m, b) := by
  have e1 : (A ++ a :: (B ++ b :: C)).getD A.length 0 = a := by rw [List.getD_eq_getElem?_getD, List.getElem?_append_right (Nat.le_refl _), Nat.sub_self]; rfl
  have e2 : (A ++ a :: (B ++ b :: C)).getD (A.length + 1 + B.length) 0 = b := by
    rw [List.getD_eq_getElem?_getD, List.getElem?_append_right (by omega), show A.length + 1 + B.length - A.length = B.length + 1 by omega, List.getElem?_cons_succ, List.getElem?_append_right (Nat.le_refl _), Nat.sub_self]
    rfl
  have e3 : midL (A ++ a :: (B ++ b :: C)) (A.length, A.length + 1 + B.length) = B := by
    unfold midL
    show ((A ++ a :: (B ++ b :: C)).drop (A.length + 1)).take (A.length + 1 + B.length - (A.length + 1)) = B
    rw [show A ++ a :: (B ++ b :: C) = (A ++ [a]) ++ (B ++ b :: C) by simp, show A.length + 1 = (A ++ [a]).length by simp, List.drop_left, show (A ++ [a]).length + B.length - (A ++ [a]).length = B.length by omega, List.take_left]
  unfold segC
  rw [e3]
  show q ∈ B.flatMap (two ((A ++ a :: (B ++ b :: C)).getD A.length 0) ((A ++ a :: (B ++ b :: C)).getD (A.length + 1 + B.length) 0)) ↔ _
  rw [e1, e2, List.mem_flatMap]
  exact ⟨fun ⟨m, hm, h⟩ => ⟨m, hm, by simpa [two] using h⟩, fun ⟨m, hm, h⟩ => ⟨m, hm, by simpa [two] using h⟩⟩
theorem spl {l : List Int} {p : Nat × Nat} (h1 : p.1 < p.2) (h2 : p.2 < l.length) : ∃ A a B b C, l = A ++ a :: (B ++ b :: C) ∧ p = (A.length, A.length + 1 + B.length) := by
  obtain ⟨i, j⟩ := p
  obtain ⟨A, a, B, b, C, e, h, h'⟩ := split_at h1 h2
  refine ⟨A, a, B, b, C, e, ?_⟩
  simp only at h h'
  rw [h, h']
/-- nobody is shorter than itself -/
theorem raw_ne : ∀ (t : List (Nat × Nat)) (l : List Int), Vt l.length t → l.Nodup → ∀ q ∈ rawC l t, q.1 ≠ q.2
  | [], l, _, _, q, h => by cases h
  | p :: t, l, v, nd, q, h => by
    obtain ⟨v1, v2⟩ := v p (List.mem_cons_self ..)
    obtain ⟨A, a, B, b, C, rfl, rfl⟩ := spl (p := p) (by omega) v2
    rcases List.mem_append.mp h with h | h
    · obtain ⟨m, hm, h⟩ := seg_mem.mp h
      have na : m ≠ a := fun e => by
        subst e
        have := (List.nodup_cons.mp (List.nodup_append.mp nd).2.1).1
        exact this (List.mem_append_left _ hm)
      have nb : m ≠ b := fun e => by
        subst e
        have := (List.nodup_append.mp (List.nodup_cons.mp (List.nodup_append.mp nd).2.1).2).2.2 m hm m (List.mem_cons_self ..)
        exact this rfl
      rcases h with rfl | rfl
      · exact na
      · exact nb
    · have pm : (A ++ b :: (B ++ a :: C)).Perm (A ++ a :: (B ++ b :: C)) := by
        refine List.Perm.append_left A ?_
        have h1 : (b :: (B ++ a :: C)).Perm (b :: (a :: (B ++ C))) := List.Perm.cons b List.perm_middle
        have h2 : (a :: (B ++ b :: C)).Perm (a :: (b :: (B ++ C))) := List.Perm.cons a List.perm_middle
        exact h1.trans ((List.Perm.swap a b _).trans h2.symm)
      rw [sw_split] at h
      exact raw_ne t _ (by rw [pm.length_eq]; exact fun q hq => v q (List.mem_cons_of_mem _ hq)) (pm.nodup_iff.mpr nd) q h
theorem l0_nd (n : Nat) : (l0 n).Nodup := by
  rw [List.Nodup, List.pairwise_iff_getElem]
  intro i j hi hj h e
  rw [l0_len] at hi hj
  have h1 := l0_get hi
  have h2 := l0_get hj
  rw [List.getElem?_eq_getElem (by rw [l0_len]; exact hi)] at h1
  rw [List.getElem?_eq_getElem (by rw [l0_len]; exact hj)] at h2
  have e1 := Option.some.inj h1
  have e2 := Option.some.inj h2
  omega
theorem CP_ne {n : Nat} {t : List (Nat × Nat)} (v : Vt n t) {q : Int × Int} (h : q ∈ CP n t) : q.1 ≠ q.2 := raw_ne t (l0 n) (by rw [l0_len]; exact v) (l0_nd n) q (ssP_mem.mp h)
/-! the mirror -/
end Ov
set_option Elab.async false
set_option linter.all false
set_option maxRecDepth 100000
set_option maxHeartbeats 4000000
namespace Ov
open PySem L2
/-! comparisons, end_of, seen_in of up to twelve people and a hundred reports -/
def prs12 : List (Int × Int) := ((l0 12).flatMap fun a => (l0 12).map fun b => (a, b)).filter fun q => q.1 != q.2
theorem prs12_len : prs12.length = 132 := by decide +kernel
theorem l0_in {x : Int} (h0 : 0 ≤ x) (h1 : x < 12) : x ∈ l0 12 := by
  have := l0_get (n := 12) (k := x.toNat) (by omega)
  rw [show ((x.toNat : Nat) : Int) = x by omega] at this
  exact List.mem_of_getElem? this
theorem CP_few {n : Nat} {t : List (Nat × Nat)} (hn : n ≤ 12) (v : Vt n t) : (CP n t).length ≤ 132 := by
  have nd : (CP n t).Nodup := (ssP_pw _).imp fun h => ltQ_irr h
  have := nd.length_le_of_subset (l₂ := prs12) fun q hq => by
    have sm := sm_raw (n := n) t (l0 n) (by rw [l0_len]; exact v) l0_bd q (ssP_mem.mp hq)
    have ne := CP_ne v hq
    refine List.mem_filter.mpr ⟨List.mem_flatMap.mpr ⟨q.1, l0_in sm.1.1 (by omega), List.mem_map.mpr ⟨q.2, l0_in sm.2.1 (by omega), rfl⟩⟩, ?_⟩
    simpa using ne
  rw [prs12_len] at this
  exact this
theorem comparisons_go {n : Nat} {d : PyData} {ys : List PyData} {zs : List PyData} {raw : List (Int × Int)} {u3 u4 u5 u6 : Option Wv} (h1 : F_orders [.int (n : Int), d] = some (.own (dats ys))) (h2 : zipM [.list ys, d] = some zs)
    (h3 : forM (gTL (gsC (gN 3) (gsC (gTL (gsC (gN 4) (gsC (gN 5) gsN))) gsN))) b_comparisons_1 zs [some (.dat (.int (n : Int))), some (.dat d), some (.own (dats (([] : List (Int × Int)).map prD))), none, none, none, none] = some (.ok .nx [some (.dat (.int (n : Int))), some (.dat d), some (.own (dats (raw.map prD))), u3, u4, u5, u6]))
    (few : (ssP raw).length + 1 ≤ 300) : F_comparisons [.int (n : Int), d] = some (.own (dats ((ssP raw).map prD))) := by
  refine runA_eq rfl ⟨[some (.dat (.int (n : Int))), some (.dat d), some (.own (dats (raw.map prD))), u3, u4, u5, u6], ?_⟩
  show f_comparisons [some (.dat (.int (n : Int))), some (.dat d), none, none, none, none, none] = _
  unfold f_comparisons
  have s0 : s_comparisons_0 [some (.dat (.int (n : Int))), some (.dat d), none, none, none, none, none] = some (.ok .nx [some (.dat (.int (n : Int))), some (.dat d), some (.own (dats (([] : List (Int × Int)).map prD))), none, none, none, none]) := by
    unfold s_comparisons_0
    exact set_x (lstW_x anil_x rfl (by decide)) (Nat.le_of_ble_eq_true rfl)
  rw [then_nx s0]
  have s1 : s_comparisons_1 [some (.dat (.int (n : Int))), some (.dat d), some (.own (dats (([] : List (Int × Int)).map prD))), none, none, none, none] = some (.ok .nx [some (.dat (.int (n : Int))), some (.dat d), some (.own (dats (raw.map prD))), u3, u4, u5, u6]) := by
    unfold s_comparisons_1
    exact for_x (argI_x (acons_x (fz_x (callA_x (acons_x (get_x rfl) (acons_x (get_x rfl) anil_x)) rfl h1) (v_ofWo _)) (acons_x (get_x rfl) anil_x)) rfl h2) h3
  rw [then_nx s1]
  unfold s_comparisons_2
  exact ret_x (sortSetZO_x (acons_x (getO_x rfl) anil_x) (vwC_x (vws_x rfl) vw0_x) few)
theorem comparisons_ok {n : Nat} {t : List (Nat × Nat)} {d : PyData} (hd : seqD d = some (t.map (rpz z))) (hn : n ≤ 12) (v : Vt n t) (ht : t.length ≤ 100) : F_comparisons [.int (n : Int), d] = some (.own (dats ((CP n t).map prD))) := by
  have v' : Vt (l0 n).length t := by rw [l0_len]; exact v
  obtain ⟨u3, u4, u5, u6, e⟩ := cmp_loop (z := z) (d0 := some (.dat (.int (n : Int)))) (d1 := some (.dat d)) t (l0 n) [] none none none none v' (by rw [l0_len]; omega) (by show 0 + _ ≤ _; omega)
  rw [List.nil_append] at e
  have few := CP_few hn v
  exact comparisons_go (orders_ok hd (by omega) v (by omega)) (by unfold zipM; simp only; rw [hd]; exact congrArg some (zip_map (z := tnD) (y := (rpz z)) (l0 n :: ordT (l0 n) t) t)) e (by have : (ssP (rawC (l0 n) t)).length ≤ 132 := few; omega)
theorem ints_id (l : List Int) : intsD (l.map .int) = some l := by
  induction l with
  | nil => rfl
  | cons a r ih => show (intsD (r.map .int)).map (a :: ·) = _; rw [ih]; rfl
theorem turned_sw {l : List Int} {p : Nat × Nat} (h1 : p.1 < p.2) (h2 : p.2 < l.length) (hl : l.length ≤ 1000) : F_turned [.tuple (l.map .int), rpD p] = some (.dat (.tuple ((sw l p.1 p.2).map .int))) := by
  obtain ⟨i, j⟩ := p
  obtain ⟨A, a, B, b, C, rfl, rfl, rfl⟩ := split_at (show i < j from h1) h2
  rw [sw_split]
  exact turned_ok hl
end Ov
set_option Elab.async false
set_option linter.all false
set_option maxRecDepth 100000
set_option maxHeartbeats 4000000
namespace Ov
open PySem L2
def b_te_2 : M Fl :=
    (ifS (orT (tb1 (op2 ltD (fz (callB 0 (F_take 2) (acons (con (.int 24)) anil))) (get 3))) (tb1 (op2 (eqvD false) (get 7) (lstD anil)))) (thenS (setS 7 (pl (lstD anil)))
    (forS (argI rngD (acons (get 1) anil)) (gN 8) (setS 7 (pl (op2 catD (get 7) (fz (lcW (argI rngD2 (acons (op2 addD (get 8) (con (.int 2))) (acons (get 1) anil))) (gN 9) yesT (tupD (acons (get 8) (acons (get 9) anil))) [9]))))))) nxt)
def b_te_3 : M Fl :=
    (ifS (tb1 (op2 (eqvD true) (get 7) (lstD anil))) (thenS (exprS (mthE 5 appD (acons (fz (callB 0 F_of (acons (get 7) anil))) anil)))
    (setS 4 (pl (fz (callA F_turned (acons (get 4) (acons (op2 ixD (get 5) (op1 negD (con (.int 1)))) anil))))))) nxt)
theorem te_keep {bs bs1 : List PyData} {n od z2 : Int} {w2 w6 w8 w9 : Option Wv} {l : List Int} {f sm : List Iv}
    (h1 : (F_take 2) bs [.int 24] = some (.dat (.int z2), bs1))
    (c2 : ¬ (z2 < od))
    (h3 : eqvD false (.list (ivD sm)) (.list []) = some (.bool false)) :
    b_te_2 [some (.own (dats bs)), some (.dat (.int n)), w2, some (.dat (.int od)), some (.dat (.tuple (l.map PyData.int))), some (.own (dats (ivD f))), w6, some (.dat (.list (ivD sm))), w8, w9] = some (.ok .nx [some (.own (dats bs1)), some (.dat (.int n)), w2, some (.dat (.int od)), some (.dat (.tuple (l.map PyData.int))), some (.own (dats (ivD f))), w6, some (.dat (.list (ivD sm))), w8, w9]) := by
  unfold b_te_2
  exact (ifS_f (orT_f (tb_x (op2_x (fz_x (callB_x rfl (acons_x con_x anil_x) rfl rfl h1) rfl) (get_x rfl) vwd_x vwd_x ((ltI_x _ _).trans (congrArg (fun z => some (PyData.bool z)) (decide_eq_false c2)))) vwd_x) (tb_x (op2_x (get_x rfl) (lst_x anil_x rfl (Nat.le_of_ble_eq_true rfl)) vwd_x vwd_x h3) vwd_x)) nxt_x)
theorem te_all1 {bs bs1 : List PyData} {n od z2 : Int} {w2 w6 w8 w9 u4 u5 : Option Wv} {l z3 : List Int} {f sm sm2 : List Iv}
    (h1 : (F_take 2) bs [.int 24] = some (.dat (.int z2), bs1))
    (c2 : z2 < od)
    (h3 : rngD [.int n] = some (z3.map PyData.int))
    (h4 : forM (gN 8) (setS 7 (pl (op2 catD (get 7) (fz (lcW (argI rngD2 (acons (op2 addD (get 8) (con (.int 2))) (acons (get 1) anil))) (gN 9) yesT (tupD (acons (get 8) (acons (get 9) anil))) [9]))))) (z3.map PyData.int) [some (.own (dats bs1)), some (.dat (.int n)), w2, some (.dat (.int od)), some (.dat (.tuple (l.map PyData.int))), some (.own (dats (ivD f))), w6, some (.dat (.list [])), w8, w9] = some (.ok .nx [some (.own (dats bs1)), some (.dat (.int n)), w2, some (.dat (.int od)), some (.dat (.tuple (l.map PyData.int))), some (.own (dats (ivD f))), w6, some (.dat (.list (ivD sm2))), u4, u5])) :
    b_te_2 [some (.own (dats bs)), some (.dat (.int n)), w2, some (.dat (.int od)), some (.dat (.tuple (l.map PyData.int))), some (.own (dats (ivD f))), w6, some (.dat (.list (ivD sm))), w8, w9] = some (.ok .nx [some (.own (dats bs1)), some (.dat (.int n)), w2, some (.dat (.int od)), some (.dat (.tuple (l.map PyData.int))), some (.own (dats (ivD f))), w6, some (.dat (.list (ivD sm2))), u4, u5]) := by
  unfold b_te_2
  exact (ifS_t (orT_t (tb_x (op2_x (fz_x (callB_x rfl (acons_x con_x anil_x) rfl rfl h1) rfl) (get_x rfl) vwd_x vwd_x ((ltI_x _ _).trans (congrArg (fun z => some (PyData.bool z)) (decide_eq_true c2)))) vwd_x)) (then_x (set_x (pl_x (lst_x anil_x rfl (Nat.le_of_ble_eq_true rfl)) rfl) (Nat.le_of_ble_eq_true rfl)) (for_x (argI_x (acons_x (get_x rfl) anil_x) rfl h3) h4)))
theorem te_all2 {bs bs1 : List PyData} {n od z2 : Int} {w2 w6 w8 w9 u4 u5 : Option Wv} {l z3 : List Int} {f sm sm2 : List Iv}
    (h1 : (F_take 2) bs [.int 24] = some (.dat (.int z2), bs1))
    (c2 : ¬ (z2 < od))
    (h3 : eqvD false (.list (ivD sm)) (.list []) = some (.bool true))
    (h4 : rngD [.int n] = some (z3.map PyData.int))
    (h5 : forM (gN 8) (setS 7 (pl (op2 catD (get 7) (fz (lcW (argI rngD2 (acons (op2 addD (get 8) (con (.int 2))) (acons (get 1) anil))) (gN 9) yesT (tupD (acons (get 8) (acons (get 9) anil))) [9]))))) (z3.map PyData.int) [some (.own (dats bs1)), some (.dat (.int n)), w2, some (.dat (.int od)), some (.dat (.tuple (l.map PyData.int))), some (.own (dats (ivD f))), w6, some (.dat (.list [])), w8, w9] = some (.ok .nx [some (.own (dats bs1)), some (.dat (.int n)), w2, some (.dat (.int od)), some (.dat (.tuple (l.map PyData.int))), some (.own (dats (ivD f))), w6, some (.dat (.list (ivD sm2))), u4, u5])) :
    b_te_2 [some (.own (dats bs)), some (.dat (.int n)), w2, some (.dat (.int od)), some (.dat (.tuple (l.map PyData.int))), some (.own (dats (ivD f))), w6, some (.dat (.list (ivD sm))), w8, w9] = some (.ok .nx [some (.own (dats bs1)), some (.dat (.int n)), w2, some (.dat (.int od)), some (.dat (.tuple (l.map PyData.int))), some (.own (dats (ivD f))), w6, some (.dat (.list (ivD sm2))), u4, u5]) := by
  unfold b_te_2
  exact (ifS_t (orT_f (tb_x (op2_x (fz_x (callB_x rfl (acons_x con_x anil_x) rfl rfl h1) rfl) (get_x rfl) vwd_x vwd_x ((ltI_x _ _).trans (congrArg (fun z => some (PyData.bool z)) (decide_eq_false c2)))) vwd_x) (tb_x (op2_x (get_x rfl) (lst_x anil_x rfl (Nat.le_of_ble_eq_true rfl)) vwd_x vwd_x h3) vwd_x)) (then_x (set_x (pl_x (lst_x anil_x rfl (Nat.le_of_ble_eq_true rfl)) rfl) (Nat.le_of_ble_eq_true rfl)) (for_x (argI_x (acons_x (get_x rfl) anil_x) rfl h4) h5)))
theorem te_none {bs : List PyData} {n od : Int} {w2 w6 w8 w9 : Option Wv} {l : List Int} {f sm : List Iv}
    (h1 : eqvD true (.list (ivD sm)) (.list []) = some (.bool false)) :
    b_te_3 [some (.own (dats bs)), some (.dat (.int n)), w2, some (.dat (.int od)), some (.dat (.tuple (l.map PyData.int))), some (.own (dats (ivD f))), w6, some (.dat (.list (ivD sm))), w8, w9] = some (.ok .nx [some (.own (dats bs)), some (.dat (.int n)), w2, some (.dat (.int od)), some (.dat (.tuple (l.map PyData.int))), some (.own (dats (ivD f))), w6, some (.dat (.list (ivD sm))), w8, w9]) := by
  unfold b_te_3
  exact (ifS_f (tb_x (op2_x (get_x rfl) (lst_x anil_x rfl (Nat.le_of_ble_eq_true rfl)) vwd_x vwd_x h1) vwd_x) nxt_x)
theorem te_add {bs bs1 : List PyData} {n od i j : Int} {w2 w6 w8 w9 : Option Wv} {l l2 : List Int} {f sm : List Iv} {z2 : PyData}
    (h1 : eqvD true (.list (ivD sm)) (.list []) = some (.bool true))
    (h2 : F_of bs [.list (ivD sm)] = some (.dat (.tuple [.int i, .int j]), bs1))
    (h3 : (ivD f).length + 1 ≤ 1000000)
    (h4 : ixD (.list ((ivD f) ++ [.tuple [.int i, .int j]])) (.int (-1)) = some (z2))
    (h5 : F_turned [.tuple (l.map PyData.int), z2] = some (.dat (.tuple (l2.map PyData.int)))) :
    b_te_3 [some (.own (dats bs)), some (.dat (.int n)), w2, some (.dat (.int od)), some (.dat (.tuple (l.map PyData.int))), some (.own (dats (ivD f))), w6, some (.dat (.list (ivD sm))), w8, w9] = some (.ok .nx [some (.own (dats bs1)), some (.dat (.int n)), w2, some (.dat (.int od)), some (.dat (.tuple (l2.map PyData.int))), some (.own (dats ((ivD f) ++ [.tuple [.int i, .int j]]))), w6, some (.dat (.list (ivD sm))), w8, w9]) := by
  unfold b_te_3
  exact (ifS_t (tb_x (op2_x (get_x rfl) (lst_x anil_x rfl (Nat.le_of_ble_eq_true rfl)) vwd_x vwd_x h1) vwd_x) (then_x (expr_x (mth_x rfl (acons_x (fz_x (callB_x rfl (acons_x (get_x rfl) anil_x) rfl rfl h2) rfl) anil_x) rfl rfl (v_app _ _ h3))) (set_x (e := [some (.own (dats bs1)), some (.dat (.int n)), w2, some (.dat (.int od)), some (.dat (.tuple (l.map PyData.int))), some (.own (dats ((ivD f) ++ [.tuple [.int i, .int j]]))), w6, some (.dat (.list (ivD sm))), w8, w9]) (w := (.dat (.tuple (l2.map PyData.int)))) (pl_x (fz_x (callA_x (acons_x (get_x rfl) (acons_x (op2_x (getO_x rfl) (op1_x con_x vwd_x rfl) (vws_x rfl) vwd_x h4) anil_x)) rfl h5) rfl) rfl) (Nat.le_of_ble_eq_true rfl))))
end Ov
set_option Elab.async false
set_option linter.all false
set_option maxRecDepth 100000
set_option maxHeartbeats 4000000
namespace Ov
open PySem L2
/-! random reports: their places are fit to see each other -/
def Vi (n : Nat) (f : List Iv) : Prop := ∀ p ∈ f, 0 ≤ p.1 ∧ p.1 + 2 ≤ p.2 ∧ p.2 < (n : Int)
def natP (p : Iv) : Nat × Nat := (p.1.toNat, p.2.toNat)
theorem Vi.nat {n : Nat} {f : List Iv} (v : Vi n f) : Vt n (f.map natP) ∧ ivD f = (f.map natP).map rpD := by
  refine ⟨fun p hp => ?_, ?_⟩
  · obtain ⟨q, hq, rfl⟩ := List.mem_map.mp hp
    have := v q hq
    exact ⟨by show q.1.toNat + 2 ≤ q.2.toNat; omega, by show q.2.toNat < n; omega⟩
  · unfold ivD
    rw [List.map_map]
    exact List.map_congr_left fun q hq => by
      have := v q hq
      show PyData.tuple [.int q.1, .int q.2] = .tuple [.int (q.1.toNat : Int), .int (q.2.toNat : Int)]
      rw [show ((q.1.toNat : Nat) : Int) = q.1 by omega, show ((q.2.toNat : Nat) : Int) = q.2 by omega]
theorem xcs_vi {ms : List Int} : Vi ms.length (xcs ms) := fun p hp => by
  obtain ⟨A, a, B, b, C, rfl, hB, _, rfl⟩ := xcs_in hp
  have : B.length ≠ 0 := fun z => hB (List.length_eq_zero_iff.mp z)
  rw [len_x]
  exact ⟨by show (0 : Int) ≤ (A.length : Int); omega, by show (A.length : Int) + 2 ≤ ((A.length + 1 + B.length : Nat) : Int); omega, by show ((A.length + 1 + B.length : Nat) : Int) < _; omega⟩
theorem all_loop {n : Nat} {b w2 w3 w4 w5 w6 : Option Wv} (hn : n ≤ 12) : ∀ (ks : List Nat) (acc : List Iv) (w8 : Option Wv), (∀ k ∈ ks, k < n) → Vi n acc → acc.length + 12 * ks.length ≤ 500 →
    ∃ (sm2 : List Iv) (u8 : Option Wv), Vi n sm2 ∧ sm2.length ≤ 500 ∧ forM (gN 8) (setS 7 (pl (op2 catD (get 7) (fz (lcW (argI rngD2 (acons (op2 addD (get 8) (con (.int 2))) (acons (get 1) anil))) (gN 9) yesT (tupD (acons (get 8) (acons (get 9) anil))) [9]))))) (ks.map nI) [b, some (.dat (.int (n : Int))), w2, w3, w4, w5, w6, some (.dat (.list (ivD acc))), w8, none] = some (.ok .nx [b, some (.dat (.int (n : Int))), w2, w3, w4, w5, w6, some (.dat (.list (ivD sm2))), u8, none])
  | [], acc, w8, _, v, h => ⟨acc, w8, v, by simpa using h, for_nil⟩
  | k :: ks, acc, w8, hk, v, h => by
    rw [List.length_cons] at h
    have kn := hk k (List.mem_cons_self ..)
    let new : List Iv := (rngL ((k : Int) + 2) (n : Int)).map fun j => ((k : Int), j)
    have nl : new.length ≤ 12 := by
      show ((rngL ((k : Int) + 2) (n : Int)).map fun j => ((k : Int), j)).length ≤ 12
      rw [List.length_map]
      have := rng_len ((k : Int) + 2) (n : Int)
      rw [List.length_map] at this
      omega
    have nv : Vi n new := fun p hp => by
      obtain ⟨j, hj, rfl⟩ := List.mem_map.mp hp
      unfold rngL at hj
      obtain ⟨i, hi, rfl⟩ := List.mem_map.mp hj
      have := List.mem_range.mp hi
      exact ⟨by show (0 : Int) ≤ (k : Int); omega, by show (k : Int) + 2 ≤ (k : Int) + 2 + (i : Int); omega, by show (k : Int) + 2 + (i : Int) < (n : Int); omega⟩
    obtain ⟨sm2, u8, v2, l2, e⟩ := all_loop (b := b) (w2 := w2) (w3 := w3) (w4 := w4) (w5 := w5) (w6 := w6) hn ks (acc ++ new) (some (.dat (nI k))) (fun q hq => hk q (List.mem_cons_of_mem _ hq)) (fun p hp => (List.mem_append.mp hp).elim (v p) (nv p)) (by rw [List.length_append]; omega)
    have rg : rngD2 [.int ((k : Int) + 2), .int (n : Int)] = some ((rngL ((k : Int) + 2) (n : Int)).map .int) := by
      have g : -(2 ^ 62) ≤ (k : Int) + 2 ∧ (k : Int) + 2 < 2 ^ 62 ∧ -(2 ^ 62) ≤ (n : Int) ∧ (n : Int) < 2 ^ 62 := ⟨by omega, by omega, by omega, by omega⟩
      generalize (n : Int) = N at g ⊢
      generalize (k : Int) + 2 = M at g ⊢
      exact if_pos g
    have lc : (lcW (argI rngD2 (acons (op2 addD (get 8) (con (.int 2))) (acons (get 1) anil))) (gN 9) yesT (tupD (acons (get 8) (acons (get 9) anil))) [9]) [b, some (.dat (.int (n : Int))), w2, w3, w4, w5, w6, some (.dat (.list (ivD acc))), some (.dat (nI k)), none] = some (.ok (.own (dats (ivD new))) [b, some (.dat (.int (n : Int))), w2, w3, w4, w5, w6, some (.dat (.list (ivD acc))), some (.dat (nI k)), none]) := by
      refine lc_eq (argI_x (acons_x (op2_x (get_x rfl) con_x vwd_x vwd_x (addI_x _ _)) (acons_x (get_x rfl) anil_x)) rfl rg) rfl rfl ?_
      have := compM_x (env := [b, some (.dat (.int (n : Int))), w2, w3, w4, w5, w6, some (.dat (.list (ivD acc))), some (.dat (nI k)), none]) (p := gN 9) (ft := yesT) (fe := tupD (acons (get 8) (acons (get 9) anil))) (vs := [9]) (z := PyData.int) (fun j : Int => pD ((k : Int), j)) (rngL ((k : Int) + 2) (n : Int)) (by
        have := rng_len ((k : Int) + 2) (n : Int)
        rw [List.length_map] at this
        omega) fun j _ => ⟨[b, some (.dat (.int (n : Int))), w2, w3, w4, w5, w6, some (.dat (.list (ivD acc))), some (.dat (nI k)), some (.dat (.int j))], rfl, rfl, tup_x (acons_x (get_x rfl) (acons_x (get_x rfl) anil_x)) rfl (Nat.le_of_ble_eq_true rfl), rfl, rfl⟩
      refine this.trans ?_
      show _ = some (Rs.ok (ivD ((rngL ((k : Int) + 2) (n : Int)).map fun j => ((k : Int), j))) _)
      unfold ivD
      rw [List.map_map]
      rfl
    have bd : (setS 7 (pl (op2 catD (get 7) (fz (lcW (argI rngD2 (acons (op2 addD (get 8) (con (.int 2))) (acons (get 1) anil))) (gN 9) yesT (tupD (acons (get 8) (acons (get 9) anil))) [9]))))) [b, some (.dat (.int (n : Int))), w2, w3, w4, w5, w6, some (.dat (.list (ivD acc))), some (.dat (nI k)), none] = some (.ok .nx [b, some (.dat (.int (n : Int))), w2, w3, w4, w5, w6, some (.dat (.list (ivD (acc ++ new)))), some (.dat (nI k)), none]) := by
      have ct := v_cat (ivD acc) (ivD new) (by unfold ivD; rw [List.length_map, List.length_map]; omega)
      rw [show ivD acc ++ ivD new = ivD (acc ++ new) by unfold ivD; rw [List.map_append]] at ct
      exact set_x (pl_x (op2_x (get_x rfl) (fz_x lc (v_ofWo _)) vwd_x vwd_x ct) rfl) (Nat.le_of_ble_eq_true rfl)
    exact ⟨sm2, u8, v2, l2, (for_go (e := [b, some (.dat (.int (n : Int))), w2, w3, w4, w5, w6, some (.dat (.list (ivD acc))), some (.dat (nI k)), none]) rfl bd).trans e⟩
end Ov
set_option Elab.async false
set_option linter.all false
set_option maxRecDepth 100000
set_option maxHeartbeats 4000000
namespace Ov
open PySem L2
theorem l0_nI (n : Nat) : (l0 n).map PyData.int = (List.range' 0 n).map nI := by
  unfold l0 rngL
  rw [List.map_map, show ((n : Int) - 0).toNat = n by omega, ← List.range_eq_range']
  exact List.map_congr_left fun k _ => by
    show PyData.int (0 + (k : Int)) = .int k
    rw [Int.zero_add]
theorem shp_iv5 (l : List Iv) : shp (.list (ivD l)) = true := (Sh.lst (k := 5) fun x hx => by
  obtain ⟨p, _, rfl⟩ := List.mem_map.mp hx
  exact Sh.tup fun y hy => by
    simp only [List.mem_cons, List.not_mem_nil, or_false] at hy
    rcases hy with rfl | rfl <;> exact Sh.int _).shp (by decide)
theorem eqv_nilV (n : Bool) (l : List Iv) : eqvD n (.list (ivD l)) (.list []) = some (.bool (n ^^ l.isEmpty)) := by
  unfold eqvD
  rw [shp_iv5 l, show shp (.list []) = true from shp_iv5 []]
  cases l with
  | nil => simp [ivD, PyData.eqv, PyData.eqvAll]
  | cons p r => simp [ivD, PyData.eqv, PyData.eqvAll]
theorem te_2 {n : Nat} {m : Int} {bs : List PyData} {w2 w6 w8 : Option Wv} {od : Int} {l : List Int} {f sm : List Iv} (hn : n ≤ 12) (hb : Bok m bs) (hm : m ≤ 10 ^ 7) (v : Vi n sm) (ls : sm.length ≤ 500) :
    ∃ (bs1 : List PyData) (sm2 : List Iv) (u8 : Option Wv), Vi n sm2 ∧ sm2.length ≤ 500 ∧ Bok (m + 2) bs1 ∧ b_te_2 [some (.own (dats bs)), some (.dat (.int (n : Int))), w2, some (.dat (.int od)), some (.dat (.tuple (l.map .int))), some (.own (dats (ivD f))), w6, some (.dat (.list (ivD sm))), w8, none] = some (.ok .nx [some (.own (dats bs1)), some (.dat (.int (n : Int))), w2, some (.dat (.int od)), some (.dat (.tuple (l.map .int))), some (.own (dats (ivD f))), w6, some (.dat (.list (ivD sm2))), u8, none]) := by
  obtain ⟨x, b1, e1, _, _, k1⟩ := take_any (k := 0) hb (by omega) (below := 24) (by decide) (by decide)
  have rg : rngD [.int (n : Int)] = some ((l0 n).map .int) := rngD_ok (by omega)
  by_cases c : x < od ∨ sm = []
  · obtain ⟨sm2, u8, v2, l2, lp⟩ := all_loop (b := some (.own (dats b1))) (w2 := w2) (w3 := some (.dat (.int od))) (w4 := some (.dat (.tuple (l.map .int)))) (w5 := some (.own (dats (ivD f)))) (w6 := w6) hn (List.range' 0 n) [] w8 (fun k hk => by have := List.mem_range'.mp hk; omega) (fun p hp => by cases hp) (by rw [List.length_range']; show 0 + _ ≤ _; omega)
    rw [← l0_nI] at lp
    by_cases c1 : x < od
    · exact ⟨b1, sm2, u8, v2, l2, k1, te_all1 e1 c1 rg lp⟩
    · have : sm = [] := c.resolve_left c1
      subst this
      exact ⟨b1, sm2, u8, v2, l2, k1, te_all2 e1 c1 rfl rg lp⟩
  · have c1 : ¬ x < od := fun z => c (.inl z)
    have c2 : sm ≠ [] := fun z => c (.inr z)
    exact ⟨b1, sm, w8, v, ls, k1, te_keep e1 c1 ((eqv_nilV false sm).trans (by cases sm with
      | nil => exact absurd rfl c2
      | cons p r => rfl))⟩
theorem te_3 {n : Nat} {m : Int} {bs : List PyData} {w2 w6 w8 : Option Wv} {od : Int} {l : List Int} {f sm : List Iv} (hn : n ≤ 12) (hl : l.length = n) (hb : Bok m bs) (hm : m ≤ 10 ^ 7) (v : Vi n sm) (ls : sm.length ≤ 500) (vf : Vi n f) (lf : f.length ≤ 500) :
    ∃ (bs1 : List PyData) (l2 : List Int) (f2 : List Iv), l2.length = n ∧ Vi n f2 ∧ f2.length ≤ f.length + 1 ∧ Bok (m + 2) bs1 ∧ b_te_3 [some (.own (dats bs)), some (.dat (.int (n : Int))), w2, some (.dat (.int od)), some (.dat (.tuple (l.map .int))), some (.own (dats (ivD f))), w6, some (.dat (.list (ivD sm))), w8, none] = some (.ok .nx [some (.own (dats bs1)), some (.dat (.int (n : Int))), w2, some (.dat (.int od)), some (.dat (.tuple (l2.map .int))), some (.own (dats (ivD f2))), w6, some (.dat (.list (ivD sm))), w8, none]) := by
  cases sm with
  | nil => exact ⟨bs, l, f, hl, vf, by omega, hb.mono (by omega), te_none ((eqv_nilV true []).trans rfl)⟩
  | cons p0 r =>
    obtain ⟨d, b1, e1, md, k1⟩ := of_ok hb (by omega) (ds := ivD (p0 :: r)) (by unfold ivD; rw [List.length_map, List.length_cons]; omega) (by unfold ivD; rw [List.length_map]; omega)
    obtain ⟨p, hp, rfl⟩ := List.mem_map.mp md
    have vp := v p hp
    have tu := turned_sw (l := l) (p := natP p) (by show p.1.toNat < p.2.toNat; omega) (by show p.2.toNat < _; omega) (by omega)
    have pe : rpD (natP p) = pD p := by
      show PyData.tuple [.int (p.1.toNat : Int), .int (p.2.toNat : Int)] = .tuple [.int p.1, .int p.2]
      rw [show ((p.1.toNat : Nat) : Int) = p.1 by omega, show ((p.2.toNat : Nat) : Int) = p.2 by omega]
    rw [pe] at tu
    have ix : ixD (.list (ivD f ++ [pD p])) (.int (-1)) = some (pD p) := by
      show (L2.ixN (ivD f ++ [pD p]).length (-1)).bind (fun j => (ivD f ++ [pD p])[j]?) = _
      have hn : L2.ixN (ivD f ++ [pD p]).length (-1) = some (ivD f).length := by
        unfold L2.ixN
        rw [List.length_append, List.length_singleton, if_neg (by decide), if_pos (by omega)]
        congr 1
        omega
      rw [hn]
      show (ivD f ++ [pD p])[(ivD f).length]? = _
      rw [List.getElem?_append_right (Nat.le_refl _), Nat.sub_self]
      rfl
    have b := te_add (i := p.1) (j := p.2) (w2 := w2) (w6 := w6) (w8 := w8) (w9 := none) (n := (n : Int)) (od := od) (l := l) (f := f) (sm := p0 :: r) ((eqv_nilV true (p0 :: r)).trans rfl) e1 (by unfold ivD; rw [List.length_map]; omega) ix tu
    refine ⟨b1, sw l (natP p).1 (natP p).2, f ++ [p], by rw [sw_len]; exact hl, fun q hq => (List.mem_append.mp hq).elim (vf q) fun z => by rw [List.mem_singleton.mp z]; exact vp, by rw [List.length_append]; exact Nat.le_refl _, k1.mono (by omega), b.trans ?_⟩
    rw [show ivD (f ++ [p]) = ivD f ++ [.tuple [.int p.1, .int p.2]] by unfold ivD; rw [List.map_append]; rfl]
end Ov
set_option Elab.async false
set_option linter.all false
set_option maxRecDepth 100000
set_option maxHeartbeats 4000000
namespace Ov
open PySem L2
theorem tests_go {bs bs1 bs3 bs9 : List PyData} {n mo od z4 : Int} {z2 z5 l9 : List Int} {f9 : List Iv} {u6 u7 u8 u9 : Option Wv}
    (h1 : -(2 ^ 62) ≤ (1 : Int) ∧ (1 : Int) < 2 ^ 62 ∧ -(2 ^ 62) ≤ (n + 1 : Int) ∧ (n + 1 : Int) < 2 ^ 62 ∧ ((n + 1 : Int) - (1 : Int)).toNat ≤ 1000000)
    (h2 : F_strewn bs [.list ((rngL 1 (n + 1)).map PyData.int)] = some (.own (dats (z2.map PyData.int)), bs1))
    (h3 : (F_take 2) bs1 [.int (mo + 1)] = some (.dat (.int z4), bs3))
    (h4 : rngD [.int z4] = some (z5.map PyData.int))
    (h5 : forM (gN 6) b_tests_1 (z5.map PyData.int) [some (.own (dats bs3)), some (.dat (.int n)), some (.dat (.int mo)), some (.dat (.int od)), some (.dat (.tuple (z2.map PyData.int))), some (.own (dats [])), none, none, none, none] = some (.ok .nx [some (.own (dats bs9)), some (.dat (.int n)), some (.dat (.int mo)), some (.dat (.int od)), some (.dat (.tuple (l9.map PyData.int))), some (.own (dats (ivD f9))), u6, u7, u8, u9])) :
    F_tests bs [.int n, .int mo, .int od] = some (.own (dats (ivD f9)), bs9) := by
  have s0 : s_tests_0 [some (.own (dats bs)), some (.dat (.int n)), some (.dat (.int mo)), some (.dat (.int od)), none, none, none, none, none, none] = some (.ok .nx [some (.own (dats bs1)), some (.dat (.int n)), some (.dat (.int mo)), some (.dat (.int od)), some (.dat (.tuple (z2.map PyData.int))), some (.own (dats [])), none, none, none, none]) := by
    unfold s_tests_0
    exact (par_x (pl_x (cb_x (acons_x (fz_x (callB_x rfl (acons_x (lr_x (rg2_x con_x (op2_x (get_x rfl) con_x vwd_x vwd_x (addI_x _ _))) h1) anil_x) rfl rfl h2) (v_ofWo _)) anil_x) (vwC_x vwd_x vw0_x) rfl) rfl) (lstW_x anil_x rfl (Nat.le_of_ble_eq_true rfl)) (Nat.le_of_ble_eq_true rfl) (Nat.le_of_ble_eq_true rfl))
  have s1 : s_tests_1 [some (.own (dats bs1)), some (.dat (.int n)), some (.dat (.int mo)), some (.dat (.int od)), some (.dat (.tuple (z2.map PyData.int))), some (.own (dats [])), none, none, none, none] = some (.ok .nx [some (.own (dats bs9)), some (.dat (.int n)), some (.dat (.int mo)), some (.dat (.int od)), some (.dat (.tuple (l9.map PyData.int))), some (.own (dats (ivD f9))), u6, u7, u8, u9]) := by
    unfold s_tests_1
    exact (for_x (argI_x (acons_x (fz_x (callB_x rfl (acons_x (op2_x (get_x rfl) con_x vwd_x vwd_x (addI_x _ _)) anil_x) rfl rfl h3) rfl) anil_x) rfl h4) h5)
  refine runB_eq rfl ⟨[some (.dat (.int n)), some (.dat (.int mo)), some (.dat (.int od)), some (.dat (.tuple (l9.map PyData.int))), none, u6, u7, u8, u9], ?_⟩
  show f_tests [some (.own (dats bs)), some (.dat (.int n)), some (.dat (.int mo)), some (.dat (.int od)), none, none, none, none, none, none] = _
  unfold f_tests
  rw [then_nx s0, then_nx s1]
  unfold s_tests_2
  exact (move_x (i := 5) rfl)
end Ov
set_option Elab.async false
set_option linter.all false
set_option maxRecDepth 100000
set_option maxHeartbeats 4000000
namespace Ov
open PySem L2
theorem tests_loop {n : Nat} {w2 : Option Wv} {od : Int} (hn : n ≤ 12) : ∀ (ks : List Nat) (m : Int) (bs : List PyData) (l : List Int) (f : List Iv) (w6 w7 w8 : Option Wv), Bok m bs → m + 4 * ks.length ≤ 10 ^ 6 → l.length = n → Vi n f → f.length + ks.length ≤ 400 →
    ∃ (bs9 : List PyData) (l9 : List Int) (f9 : List Iv) (u6 u7 u8 : Option Wv), Bok (m + 4 * ks.length) bs9 ∧ Vi n f9 ∧ f9.length ≤ f.length + ks.length ∧ forM (gN 6) b_tests_1 (ks.map nI) [some (.own (dats bs)), some (.dat (.int (n : Int))), w2, some (.dat (.int od)), some (.dat (.tuple (l.map .int))), some (.own (dats (ivD f))), w6, w7, w8, none] = some (.ok .nx [some (.own (dats bs9)), some (.dat (.int (n : Int))), w2, some (.dat (.int od)), some (.dat (.tuple (l9.map .int))), some (.own (dats (ivD f9))), u6, u7, u8, none])
  | [], m, bs, l, f, w6, w7, w8, hb, _, _, v, _ => ⟨bs, l, f, w6, w7, w8, hb.mono (by show m ≤ m + 4 * ((0 : Nat) : Int); omega), v, Nat.le_refl _, for_nil⟩
  | k :: ks, m, bs, l, f, w6, w7, w8, hb, hm, hl, v, hf => by
    rw [List.length_cons] at hm hf ⊢
    have sw_ := swaps_ok (ms := l) (by omega)
    have xv : Vi n (xcs l) := by rw [← hl]; exact xcs_vi
    have xl : (xcs l).length ≤ 500 := by
      have nd : (xcs l) = xcs l := rfl
      unfold xcs
      refine Nat.le_trans (List.length_filter_le _ _) ?_
      have := sg_len l (List.range l.length)
      rw [List.length_range] at this
      have h2 : l.length * l.length ≤ 12 * 12 := Nat.mul_le_mul (by omega) (by omega)
      omega
    obtain ⟨b1, sm2, u8, v2, l2, k1, e2⟩ := te_2 (w2 := w2) (w6 := some (.dat (nI k))) (w8 := w8) (od := od) (l := l) (f := f) hn hb (by omega) xv xl
    obtain ⟨b2, l3, f3, h3, v3, lf3, k2, e3⟩ := te_3 (w2 := w2) (w6 := some (.dat (nI k))) (w8 := u8) (od := od) (l := l) (f := f) (sm := sm2) hn hl k1 (by omega) v2 l2 v (by omega)
    obtain ⟨b9, l9, f9, u6, u7, u8', k9, v9, lf9, e9⟩ := tests_loop (w2 := w2) (od := od) hn ks (m + 4) b2 l3 f3 (some (.dat (nI k))) (some (.dat (.list (ivD sm2)))) u8 (k2.mono (by omega)) (by omega) h3 v3 (by omega)
    refine ⟨b9, l9, f9, u6, u7, u8', k9.mono (by omega), v9, by omega, (for_go (e := [some (.own (dats bs)), some (.dat (.int (n : Int))), w2, some (.dat (.int od)), some (.dat (.tuple (l.map .int))), some (.own (dats (ivD f))), some (.dat (nI k)), w7, w8, none]) rfl ?_).trans e9⟩
    unfold b_tests_1
    exact then_x (set_x (pl_x (fz_x (callA_x (acons_x (get_x rfl) anil_x) rfl sw_) rfl) rfl) (Nat.le_of_ble_eq_true rfl)) (then_x e2 e3)
theorem tests_ok {n : Nat} {m : Int} {bs : List PyData} {od : Int} (hn : n ≤ 12) (hb : Bok m bs) (hm : m ≤ 10 ^ 5) : ∃ (t : List (Nat × Nat)) (bs' : List PyData), F_tests bs [.int (n : Int), .int 20, .int od] = some (.own (dats (t.map rpD)), bs') ∧ Vt n t ∧ t.length ≤ 20 ∧ Bok (m + 200) bs' := by
  have rl := rng_len 1 ((n : Int) + 1)
  rw [List.length_map] at rl
  obtain ⟨so, b1, sw_, sp, k1⟩ := strewn_ok hb (by omega) (ns := rngL 1 ((n : Int) + 1)) (d := .list ((rngL 1 ((n : Int) + 1)).map .int)) (.inl rfl) (by omega)
  obtain ⟨x, b2, e2, x0, x1, k2⟩ := take_any (k := 0) k1 (by omega) (below := 20 + 1) (by decide) (by decide)
  obtain ⟨j, rfl⟩ := Int.eq_ofNat_of_zero_le x0
  obtain ⟨b9, l9, f9, u6, u7, u8, k9, v9, lf, e9⟩ := tests_loop (w2 := some (.dat (.int 20))) (od := od) hn (List.range' 0 j) (m + 92) b2 so [] none none none (k2.mono (by omega)) (by rw [List.length_range']; omega) (by rw [sp.length_eq]; omega) (fun p hp => by cases hp) (by rw [List.length_range']; show 0 + _ ≤ _; omega)
  rw [List.length_range'] at k9 lf
  rw [← l0_nI] at e9
  obtain ⟨vt, ve⟩ := v9.nat
  refine ⟨f9.map natP, b9, ?_, vt, by rw [List.length_map]; have : f9.length ≤ 0 + j := lf; omega, k9.mono (by omega)⟩
  rw [← ve]
  exact tests_go ⟨by decide, by decide, by omega, by omega, by omega⟩ sw_ e2 (rngD_ok (by omega)) e9
end Ov
set_option Elab.async false
set_option linter.all false
set_option maxRecDepth 100000
set_option maxHeartbeats 4000000
namespace Ov
open PySem L2
/-! the comparisons by the law's own steps -/
theorem asTI_row (u : List Int) : asTI (.dat (.tuple (u.map .int))) = some u := ints_id u
theorem dtsD_x {env : En} {i : Nat} {ks : List (List Int)} (hx : env[i]? = some (some (.dts ks))) : dtsD i env = some (.ok ks env) := by unfold dtsD; rw [hx]
theorem dputB_x {env : En} {i : Nat} {fk fv : M R} {u : List Int} {ks : List (List Int)} (hv : fv env = some (.ok (.dat (.bool true)) env)) (h : fk env = some (.ok (.dat (.tuple (u.map .int))) env)) (hx : env[i]? = some (some (.dts ks))) (hl : ks.length < 100000) : dputB i fk fv env = some (.ok .nx (env.set i (some (.dts (putS ks u))))) := by
  have hi : i < env.length := (List.getElem?_eq_some_iff.mp hx).1
  have hc : chk (decide (ks.length < 100000)) = some () := by rw [decide_eq_true hl]; rfl
  unfold dputB
  simp only [v_bind, hv, h, v_ok, asTI_row, v_lift, isTr, dtsD_x hx, hc, v_putM, hi, v_pure, if_true]
theorem sortB_x {env : En} {i : Nat} {ks : List (List Int)} (hx : env[i]? = some (some (.dts ks))) (ha : alike ks = true) : sortB i env = some (.ok (.dat (.list ((sortL ks).map tnD))) env) := by
  have hc : chk (alike ks) = some () := by rw [ha]; rfl
  unfold sortB
  simp only [v_bind, v_ok, v_lift, dtsD_x hx, hc, v_pure]
def prL (q : Int × Int) : List Int := [q.1, q.2]
theorem prL_inj {a b : Int × Int} (h : prL a = prL b) : a = b := by
  unfold prL at h
  simp only [List.cons.injEq, and_true] at h
  exact Prod.ext h.1 h.2
def putQ (ps : List (Int × Int)) (q : Int × Int) : List (Int × Int) := if q ∈ ps then ps else ps ++ [q]
theorem putS_prL (ps : List (Int × Int)) (q : Int × Int) : putS (ps.map prL) (prL q) = (putQ ps q).map prL := by
  have e : prL q ∈ ps.map prL ↔ q ∈ ps := ⟨fun h => by
    obtain ⟨x, hx, e⟩ := List.mem_map.mp h
    rw [← prL_inj e]
    exact hx, fun h => List.mem_map.mpr ⟨q, h, rfl⟩⟩
  unfold putS putQ
  by_cases h : q ∈ ps
  · rw [if_pos h, if_pos (e.mpr h)]
  · rw [if_neg h, if_neg fun z => h (e.mp z), List.map_append]
    rfl
theorem putQ_mem {ps : List (Int × Int)} {q x : Int × Int} : x ∈ putQ ps q ↔ x ∈ ps ∨ x = q := by
  unfold putQ
  split
  · rename_i h
    exact ⟨.inl, fun z => z.elim id fun z => by rw [z]; exact h⟩
  · rw [List.mem_append, List.mem_singleton]
theorem putQ_nd {ps : List (Int × Int)} {q : Int × Int} (h : ps.Nodup) : (putQ ps q).Nodup := by
  unfold putQ
  split
  · exact h
  · rename_i n
    exact List.nodup_append.mpr ⟨h, by simp, fun a ha b hb e => n (by rw [List.mem_singleton.mp hb] at e; rw [← e]; exact ha)⟩
theorem putQ_len (ps : List (Int × Int)) (q : Int × Int) : (putQ ps q).length ≤ ps.length + 1 := by
  unfold putQ
  split
  · omega
  · rw [List.length_append, List.length_singleton]
    omega
theorem putQs_len : ∀ (l ps : List (Int × Int)), (l.foldl putQ ps).length ≤ ps.length + l.length
  | [], ps => Nat.le_refl _
  | q :: l, ps => by
    have := putQs_len l (putQ ps q)
    have := putQ_len ps q
    rw [List.foldl_cons, List.length_cons]
    omega
theorem putQs_mem {x : Int × Int} : ∀ {l ps : List (Int × Int)}, x ∈ l.foldl putQ ps ↔ x ∈ ps ∨ x ∈ l
  | [], ps => by simp
  | q :: l, ps => by
    rw [List.foldl_cons, putQs_mem, putQ_mem, List.mem_cons, or_assoc]
theorem putQs_nd : ∀ {l ps : List (Int × Int)}, ps.Nodup → (l.foldl putQ ps).Nodup
  | [], ps, h => h
  | q :: l, ps, h => putQs_nd (l := l) (putQ_nd h)
theorem sort_prL (raw : List (Int × Int)) : sortL ((raw.foldl putQ []).map prL) = (ssP raw).map prL := by
  refine sortL_uniq (b := (ssP raw).map prL) ?_ (sortL_pw _) ?_
  · refine (sortL_perm _).trans (List.Perm.map _ ((List.perm_ext_iff_of_nodup (putQs_nd List.nodup_nil) ((ssP_pw raw).imp fun h => ltQ_irr h)).mpr fun q => ?_))
    rw [putQs_mem, ssP_mem]
    simp
  · rw [List.pairwise_map]
    refine (ssP_pw raw).imp fun {a b} h => ?_
    unfold ltQ at h
    unfold prL
    rw [HT.lexLt_cons]
    by_cases e : b.1 = a.1
    · rw [if_pos e, HT.lexLt_cons]
      by_cases e2 : b.2 = a.2
      · omega
      · rw [if_neg e2]
        exact decide_eq_false (by omega)
    · rw [if_neg e]
      exact decide_eq_false (by omega)
theorem alike_prL (ps : List (Int × Int)) : alike (ps.map prL) = true := by
  unfold alike
  rw [show ((ps.map prL).all fun ns => !ns.isEmpty) = true from List.all_eq_true.mpr fun x hx => by
    obtain ⟨q, _, rfl⟩ := List.mem_map.mp hx
    rfl]
  rfl
def pSi : M Fl := (thenS (dputB 3 (tupD (acons (get 6) (acons (op2 ixD (get 2) (get 4)) anil))) (con (.bool true))) (dputB 3 (tupD (acons (get 6) (acons (op2 ixD (get 2) (get 5)) anil))) (con (.bool true))))
def eSI (d0 d1 : Option Wv) (l : List Int) (ps : List (Int × Int)) (w4 w5 w6 : Option Wv) : En := [d0, d1, some (.dat (.tuple (l.map .int))), some (.dts (ps.map prL)), w4, w5, w6]
theorem si_in {d0 d1 : Option Wv} {l : List Int} {i j : Nat} (hi : i < l.length) (hj : j < l.length) : ∀ (ms : List Int) (ps : List (Int × Int)) (w6 : Option Wv), ps.length + 2 * ms.length ≤ 90000 →
    ∃ u6, forM (gN 6) pSi (ms.map .int) (eSI d0 d1 l ps (some (.dat (nI i))) (some (.dat (nI j))) w6) = some (.ok .nx (eSI d0 d1 l ((ms.flatMap (two (l.getD i 0) (l.getD j 0))).foldl putQ ps) (some (.dat (nI i))) (some (.dat (nI j))) u6))
  | [], ps, w6, _ => ⟨w6, for_nil⟩
  | m :: ms, ps, w6, h => by
    rw [List.length_cons] at h
    have l1 := putQ_len ps (m, l.getD i 0)
    have l2 := putQ_len (putQ ps (m, l.getD i 0)) (m, l.getD j 0)
    obtain ⟨u6, e⟩ := si_in (d0 := d0) (d1 := d1) hi hj ms (putQ (putQ ps (m, l.getD i 0)) (m, l.getD j 0)) (some (.dat (.int m))) (by omega)
    refine ⟨u6, (for_go (e := eSI d0 d1 l ps (some (.dat (nI i))) (some (.dat (nI j))) (some (.dat (.int m)))) rfl ?_).trans (by rw [List.flatMap_cons, List.foldl_append]; exact e)⟩
    have p1 := dputB_x (env := eSI d0 d1 l ps (some (.dat (nI i))) (some (.dat (nI j))) (some (.dat (.int m)))) (i := 3) (fk := tupD (acons (get 6) (acons (op2 ixD (get 2) (get 4)) anil))) (fv := con (.bool true)) (u := prL (m, l.getD i 0)) (ks := ps.map prL) con_x (tup_x (acons_x (get_x rfl) (acons_x (op2_x (get_x rfl) (get_x rfl) vwd_x vwd_x (ixT_map (at_D hi))) anil_x)) rfl (Nat.le_of_ble_eq_true rfl)) rfl (by rw [List.length_map]; omega)
    rw [putS_prL] at p1
    have p2 := dputB_x (env := eSI d0 d1 l (putQ ps (m, l.getD i 0)) (some (.dat (nI i))) (some (.dat (nI j))) (some (.dat (.int m)))) (i := 3) (fk := tupD (acons (get 6) (acons (op2 ixD (get 2) (get 5)) anil))) (fv := con (.bool true)) (u := prL (m, l.getD j 0)) (ks := (putQ ps (m, l.getD i 0)).map prL) con_x (tup_x (acons_x (get_x rfl) (acons_x (op2_x (get_x rfl) (get_x rfl) vwd_x vwd_x (ixT_map (at_D hj))) anil_x)) rfl (Nat.le_of_ble_eq_true rfl)) rfl (by rw [List.length_map]; omega)
    rw [putS_prL] at p2
    exact then_x p1 p2
theorem si_loop {d0 d1 : Option Wv} : ∀ (t : List (Nat × Nat)) (l : List Int) (ps : List (Int × Int)) (w4 w5 w6 : Option Wv), Vt l.length t → l.length ≤ 100 → ps.length + 200 * t.length ≤ 80000 →
    ∃ u4 u5 u6, forM (gT (gsC (gN 4) (gsC (gN 5) gsN))) b_seen_in_1 (t.map rpD) (eSI d0 d1 l ps w4 w5 w6) = some (.ok .nx (eSI d0 d1 (endL l t) ((rawC l t).foldl putQ ps) u4 u5 u6))
  | [], l, ps, w4, w5, w6, _, _, _ => ⟨w4, w5, w6, for_nil⟩
  | p :: t, l, ps, w4, w5, w6, v, hl, h => by
    obtain ⟨v1, v2⟩ := v p (List.mem_cons_self ..)
    rw [List.length_cons] at h
    have ml : (midL l p).length ≤ 98 := by
      unfold midL
      rw [List.length_take]
      omega
    have fm : ∀ (ms : List Int) (a b : Int), (ms.flatMap (two a b)).length = 2 * ms.length := by
      intro ms a b
      induction ms with
      | nil => rfl
      | cons m ms ih => rw [List.flatMap_cons, List.length_append, ih, List.length_cons]; show 2 + _ = _; omega
    obtain ⟨x6, e1⟩ := si_in (d0 := d0) (d1 := d1) (l := l) (i := p.1) (j := p.2) (by omega) v2 (midL l p) ps w6 (by omega)
    have gl := putQs_len ((midL l p).flatMap (two (l.getD p.1 0) (l.getD p.2 0))) ps
    rw [fm] at gl
    obtain ⟨u4, u5, u6, e2⟩ := si_loop (d0 := d0) (d1 := d1) t (sw l p.1 p.2) (((midL l p).flatMap (two (l.getD p.1 0) (l.getD p.2 0))).foldl putQ ps) (some (.dat (nI p.1))) (some (.dat (nI p.2))) x6 (by rw [sw_len]; exact fun q hq => v q (List.mem_cons_of_mem _ hq)) (by rw [sw_len]; exact hl) (by omega)
    refine ⟨u4, u5, u6, ?_⟩
    have ct : cutD (.tuple (l.map PyData.int)) (some ((p.1 : Int) + 1)) (some (p.2 : Int)) = some (.tuple ((midL l p).map .int)) := by
      rw [show (p.1 : Int) + 1 = ((p.1 + 1 : Nat) : Int) by omega]
      exact cutT_mid (z := PyData.int) (l := l) (a := p.1 + 1) (b := p.2) (by omega) (by omega)
    have tu := turned_sw (l := l) (p := p) (by omega) v2 (by omega)
    rw [List.map_cons]
    refine (for_go (e := eSI d0 d1 l ps (some (.dat (nI p.1))) (some (.dat (nI p.2))) w6) (e2 := eSI d0 d1 (sw l p.1 p.2) (((midL l p).flatMap (two (l.getD p.1 0) (l.getD p.2 0))).foldl putQ ps) (some (.dat (nI p.1))) (some (.dat (nI p.2))) x6) rfl ?_).trans ?_
    · unfold b_seen_in_1
      exact then_x (for_x (seq_x (sl_x (get_x rfl) (poS_x (op2_x (get_x rfl) con_x vwd_x vwd_x (addI_x _ _))) (poS_x (get_x rfl)) vwd_x ct) rfl) e1) (set_x (e := eSI d0 d1 l (((midL l p).flatMap (two (l.getD p.1 0) (l.getD p.2 0))).foldl putQ ps) (some (.dat (nI p.1))) (some (.dat (nI p.2))) x6) (w := .dat (.tuple ((sw l p.1 p.2).map .int))) (pl_x (fz_x (callA_x (acons_x (get_x rfl) (acons_x (tup_x (acons_x (get_x rfl) (acons_x (get_x rfl) anil_x)) rfl (Nat.le_of_ble_eq_true rfl)) anil_x)) rfl tu) rfl) rfl) (Nat.le_of_ble_eq_true rfl))
    · rw [rawC, List.foldl_append]
      exact e2
theorem seen_ok {n : Nat} {t : List (Nat × Nat)} (hn : n ≤ 100) (v : Vt n t) (ht : t.length ≤ 100) : F_seen_in [.int (n : Int), .list (t.map rpD)] = some (.dat (.tuple [.tuple ((endL (l0 n) t).map .int), .list ((CP n t).map prD)])) := by
  obtain ⟨u4, u5, u6, lp⟩ := si_loop (d0 := some (.dat (.int (n : Int)))) (d1 := some (.dat (.list (t.map rpD)))) t (l0 n) [] none none none (by rw [l0_len]; exact v) (by rw [l0_len]; exact hn) (by show 0 + _ ≤ _; omega)
  refine runA_eq rfl ⟨eSI (some (.dat (.int (n : Int)))) (some (.dat (.list (t.map rpD)))) (endL (l0 n) t) ((rawC (l0 n) t).foldl putQ []) u4 u5 u6, ?_⟩
  show f_seen_in [some (.dat (.int (n : Int))), some (.dat (.list (t.map rpD))), none, none, none, none, none] = _
  have s0 : s_seen_in_0 [some (.dat (.int (n : Int))), some (.dat (.list (t.map rpD))), none, none, none, none, none] = some (.ok .nx (eSI (some (.dat (.int (n : Int)))) (some (.dat (.list (t.map rpD)))) (l0 n) [] none none none)) := by
    unfold s_seen_in_0
    exact par_x (e2 := [some (.dat (.int (n : Int))), some (.dat (.list (t.map rpD))), none, none, none, none, none]) (w := .dat (.tuple ((l0 n).map .int))) (w2 := .dts []) (pl_x (tg1_x (get_x rfl) (by omega)) rfl) rfl (Nat.le_of_ble_eq_true rfl) (Nat.le_of_ble_eq_true rfl)
  have s1 : s_seen_in_1 (eSI (some (.dat (.int (n : Int)))) (some (.dat (.list (t.map rpD)))) (l0 n) [] none none none) = some (.ok .nx (eSI (some (.dat (.int (n : Int)))) (some (.dat (.list (t.map rpD)))) (endL (l0 n) t) ((rawC (l0 n) t).foldl putQ []) u4 u5 u6)) := by
    unfold s_seen_in_1
    exact for_x (seq_x (get_x rfl) rfl) lp
  unfold f_seen_in
  rw [then_nx s0, then_nx s1]
  unfold s_seen_in_2
  have sb := sortB_x (env := eSI (some (.dat (.int (n : Int)))) (some (.dat (.list (t.map rpD)))) (endL (l0 n) t) ((rawC (l0 n) t).foldl putQ []) u4 u5 u6) (i := 3) rfl (alike_prL _)
  rw [sort_prL, List.map_map] at sb
  exact ret_x (pl_x (tup_x (acons_x (get_x rfl) (acons_x sb anil_x)) rfl (Nat.le_of_ble_eq_true rfl)) rfl)
end Ov
set_option Elab.async false
set_option linter.all false
set_option maxRecDepth 100000
set_option maxHeartbeats 4000000
namespace Ov
open PySem L2
theorem lists_atom {n : Nat} (i : Int) : F_lists (n + 1) [.int i] = some (.dat (.int i)) := runA_eq rfl ⟨[some (.dat (.int i)), none], by
  show f_lists _ [some (.dat (.int i)), none] = _
  unfold f_lists
  exact ret_x (pl_x (ifE_f (tb_x (isi2_x (get_x rfl) vwd_x (v_kL _) (v_kT _)) vwd_x) (get_x rfl)) rfl)⟩
theorem lists_seq {n : Nat} {ds : List PyData} {g : PyData → PyData} {d : PyData} (hd : d = .list ds ∨ d = .tuple ds) (h : ∀ x ∈ ds, F_lists n [x] = some (.dat (g x))) (hl : ds.length < 1000000) : F_lists (n + 1) [d] = some (.dat (.list (ds.map g))) := runA_eq rfl ⟨[some (.dat d), none], by
  show f_lists _ [some (.dat d), none] = _
  unfold f_lists
  have cm := compM_x (env := [some (.dat d), none]) (p := gN 1) (ft := yesT) (fe := fz (callA (F_lists n) (acons (get 1) anil))) (vs := [1]) (z := fun x => x) g ds hl fun x hx => ⟨[some (.dat d), some (.dat x)], rfl, rfl, fz_x (callA_x (acons_x (get_x rfl) anil_x) rfl (h x hx)) rfl, rfl, rfl⟩
  rw [List.map_id'] at cm
  have sq : seqD d = some ds := by rcases hd with rfl | rfl <;> rfl
  have ik : (isL d || isT d) = true := by rcases hd with rfl | rfl <;> rfl
  have k := isi2_x (T := "list") (U := "tuple") (get_x (env := [some (.dat d), none]) (i := 0) rfl) vwd_x (v_kL d) (v_kT d)
  rw [ik] at k
  exact ret_x (pl_x (ifE_t (tb_x k vwd_x) (fz_x (lc_eq (seq_x (get_x rfl) sq) rfl rfl cm) (v_ofWo _))) rfl)⟩
theorem osI {n : Nat} (i : Int) : okS (n + 1) (.int i) := .inl ⟨rfl, shp_int i⟩
def okAll (n : Nat) : List PyData → Prop
  | [] => True
  | d :: ds => okS n d ∧ okAll n ds
theorem okAll.get {n : Nat} : ∀ {ds : List PyData}, okAll n ds → ∀ x ∈ ds, okS n x
  | [], _, x, h => by cases h
  | d :: ds, k, x, h => by
    rcases List.mem_cons.mp h with rfl | h
    · exact k.1
    · exact okAll.get k.2 x h
theorem okL {n : Nat} {ds : List PyData} (h : okAll n ds) (hl : ds.length < 1000) : okS (n + 1) (.list ds) := .inr ⟨ds, .inl rfl, hl, h.get⟩
theorem okA_nil {n : Nat} : okAll n [] := True.intro
theorem okA_cons {n : Nat} {d : PyData} {ds : List PyData} (h : okS n d) (h2 : okAll n ds) : okAll n (d :: ds) := ⟨h, h2⟩
theorem lists_rep {t : List (Nat × Nat)} (hl : t.length < 1000000) : F_lists 4 [.list (t.map rpD)] = some (.dat (.list (t.map (rpz true)))) := by
  have e := lists_seq (n := 3) (ds := t.map rpD) (g := fun x => match x with | .tuple es => .list es | x => x) (.inl rfl) (fun x hx => by
    obtain ⟨p, hp, rfl⟩ := List.mem_map.mp hx
    have := lists_seq (n := 2) (d := rpD p) (ds := [nI p.1, nI p.2]) (g := fun x => x) (.inr rfl) (fun y hy => by
      simp only [List.mem_cons, List.not_mem_nil, or_false] at hy
      rcases hy with rfl | rfl
      · exact lists_atom _
      · exact lists_atom _) (by show 2 < 1000000; decide)
    exact this) (by rw [List.length_map]; exact hl)
  refine e.trans ?_
  rw [List.map_map]
  rfl
theorem fl_rp {p : Nat × Nat} (h : p.1 ≤ 100 ∧ p.2 ≤ 100) : FL 5000 2 (rpD p) := by
  have f := fl_seq (L := 2000) (dep := 1) (m := 2) (ds := [nI p.1, nI p.2]) (fun e he => by
    simp only [List.mem_cons, List.not_mem_nil, or_false] at he
    rcases he with rfl | rfl <;> exact FL.int (by omega)) (by show 2 ≤ 2; decide)
  exact f.2.mono (by decide) (by decide)
theorem repr_rp {n : Nat} {t : List (Nat × Nat)} (v : Vt n t) (hn : n ≤ 100) (ht : t.length ≤ 100) : ∃ s, reprD [.list (t.map rpD)] = some (.str s) := by
  have f := fl_seq (L := 5000) (dep := 2) (m := 100) (ds := t.map rpD) (fun e he => by
    obtain ⟨p, hp, rfl⟩ := List.mem_map.mp he
    have := v p hp
    exact fl_rp ⟨by omega, by omega⟩) (by rw [List.length_map]; omega)
  exact ⟨_, f.1.repr (by decide) (by decide)⟩
theorem kw2 {F : List PyData → Option Wv} {a b : PyData} {w : Option Wv} (h : F [b, a] = w) : (fun ds : List PyData => if ds.length = 2 then F ([1, 0].map fun i => ds.getD i .none) else none) [a, b] = w := h
theorem end_any {z : Bool} {n : Nat} {t : List (Nat × Nat)} {d : PyData} (hd : seqD d = some (t.map (rpz z))) (hn : n ≤ 500) (v : Vt n t) (ht : t.length ≤ 500) : F_end_of [.int (n : Int), d] = some (.dat (.tuple ((endL (l0 n) t).map .int))) := by
  obtain ⟨a, b⟩ := ord_last t (l0 n)
  have k : (l0 n :: ordT (l0 n) t).getLast? = some (endL (l0 n) t) := by
    rw [List.getLast?_eq_getElem?, List.length_cons, b]
    exact a
  have g := orders_ok (z := z) hd hn v ht
  refine runA_eq rfl ⟨[some (.dat (.int (n : Int))), some (.dat d)], ?_⟩
  show f_end_of [some (.dat (.int (n : Int))), some (.dat d)] = _
  unfold f_end_of
  exact ret_x (pl_x (op2_x (fz_x (callA_x (acons_x (get_x rfl) (acons_x (get_x rfl) anil_x)) rfl g) (v_ofWo _)) (op1_x con_x vwd_x (v_neg 1)) vwd_x vwd_x (atI_neg1 (z := tnD) k)) rfl)
end Ov
set_option Elab.async false
set_option linter.all false
set_option maxRecDepth 100000
set_option maxHeartbeats 4000000
namespace Ov
open PySem L2
/-! one turn -/
theorem vs_own {env : En} {i : Nat} {ds : List PyData} (h : env[i]? = some (some (.own (dats ds)))) : vslot env i = some (.list ds) := by
  unfold vslot
  rw [h]
  show some (PyData.list ((dats ds).map itD)) = _
  unfold dats
  rw [List.map_map, show (itD ∘ It1.dat) = id from rfl, List.map_id]
theorem ok_ti {k : Nat} (l : List Int) (hl : l.length < 1000) : okS (k + 2) (.tuple (l.map .int)) := .inr ⟨_, .inr rfl, by rw [List.length_map]; exact hl, fun x hx => by
  obtain ⟨i, _, rfl⟩ := List.mem_map.mp hx
  exact osI i⟩
theorem ok_prs {k : Nat} (ps : List (Int × Int)) (hl : ps.length < 1000) : okS (k + 3) (.list (ps.map prD)) := .inr ⟨_, .inl rfl, by rw [List.length_map]; exact hl, fun x hx => by
  obtain ⟨p, _, rfl⟩ := List.mem_map.mp hx
  exact ok_ti (k := k) [p.1, p.2] (by show 2 < 1000; decide)⟩
theorem more_x (ds : List PyData) (h : ds.length < 1000) : ∃ xs, appD ds [.str "more"] = some (xs, .none) := ⟨_, v_app _ _ (by omega)⟩
theorem Vt.take {n : Nat} {t : List (Nat × Nat)} (v : Vt n t) (k : Nat) : Vt n (t.take k) := fun p hp => v p (List.mem_of_mem_take hp)
section
variable {w1 w2 w3 w4 w5 w6 w7 w8 w9 : Option Wv}
theorem turn_ok {m : Int} {bs : List PyData} (hb : Bok m bs) (hm : m ≤ 10 ^ 4) : ∃ bs2 x2 x3 x4 x5 x6 x7 x8 x9, b_right_0 [some (.own (dats bs)), w1, w2, w3, w4, w5, w6, w7, w8, w9] = some (.ok .nx [some (.own (dats bs2)), w1, x2, x3, x4, x5, x6, x7, x8, x9]) ∧ Bok (m + 300) bs2 := by
  obtain ⟨c, b1, e1, c0, c1, k1⟩ := take_small (k := 1) hb (by omega) (below := 11) (by decide) (by decide)
  obtain ⟨n, rfl⟩ := Int.eq_ofNat_of_zero_le c0
  obtain ⟨od, b2, o1, om, k2⟩ := of_ok k1 (by omega) (ds := [.int 0, .int 3, .int 24]) (by decide) (by decide)
  have hn : n ≤ 12 := by omega
  obtain ⟨t, b3, e2, v, ht, k3⟩ : ∃ (t : List (Nat × Nat)) (b3 : List PyData), F_tests b2 [.int (n : Int), .int 20, od] = some (.own (dats (t.map rpD)), b3) ∧ Vt n t ∧ t.length ≤ 20 ∧ Bok (m + 1 + 1 + 200) b3 := by
    simp only [List.mem_cons, List.not_mem_nil, or_false] at om
    rcases om with rfl | rfl | rfl <;> exact tests_ok hn k2 (by omega)
  obtain ⟨kp, hk⟩ := repr_rp v (by omega) (by omega)
  have se := seen_ok (n := n) (t := t) (by omega) v (by omega)
  have few := CP_few hn v
  have pz : t.map (rpz false) = t.map rpD := rfl
  have cm1 := comparisons_ok (z := false) (d := .list (t.map rpD)) rfl hn v (by omega)
  have cm2 := comparisons_ok (z := false) (d := .tuple (t.map rpD)) rfl hn v (by omega)
  have cm3 := comparisons_ok (z := true) (d := .list (t.map (rpz true))) rfl hn v (by omega)
  have cm0 := comparisons_ok (n := n) (z := false) (t := []) (d := .list []) rfl hn (fun p hp => by cases hp) (by decide)
  rw [show (CP n []).map prD = [] from rfl] at cm0
  have cl : (CP n t).length < 1000 := by omega
  have en1 := end_any (z := false) (d := .list (t.map rpD)) rfl (by omega) v (by omega)
  have en2 := end_any (z := true) (d := .list (t.map (rpz true))) rfl (by omega) v (by omega)
  have en0 := end_any (n := n) (z := false) (t := []) (d := .list []) rfl (by omega) (fun p hp => by cases hp) (by decide)
  have el : (endL (l0 n) t).length < 1000 := by rw [endL_len, l0_len]; omega
  have ll : (l0 n).length < 1000 := by rw [l0_len]; omega
  obtain ⟨x, b4, e4, x0, x1, k4⟩ := take_small (k := 1) k3 (by omega) (below := ((t.length : Nat) : Int) + 1) (by omega) (by omega)
  obtain ⟨k, rfl⟩ := Int.eq_ofNat_of_zero_le x0
  have vk := v.take k
  have lk : (t.take k).length ≤ 20 := by rw [List.length_take]; omega
  have en4 := end_any (n := n) (z := false) (t := t.take k) (d := .list ((t.take k).map rpD)) rfl (by omega) vk (by omega)
  have se4 := seen_ok (n := n) (t := t.take k) (by omega) vk (by omega)
  have elk : (endL (l0 n) (t.take k)).length < 1000 := by rw [endL_len, l0_len]; omega
  obtain ⟨xs, hxs⟩ := more_x ((CP n t).map prD) (by rw [List.length_map]; exact cl)
  refine ⟨b4, some (.dat (.int (n : Int))), some (.dat (.list (t.map rpD))), some (.dat (.str kp)), some (.dat (.tuple ((endL (l0 n) t).map .int))), some (.dat (.list ((CP n t).map prD))), some (.own (dats xs)), some (.dat (.list [.tuple ((endL (l0 n) t).map .int), .tuple ((endL (l0 n) t).map .int), .tuple ((l0 n).map .int)])), some (.dat (.int (k : Int))), ?_, k4.mono (by omega)⟩
  unfold b_right_0
  refine then_x (set_x (e := [some (.own (dats b1)), w1, w2, w3, w4, w5, w6, w7, w8, w9]) (pl_x (fz_x (callB_x rfl (acons_x con_x anil_x) rfl rfl e1) rfl) rfl) (Nat.le_of_ble_eq_true rfl)) ?_
  refine then_x (e := [some (.own (dats b3)), w1, some (.dat (.int (n : Int))), some (.dat (.list (t.map rpD))), w4, w5, w6, w7, w8, w9]) (set_x (e := [some (.own (dats b3)), w1, some (.dat (.int (n : Int))), w3, w4, w5, w6, w7, w8, w9]) (pl_x (fz_x (callB_x (b0 := b1) rfl (acons_x (get_x rfl) (acons_x con_x (acons_x (fz_x (callB_x rfl (acons_x (lst_x (acons_x con_x (acons_x con_x (acons_x con_x anil_x))) rfl (Nat.le_of_ble_eq_true rfl)) anil_x) rfl rfl o1) rfl) anil_x))) rfl rfl e2) (v_ofWo _)) rfl) (Nat.le_of_ble_eq_true rfl)) ?_
  refine then_x (e := [some (.own (dats b3)), w1, some (.dat (.int (n : Int))), some (.dat (.list (t.map rpD))), some (.dat (.str kp)), some (.dat (.tuple ((endL (l0 n) t).map .int))), some (.dat (.list ((CP n t).map prD))), w7, w8, w9]) (un_x (tup_x (acons_x (cb_x (acons_x (get_x rfl) anil_x) (vwC_x vwd_x vw0_x) hk) (acons_x (fz_x (callA_x (acons_x (get_x rfl) (acons_x (get_x rfl) anil_x)) rfl se) rfl) anil_x)) rfl (Nat.le_of_ble_eq_true rfl)) rfl) ?_
  refine then_x (e := [some (.own (dats b3)), w1, some (.dat (.int (n : Int))), some (.dat (.list (t.map rpD))), some (.dat (.str kp)), some (.dat (.tuple ((endL (l0 n) t).map .int))), some (.dat (.list ((CP n t).map prD))), some (.own (dats ((CP n t).map prD))), w8, w9]) (set_x (e := [some (.own (dats b3)), w1, some (.dat (.int (n : Int))), some (.dat (.list (t.map rpD))), some (.dat (.str kp)), some (.dat (.tuple ((endL (l0 n) t).map .int))), some (.dat (.list ((CP n t).map prD))), w7, w8, w9]) (callA_x (acons_x (get_x rfl) (acons_x (get_x rfl) anil_x)) rfl cm1) (Nat.le_of_ble_eq_true rfl)) ?_
  have sm : F_same 5 [.list [.list ((CP n t).map prD), .list ((CP n t).map prD), .list ((CP n t).map prD)], .list (List.replicate 3 [PyData.list ((CP n t).map prD)]).flatten] = some (.dat (.bool true)) := same_ok (okL (okA_cons (ok_prs (k := 1) _ cl) (okA_cons (ok_prs (k := 1) _ cl) (okA_cons (ok_prs (k := 1) _ cl) okA_nil))) (by show 3 < 1000; decide))
  have st := tellS_x (i := 7) (j := 8) (F := F_same 5) (env := [some (.own (dats b3)), w1, some (.dat (.int (n : Int))), some (.dat (.list (t.map rpD))), some (.dat (.str kp)), some (.dat (.tuple ((endL (l0 n) t).map .int))), some (.dat (.list ((CP n t).map prD))), some (.own (dats ((CP n t).map prD))), w8, w9]) (fe := (acons (fz (callA (fun ds => if ds.length = 2 then F_comparisons ([1, 0].map fun i => ds.getD i .none) else none) (acons (fz (callA (F_lists 4) (acons (get 3) anil))) (acons (get 2) anil)))) (acons (fz (callA F_comparisons (acons (get 2) (acons (cb tupleD (acons (get 3) anil)) anil)))) anil))) (fd := (repW (lstW (acons (get 6) anil)) (con (.int 3)))) (vs_own rfl)
    (acons_x (fz_x (callA_x (F := fun ds => if ds.length = 2 then F_comparisons ([1, 0].map fun i => ds.getD i .none) else none) (ds := [.list (t.map (rpz true)), .int (n : Int)]) (acons_x (fz_x (callA_x (acons_x (get_x rfl) anil_x) rfl (lists_rep (by omega))) rfl) (acons_x (get_x rfl) anil_x)) rfl (kw2 cm3)) (v_ofWo _)) (acons_x (fz_x (callA_x (acons_x (get_x rfl) (acons_x (cb_x (acons_x (get_x rfl) anil_x) (vwC_x vwd_x vw0_x) (show tupleD [.list (t.map rpD)] = some (.tuple (t.map rpD)) from rfl)) anil_x)) rfl cm2) (v_ofWo _)) anil_x)) rfl (by show 2 + 1 ≤ 1000000; decide) (Nat.le_of_ble_eq_true rfl)
    (repW_x (lstW_x (acons_x (get_x rfl) anil_x) rfl (Nat.le_of_ble_eq_true rfl)) con_x ⟨by decide, by decide, by show 1 * 3 ≤ 1000000; decide⟩) rfl (vs_own (env := [some (.own (dats b3)), w1, some (.dat (.int (n : Int))), some (.dat (.list (t.map rpD))), some (.dat (.str kp)), some (.dat (.tuple ((endL (l0 n) t).map .int))), some (.dat (.list ((CP n t).map prD))), some (.own (dats ((CP n t).map prD))), none, w9]) rfl) sm
  refine then_x st ?_
  refine then_x (e := [some (.own (dats b3)), w1, some (.dat (.int (n : Int))), some (.dat (.list (t.map rpD))), some (.dat (.str kp)), some (.dat (.tuple ((endL (l0 n) t).map .int))), some (.dat (.list ((CP n t).map prD))), some (.own (dats xs)), none, w9]) (expr_x (mth_x (env := [some (.own (dats b3)), w1, some (.dat (.int (n : Int))), some (.dat (.list (t.map rpD))), some (.dat (.str kp)), some (.dat (.tuple ((endL (l0 n) t).map .int))), some (.dat (.list ((CP n t).map prD))), some (.own (dats ((CP n t).map prD))), none, w9]) (b0 := (CP n t).map prD) (bs := (CP n t).map prD) rfl (acons_x con_x anil_x) rfl rfl hxs)) ?_
  refine then_x (ifS_f (notT_x (x := true) (tb_x (fz_x (callA_x (acons_x (fz_x (callA_x (acons_x (get_x (env := [some (.own (dats b3)), w1, some (.dat (.int (n : Int))), some (.dat (.list (t.map rpD))), some (.dat (.str kp)), some (.dat (.tuple ((endL (l0 n) t).map .int))), some (.dat (.list ((CP n t).map prD))), some (.own (dats xs)), none, w9]) (i := 2) rfl) (acons_x (get_x rfl) anil_x)) rfl cm1) (v_ofWo _)) (acons_x (get_x rfl) anil_x)) rfl (same_ok (n := 5) (ok_prs (k := 2) _ cl))) rfl) vwd_x)) nxt_x) ?_
  refine then_x (e := [some (.own (dats b3)), w1, some (.dat (.int (n : Int))), some (.dat (.list (t.map rpD))), some (.dat (.str kp)), some (.dat (.tuple ((endL (l0 n) t).map .int))), some (.dat (.list ((CP n t).map prD))), some (.own (dats xs)), some (.dat (.list [.tuple ((endL (l0 n) t).map .int), .tuple ((endL (l0 n) t).map .int), .tuple ((l0 n).map .int)])), w9]) (set_x (e := [some (.own (dats b3)), w1, some (.dat (.int (n : Int))), some (.dat (.list (t.map rpD))), some (.dat (.str kp)), some (.dat (.tuple ((endL (l0 n) t).map .int))), some (.dat (.list ((CP n t).map prD))), some (.own (dats xs)), none, w9]) (pl_x (lst_x (acons_x (fz_x (callA_x (acons_x (get_x rfl) (acons_x (get_x rfl) anil_x)) rfl en1) rfl) (acons_x (fz_x (callA_x (F := fun ds => if ds.length = 2 then F_end_of ([1, 0].map fun i => ds.getD i .none) else none) (ds := [.list (t.map (rpz true)), .int (n : Int)]) (acons_x (fz_x (callA_x (acons_x (get_x rfl) anil_x) rfl (lists_rep (by omega))) rfl) (acons_x (get_x rfl) anil_x)) rfl (kw2 en2)) rfl) (acons_x (fz_x (callA_x (acons_x (get_x rfl) (acons_x (lst_x anil_x rfl (by decide)) anil_x)) rfl en0) rfl) anil_x))) rfl (Nat.le_of_ble_eq_true rfl)) rfl) (Nat.le_of_ble_eq_true rfl)) ?_
  have xx : ∀ s : PySem.Str, eqA true (.str s) (.str s) = some (.bool false) := fun s => by
    show some (PyData.bool (true ^^ decide (s = s))) = _
    rw [decide_eq_true rfl]
    rfl
  refine then_x (ifS_f (orT_f (e1 := [some (.own (dats b3)), w1, some (.dat (.int (n : Int))), some (.dat (.list (t.map rpD))), some (.dat (.str kp)), some (.dat (.tuple ((endL (l0 n) t).map .int))), some (.dat (.list ((CP n t).map prD))), some (.own (dats xs)), some (.dat (.list [.tuple ((endL (l0 n) t).map .int), .tuple ((endL (l0 n) t).map .int), .tuple ((l0 n).map .int)])), w9]) (notT_x (x := true) (tb_x (fz_x (callA_x (acons_x (get_x (env := [some (.own (dats b3)), w1, some (.dat (.int (n : Int))), some (.dat (.list (t.map rpD))), some (.dat (.str kp)), some (.dat (.tuple ((endL (l0 n) t).map .int))), some (.dat (.list ((CP n t).map prD))), some (.own (dats xs)), some (.dat (.list [.tuple ((endL (l0 n) t).map .int), .tuple ((endL (l0 n) t).map .int), .tuple ((l0 n).map .int)])), w9]) (i := 8) rfl) (acons_x (lst_x (acons_x (get_x rfl) (acons_x (get_x rfl) (acons_x (tg1_x (get_x rfl) (by omega)) anil_x))) rfl (Nat.le_of_ble_eq_true rfl)) anil_x)) rfl (same_ok (n := 5) (okL (okA_cons (ok_ti (k := 2) _ el) (okA_cons (ok_ti (k := 2) _ el) (okA_cons (ok_ti (k := 2) _ ll) okA_nil))) (by show 3 < 1000; decide)))) rfl) vwd_x)) (tb_x (op2_x (fo := eqA true) (cb_x (acons_x (get_x (i := 3) rfl) anil_x) (vwC_x vwd_x vw0_x) hk) (get_x rfl) vwd_x vwd_x (xx kp)) vwd_x)) nxt_x) ?_
  refine then_x (e := [some (.own (dats b4)), w1, some (.dat (.int (n : Int))), some (.dat (.list (t.map rpD))), some (.dat (.str kp)), some (.dat (.tuple ((endL (l0 n) t).map .int))), some (.dat (.list ((CP n t).map prD))), some (.own (dats xs)), some (.dat (.list [.tuple ((endL (l0 n) t).map .int), .tuple ((endL (l0 n) t).map .int), .tuple ((l0 n).map .int)])), some (.dat (.int (k : Int)))]) (set_x (e := [some (.own (dats b4)), w1, some (.dat (.int (n : Int))), some (.dat (.list (t.map rpD))), some (.dat (.str kp)), some (.dat (.tuple ((endL (l0 n) t).map .int))), some (.dat (.list ((CP n t).map prD))), some (.own (dats xs)), some (.dat (.list [.tuple ((endL (l0 n) t).map .int), .tuple ((endL (l0 n) t).map .int), .tuple ((l0 n).map .int)])), w9]) (pl_x (fz_x (callB_x rfl (acons_x (op2_x (cb_x (acons_x (get_x (env := [some (.own (dats b3)), w1, some (.dat (.int (n : Int))), some (.dat (.list (t.map rpD))), some (.dat (.str kp)), some (.dat (.tuple ((endL (l0 n) t).map .int))), some (.dat (.list ((CP n t).map prD))), some (.own (dats xs)), some (.dat (.list [.tuple ((endL (l0 n) t).map .int), .tuple ((endL (l0 n) t).map .int), .tuple ((l0 n).map .int)])), w9]) (i := 3) rfl) anil_x) (vwC_x vwd_x vw0_x) (lenLm_x t rpD)) con_x vwd_x vwd_x (addI_x _ _)) anil_x) rfl rfl e4) rfl) rfl) (Nat.le_of_ble_eq_true rfl)) ?_
  have ct : cutD (.list (t.map rpD)) none (some (k : Int)) = some (.list ((t.take k).map rpD)) := cutL_to' (z := rpD)
  have ix0 : ixD (.tuple [.tuple ((endL (l0 n) (t.take k)).map .int), .list ((CP n (t.take k)).map prD)]) (.int 0) = some (.tuple ((endL (l0 n) (t.take k)).map .int)) := rfl
  refine ifS_f (notT_x (x := true) (tb_x (fz_x (callA_x (acons_x (lst_x (acons_x (fz_x (callA_x (acons_x (get_x (env := [some (.own (dats b4)), w1, some (.dat (.int (n : Int))), some (.dat (.list (t.map rpD))), some (.dat (.str kp)), some (.dat (.tuple ((endL (l0 n) t).map .int))), some (.dat (.list ((CP n t).map prD))), some (.own (dats xs)), some (.dat (.list [.tuple ((endL (l0 n) t).map .int), .tuple ((endL (l0 n) t).map .int), .tuple ((l0 n).map .int)])), some (.dat (.int (k : Int)))]) (i := 2) rfl) (acons_x (sl_x (get_x rfl) poN_x (poS_x (get_x rfl)) vwd_x ct) anil_x)) rfl en4) rfl) (acons_x (fz_x (callA_x (acons_x (get_x rfl) (acons_x (lst_x anil_x rfl (by decide)) anil_x)) rfl cm0) (v_ofWo _)) anil_x)) rfl (Nat.le_of_ble_eq_true rfl)) (acons_x (lst_x (acons_x (op2_x (fz_x (callA_x (acons_x (get_x rfl) (acons_x (sl_x (get_x rfl) poN_x (poS_x (get_x rfl)) vwd_x ct) anil_x)) rfl se4) rfl) con_x vwd_x vwd_x ix0) (acons_x (lst_x anil_x rfl (by decide)) anil_x)) rfl (Nat.le_of_ble_eq_true rfl)) anil_x)) rfl (same_ok (n := 5) (okL (okA_cons (ok_ti (k := 2) _ elk) (okA_cons (okL (n := 3) (ds := []) okA_nil (by decide)) okA_nil)) (by show 2 < 1000; decide)))) rfl) vwd_x)) nxt_x
theorem turn_loop : ∀ (ks : List Nat) {m : Int} {bs : List PyData} {w1 w2 w3 w4 w5 w6 w7 w8 w9 : Option Wv}, Bok m bs → m + 300 * ks.length ≤ 10 ^ 4 → ∃ bs2 x1 x2 x3 x4 x5 x6 x7 x8 x9, forM (gN 1) b_right_0 (ks.map nI) [some (.own (dats bs)), w1, w2, w3, w4, w5, w6, w7, w8, w9] = some (.ok .nx [some (.own (dats bs2)), x1, x2, x3, x4, x5, x6, x7, x8, x9]) ∧ Bok (m + 300 * ks.length) bs2
  | [], m, bs, w1, w2, w3, w4, w5, w6, w7, w8, w9, hb, _ => ⟨bs, w1, w2, w3, w4, w5, w6, w7, w8, w9, for_nil, hb.mono (by show m ≤ m + 300 * 0; omega)⟩
  | k :: ks, m, bs, w1, w2, w3, w4, w5, w6, w7, w8, w9, hb, hm => by
    rw [List.length_cons] at hm
    obtain ⟨b1, x2, x3, x4, x5, x6, x7, x8, x9, e1, k1⟩ := turn_ok (w1 := some (.dat (nI k))) (w2 := w2) (w3 := w3) (w4 := w4) (w5 := w5) (w6 := w6) (w7 := w7) (w8 := w8) (w9 := w9) hb (by omega)
    obtain ⟨b2, y1, y2, y3, y4, y5, y6, y7, y8, y9, e2, k2⟩ := turn_loop ks (w1 := some (.dat (nI k))) (w2 := x2) (w3 := x3) (w4 := x4) (w5 := x5) (w6 := x6) (w7 := x7) (w8 := x8) (w9 := x9) k1 (by omega)
    exact ⟨b2, y1, y2, y3, y4, y5, y6, y7, y8, y9, (for_go (e := [some (.own (dats bs)), some (.dat (nI k)), w2, w3, w4, w5, w6, w7, w8, w9]) rfl e1).trans e2, k2.mono (by rw [List.length_cons]; omega)⟩
end
theorem right_ok {n : Int} {bs : List PyData} (hb : Bok n bs) (hn : n ≤ 1000) : ∃ bs', F_right bs [] = some (.dat (.bool true), bs') := by
  obtain ⟨b2, y1, y2, y3, y4, y5, y6, y7, y8, y9, e, _⟩ := turn_loop (List.range' 0 3) (w1 := none) (w2 := none) (w3 := none) (w4 := none) (w5 := none) (w6 := none) (w7 := none) (w8 := none) (w9 := none) hb (by rw [List.length_range']; omega)
  refine ⟨b2, runB_eq rfl ⟨[y1, y2, y3, y4, y5, y6, y7, y8, y9], ?_⟩⟩
  show f_right [some (.own (dats bs)), none, none, none, none, none, none, none, none, none] = _
  unfold f_right
  have s0 : s_right_0 [some (.own (dats bs)), none, none, none, none, none, none, none, none, none] = some (.ok .nx [some (.own (dats b2)), y1, y2, y3, y4, y5, y6, y7, y8, y9]) := by
    unfold s_right_0
    exact for_x (argI_x (acons_x con_x anil_x) rfl (rng1N (n := 3) (by decide))) e
  rw [then_nx s0]
  unfold s_right_1
  exact ret_x (pl_x con_x rfl)
theorem callBt_x {env : En} {FB : List PyData → List PyData → Option (Wv × List PyData)} {W : M Wv} {bs bs' : List PyData} {w : Wv} {e : En} (h : W env = some (.ok (.own (dats bs)) e)) (h2 : FB bs [] = some (w, bs')) : callBt FB W env = some (.ok w e) := by
  unfold callBt
  rw [v_bind, h, v_ok, v_bind]
  show cont (lift (itds (dats bs)) e) _ = _
  rw [itds_dats, v_lift, v_ok, h2]
  rfl
theorem law_ok (ns : List Int) : F_law [.list (ns.map .int)] = some (.dat (.bool true)) := by
  refine runA_eq rfl ⟨[some (.dat (.list (ns.map .int))), none], ?_⟩
  show f_law [some (.dat (.list (ns.map .int))), none] = _
  unfold f_law
  have q : (1 : Int) + min 3 ((ns.length : Nat) : Int) = ((1 + min 3 ns.length : Nat) : Int) := by omega
  have it : argI rngD (acons (op2 addD (con (.int 1)) (cb minD (acons (con (.int 3)) (acons (cb lenD (acons (get 0) anil)) anil)))) anil) [some (.dat (.list (ns.map .int))), none] = some (.ok ((List.range' 0 (1 + min 3 ns.length)).map nI) [some (.dat (.list (ns.map .int))), none]) :=
    argI_x (acons_x (op2_x con_x (cb_x (acons_x con_x (acons_x (cb_x (acons_x (get_x rfl) anil_x) (vwC_x vwd_x vw0_x) (lenLm_x _ _)) anil_x)) (vwC_x vwd_x (vwC_x vwd_x vw0_x)) (min_x _ _)) vwd_x vwd_x ((addI_x _ _).trans (congrArg (fun z => some (PyData.int z)) q))) anil_x) rfl (rng1N (by omega))
  have cm : compM (gN 1) yesT (fz (callBt F_right (callA F_box (acons (get 0) (acons (get 1) anil))))) [1] ((List.range' 0 (1 + min 3 ns.length)).map nI) [] [some (.dat (.list (ns.map .int))), none] = some (.ok ((List.range' 0 (1 + min 3 ns.length)).map fun _ => .bool true) [some (.dat (.list (ns.map .int))), none]) := by
    refine compM_x (fun _ => .bool true) _ (by rw [List.length_range']; omega) fun k hk => ?_
    have hk : k ≤ 3 := by have := List.mem_range'.mp hk; omega
    obtain ⟨bs, b1, b2⟩ := box_ok (ns := ns) (k := (k : Int)) (by omega) (by omega)
    obtain ⟨bs', b3⟩ := right_ok b2 (by decide)
    exact ⟨[some (.dat (.list (ns.map .int))), some (.dat (.int (k : Int)))], rfl, rfl, fz_x (callBt_x (callA_x (acons_x (get_x rfl) (acons_x (get_x rfl) anil_x)) rfl b1) b3) rfl, rfl, rfl⟩
  have al : allD [.list ((List.range' 0 (1 + min 3 ns.length)).map fun _ => PyData.bool true)] = some (.bool true) := by
    show ((boolsD _).map fun bs => PyData.bool (bs.all id)) = _
    have : ∀ l : List Nat, boolsD (l.map fun _ => PyData.bool true) = some (l.map fun _ => true) := fun l => by
      induction l with
      | nil => rfl
      | cons a r ih => show (boolsD (r.map fun _ => PyData.bool true)).map (true :: ·) = _; rw [ih]; rfl
    rw [this]
    simp
  exact ret_x (pl_x (cb_x (acons_x (fz_x (lc_eq it rfl rfl cm) (v_ofWo _)) anil_x) (vwC_x vwd_x vw0_x) al) rfl)
end Ov
set_option Elab.async false
set_option linter.all false
set_option maxRecDepth 100000
set_option maxHeartbeats 4000000
namespace Ov
open PySem L2
theorem all_mk {l : PySem.W.OpenLaw} {w : World} {K : PySem.W.Frag} {h : Heap} {mg : Str → Option Value} {fa f0 f1 f2 f3 f4 f5 f6 f7 f8 f9 f10 f11 f12 f13 f14 f15 f16 : Addr} (X : K.In h) (G : h.Ns mainGlobals mg) (hfa : mg "law" = some (.ref fa))
    {od0 an0 : Option Addr} {sl0 : Array (Option Value)} {oc0 kV0 dc0 pm0 cd0 ct0 : Value}
    {od1 an1 : Option Addr} {sl1 : Array (Option Value)} {oc1 kV1 dc1 pm1 cd1 ct1 : Value}
    {od2 an2 : Option Addr} {sl2 : Array (Option Value)} {oc2 kV2 dc2 pm2 cd2 ct2 : Value}
    {od3 an3 : Option Addr} {sl3 : Array (Option Value)} {oc3 kV3 dc3 pm3 cd3 ct3 : Value}
    {od4 an4 : Option Addr} {sl4 : Array (Option Value)} {oc4 kV4 dc4 pm4 cd4 ct4 : Value}
    {od5 an5 : Option Addr} {sl5 : Array (Option Value)} {oc5 kV5 dc5 pm5 cd5 ct5 : Value}
    {od6 an6 : Option Addr} {sl6 : Array (Option Value)} {oc6 kV6 dc6 pm6 cd6 ct6 : Value}
    {od7 an7 : Option Addr} {sl7 : Array (Option Value)} {oc7 kV7 dc7 pm7 cd7 ct7 : Value}
    {od8 an8 : Option Addr} {sl8 : Array (Option Value)} {oc8 kV8 dc8 pm8 cd8 ct8 : Value}
    {od9 an9 : Option Addr} {sl9 : Array (Option Value)} {oc9 kV9 dc9 pm9 cd9 ct9 : Value}
    {od10 an10 : Option Addr} {sl10 : Array (Option Value)} {oc10 kV10 dc10 pm10 cd10 ct10 : Value}
    {od11 an11 : Option Addr} {sl11 : Array (Option Value)} {oc11 kV11 dc11 pm11 cd11 ct11 : Value}
    {od12 an12 : Option Addr} {sl12 : Array (Option Value)} {oc12 kV12 dc12 pm12 cd12 ct12 : Value}
    {od13 an13 : Option Addr} {sl13 : Array (Option Value)} {oc13 kV13 dc13 pm13 cd13 ct13 : Value}
    {od14 an14 : Option Addr} {sl14 : Array (Option Value)} {oc14 kV14 dc14 pm14 cd14 ct14 : Value}
    {od15 an15 : Option Addr} {sl15 : Array (Option Value)} {oc15 kV15 dc15 pm15 cd15 ct15 : Value}
    {od16 an16 : Option Addr} {sl16 : Array (Option Value)} {oc16 kV16 dc16 pm16 cd16 ct16 : Value}
    
    (a0 : PySem.W.nsIn K mainGlobals "orders" = some (some (.ref f0)))
    (l0 : K.lookup f0 = some ⟨oc0, od0, .func (PySem.W.fnOf "orders" "orders" (defArgs S_orders) (defBody S_orders) (defScope S_orders) .none kV0 dc0 pm0 an0 cd0 ct0), sl0⟩)
    (c0 : PySem.W.codeIn K cd0 "orders" = true)
    (k0 : PySem.W.keepIn K (.ref f0) = true)
    (a1 : PySem.W.nsIn K mainGlobals "comparisons" = some (some (.ref f1)))
    (l1 : K.lookup f1 = some ⟨oc1, od1, .func (PySem.W.fnOf "comparisons" "comparisons" (defArgs S_comparisons) (defBody S_comparisons) (defScope S_comparisons) .none kV1 dc1 pm1 an1 cd1 ct1), sl1⟩)
    (c1 : PySem.W.codeIn K cd1 "comparisons" = true)
    (k1 : PySem.W.keepIn K (.ref f1) = true)
    (a2 : PySem.W.nsIn K mainGlobals "end_of" = some (some (.ref f2)))
    (l2 : K.lookup f2 = some ⟨oc2, od2, .func (PySem.W.fnOf "end_of" "end_of" (defArgs S_end_of) (defBody S_end_of) (defScope S_end_of) .none kV2 dc2 pm2 an2 cd2 ct2), sl2⟩)
    (c2 : PySem.W.codeIn K cd2 "end_of" = true)
    (k2 : PySem.W.keepIn K (.ref f2) = true)
    (a3 : PySem.W.nsIn K mainGlobals "_law_cell_at" = some (some (.ref f3)))
    (l3 : K.lookup f3 = some ⟨oc3, od3, .func (PySem.W.fnOf "_law_cell_at" "_law_cell_at" (defArgs S_cell_at) (defBody S_cell_at) (defScope S_cell_at) .none kV3 dc3 pm3 an3 cd3 ct3), sl3⟩)
    (c3 : PySem.W.codeIn K cd3 "_law_cell_at" = true)
    (k3 : PySem.W.keepIn K (.ref f3) = true)
    (a4 : PySem.W.nsIn K mainGlobals "_law_box" = some (some (.ref f4)))
    (l4 : K.lookup f4 = some ⟨oc4, od4, .func (PySem.W.fnOf "_law_box" "_law_box" (defArgs S_box) (defBody S_box) (defScope S_box) .none kV4 dc4 pm4 an4 cd4 ct4), sl4⟩)
    (c4 : PySem.W.codeIn K cd4 "_law_box" = true)
    (k4 : PySem.W.keepIn K (.ref f4) = true)
    (a5 : PySem.W.nsIn K mainGlobals "_law_take" = some (some (.ref f5)))
    (l5 : K.lookup f5 = some ⟨oc5, od5, .func (PySem.W.fnOf "_law_take" "_law_take" (defArgs S_take) (defBody S_take) (defScope S_take) .none kV5 dc5 pm5 an5 cd5 ct5), sl5⟩)
    (c5 : PySem.W.codeIn K cd5 "_law_take" = true)
    (k5 : PySem.W.keepIn K (.ref f5) = true)
    (a6 : PySem.W.nsIn K mainGlobals "_law_of" = some (some (.ref f6)))
    (l6 : K.lookup f6 = some ⟨oc6, od6, .func (PySem.W.fnOf "_law_of" "_law_of" (defArgs S_of) (defBody S_of) (defScope S_of) .none kV6 dc6 pm6 an6 cd6 ct6), sl6⟩)
    (c6 : PySem.W.codeIn K cd6 "_law_of" = true)
    (k6 : PySem.W.keepIn K (.ref f6) = true)
    (a7 : PySem.W.nsIn K mainGlobals "_law_same" = some (some (.ref f7)))
    (l7 : K.lookup f7 = some ⟨oc7, od7, .func (PySem.W.fnOf "_law_same" "_law_same" (defArgs S_same) (defBody S_same) (defScope S_same) .none kV7 dc7 pm7 an7 cd7 ct7), sl7⟩)
    (c7 : PySem.W.codeIn K cd7 "_law_same" = true)
    (k7 : PySem.W.keepIn K (.ref f7) = true)
    (a8 : PySem.W.nsIn K mainGlobals "_law_strewn" = some (some (.ref f8)))
    (l8 : K.lookup f8 = some ⟨oc8, od8, .func (PySem.W.fnOf "_law_strewn" "_law_strewn" (defArgs S_strewn) (defBody S_strewn) (defScope S_strewn) .none kV8 dc8 pm8 an8 cd8 ct8), sl8⟩)
    (c8 : PySem.W.codeIn K cd8 "_law_strewn" = true)
    (k8 : PySem.W.keepIn K (.ref f8) = true)
    (a9 : PySem.W.nsIn K mainGlobals "_law_lists" = some (some (.ref f9)))
    (l9 : K.lookup f9 = some ⟨oc9, od9, .func (PySem.W.fnOf "_law_lists" "_law_lists" (defArgs S_lists) (defBody S_lists) (defScope S_lists) .none kV9 dc9 pm9 an9 cd9 ct9), sl9⟩)
    (c9 : PySem.W.codeIn K cd9 "_law_lists" = true)
    (k9 : PySem.W.keepIn K (.ref f9) = true)
    (a10 : PySem.W.nsIn K mainGlobals "_law_sees" = some (some (.ref f10)))
    (l10 : K.lookup f10 = some ⟨oc10, od10, .func (PySem.W.fnOf "_law_sees" "_law_sees" (defArgs S_sees) (defBody S_sees) (defScope S_sees) .none kV10 dc10 pm10 an10 cd10 ct10), sl10⟩)
    (c10 : PySem.W.codeIn K cd10 "_law_sees" = true)
    (k10 : PySem.W.keepIn K (.ref f10) = true)
    (a11 : PySem.W.nsIn K mainGlobals "_law_swaps" = some (some (.ref f11)))
    (l11 : K.lookup f11 = some ⟨oc11, od11, .func (PySem.W.fnOf "_law_swaps" "_law_swaps" (defArgs S_swaps) (defBody S_swaps) (defScope S_swaps) .none kV11 dc11 pm11 an11 cd11 ct11), sl11⟩)
    (c11 : PySem.W.codeIn K cd11 "_law_swaps" = true)
    (k11 : PySem.W.keepIn K (.ref f11) = true)
    (a12 : PySem.W.nsIn K mainGlobals "_law_turned" = some (some (.ref f12)))
    (l12 : K.lookup f12 = some ⟨oc12, od12, .func (PySem.W.fnOf "_law_turned" "_law_turned" (defArgs S_turned) (defBody S_turned) (defScope S_turned) .none kV12 dc12 pm12 an12 cd12 ct12), sl12⟩)
    (c12 : PySem.W.codeIn K cd12 "_law_turned" = true)
    (k12 : PySem.W.keepIn K (.ref f12) = true)
    (a13 : PySem.W.nsIn K mainGlobals "_law_seen_in" = some (some (.ref f13)))
    (l13 : K.lookup f13 = some ⟨oc13, od13, .func (PySem.W.fnOf "_law_seen_in" "_law_seen_in" (defArgs S_seen_in) (defBody S_seen_in) (defScope S_seen_in) .none kV13 dc13 pm13 an13 cd13 ct13), sl13⟩)
    (c13 : PySem.W.codeIn K cd13 "_law_seen_in" = true)
    (k13 : PySem.W.keepIn K (.ref f13) = true)
    (a14 : PySem.W.nsIn K mainGlobals "_law_tests" = some (some (.ref f14)))
    (l14 : K.lookup f14 = some ⟨oc14, od14, .func (PySem.W.fnOf "_law_tests" "_law_tests" (defArgs S_tests) (defBody S_tests) (defScope S_tests) .none kV14 dc14 pm14 an14 cd14 ct14), sl14⟩)
    (c14 : PySem.W.codeIn K cd14 "_law_tests" = true)
    (k14 : PySem.W.keepIn K (.ref f14) = true)
    (a15 : PySem.W.nsIn K mainGlobals "_law_right" = some (some (.ref f15)))
    (l15 : K.lookup f15 = some ⟨oc15, od15, .func (PySem.W.fnOf "_law_right" "_law_right" (defArgs S_right) (defBody S_right) (defScope S_right) .none kV15 dc15 pm15 an15 cd15 ct15), sl15⟩)
    (c15 : PySem.W.codeIn K cd15 "_law_right" = true)
    (k15 : PySem.W.keepIn K (.ref f15) = true)
    (a16 : PySem.W.nsIn K mainGlobals "law" = some (some (.ref f16)))
    (l16 : K.lookup f16 = some ⟨oc16, od16, .func (PySem.W.fnOf "law" "law" (defArgs S_law) (defBody S_law) (defScope S_law) .none kV16 dc16 pm16 an16 cd16 ct16), sl16⟩)
    (c16 : PySem.W.codeIn K cd16 "law" = true)
    (k16 : PySem.W.keepIn K (.ref f16) = true)
    (zisinstance : PySem.W.nsIn K mainGlobals "isinstance" = some none)
    (zlist : PySem.W.nsIn K mainGlobals "list" = some none)
    (ztuple : PySem.W.nsIn K mainGlobals "tuple" = some none)
    (zlen : PySem.W.nsIn K mainGlobals "len" = some none)
    (zall : PySem.W.nsIn K mainGlobals "all" = some none)
    (zany : PySem.W.nsIn K mainGlobals "any" = some none)
    (zzip : PySem.W.nsIn K mainGlobals "zip" = some none)
    (zbool : PySem.W.nsIn K mainGlobals "bool" = some none)
    (zstr : PySem.W.nsIn K mainGlobals "str" = some none)
    (zint : PySem.W.nsIn K mainGlobals "int" = some none)
    (zabs : PySem.W.nsIn K mainGlobals "abs" = some none)
    (zmax : PySem.W.nsIn K mainGlobals "max" = some none)
    (zmin : PySem.W.nsIn K mainGlobals "min" = some none)
    (zrange : PySem.W.nsIn K mainGlobals "range" = some none)
    (zsorted : PySem.W.nsIn K mainGlobals "sorted" = some none)
    (zenumerate : PySem.W.nsIn K mainGlobals "enumerate" = some none)
    (zset : PySem.W.nsIn K mainGlobals "set" = some none)
    (zsum : PySem.W.nsIn K mainGlobals "sum" = some none)
    (zreversed : PySem.W.nsIn K mainGlobals "reversed" = some none)
    (zrepr : PySem.W.nsIn K mainGlobals "repr" = some none)
    (zdict : PySem.W.nsIn K mainGlobals "dict" = some none)
    (zValueError : PySem.W.nsIn K mainGlobals "ValueError" = some none)
    (zLookupError : PySem.W.nsIn K mainGlobals "LookupError" = some none)
    (zRuntimeError : PySem.W.nsIn K mainGlobals "RuntimeError" = some none)
    (zOverflowError : PySem.W.nsIn K mainGlobals "OverflowError" = some none)
    (zIndexError : PySem.W.nsIn K mainGlobals "IndexError" = some none)
    (zKeyError : PySem.W.nsIn K mainGlobals "KeyError" = some none)
    (zNotImplementedError : PySem.W.nsIn K mainGlobals "NotImplementedError" = some none) :
    ∃ fd : FuncData, (∀ (s : Shared) (v : Value), BindsTo s fd ⟨[v], []⟩ [("_law_script", v)]) ∧ ∀ base : Heap, K.In base → base.Ns mainGlobals mg → FnG l.prog w K mg base 7 fa fd ["_law_script"] (spA K F_law) := by
  have e := hfa.symm.trans (PySem.W.mg_of X G a16)
  cases e
  have F0 := fun_mk (st := S_orders) l0 c0 k0
  have m0 := PySem.W.mg_of X G a0
  have F1 := fun_mk (st := S_comparisons) l1 c1 k1
  have m1 := PySem.W.mg_of X G a1
  have F2 := fun_mk (st := S_end_of) l2 c2 k2
  have m2 := PySem.W.mg_of X G a2
  have F3 := fun_mk (st := S_cell_at) l3 c3 k3
  have m3 := PySem.W.mg_of X G a3
  have F4 := fun_mk (st := S_box) l4 c4 k4
  have m4 := PySem.W.mg_of X G a4
  have F5 := fun_mk (st := S_take) l5 c5 k5
  have m5 := PySem.W.mg_of X G a5
  have F6 := fun_mk (st := S_of) l6 c6 k6
  have m6 := PySem.W.mg_of X G a6
  have F7 := fun_mk (st := S_same) l7 c7 k7
  have m7 := PySem.W.mg_of X G a7
  have F8 := fun_mk (st := S_strewn) l8 c8 k8
  have m8 := PySem.W.mg_of X G a8
  have F9 := fun_mk (st := S_lists) l9 c9 k9
  have m9 := PySem.W.mg_of X G a9
  have F10 := fun_mk (st := S_sees) l10 c10 k10
  have m10 := PySem.W.mg_of X G a10
  have F11 := fun_mk (st := S_swaps) l11 c11 k11
  have m11 := PySem.W.mg_of X G a11
  have F12 := fun_mk (st := S_turned) l12 c12 k12
  have m12 := PySem.W.mg_of X G a12
  have F13 := fun_mk (st := S_seen_in) l13 c13 k13
  have m13 := PySem.W.mg_of X G a13
  have F14 := fun_mk (st := S_tests) l14 c14 k14
  have m14 := PySem.W.mg_of X G a14
  have F15 := fun_mk (st := S_right) l15 c15 k15
  have m15 := PySem.W.mg_of X G a15
  have F16 := fun_mk (st := S_law) l16 c16 k16
  have m16 := PySem.W.mg_of X G a16
  have B : Blt mg := ⟨PySem.W.mg_none_of X G zisinstance, PySem.W.mg_none_of X G zlist, PySem.W.mg_none_of X G ztuple, PySem.W.mg_none_of X G zlen, PySem.W.mg_none_of X G zall, PySem.W.mg_none_of X G zany, PySem.W.mg_none_of X G zzip, PySem.W.mg_none_of X G zbool, PySem.W.mg_none_of X G zstr, PySem.W.mg_none_of X G zint, PySem.W.mg_none_of X G zabs, PySem.W.mg_none_of X G zmax, PySem.W.mg_none_of X G zmin, PySem.W.mg_none_of X G zrange, PySem.W.mg_none_of X G zsorted, PySem.W.mg_none_of X G zenumerate, PySem.W.mg_none_of X G zset, PySem.W.mg_none_of X G zsum, PySem.W.mg_none_of X G zreversed, PySem.W.mg_none_of X G zrepr, PySem.W.mg_none_of X G zdict, PySem.W.mg_none_of X G zValueError, PySem.W.mg_none_of X G zLookupError, PySem.W.mg_none_of X G zRuntimeError, PySem.W.mg_none_of X G zOverflowError, PySem.W.mg_none_of X G zIndexError, PySem.W.mg_none_of X G zKeyError, PySem.W.mg_none_of X G zNotImplementedError⟩
  have b0 := F0.binds (ps := ["many", "reports"]) fun _ _ _ _ _ _ us hl => match us, hl with | [_, _], _ => rfl
  have b1 := F1.binds (ps := ["many", "reports"]) fun _ _ _ _ _ _ us hl => match us, hl with | [_, _], _ => rfl
  have b2 := F2.binds (ps := ["many", "reports"]) fun _ _ _ _ _ _ us hl => match us, hl with | [_, _], _ => rfl
  have b3 := F3.binds (ps := ["_law_script", "_law_k"]) fun _ _ _ _ _ _ us hl => match us, hl with | [_, _], _ => rfl
  have b4 := F4.binds (ps := ["_law_script", "_law_k"]) fun _ _ _ _ _ _ us hl => match us, hl with | [_, _], _ => rfl
  have b5 := F5.binds (ps := ["_law_box_here", "_law_below"]) fun _ _ _ _ _ _ us hl => match us, hl with | [_, _], _ => rfl
  have b6 := F6.binds (ps := ["_law_box_here", "_law_some"]) fun _ _ _ _ _ _ us hl => match us, hl with | [_, _], _ => rfl
  have b7 := F7.binds (ps := ["_law_found", "_law_due"]) fun _ _ _ _ _ _ us hl => match us, hl with | [_, _], _ => rfl
  have b8 := F8.binds (ps := ["_law_box_here", "_law_some"]) fun _ _ _ _ _ _ us hl => match us, hl with | [_, _], _ => rfl
  have b9 := F9.binds (ps := ["_law_part"]) fun _ _ _ _ _ _ us hl => match us, hl with | [_], _ => rfl
  have b10 := F10.binds (ps := ["_law_crowd", "_law_i", "_law_j"]) fun _ _ _ _ _ _ us hl => match us, hl with | [_, _, _], _ => rfl
  have b11 := F11.binds (ps := ["_law_crowd"]) fun _ _ _ _ _ _ us hl => match us, hl with | [_], _ => rfl
  have b12 := F12.binds (ps := ["_law_crowd", "_law_swap"]) fun _ _ _ _ _ _ us hl => match us, hl with | [_, _], _ => rfl
  have b13 := F13.binds (ps := ["_law_count", "_law_tour"]) fun _ _ _ _ _ _ us hl => match us, hl with | [_, _], _ => rfl
  have b14 := F14.binds (ps := ["_law_box_here", "_law_count", "_law_most", "_law_odds"]) fun _ _ _ _ _ _ us hl => match us, hl with | [_, _, _, _], _ => rfl
  have b15 := F15.binds (ps := ["_law_box_here"]) fun _ _ _ _ _ _ us hl => match us, hl with | [_], _ => rfl
  have q1_0 := kbn_perm (ps := P_comparisons) F1 ["reports", "many"] [1, 0] fun _ _ _ _ _ _ ws hl => match ws, hl with | [_, _], _ => rfl
  have q2_0 := kbn_perm (ps := P_end_of) F2 ["reports", "many"] [1, 0] fun _ _ _ _ _ _ ws hl => match ws, hl with | [_, _], _ => rfl
  refine ⟨PySem.W.fnOf "law" "law" (defArgs S_law) (defBody S_law) (defScope S_law) .none kV16 dc16 pm16 an16 cd16 ct16, fun s v => .of_eq rfl, fun base _ _ => ?_⟩
  have G3 := dk_cell_at (P := l.prog) (w := w) (mg := mg) (base := base) F3  B
  have G4 := dk_box (P := l.prog) (w := w) (mg := mg) (base := base) F4 G3 b3 F3.kp m3 B
  have G5 := dk_take (P := l.prog) (w := w) (mg := mg) (base := base) F5  b5 m5 B 2
  have G6 := dk_of (P := l.prog) (w := w) (mg := mg) (base := base) F6 G5 b5 F5.kp m5 B
  have G7 := dk_same (P := l.prog) (w := w) (mg := mg) (base := base) F7  b7 m7 B 5
  have G8 := dk_strewn (P := l.prog) (w := w) (mg := mg) (base := base) F8 G5 b5 F5.kp m5 B
  have G9 := dk_lists (P := l.prog) (w := w) (mg := mg) (base := base) F9  b9 m9 B 4
  have G10 := dk_sees (P := l.prog) (w := w) (mg := mg) (base := base) F10  B
  have G11 := dk_swaps (P := l.prog) (w := w) (mg := mg) (base := base) F11 G10 b10 F10.kp m10 B
  have G12 := dk_turned (P := l.prog) (w := w) (mg := mg) (base := base) F12  B
  have G13 := dk_seen_in (P := l.prog) (w := w) (mg := mg) (base := base) F13 G12 b12 F12.kp m12 B
  have G14 := dk_tests (P := l.prog) (w := w) (mg := mg) (base := base) F14 G5 b5 F5.kp m5 G8 b8 F8.kp m8 G11 b11 F11.kp m11 G6 b6 F6.kp m6 G12 b12 F12.kp m12 B
  have G0 := dk_orders (P := l.prog) (w := w) (mg := mg) (base := base) F0  B
  have G1 := dk_comparisons (P := l.prog) (w := w) (mg := mg) (base := base) F1 G0 b0 F0.kp m0 B
  have G2 := dk_end_of (P := l.prog) (w := w) (mg := mg) (base := base) F2 G0 b0 F0.kp m0 B
  have G15 := dk_right (P := l.prog) (w := w) (mg := mg) (base := base) F15 G5 b5 F5.kp m5 G6 b6 F6.kp m6 G14 b14 F14.kp m14 G13 b13 F13.kp m13 G1 b1 F1.kp m1 q1_0 G9 b9 F9.kp m9 G7 b7 F7.kp m7 G2 b2 F2.kp m2 q2_0 B
  exact dk_law F16 G4 b4 F4.kp m4 G15 b15 F15.kp m15 B
theorem walk {l : PySem.W.OpenLaw} {q : Program} {loose : List Str} {XP : (Str → Option Value) → Heap → Prop} {YP : World → Heap → Prop} {d : DefRec} {K : Params → PySem.W.Frag} (hn : l.most = some 63) (hdf : d.params.defaults = [])
    (hY : ∀ (w : World) (h : Heap), YP w h → (K w.params).In h)
    (F : ∀ (w : World) (mg : Str → Option Value) (fa : Addr) (h : Heap), (K w.params).In h → h.Ns mainGlobals mg → mg d.name = some (.ref fa) →
      ∃ fd : FuncData, (∀ (s : Shared) (u : Value), BindsTo s fd ⟨[u], []⟩ [("_law_script", u)]) ∧ ∀ base : Heap, (K w.params).In base → base.Ns mainGlobals mg → FnG l.prog w (K w.params) mg base 7 fa fd ["_law_script"] (spA (K w.params) F_law)) :
    PySem.W.WalkO q loose XP YP l.row.toRowW d [] (fun f vs => PySem.call f vs) :=
  walkG (n := 63) (k := 7) (x := "_law_script") (sp := fun w => spA (K w.params) F_law) hn (by decide) hdf ⟨rfl, by decide, by decide⟩ hY F fun _ _ a ns hl hS => law_sp F_law (law_ok ns) hS
end Ov
open PySem PySem.W PyProof.Rows
set_option maxRecDepth 100000 in
set_option maxHeartbeats 0 in
theorem PySem.Challenge.cw_overlooks_k33_comparisons_of_reports_holds : PySem.Challenge.rw_overlooks_k33_comparisons_of_reports.Holds := by
  w_on; o_law; k_head; (case hw => w_witness2)
  k_fill
  refine Ov.walk (l := PySem.Challenge.rw_overlooks_k33_comparisons_of_reports) rfl rfl (fun w h Y => PySem.W.kIn_of Y) ?F
  case F =>
    intro w mg fa h KX G hmg
    refine' Ov.all_mk KX G hmg ?a0 ?l0 ?c0 ?k0 ?a1 ?l1 ?c1 ?k1 ?a2 ?l2 ?c2 ?k2 ?a3 ?l3 ?c3 ?k3 ?a4 ?l4 ?c4 ?k4 ?a5 ?l5 ?c5 ?k5 ?a6 ?l6 ?c6 ?k6 ?a7 ?l7 ?c7 ?k7 ?a8 ?l8 ?c8 ?k8 ?a9 ?l9 ?c9 ?k9 ?a10 ?l10 ?c10 ?k10 ?a11 ?l11 ?c11 ?k11 ?a12 ?l12 ?c12 ?k12 ?a13 ?l13 ?c13 ?k13 ?a14 ?l14 ?c14 ?k14 ?a15 ?l15 ?c15 ?k15 ?a16 ?l16 ?c16 ?k16 ?zisinstance ?zlist ?ztuple ?zlen ?zall ?zany ?zzip ?zbool ?zstr ?zint ?zabs ?zmax ?zmin ?zrange ?zsorted ?zenumerate ?zset ?zsum ?zreversed ?zrepr ?zdict ?zValueError ?zLookupError ?zRuntimeError ?zOverflowError ?zIndexError ?zKeyError ?zNotImplementedError
    (case a0 => k_is)
    (case l0 => k_is)
    (case c0 => k_is)
    (case k0 => k_is)
    (case a1 => k_is)
    (case l1 => k_is)
    (case c1 => k_is)
    (case k1 => k_is)
    (case a2 => k_is)
    (case l2 => k_is)
    (case c2 => k_is)
    (case k2 => k_is)
    (case a3 => k_is)
    (case l3 => k_is)
    (case c3 => k_is)
    (case k3 => k_is)
    (case a4 => k_is)
    (case l4 => k_is)
    (case c4 => k_is)
    (case k4 => k_is)
    (case a5 => k_is)
    (case l5 => k_is)
    (case c5 => k_is)
    (case k5 => k_is)
    (case a6 => k_is)
    (case l6 => k_is)
    (case c6 => k_is)
    (case k6 => k_is)
    (case a7 => k_is)
    (case l7 => k_is)
    (case c7 => k_is)
    (case k7 => k_is)
    (case a8 => k_is)
    (case l8 => k_is)
    (case c8 => k_is)
    (case k8 => k_is)
    (case a9 => k_is)
    (case l9 => k_is)
    (case c9 => k_is)
    (case k9 => k_is)
    (case a10 => k_is)
    (case l10 => k_is)
    (case c10 => k_is)
    (case k10 => k_is)
    (case a11 => k_is)
    (case l11 => k_is)
    (case c11 => k_is)
    (case k11 => k_is)
    (case a12 => k_is)
    (case l12 => k_is)
    (case c12 => k_is)
    (case k12 => k_is)
    (case a13 => k_is)
    (case l13 => k_is)
    (case c13 => k_is)
    (case k13 => k_is)
    (case a14 => k_is)
    (case l14 => k_is)
    (case c14 => k_is)
    (case k14 => k_is)
    (case a15 => k_is)
    (case l15 => k_is)
    (case c15 => k_is)
    (case k15 => k_is)
    (case a16 => k_is)
    (case l16 => k_is)
    (case c16 => k_is)
    (case k16 => k_is)
    (case zisinstance => k_is)
    (case zlist => k_is)
    (case ztuple => k_is)
    (case zlen => k_is)
    (case zall => k_is)
    (case zany => k_is)
    (case zzip => k_is)
    (case zbool => k_is)
    (case zstr => k_is)
    (case zint => k_is)
    (case zabs => k_is)
    (case zmax => k_is)
    (case zmin => k_is)
    (case zrange => k_is)
    (case zsorted => k_is)
    (case zenumerate => k_is)
    (case zset => k_is)
    (case zsum => k_is)
    (case zreversed => k_is)
    (case zrepr => k_is)
    (case zdict => k_is)
    (case zValueError => k_is)
    (case zLookupError => k_is)
    (case zRuntimeError => k_is)
    (case zOverflowError => k_is)
    (case zIndexError => k_is)
    (case zKeyError => k_is)
    (case zNotImplementedError => k_is)
