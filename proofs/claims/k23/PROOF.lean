import PyProof.Rows.All
import Wide.All
import OpenK.AllK
import Wide.FinOn
import HandS.ForMost
import HandS.More
import HandS.IsInst
import HandS.Walk
import HandS.Zip
import HandS.Defaults
import HandS.MakeKwOnly
import HandS.ExcInit
import KE.KExcInit
import KE.KExcIs
import HandS.Evl
import HandS.Style
import HandS.CallSlots
import HandS.TryOnly
import HandS.WordsExc
import KE.KTryMore
import HandS.TupAny
import HandS.Ends
import HandS.SetFor
import HandS.TupSets
import HandS.DictComp
import HandS.Iter
import KE.KRevSl
import KE.GoesEnumKw
import KE.GoesMore
import HandS.SortInts
import PyProof.ListCopy
import PyProof.ReprLen
import PyProof.Rows.ReprOcc
import PyProof.StrLawsRepr
import HandS.DictTup
import KE.KeyNested
import KE.KDictDisplayH
import HandS.Deep
import HandS.Conv
import HandS.Rev
import KE.GoesEnum
import KE.KDictZip
import PyProof.Rows.RuleDivmod
import HandS.TupMul
import HandS.Wide
import HandS.SortRule
import HandS.NoneIn
import HandS.SortKw
import HandS.NamedTupSort
import KE.DataMinMax
import KE.SortData
import KE.KDictWalk
import HandS.DictSubView
import HandS.TupLen
import KE.KDictSum
import PyProof.Rows.SetFrom
import HandS.Set
import KE.KSortKey
import HandS.Strs
import KE.KTupSum
import PySem.Challenge.RW_overlooks_k23_numbers_of_lots
set_option Elab.async false
set_option linter.all false
set_option maxRecDepth 100000
set_option maxHeartbeats 4000000
/-! exceptions of the program's own classes as values -/
namespace OvX
open PySem PySem.W PySem.Calls PyProof.Rows PySem.HandSPX PySem.Builtin PySem.Builtin.ObjectAttr
/-- what the written part says of an own class of exceptions -/
structure ExK (K : Frag) (C : Addr) (bmB : List Value) (newId : String) : Prop where
  over : excOver K C bmB = true
  ini : excInitIn K C bmB newId = true
  sa : findIn K (.ref C) "__setattr__" = some (some (.builtin "object.__setattr__"))
  ga : findIn K (.ref C) "__getattribute__" = some (some (.builtin "BaseException.__getattribute__"))
  gg : findIn K (.ref C) "__getattr__" = some none
  exC : subIn K (.ref C) (.type "BaseException") = some true
  hd : hasDictIn K C = true
  kC : keepIn K (.ref C) = true
  ca : findIn K (.ref C) "__class__" = some (some (.builtin "object.__class__"))
  sp : specialIn K (.builtin "object.__class__") "__get__" = some (some (.builtin "getset_descriptor.__get__"))
  tk : takesIn K (.builtin "object.__class__") = some true
  mr : mroIn K C (.type "object") = some true
end OvX
set_option Elab.async false
set_option linter.all false
set_option maxRecDepth 100000
set_option maxHeartbeats 4000000
namespace Ov
open PySem L2
section
variable {X : Cx} {CX : CXT} {k n : Nat} {fI C : Addr} {fd : FuncData} {ps ks : List Str} {sp : Sp} {E : XK} {x : Str} {p pos : Pos} {e o : Expr} {es : List Expr} {kws : List Keyword} {t tk : TA} {te : TE} {g : List Value → List Value → List Value} {gV : List V → List V → List V} {B newId initId : String} {bmB : List Value}
/-- an exception of the class at C at a, with the attributes fs -/
def Exc (K : PySem.W.Frag) (H : Hp) (a C : Addr) (fs : List (Str × V)) : Prop := ∃ bmB newId, OvX.ExK K C bmB newId ∧ ((fs = [] ∧ H a = some (exo a C none)) ∨ ∃ dx, H a = some (exo a C (some dx)) ∧ H dx = some (exd dx fs))
theorem Exc.same {K : PySem.W.Frag} {H H' : Hp} {a C : Addr} {fs : List (Str × V)} (h : Exc K H a C fs) (s : Same H H') : Exc K H' a C fs := by
  obtain ⟨b, m, T, h⟩ := h
  rcases h with ⟨e, h⟩ | ⟨dx, h1, h2⟩
  · exact ⟨b, m, T, .inl ⟨e, s _ _ h⟩⟩
  · exact ⟨b, m, T, .inr ⟨dx, s _ _ h1, s _ _ h2⟩⟩
end
end Ov
set_option Elab.async false
set_option linter.all false
set_option maxRecDepth 100000
set_option maxHeartbeats 4000000
namespace Ov
open PySem L2
/-! heaps -/
def SameB (p : Addr) (H H' : Hp) : Prop := ∀ b o, b ≠ p → H b = some o → H' b = some o
theorem SameB.refl (p : Addr) (H : Hp) : SameB p H H := fun _ _ _ h => h
theorem SameB.trans {p : Addr} {H H1 H2 : Hp} (a : SameB p H H1) (b : SameB p H1 H2) : SameB p H H2 := fun c o n h => b c o n (a c o n h)
theorem SameB.of {p : Addr} {H H' : Hp} (a : Same H H') : SameB p H H' := fun c o _ h => a c o h
theorem same_new {H : Hp} {p : Addr} (h : H p = none) (o : HO) : Same H (upd H p o) := fun b u q => by rw [upd_ne (ne_of_none q h)]; exact q
def Bx (H : Hp) (p : Addr) (n : Int) : Prop := ∃ b0 b1 b2 : Int, H p = some (.lst [.int b0, .int b1, .int b2]) ∧ 0 ≤ b0 ∧ 0 ≤ b1 ∧ b1 < 2 ^ 62 ∧ 0 ≤ b2 ∧ b2 ≤ n
theorem Bx.mono {H : Hp} {p : Addr} {n m : Int} (h : Bx H p n) (e : n ≤ m) : Bx H p m := by
  obtain ⟨b0, b1, b2, h1, h2, h3, h4, h5, h6⟩ := h
  exact ⟨b0, b1, b2, h1, h2, h3, h4, h5, by omega⟩
theorem Bx.same {H H' : Hp} {p : Addr} {n : Int} (h : Bx H p n) (e : Same H H') : Bx H' p n := by
  obtain ⟨b0, b1, b2, h1, h2⟩ := h
  exact ⟨b0, b1, b2, e _ _ h1, h2⟩
theorem small {n : Nat} (h : n ≤ 1000) : n ≤ sizeLine := Nat.le_of_lt (small1000 h)
theorem same_refl (H : Hp) : Same H H := fun _ _ h => h
theorem smallB {n : Nat} (h : Nat.ble n 1000 = true) : n ≤ sizeLine := small (Nat.le_of_ble_eq_true h)
theorem Exc.mut {K : PySem.W.Frag} {H H' : Hp} {a C p : Addr} {fs : List (Str × V)} {xs : List V} (h : Exc K H a C fs) (hp : H p = some (.lst xs)) (s : SameB p H H') : Exc K H' a C fs := by
  obtain ⟨b, m, T, h⟩ := h
  have n1 : ∀ q d, exo q C d ≠ .lst xs := fun q d z => by
    have z' : HO.ext _ = HO.lst xs := z
    cases z'
  rcases h with ⟨e, h⟩ | ⟨dx, h1, h2⟩
  · exact ⟨b, m, T, .inl ⟨e, s _ _ (fun z => by rw [z, hp] at h; exact n1 _ _ (Option.some.inj h).symm) h⟩⟩
  · refine ⟨b, m, T, .inr ⟨dx, s _ _ (fun z => by rw [z, hp] at h1; exact n1 _ _ (Option.some.inj h1).symm) h1, s _ _ (fun z => ?_) h2⟩⟩
    rw [z, hp] at h2
    have z' : HO.lst xs = HO.ext _ := Option.some.inj h2
    cases z'
/-! values that are the same data, of depth below n -/
def flat : V → Bool
  | .non | .bl _ | .int _ | .str _ => true
  | _ => false
def Sm (K : PySem.W.Frag) : Nat → Hp → V → V → Prop
  | 0, _, _, _ => False
  | n + 1, H, x, y => (x = y ∧ flat x = true) ∨ (∃ (a b : Addr) (xs ys : List V), x = .ref a ∧ y = .ref b ∧ ((SqL K H a xs ∧ SqL K H b ys) ∨ (SqT K H a xs ∧ SqT K H b ys)) ∧ xs.length = ys.length ∧ xs.length ≤ 1000 ∧
      ∀ (i : Nat) (u v : V), xs[i]? = some u → ys[i]? = some v → Sm K n H u v)
theorem seqT {K : PySem.W.Frag} {H H' : Hp} {a : Addr} {xs : List V} (e : Same H H') (h : SqT K H a xs) : SqT K H' a xs := by
  rcases h with (h | ⟨o, h⟩) | h
  · exact .inl (.inl (e _ _ h))
  · exact .inl (.inr ⟨o, e _ _ h⟩)
  · exact .inr h
theorem Sm.same {K : PySem.W.Frag} {H H' : Hp} (e : Same H H') : ∀ {n : Nat} {x y : V}, Sm K n H x y → Sm K n H' x y := by
  intro n
  induction n with
  | zero => intro x y h; exact h
  | succ n ih =>
    intro x y h
    unfold Sm at h ⊢
    rcases h with h | ⟨a, b, xs, ys, h1, h2, h3, h4, h5, h6⟩
    · exact .inl h
    · exact .inr ⟨a, b, xs, ys, h1, h2, h3.imp (fun z => ⟨e.seq z.1, e.seq z.2⟩) (fun z => ⟨seqT e z.1, seqT e z.2⟩), h4, h5, fun i u v p q => ih (h6 i u v p q)⟩
theorem walk_zipT {K : PySem.W.Frag} {a b : Addr} {xs ys : List V} {n : Nat} (hn : n = min xs.length ys.length) : Walk (RZ.ItzT K a b) n (fun H => SqT K H a xs ∧ SqT K H b ys) (YPair (fun i => xs[i]?) (fun i => ys[i]?)) := by
  subst hn
  refine ⟨fun i H hi q => ?_, fun H q => ⟨xs, ys, q.1, q.2, by omega⟩, fun i H x H' hi q y => ?_⟩
  · have h1 : i < xs.length := by omega
    have h2 : i < ys.length := by omega
    exact ⟨xs, ys, xs[i], ys[i], q.1, q.2, List.getElem?_eq_getElem h1, List.getElem?_eq_getElem h2⟩
  · obtain ⟨T, u, v, e1, e2, e3, e4, e5⟩ := y
    exact ⟨T, u, v, e1, e2, e3, e4 _ q.1, e5 _ q.2⟩
theorem tyL {K : PySem.W.Frag} {H : Hp} {a : Addr} {xs : List V} (h : SqL K H a xs) : TyX K H (.ref a) (.type "list") := by
  rcases h with (h | ⟨o, h⟩) | ⟨o, its, n, h1, h2, _⟩
  · exact .base (.lst h)
  · exact .base (.frz h)
  · exact .kList h1 h2
theorem tyT {K : PySem.W.Frag} {H : Hp} {a : Addr} {xs : List V} (h : SqT K H a xs) : TyX K H (.ref a) (.type "tuple") := by
  rcases h with (h | ⟨o, h⟩) | ⟨o, its, n, h1, h2, _⟩
  · exact .base (.tup h)
  · exact .fTuple h
  · exact .kTuple h1 h2
theorem kit2 {K : PySem.W.Frag} {a b c : String} {r1 r2 : Bool} (h1 : kitB a b = some r1) (h2 : kitB a c = some r2) : PySem.W.kitAny K (.type a) [.type b, .type c] = some (r1 || r2) :=
  kitAny_cons (kit_ty h1) (fun e => by subst e; exact kitAny_cons (kit_ty h2) (fun e => by subst e; exact kitAny_nil) (fun e => by subst e; rfl)) (fun e => by subst e; rfl)
/-! list.count of flat items -/
/-- built-in names that the module does not bind -/
structure Blt (mg : Str → Option Value) : Prop where
  isinstance : mg "isinstance" = none
  list : mg "list" = none
  tuple : mg "tuple" = none
  len : mg "len" = none
  all : mg "all" = none
  any : mg "any" = none
  zip : mg "zip" = none
  bool : mg "bool" = none
  str : mg "str" = none
  int : mg "int" = none
  abs : mg "abs" = none
  max : mg "max" = none
  min : mg "min" = none
  range : mg "range" = none
  sorted : mg "sorted" = none
  enumerate : mg "enumerate" = none
  set : mg "set" = none
  sum : mg "sum" = none
  reversed : mg "reversed" = none
  repr : mg "repr" = none
  dict : mg "dict" = none
  ValueError : mg "ValueError" = none
  LookupError : mg "LookupError" = none
  RuntimeError : mg "RuntimeError" = none
  OverflowError : mg "OverflowError" = none
  IndexError : mg "IndexError" = none
  KeyError : mg "KeyError" = none
  NotImplementedError : mg "NotImplementedError" = none
end Ov
set_option Elab.async false
set_option linter.all false
set_option maxRecDepth 100000
set_option maxHeartbeats 4000000
namespace Ov
open PySem L2
/-! lists, numbers -/
/-! ints as data -/
def dInts (ns : List Int) : PyData := .list (ns.map .int)
theorem lay_ints : ∀ ns : List Int, PyData.canLayAll0 (ns.map PyData.int) = true
  | [] => rfl
  | n :: r => by
    show (PyData.canLay0 (.int n) && PyData.canLayAll0 (r.map PyData.int)) = true
    rw [lay_ints r]
    rfl
theorem depth_ints : ∀ ns : List Int, PyData.depthAll (ns.map PyData.int) ≤ 1
  | [] => Nat.zero_le _
  | n :: r => by
    have ih := depth_ints r
    show max (PyData.depth (.int n)) (PyData.depthAll (r.map PyData.int)) ≤ 1
    have e : PyData.depth (.int n) ≤ 1 := by
      first
        | exact Nat.zero_le _
        | exact Nat.le_refl _
    omega
theorem sh_ints (ns : List Int) : SeqAt.shaped (dInts ns) = true := by
  unfold SeqAt.shaped
  have h1 : PyData.canLay0 (dInts ns) = true := lay_ints ns
  have h2 : PyData.depth (dInts ns) ≤ 64 := by
    have := depth_ints ns
    show PyData.depthAll (ns.map PyData.int) + 1 ≤ 64
    omega
  rw [h1, decide_eq_true h2]
  rfl
/-! dicts of numbers, all True -/
def kvs (ks : List Int) : List (Key × V) := ks.map fun k => (Sum.inl k, .bl true)
end Ov
set_option Elab.async false
set_option linter.all false
set_option maxRecDepth 100000
set_option maxHeartbeats 4000000
namespace Ov
open PySem L2
/-- an exception that was caught, of the class at C, its dict d -/
def exg (a C : Addr) (d : Option Addr) : HO := .ext fun h => ∃ (oe : Obj) (vs : Array Value), h.get? a = some oe ∧ oe.cls = .ref C ∧ oe.dict = d ∧ oe.data = .fields vs
/-- names of classes, one after the other -/
inductive Nms (X : Cx) : List Expr → List Value → Prop where
  | nil : Nms X [] []
  | cons {x : Str} {p : Pos} {c : Value} {es : List Expr} {cs : List Value} (hg : Gl X x) (hd : (x == ("__debug__" : Str)) = false) (hm : X.mg x = some c) (he : starEach (.Name x p :: es) X.env = (false, eval (.Name x p) X.env) :: starEach es X.env) (r : Nms X es cs) : Nms X (.Name x p :: es) (c :: cs)
theorem Nms.run {X : Cx} {pins : List (Addr × Obj)} {σ : L2.St} {H : Hp} {s : Shared} {E : Value → Shared → Prop} {pos : Pos} (I : Inv X pins σ H s) : ∀ {es : List Expr} {cs : List Value} {Q : List Value → Shared → Prop}, Nms X es cs → Q cs s → wpAny (model X.prog X.w) X.A (spliced (backTo pos (starEach es X.env))) Q E s
  | _, _, _, .nil, q => wpAny_items_nil q
  | _, _, _, .cons hg hd hm he r, q => wpAny_items_cons (ld_glob I hg hm (Nms.run I r q) hd) he
/-- what such a try wishes of an exception of the body: it is caught, held by slot i in the suite, and kept behind it -/
def wKeep (t : Value → Value → Bool) (K : PySem.W.Frag) (cs : List Value) (i : Nat) (ts : Addr → Value → Option Addr → TS) (D : Ends) : WX := fun cls d σ H =>
  ∃ C : Addr, cls = .ref C ∧ (∀ c ∈ cs, PySem.W.exmOne K cls c = some (t cls c)) ∧ cs.any (t cls) = true ∧
    ∀ a, H a = none → ts a cls d { nx := fun σ' H' => D.nx (σ'.set i none) (upd H' a (exg a C d)), rt := fun _ _ => False, bk := fun _ _ => False, ct := fun _ _ => False } (σ.set i (some (.ref a))) H
end Ov
set_option Elab.async false
set_option linter.all false
set_option maxRecDepth 100000
set_option maxHeartbeats 4000000
namespace Ov
open PySem L2
abbrev tlValueError : List Value := [.type "ValueError", .type "Exception", .type "BaseException", .type "object"]
abbrev tlLookupError : List Value := [.type "LookupError", .type "Exception", .type "BaseException", .type "object"]
abbrev tlRuntimeError : List Value := [.type "RuntimeError", .type "Exception", .type "BaseException", .type "object"]
abbrev tlOverflowError : List Value := [.type "OverflowError", .type "ArithmeticError", .type "Exception", .type "BaseException", .type "object"]
def tl : Nat → List Value
  | 0 => tlValueError
  | 1 => tlLookupError
  | 2 => tlRuntimeError
  | _ => tlOverflowError
def nw : Nat → String
  | 0 => "ValueError.__new__"
  | 1 => "LookupError.__new__"
  | 2 => "RuntimeError.__new__"
  | _ => "OverflowError.__new__"
structure Cl (K : PySem.W.Frag) (C : Addr) (k : Nat) : Prop where
  ex : OvX.ExK K C (tl k) (nw k)
  mro : (PySem.W.clsIn K C).map (·.mro) = some (.ref C :: tl k)
  ty : PySem.W.typeIn K (.ref C) = some (.type "type")
theorem tl_ref (k : Nat) (D : Addr) : (tl k).contains (.ref D) = false := by
  match k with
  | 0 => rfl
  | 1 => rfl
  | 2 => rfl
  | _ + 3 => rfl
theorem Cl.sub {K : PySem.W.Frag} {C : Addr} {k : Nat} (x : Cl K C k) (v : Value) : PySem.W.subIn K (.ref C) v = some ((Value.ref C :: tl k).contains v) := by
  obtain ⟨cd, h1, h2⟩ := Option.map_eq_some_iff.mp x.mro
  show PySem.W.mroIn K C v = _
  unfold PySem.W.mroIn
  rw [h1, Option.bind_some, h2]
  rfl
theorem Cl.own {K : PySem.W.Frag} {C D : Addr} {k j : Nat} (x : Cl K C k) (y : Cl K D j) : PySem.W.kitOne K (.ref C) (.ref D) = some (decide (C = D)) := by
  unfold PySem.W.kitOne
  by_cases h : C = D
  · subst h
    rw [if_pos (beq_self_eq_true _), decide_eq_true rfl]
  · have e : (Value.ref C == Value.ref D) = false := beq_eq_false_iff_ne.mpr fun z => h (Value.ref.inj z)
    rw [e, if_neg Bool.false_ne_true, decide_eq_false h]
    obtain ⟨cd, h1, h2⟩ := Option.map_eq_some_iff.mp y.mro
    show (if ((PySem.W.clsIn K D).isSome && PySem.W.typeIn K (.ref D) == some (.type "type")) = true then PySem.W.subIn K (.ref C) (.ref D) else none) = some false
    rw [h1, y.ty, if_pos (by rfl), x.sub, List.contains_cons, tl_ref]
    rw [show (Value.ref D == Value.ref C) = false from beq_eq_false_iff_ne.mpr fun z => h (Value.ref.inj z).symm]
    rfl
def E0 : XK := fun _ _ _ => False
/-! the three ways -/
theorem laid {H : Hp} {a dx C : Addr} {f : Str} {v : V} (na : H a = none) (nd : upd H a (exo a C none) dx = none) (ne : dx ≠ a) :
    Same H (upd (upd (upd H a (exo a C none)) dx (exd dx [(f, v)])) a (exo a C (some dx))) := fun b o h => by
  have hb : b ≠ a := ne_of_none h na
  have hd : b ≠ dx := ne_of_none h (by rw [upd_ne ne] at nd; exact nd)
  rw [upd_ne hb, upd_ne hd, upd_ne hb]
  exact h
/-! raise C(e) -/
/-! a caught exception -/
def Cau (K : PySem.W.Frag) (H : Hp) (a C : Addr) (fs : List (Str × V)) : Prop := ∃ (k : Nat) (d : Addr), Cl K C k ∧ H a = some (exg a C (some d)) ∧ H d = some (.xd fs)
theorem Cau.same {K : PySem.W.Frag} {H H' : Hp} {a C : Addr} {fs : List (Str × V)} (h : Cau K H a C fs) (s : Same H H') : Cau K H' a C fs := by
  obtain ⟨k, d, x, h1, h2⟩ := h
  exact ⟨k, d, x, s _ _ h1, s _ _ h2⟩
/-! f(k = v, ..): keywords alone -/
section
variable {X : Cx} {CX : CXT} {k : Nat} {f : Addr} {fd : FuncData} {ps ks : List Str} {sp : Sp} {x : Str} {p pos : Pos} {kws : List Keyword} {tk : TA} {g : List Value → List Value → List Value} {gV : List V → List V → List V}
theorem pe_callK0 {E : XK} (F : FnOk X.prog X.w X.K X.mg X.base CX k f fd ps sp) (hr : Room k X.A) (hg : Gl X x) (hm : X.mg x = some (.ref f)) (hk : PySem.W.keepIn X.K (.ref f) = true) (hb : KBn X.K fd ps 0 ks g gV) (hx : Passes CX X E) (hkw : PK X kws tk)
    (hall : (backToKw pos (keywordEach kws X.env)).all (·.1.isSome) = true := by rfl) (hks : (backToKw pos (keywordEach kws X.env)).filterMap (·.1) = ks := by rfl) (hdb : (x == ("__debug__" : Str)) = false := by decide)
    (hpl : ((backTo pos (starEach [] X.env)).any (·.1) || (backToKw pos (keywordEach kws X.env)).any (·.1.isNone)) = false := by rfl) :
    PE X (.Call (.Name x p) [] kws pos) (tCallN 0 ks.length sp gV E tNil tk) := by
  refine ⟨fun pins s σ H Q I h => ?_⟩
  refine wpAny_Call_Name_kw (ld_glob I hg hm ?_ hdb)
  refine PySem.W.callWith_KW0 (h₀ := X.base) I.ok.mod.kin hk hall ?_ hpl
  refine thn (hkw.run pos pins s σ H _ I h) fun ws s2 ⟨zs, H2, I2, rz, l1, l2, q2⟩ => ⟨I2.kIn, ?_⟩
  rw [hks]
  exact run_fnN (us := []) (vs := []) F hr hb hx I2 .nil rz rfl l2 q2
end
end Ov
set_option Elab.async false
set_option linter.all false
set_option maxRecDepth 100000
set_option maxHeartbeats 4000000
namespace Ov
open PySem L2
/-! sequences that are lists or tuples -/
/-- a tuple that stands in the written part -/
def TP (H : Hp) (a : Addr) (xs : List V) : Prop := H a = some (.tup xs)
theorem TP.sq {K : PySem.W.Frag} {H : Hp} {a : Addr} {xs : List V} (h : TP H a xs) : SqT K H a xs := .inl (.inl h)
theorem TP.same {H H' : Hp} {a : Addr} {xs : List V} (h : TP H a xs) (s : Same H H') : TP H' a xs := s _ _ h
theorem seqP {K : PySem.W.Frag} {H H' : Hp} {a : Addr} {xs : List V} (s : Same H H') (h : TP H a xs) : SqT K H' a xs := (h.same s).sq
def Sq (K : PySem.W.Frag) (H : Hp) (a : Addr) (xs : List V) : Prop := SqL K H a xs ∨ SqT K H a xs
theorem Sq.same {K : PySem.W.Frag} {H H' : Hp} {a : Addr} {xs : List V} (h : Sq K H a xs) (s : Same H H') : Sq K H' a xs := h.imp (fun z => s.seq z) (fun z => seqT s z)
theorem cut_all {xs : List V} {lo hi : Option Int} (h : HT.sIx xs.length 0 lo = 0 ∧ HT.sIx xs.length xs.length hi = xs.length) : cutV xs lo hi = xs := by
  unfold cutV
  rw [h.1, h.2]
  simp
section
variable {X : Cx}
/-- a slice of a list or a tuple, by its items -/
def rCut (K : PySem.W.Frag) : V → Option Int → Option Int → Hp → VK → Prop := fun x lo hi H Q => ∃ (a : Addr) (xs : List V), x = .ref a ∧
  ((SqL K H a xs ∧ ∀ p H', Same H H' → H p = none → H' p = some (.lst (cutV xs lo hi)) → Q (.ref p) H') ∨ (TP H a xs ∧ ∀ p H', Same H H' → TP H' p (cutV xs lo hi) → Q (.ref p) H'))
theorem sl_cut : SlR X (rCut X.K) := by
  intro pins s σ H x v vl vu lo hi sl Q I rx hs pl pu q
  obtain ⟨a, xs, rfl, ⟨h, q⟩ | ⟨h, q⟩⟩ := q
  · exact sl_list pins s σ H _ v vl vu lo hi sl Q I rx hs pl pu ⟨a, xs, rfl, h, fun p hp => q p _ (same_new hp _) hp upd_same⟩
  · exact sl_tupA pins s σ H _ v vl vu lo hi sl Q I rx hs pl pu ⟨a, xs, rfl, h.sq, fun z => q a H (same_refl H) (by rw [cut_all z]; exact h), fun _ p hp => q p _ (same_new hp _) upd_same⟩
/-- t + u, by its items -/
def rCatW (K : PySem.W.Frag) : R2 := fun x y H Q => ∃ (a b : Addr) (xs ys : List V), x = .ref a ∧ y = .ref b ∧ TP H a xs ∧ TP H b ys ∧ xs.length + ys.length ≤ sizeLine ∧ ∀ p H', Same H H' → TP H' p (xs ++ ys) → Q (.ref p) H'
theorem op_catW : OpR X (binaryOp .Add) (rCatW X.K) := by
  intro pins s σ H x y v u Q I rx ry h
  obtain ⟨a, b, xs, ys, rfl, rfl, ha, hb, hl, q⟩ := h
  refine op_catA pins s σ H _ _ v u Q I rx ry ⟨a, b, xs, ys, rfl, rfl, ha.sq, hb.sq, hl, fun e => q b H (same_refl H) ?_, fun _ e => q a H (same_refl H) ?_, fun _ _ p hp => q p _ (same_new hp _) upd_same⟩
  · rw [e]
    exact hb
  · rw [e, List.append_nil]
    exact ha
/-- tuple(x), by its items -/
def rTupW (K : PySem.W.Frag) : List V → Hp → VK → Prop := fun vs H Q => ∃ (a : Addr) (xs : List V), vs = [.ref a] ∧ (SqL K H a xs ∨ TP H a xs) ∧ ∀ p H', Same H H' → TP H' p xs → Q (.ref p) H'
theorem call_tupW : CallR X (.type "tuple") (rTupW X.K) := by
  intro pins s σ H vs us Q I r h
  obtain ⟨a, xs, rfl, hs, q⟩ := h
  refine call_tuple_of pins s σ H _ us Q I r ⟨a, xs, rfl, ?_⟩
  rcases hs with hs | hs
  · exact .inl ⟨hs, fun l hl => q l _ (same_new hl _) upd_same⟩
  · exact .inr ⟨hs.sq, q a H (same_refl H) hs⟩
end
/-! numbers among numbers -/
end Ov
set_option Elab.async false
set_option linter.all false
set_option maxRecDepth 100000
set_option maxHeartbeats 4000000
namespace Ov
open PySem L2 PySem.Spec PyProof.Rows
/-! Calls where no repr is under way around: as FnOk, but the guards around are known to be none. -/
structure FnG (P : Program) (w : World) (K : PySem.W.Frag) (mg : Str → Option Value) (base : Heap) (k : Nat) (f : Addr) (fd : FuncData) (ps : List Str) (sp : Sp) : Prop where
  count : ∀ {vs H Q E}, sp vs H Q E → vs.length = ps.length
  go : ∀ {A : Around} {outer : List Env} {s : Shared} {H : Hp} {args : Args} {us : List Value} {vs : List V} {Q : VK} {E : XK}, A.guards = some [] → Room k A → Env0 P w K mg base A outer s H →
    BindsTo s fd args (ps.zip us) → Vals vs us → sp vs H Q E → codeAny (model P w) A (.call (.ref f) args) (CR L2.CX0 outer P w H s Q E) s
section
variable {P : Program} {w : World} {K : PySem.W.Frag} {mg : Str → Option Value} {base : Heap}
theorem Fun.okG {x qual : Str} {st : Stmt} {f : Addr} {fd : FuncData} {N ps : List Str} {k : Nat} {sp : Sp} (F : Fun K x qual st f fd) (S : FnScope N ps (defScope st))
    (len : ∀ vs H Q E, sp vs H Q E → vs.length = ps.length)
    (body : ∀ (cd : Value) (A : Around) (outer : List Env) (s : Shared) (H : Hp) (vs : List V) (Q : VK) (E : XK), A.guards = some [] →
      Room k (A.deeper (envOfC qual (defScope st) s.heap.objs.size f cd)) → sp vs H Q E →
      ∃ t, PSs (cxOf L2.CX0 P w K mg base N qual (defScope st) f cd A outer s H E).nox (defBody st) t ∧ t { nx := fun _ H' => Q .non H', rt := Q } (start N vs) H) :
    FnG P w K mg base (k + 1) f fd ps sp := by
  obtain ⟨_, _, _, _, _, _, cd, _, _, rfl, lk, hcd⟩ := F.ex
  refine ⟨fun h => len _ _ _ _ h, ?_⟩
  intro A outer s H args us vs Q E hg hr e0 hb r hsp
  have up : ∀ b o, base.get? b = some o → s.heap.get? b = some o := fun b o e => (e0.bs b o e).1
  have kin := e0.mod.kin.keeps up
  refine codeAny_call_function hr.depth (kin _ _ lk) rfl S.co S.gen rfl (PySem.W.codeRec_of kin hcd) (hb _ _ _ _ ?_)
  refine wpAny_newFunctionEnv_cells S.kind (fun y hy => (S.par y.1 (List.of_mem_zip hy).1).imp id fun q => And.intro q (PySem.W.cellsFrom_some _ _ _ (.inl q))) ?_
  intro env he s1 x
  cases he
  refine ⟨(e0.mod.nolimit.keeps up).keeps x.toInCall.keep, codeAny_func ?_⟩
  obtain ⟨t, ht, hq⟩ := body cd A outer s H vs Q E hg (hr.deeper _) hsp
  refine wpAny_mono (ht.nox.run _ _ _ _ _ (inv_start S hr.hd e0 (len _ _ _ _ hsp) r x) hq) ?_ fun _ _ z => z
  intro fl s' hs
  match fl, hs with
  | .ret u, ⟨v, _, H', J, rv, q⟩ => exact ⟨v, H', J.os, J.bare, J.base, J.hok, rv, q⟩
  | .next, ⟨_, H', J, q⟩ => exact ⟨.non, H', J.os, J.bare, J.base, J.hok, rfl, q⟩
  | .brk, ⟨_, _, _, q⟩ => exact q.elim
  | .cont, ⟨_, _, _, q⟩ => exact q.elim
end
/-! repr of data -/
/-! the head, for FnG: the script alone is tracked (or it is one of the module's own objects) -/
section
variable {P : Program} {w : World} {K : PySem.W.Frag} {mg mb : Str → Option Value} {k : Nat} {fa a : Addr} {fd : FuncData} {x : Str} {sp : Sp} {s : Shared} {vs : List Value} {ns : List Int}
def scriptH (K : PySem.W.Frag) (a : Addr) (vs : List Value) (ns : List Int) : Hp := fun b => if b = a ∧ K.lookup a = none then some (.frz { cls := .type "list", data := .seq vs.toArray } (.lst (ns.map V.int))) else none
theorem scriptH_at {b : Addr} {o : HO} (h : scriptH K a vs ns b = some o) : b = a ∧ K.lookup a = none ∧ o = .frz { cls := .type "list", data := .seq vs.toArray } (.lst (ns.map V.int)) := by
  unfold scriptH at h
  split at h
  · rename_i q
    cases h
    exact ⟨q.1, q.2, rfl⟩
  · cases h
theorem headG (kin : K.In s.heap) (hns : s.heap.Ns mainGlobals mg) (hb : s.heap.Ns builtinsNs mb) (hbb : ∀ y : Str, y ≠ "__name__" → mb y = bootBuiltins y) (lim : s.heap.NoLimit) (hg : s.gens = #[])
    (ha : s.heap.get? a = some { cls := .type "list", data := .seq vs.toArray }) (hi : IntsAre vs ns) (hl : ns.length ≤ sizeLine) (hr : Room k callerA)
    (F : ∀ base : Heap, K.In base → base.Ns mainGlobals mg → FnG P w K mg base k fa fd [x] sp) (bind : ∀ (s : Shared) (u : Value), BindsTo s fd ⟨[u], []⟩ [(x, u)])
    (hsp : ∀ H : Hp, SqL K H a (ns.map V.int) → sp [.ref a] H (fun v _ => v = .bl true) fun _ _ _ => False) :
    codeAny (model P w) callerA (.call (.ref fa) ⟨[.ref a], []⟩) (fun r s' => r = .ok (.ret (.bool true)) ∧ OldK s.heap s'.heap ∧ s'.os = s.os ∧ AllBare s'.gens) s := by
  have rv := vals_ints hi
  have nk : ∀ {b o}, scriptH K a vs ns b = some o → K.lookup b = none := fun h => by
    obtain ⟨rfl, q, _⟩ := scriptH_at h
    exact q
  have hok : HOk P w (scriptH K a vs ns) s.heap := by
    intro b o h
    obtain ⟨rfl, _, rfl⟩ := scriptH_at h
    exact ⟨ha, by rw [List.length_map]; exact hl, vs, _, rv, ha⟩
  have hS : SqL K (scriptH K a vs ns) a (ns.map V.int) := by
    cases q : K.lookup a with
    | none => exact .inl (.inr ⟨_, if_pos ⟨rfl, q⟩⟩)
    | some o =>
      have e := kin a o q
      rw [ha] at e
      cases e
      exact .inr ⟨_, vs.toArray, _, q, rfl, rfl, rfl, by rw [List.size_toArray, hi.length]; exact hl, by simpa using rv⟩
  have dict : ∀ {b : Addr} {o : Obj} {es : Array DictEntry} {ep : Nat}, s.heap.get? b = some o → o.data = .dict es ep → scriptH K a vs ns b = none := fun {b o es ep} e d => by
    cases q : scriptH K a vs ns b with
    | none => rfl
    | some z =>
      obtain ⟨rfl, _, _⟩ := scriptH_at q
      rw [ha] at e
      cases e
      have d' : Data.seq vs.toArray _ = Data.dict es ep := d
      cases d'
  have ns' : ∀ {b : Addr} {m : Str → Option Value}, s.heap.Ns b m → (hidT s.heap (scriptH K a vs ns)).Ns b m := fun {b m} h => by
    obtain ⟨o, es, ep, e, d, r⟩ := h
    exact ⟨o, es, ep, hidT_get e (dict e d), d, r⟩
  have kin' : K.In (hidT s.heap (scriptH K a vs ns)) := fun b o e => by
    refine hidT_get (kin b o e) ?_
    cases q : scriptH K a vs ns b with
    | none => rfl
    | some z =>
      rw [nk q] at e
      cases e
  have e0 : Env0 P w K mg (hidT s.heap (scriptH K a vs ns)) callerA [] s (scriptH K a vs ns) := by
    obtain ⟨mc, h1, h2⟩ := lim
    exact ⟨rfl, ⟨kin', ns' hns, ⟨mb, ns' hb, hbb⟩, ⟨mc, ns' h1, h2⟩⟩, fun _ _ e => of_hidT e, Nat.le_of_eq (hidT_size _ _), trivial, (fun _ z => nomatch z), hok, .of_eq hg⟩
  refine codeAny_mono ((F _ kin' (ns' hns)).go (us := [.ref a]) (vs := [.ref a]) rfl hr e0 (bind s (.ref a)) (.cons rfl .nil) (hsp _ hS)) fun r s' h => ?_
  match r, h with
  | .error _, h => exact False.elim h
  | .ok .next, h => exact False.elim h
  | .ok .brk, h => exact False.elim h
  | .ok .cont, h => exact False.elim h
  | .ok (.ret u), ⟨v, H', os, bare, un, hok', r', q⟩ =>
    obtain rfl : v = .bl true := q
    obtain rfl : u = Value.bool true := r'
    refine ⟨rfl, OldK.of_keep fun b o e => ?_, os, bare⟩
    cases q : scriptH K a vs ns b with
    | none => exact un.keep b o e q (fun z => nomatch z) (fun z => nomatch z)
    | some z =>
      obtain ⟨rfl, _, rfl⟩ := scriptH_at q
      have e2 := (hok' _ _ (un.frzs _ _ _ q)).1
      rw [ha] at e
      cases e
      exact e2
theorem walkG {l : PySem.W.OpenLaw} {n k : Nat} {q : Program} {loose : List Str} {XP : (Str → Option Value) → Heap → Prop} {YP : World → Heap → Prop} {d : DefRec} {K : Params → PySem.W.Frag} {sp : World → Sp} {x : Str}
    (hn : l.most = some n) (hn2 : n ≤ sizeLine) (hdf : d.params.defaults = []) (hr : Room k callerA) (hY : ∀ (w : World) (h : Heap), YP w h → (K w.params).In h)
    (F : ∀ (w : World) (mg : Str → Option Value) (fa : Addr) (h : Heap), (K w.params).In h → h.Ns mainGlobals mg → mg d.name = some (.ref fa) →
      ∃ fd : FuncData, (∀ (s : Shared) (u : Value), BindsTo s fd ⟨[u], []⟩ [(x, u)]) ∧ ∀ base : Heap, (K w.params).In base → base.Ns mainGlobals mg → FnG l.prog w (K w.params) mg base k fa fd [x] (sp w))
    (hsp : ∀ (w : World) (H : Hp) (a : Addr) (ns : List Int), ns.length ≤ n → SqL (K w.params) H a (ns.map V.int) → sp w [.ref a] H (fun v _ => v = .bl true) fun _ _ _ => False) :
    PySem.W.WalkO q loose XP YP l.row.toRowW d [] (fun f vs => PySem.call f vs) := by
  refine Att.attach_call hn hdf ?_
  intro w s₀ s₁ mg mb fa o pm cd doc a vs ns G Y ho hd hcd hmg hobj hi hlen hg
  obtain ⟨fd, hb, hF⟩ := F w mg fa _ (hY w _ Y) G.T.g hmg
  exact headG (hY w _ Y) G.T.g G.T.b G.T.builtins G.T.nolimit hg hobj hi (Nat.le_trans hlen hn2) hr hF hb fun H hS => hsp w H a ns hlen hS
end
end Ov
set_option Elab.async false
set_option linter.all false
set_option maxRecDepth 100000
set_option maxHeartbeats 4000000
set_option Elab.async false
set_option linter.all false
set_option maxRecDepth 100000
set_option maxHeartbeats 4000000
namespace Ov
open PySem L2 PySem.Spec PyProof.Rows
/-! enumerate(v), enumerate(v, start=k), v a list or a tuple that stays as it is -/
def ItW (S : Hp → Prop) (k : Int) (xs : List V) : It :=
  ⟨fun i H => S H ∧ i < xs.length, fun i H v H' => ∃ T x, v = .ref T ∧ H T = none ∧ H' = upd H T (.tup [.int (k + (i : Int)), x]) ∧ xs[i]? = some x, fun i H => S H ∧ i = xs.length⟩
theorem walk_itW {S : Hp → Prop} {k : Int} {xs : List V} : Walk (ItW S k xs) xs.length S (YPair (fun i => some (.int (k + (i : Int)))) (fun i => xs[i]?)) :=
  ⟨fun _ _ hi q => ⟨q, hi⟩, fun _ q => ⟨q, rfl⟩, fun i H v H' _ _ ⟨T, x, h1, h2, h3, h4⟩ => ⟨T, _, x, h1, h2, h3, rfl, h4⟩⟩
theorem turn_enumL {P : Program} {w : World} {K : PySem.W.Frag} {elts : List Expr} {kk : Nat} {tpos : Pos} {a e it : Addr} {k : Int} {xs : List V} (ai : a ≠ it) (ei : e ≠ it) (ea : e ≠ a) :
    Turn P w K (.Tuple elts kk tpos) (ItW (fun H => SqL K H a xs) k xs) [e, it] e (fun i h => (∃ old, IsEnum h e it (k + (i : Int)) old) ∧ h.IsListIter it a i) where
  mem := by simp
  obj := fun i h st b hb => by
    obtain ⟨⟨_, he⟩, o, ho, _, hd⟩ := st
    rcases List.mem_cons.mp hb with rfl | hb
    · exact ⟨_, he, fun v q => nomatch q⟩
    · rw [List.mem_singleton.mp hb]
      exact ⟨o, ho, fun v q => by rw [hd] at q; cases q⟩
  keep := fun i h h' st kp => ⟨st.1.imp fun _ he => kp e (by simp) _ he, st.2.at fun o q => kp it (by simp) o q⟩
  item := by
    intro X hP hw hK hc i pins s σ H E I hf st hg
    subst hP hw hK
    obtain ⟨⟨old, he⟩, hit⟩ := st
    have hil : i < xs.length := hg.2
    obtain ⟨its, rv, p, hz⟩ := I.list hg.1
    have D := Draws.list (prog := X.prog) (w := X.w) (A := X.A.in1) (I.ok.hd hc) it a ai its.toArray
    have hi : i < its.toArray.size := by rw [List.size_toArray, ← rv.length]; exact hg.2
    have lt1 : e < s.heap.objs.size := Heap.lt_size he
    have lt2 : it < s.heap.objs.size := by
      obtain ⟨_, q, _⟩ := hit
      exact Heap.lt_size q
    refine wpAny_pyNext_enum_itemC D he ⟨hit, p.isList⟩ hi ei (by simp [ei, ea]) ?_
    intro u h' tk hu ho hst hT hsz kp
    have hx : xs[i]? = some xs[i] := List.getElem?_eq_getElem hil
    obtain ⟨u', hu', ru⟩ := rv.get hx
    have eu : u' = u := Option.some.inj (hu'.symm.trans (by simpa using hu))
    subst eu
    refine ⟨_, rfl, wpAny_letOwnedTupleGo_enum (s := { s with heap := h', toks := tk + 1 }) ho fun h2 he2 sb => ?_⟩
    have new : ObjOk X.prog X.w (upd H s.heap.objs.size (.tup [.int (k + (i : Int)), xs[i]])) h2 s.heap.objs.size (.tup [.int (k + (i : Int)), xs[i]]) :=
      ⟨by show 2 ≤ sizeLine; decide, [.int (k + (i : Int)) tk, u'], .cons ⟨_, rfl⟩ (.cons ru .nil), ⟨_, (sb.2 _ (Nat.ne_of_gt lt1)).trans hT, rfl, _, rfl⟩⟩
    have J := I.turnedNew (t' := tk + 1) (ch := [e, it]) (h' := h2) (fun b ob hb q => (sb.2 b fun z => hb (by simp [z])).trans (kp b ob (fun z => hb (by simp [z])) (fun z => hb (by simp [z])) q)) hf (Nat.le_refl _) new
    refine ⟨.ref s.heap.objs.size, _, J, rfl, ⟨_, xs[i], rfl, I.hok.fresh (Nat.le_refl _), rfl, hx⟩, ⟨⟨u', ?_⟩, hst.1.at fun o q => (sb.2 it (Ne.symm ei)).trans q⟩, fun b hb => ?_⟩
    · rw [show k + ((i + 1 : Nat) : Int) = k + (i : Int) + 1 by omega]
      exact he2
    · have lt : b < s.heap.objs.size := by
        rcases List.mem_cons.mp hb with z | z
        · rw [z]; exact lt1
        · rw [List.mem_singleton.mp z]; exact lt2
      rw [upd_ne (Nat.ne_of_lt lt)]
      exact (hf b hb).1
  done := by
    intro X hP hw hK hc i pins s σ H E I hf st hg
    subst hP hw hK
    obtain ⟨⟨old, he⟩, hit⟩ := st
    obtain ⟨hs, rfl⟩ := hg
    obtain ⟨its, rv, p, hz⟩ := I.list hs
    have D := Draws.list (prog := X.prog) (w := X.w) (A := X.A.in1) (I.ok.hd hc) it a ai its.toArray
    obtain ⟨f0, f1, f2, f3, f4, f5⟩ := hf it (by simp)
    have n : its.toArray.size = xs.length := by rw [List.size_toArray, ← rv.length]
    exact wpAny_pyNext_enum_endD D he ⟨n ▸ hit, p.isList⟩ fun h' eb => ⟨rfl, I.turned (t' := s.toks) (fun b o hb q => eb b o hb q) f0 f1 f3 f4 f5⟩
  self := fun A i s Q E st h => st.1.elim fun _ he => wpAny_pyIter_enum he h
theorem turn_enumT {P : Program} {w : World} {K : PySem.W.Frag} {elts : List Expr} {kk : Nat} {tpos : Pos} {a e it : Addr} {k : Int} {xs : List V} (ai : a ≠ it) (ei : e ≠ it) (ea : e ≠ a) :
    Turn P w K (.Tuple elts kk tpos) (ItW (fun H => SqT K H a xs) k xs) [e, it] e (fun i h => (∃ old, IsEnum h e it (k + (i : Int)) old) ∧ h.IsTupleIter it a i) where
  mem := by simp
  obj := fun i h st b hb => by
    obtain ⟨⟨_, he⟩, o, ho, _, hd⟩ := st
    rcases List.mem_cons.mp hb with rfl | hb
    · exact ⟨_, he, fun v q => nomatch q⟩
    · rw [List.mem_singleton.mp hb]
      exact ⟨o, ho, fun v q => by rw [hd] at q; cases q⟩
  keep := fun i h h' st kp => ⟨st.1.imp fun _ he => kp e (by simp) _ he, st.2.at fun o q => kp it (by simp) o q⟩
  item := by
    intro X hP hw hK hc i pins s σ H E I hf st hg
    subst hP hw hK
    obtain ⟨⟨old, he⟩, hit⟩ := st
    have hil : i < xs.length := hg.2
    obtain ⟨its, rv, p, hz⟩ := I.tuple hg.1
    have D := Draws.tuple (prog := X.prog) (w := X.w) (A := X.A.in1) (I.ok.hd hc) it a ai its.toArray
    have hi : i < its.toArray.size := by rw [List.size_toArray, ← rv.length]; exact hg.2
    have lt1 : e < s.heap.objs.size := Heap.lt_size he
    have lt2 : it < s.heap.objs.size := by
      obtain ⟨_, q, _⟩ := hit
      exact Heap.lt_size q
    refine wpAny_pyNext_enum_itemC D he ⟨hit, p⟩ hi ei (by simp [ei, ea]) ?_
    intro u h' tk hu ho hst hT hsz kp
    have hx : xs[i]? = some xs[i] := List.getElem?_eq_getElem hil
    obtain ⟨u', hu', ru⟩ := rv.get hx
    have eu : u' = u := Option.some.inj (hu'.symm.trans (by simpa using hu))
    subst eu
    refine ⟨_, rfl, wpAny_letOwnedTupleGo_enum (s := { s with heap := h', toks := tk + 1 }) ho fun h2 he2 sb => ?_⟩
    have new : ObjOk X.prog X.w (upd H s.heap.objs.size (.tup [.int (k + (i : Int)), xs[i]])) h2 s.heap.objs.size (.tup [.int (k + (i : Int)), xs[i]]) :=
      ⟨by show 2 ≤ sizeLine; decide, [.int (k + (i : Int)) tk, u'], .cons ⟨_, rfl⟩ (.cons ru .nil), ⟨_, (sb.2 _ (Nat.ne_of_gt lt1)).trans hT, rfl, _, rfl⟩⟩
    have J := I.turnedNew (t' := tk + 1) (ch := [e, it]) (h' := h2) (fun b ob hb q => (sb.2 b fun z => hb (by simp [z])).trans (kp b ob (fun z => hb (by simp [z])) (fun z => hb (by simp [z])) q)) hf (Nat.le_refl _) new
    refine ⟨.ref s.heap.objs.size, _, J, rfl, ⟨_, xs[i], rfl, I.hok.fresh (Nat.le_refl _), rfl, hx⟩, ⟨⟨u', ?_⟩, hst.1.at fun o q => (sb.2 it (Ne.symm ei)).trans q⟩, fun b hb => ?_⟩
    · rw [show k + ((i + 1 : Nat) : Int) = k + (i : Int) + 1 by omega]
      exact he2
    · have lt : b < s.heap.objs.size := by
        rcases List.mem_cons.mp hb with z | z
        · rw [z]; exact lt1
        · rw [List.mem_singleton.mp z]; exact lt2
      rw [upd_ne (Nat.ne_of_lt lt)]
      exact (hf b hb).1
  done := by
    intro X hP hw hK hc i pins s σ H E I hf st hg
    subst hP hw hK
    obtain ⟨⟨old, he⟩, hit⟩ := st
    obtain ⟨hs, rfl⟩ := hg
    obtain ⟨its, rv, p, hz⟩ := I.tuple hs
    have D := Draws.tuple (prog := X.prog) (w := X.w) (A := X.A.in1) (I.ok.hd hc) it a ai its.toArray
    obtain ⟨f0, f1, f2, f3, f4, f5⟩ := hf it (by simp)
    have n : its.toArray.size = xs.length := by rw [List.size_toArray, ← rv.length]
    exact wpAny_pyNext_enum_endD D he ⟨n ▸ hit, p⟩ fun h' eb => ⟨rfl, I.turned (t' := s.toks) (fun b o hb q => eb b o hb q) f0 f1 f3 f4 f5⟩
  self := fun A i s Q E st h => st.1.elim fun _ he => wpAny_pyIter_enum he h
set_option maxHeartbeats 4000000 in
theorem meets_enum1 {v : Value} {o : Obj} {H : Heap → Prop} (B : Begins v o H) :
    Meets (Builtin.«enumerate.__new__» ⟨[.type "enumerate", v], []⟩) (fun _ R s => H s.heap ∧
      R (.ok (.ret (.ref (s.heap.push o).objs.size))) { s with heap := (s.heap.push o).push { cls := .type "enumerate", data := .fields #[.none, .bool false, .ref s.heap.objs.size, rawInt 0, .none, .none] } }) :=
  .of_wp fun prog w A R s h => by
    obtain ⟨hp, g, d, tk, os⟩ := s
    obtain ⟨h1, h⟩ := h
    have hsub := sub_enumerate
    have it1 : ∀ {A' : Around} {E : Value → Shared → Prop} {Q : Value → Shared → Prop}, Q (.ref hp.objs.size) ⟨hp.push o, g, d, tk, os⟩ → wpAny (model prog w) A' (pyIter v) Q E ⟨hp, g, d, tk, os⟩ :=
      fun q => B.iter prog w _ _ ⟨hp, g, d, tk, os⟩ _ h1 q
    wp_walk using it1
    refine wpAny_stack_any fun st => wpAny_pure ?_
    split
    · rename_i c _ _ _ _ _
      cases (c == Value.type "enumerate") <;> (wp_walk using it1; exact ⟨_, rfl, h⟩)
    · wp_walk using it1
      exact ⟨_, rfl, h⟩
section
variable {prog : Program} {w : World} {A : Around} {E : Value → Shared → Prop} {s : Shared}
theorem enum1 {v : Value} {o : Obj} {H : Heap → Prop} {Q : Value → Shared → Prop} (B : Begins v o H) (h1 : H s.heap)
    (h : ∀ h', IsEnum h' (s.heap.objs.size + 1) s.heap.objs.size 0 .none → h'.get? s.heap.objs.size = some o → (∀ b o, s.heap.get? b = some o → h'.get? b = some o) → Q (.ref (s.heap.objs.size + 1)) { s with heap := h' }) :
    wpAny (model prog w) A (call (.type "enumerate") [v]) Q E s := by
  refine callType_new F.called_enumerate (by decide) (F.typeCall_enumerate_1 _) (F.newCall_enumerate_1 _) (fun obj => F.args_object_init_2 obj _) F.entry_enumerate_new (meets_enum1 B) ⟨h1, ?_⟩
  have hz : (s.heap.push o).objs.size = s.heap.objs.size + 1 := Heap.size_push ..
  have he := Heap.get?_push_size (s.heap.push o) (o := { cls := .type "enumerate", data := .fields #[.none, .bool false, .ref s.heap.objs.size, rawInt 0, .none, .none] }) rfl
  rw [hz] at he
  show _ ∧ _
  rw [hz]
  exact ⟨⟨_, he, rfl⟩, h _ he (Heap.get?_push_of_some _ (Heap.get?_push_size _ B.free)) fun b o x => Heap.get?_push_of_some _ (Heap.get?_push_of_some _ x)⟩
end
section
variable {X : Cx} {pins : List (Addr × Obj)} {σ : L2.St} {elts : List Expr} {kk : Nat} {tpos : Pos} {R : It → Hp → Prop} {s : Shared} {H : Hp} {a : Addr} {k : Int} {xs : List V} {h' : Heap}
theorem fp2 (I : L2.Inv X pins σ H s) : ∀ b ∈ [s.heap.objs.size + 1, s.heap.objs.size], FpOk X pins H b := fun b hb => by
  have le : s.heap.objs.size ≤ b := by
    rcases List.mem_cons.mp hb with z | z
    · rw [z]; exact Nat.le_succ _
    · rw [List.mem_singleton.mp z]; exact Nat.le_refl _
  exact I.fpOk le (I.hok.fresh le)
theorem pieL (I : L2.Inv X pins σ H s) (hq : SqL X.K H a xs) (he : IsEnum h' (s.heap.objs.size + 1) s.heap.objs.size k .none) (ho : h'.get? s.heap.objs.size = some { cls := .type "list_iterator", data := .fields #[.ref a, .int 0 0] })
    (kp : ∀ b o, s.heap.get? b = some o → h'.get? b = some o) (q : R (ItW (fun H => SqL X.K H a xs) k xs) H) : PIE X pins σ (.Tuple elts kk tpos) R (.ref (s.heap.objs.size + 1)) { s with heap := h' } := by
  obtain ⟨its, rv, p, hz⟩ := I.list hq
  have lt : a < s.heap.objs.size := by
    obtain ⟨_, e, _⟩ := p.isList
    exact Heap.lt_size e
  exact ⟨_, [s.heap.objs.size + 1, s.heap.objs.size], _, _, H, rfl, I.kept (t' := s.toks) kp, turn_enumL (Nat.ne_of_lt lt) (Nat.succ_ne_self _) (Nat.ne_of_gt (Nat.lt_succ_of_lt lt)), ⟨⟨.none, by rw [show k + ((0 : Nat) : Int) = k by omega]; exact he⟩, _, ho, rfl, rfl⟩, fp2 I, q⟩
theorem pieT (I : L2.Inv X pins σ H s) (hq : SqT X.K H a xs) (he : IsEnum h' (s.heap.objs.size + 1) s.heap.objs.size k .none) (ho : h'.get? s.heap.objs.size = some { cls := .type "tuple_iterator", data := .fields #[.ref a, .int 0 0] })
    (kp : ∀ b o, s.heap.get? b = some o → h'.get? b = some o) (q : R (ItW (fun H => SqT X.K H a xs) k xs) H) : PIE X pins σ (.Tuple elts kk tpos) R (.ref (s.heap.objs.size + 1)) { s with heap := h' } := by
  obtain ⟨its, rv, p, hz⟩ := I.tuple hq
  have lt : a < s.heap.objs.size := by
    obtain ⟨_, e, _⟩ := p
    exact Heap.lt_size e
  exact ⟨_, [s.heap.objs.size + 1, s.heap.objs.size], _, _, H, rfl, I.kept (t' := s.toks) kp, turn_enumT (Nat.ne_of_lt lt) (Nat.succ_ne_self _) (Nat.ne_of_gt (Nat.lt_succ_of_lt lt)), ⟨⟨.none, by rw [show k + ((0 : Nat) : Int) = k by omega]; exact he⟩, _, ho, rfl, rfl⟩, fp2 I, q⟩
/-- what is walked: a list or a tuple, from the count k -/
def rEnW (K : PySem.W.Frag) (k : Int) (R : It → Hp → Prop) (a : Addr) (H : Hp) : Prop := ∃ xs : List V, (SqL K H a xs ∧ R (ItW (fun H => SqL K H a xs) k xs) H) ∨ (SqT K H a xs ∧ R (ItW (fun H => SqT K H a xs) k xs) H)
def iEnW (K : PySem.W.Frag) (ta : TA) : TI := fun σ H R => ta σ H fun vs H1 => ∃ a, vs = [.ref a] ∧ rEnW K 0 R a H1
theorem pi_enW {e : Expr} {ta : TA} {p pos : Pos} (hg : Gl X "enumerate") (hm : X.mg "enumerate" = none) (ha : PA X [e] ta) (hs : starEach [e] X.env = [(false, eval e X.env)] := by rfl) :
    PI X (.Tuple elts kk tpos) (.Call (.Name "enumerate" p) [e] [] pos) (iEnW X.K ta) := by
  refine ⟨fun pins s σ H R I h => Call_ (ld_blt I hg hm boot_enumerate (callWith_type1 (thn (ha.run pos pins s σ H _ I h) ?_) hs rfl))⟩
  rintro us s1 ⟨vs, H1, J, r, a, rfl, xs, q⟩
  obtain rfl := Vals.ref1 r
  rcases q with ⟨hq, q⟩ | ⟨hq, q⟩
  · obtain ⟨its, _, pl, _⟩ := J.list hq
    exact enum1 (begins_list a its.toArray) pl.isList fun h' he ho kp => wpAny_pyIter_enum he (pieL J hq he ho kp q)
  · obtain ⟨its, _, pt, _⟩ := J.tuple hq
    exact enum1 (begins_tuple a its.toArray) pt fun h' he ho kp => wpAny_pyIter_enum he (pieT J hq he ho kp q)
end
end Ov
set_option Elab.async false
set_option linter.all false
set_option maxRecDepth 100000
set_option maxHeartbeats 4000000
set_option Elab.async false
set_option linter.all false
set_option maxRecDepth 100000
set_option maxHeartbeats 4000000
namespace Ov
open PySem L2
/-! data: their types, numbers, rows -/
def tyD : PyData → String
  | .none => "NoneType"
  | .bool _ => "bool"
  | .int _ => "int"
  | .str _ => "str"
  | .list _ => "list"
  | .tuple _ => "tuple"
  | .dict _ => "dict"
theorem dp_ty {K : PySem.W.Frag} {H : Hp} {v : V} {d : PyData} (h : Dp K H v d) : TyX K H v (.type (tyD d)) := by
  cases h with
  | non => exact .base .non
  | bl b => exact .base (.bl b)
  | int i => exact .base (.int i)
  | str x => exact .base (.str x)
  | lst h _ => exact tyL h
  | tup h _ => exact tyT h
def isI : PyData → Bool
  | .int _ => true
  | _ => false
def isB : PyData → Bool
  | .bool _ => true
  | _ => false
def isT : PyData → Bool
  | .tuple _ => true
  | _ => false
def isL : PyData → Bool
  | .list _ => true
  | _ => false
theorem kit_int : ∀ d : PyData, kitB (tyD d) "int" = some (isI d || isB d)
  | .none => (by decide +kernel : kitB "NoneType" "int" = some false)
  | .bool _ => (by decide +kernel : kitB "bool" "int" = some true)
  | .int _ => (by decide +kernel : kitB "int" "int" = some true)
  | .str _ => (by decide +kernel : kitB "str" "int" = some false)
  | .list _ => (by decide +kernel : kitB "list" "int" = some false)
  | .tuple _ => (by decide +kernel : kitB "tuple" "int" = some false)
  | .dict _ => (by decide +kernel : kitB "dict" "int" = some false)
theorem kit_bool : ∀ d : PyData, kitB (tyD d) "bool" = some (isB d)
  | .none => (by decide +kernel : kitB "NoneType" "bool" = some false)
  | .bool _ => (by decide +kernel : kitB "bool" "bool" = some true)
  | .int _ => (by decide +kernel : kitB "int" "bool" = some false)
  | .str _ => (by decide +kernel : kitB "str" "bool" = some false)
  | .list _ => (by decide +kernel : kitB "list" "bool" = some false)
  | .tuple _ => (by decide +kernel : kitB "tuple" "bool" = some false)
  | .dict _ => (by decide +kernel : kitB "dict" "bool" = some false)
theorem kit_tuple : ∀ d : PyData, kitB (tyD d) "tuple" = some (isT d)
  | .none => (by decide +kernel : kitB "NoneType" "tuple" = some false)
  | .bool _ => (by decide +kernel : kitB "bool" "tuple" = some false)
  | .int _ => (by decide +kernel : kitB "int" "tuple" = some false)
  | .str _ => (by decide +kernel : kitB "str" "tuple" = some false)
  | .list _ => (by decide +kernel : kitB "list" "tuple" = some false)
  | .tuple _ => (by decide +kernel : kitB "tuple" "tuple" = some true)
  | .dict _ => (by decide +kernel : kitB "dict" "tuple" = some false)
theorem kit_list : ∀ d : PyData, kitB (tyD d) "list" = some (isL d)
  | .none => (by decide +kernel : kitB "NoneType" "list" = some false)
  | .bool _ => (by decide +kernel : kitB "bool" "list" = some false)
  | .int _ => (by decide +kernel : kitB "int" "list" = some false)
  | .str _ => (by decide +kernel : kitB "str" "list" = some false)
  | .list _ => (by decide +kernel : kitB "list" "list" = some true)
  | .tuple _ => (by decide +kernel : kitB "tuple" "list" = some false)
  | .dict _ => (by decide +kernel : kitB "dict" "list" = some false)
def intsOf : List PyData → List Int
  | [] => []
  | .int i :: r => i :: intsOf r
  | _ :: r => intsOf r
mutual
theorem Dp.same {K : PySem.W.Frag} {H H' : Hp} (s : Same H H') : ∀ {v : V} (d : PyData), Dp K H v d → Dp K H' v d
  | _, .none, h => by cases h; exact .non
  | _, .bool b, h => by cases h; exact .bl b
  | _, .int i, h => by cases h; exact .int i
  | _, .str x, h => by cases h; exact .str x
  | _, .list ds, h => by cases h with | lst q t => exact .lst (s.seq q) (DpAll.same s ds t)
  | _, .tuple ds, h => by cases h with | tup q t => exact .tup (seqT s q) (DpAll.same s ds t)
  | _, .dict _, h => by cases h
theorem DpAll.same {K : PySem.W.Frag} {H H' : Hp} (s : Same H H') : ∀ {xs : List V} (ds : List PyData), DpAll K H xs ds → DpAll K H' xs ds
  | _, [], h => by cases h; exact .nil
  | _, d :: ds, h => by cases h with | cons q t => exact .cons (Dp.same s d q) (DpAll.same s ds t)
end
end Ov
set_option Elab.async false
set_option linter.all false
set_option maxRecDepth 100000
set_option maxHeartbeats 4000000
namespace Ov
open PySem L2 PySem.Spec PyProof.Rows
/-! sorted(v), v a list or a tuple of numbers -/
section
variable {prog : Program} {w : World} {A : Around} {E : Value → Shared → Prop} {s : Shared}
theorem collect_tup {l : Addr} {vs : List Value} {Q : List Value → Shared → Prop} (hl : s.heap.IsTuple l vs.toArray)
    (h : Q vs { s with heap := (s.heap.push (seqObj "list" #[] 0)).update s.heap.objs.size (Obj.mapSeq (· ++ vs.toArray)) }) (hz : vs.length ≤ sizeLine) : wpAny (model prog w) A (collect (.ref l)) Q E s := by
  obtain ⟨o, ho, hc, n, hd⟩ := hl
  have new : (s.heap.push (seqObj "list" #[] 0)).get? s.heap.objs.size = some (seqObj "list" #[] 0) := Heap.get?_push_size _ rfl
  unfold collect
  refine wpAny_bind (wpAny_runValue (codeAny_builtin entry_proto_collect' ?_))
  show wpAny _ _ (do again (.builtin "list.__iadd__" ⟨[← newList [], .ref l], []⟩)) _ _ s
  refine wpAny_bind (wpAny_newList (wpAny_pure ⟨Code.quiet_builtin _ (by decide +kernel), codeAny_builtin entry_list_iadd' ?_⟩))
  have up := Heap.get?_push_of_some (seqObj "list" #[] 0) ho
  have fit : ((#[] : Array Value) ++ vs.toArray).size ≤ sizeLine + 1 := by
    rw [Array.size_append, List.size_toArray]
    show 0 + vs.length ≤ sizeLine + 1
    omega
  have yes : (Value.type "tuple" == Value.type "tuple") = true := rfl
  show wpAny _ _ (Builtin.List.listExtendWith (.ref s.heap.objs.size) (.ref l) (.ref s.heap.objs.size)) _ _ { s with heap := s.heap.push (seqObj "list" #[] 0) }
  unfold Builtin.List.listExtendWith
  refine wpAny_bind (wpAny_typeOf (T := "tuple") ⟨o, up, hc⟩ ?_)
  rw [if_pos (by rw [yes, Bool.or_true])]
  refine wpAny_bind (listItems_at up hd (wpAny_bind (listItems_at (xs := #[]) (n := 0) new rfl ?_)))
  rw [if_neg (by simp)]
  refine wpAny_bind (listUpdate_at (xs := #[]) (n := 0) new rfl (wpAny_pure ?_) (Nat.zero_le _) fit)
  show wpAny (model prog w) A (load s.heap.objs.size >>= _) Q E _
  refine wpAny_bind (wpAny_load (get?_update_seq new _) ?_)
  show wpAny _ _ (pure ((#[] : Array Value) ++ vs.toArray).toList) Q E _
  rw [show ((#[] : Array Value) ++ vs.toArray).toList = vs by simp]
  exact wpAny_pure h
theorem sorted_tup {l : Addr} {vs : List Value} {ns : List Int} {Q : Value → Shared → Prop} (hl : s.heap.IsTuple l vs.toArray) (hi : IntsAre vs ns) (hz : vs.length ≤ sizeLine)
    (h : ∀ out : List Value, SrtO.Srtd SrtO.ltIv out → SrtO.Stb SrtO.ltIv out vs → Q (.ref (s.heap.objs.size + 1)) { s with heap := sortedAll s.heap vs out.toArray }) :
    wpAny (model prog w) A (call (.builtin "sorted") [.ref l]) Q E s := by
  refine Calls.call_function_entry kind_sorted plain_sorted entry_sorted (args_sorted1 _) ?_
  unfold Builtin.«sorted»
  refine wpAny_bind (m := checkCount "sorted" 1 1 _) (wpAny_pure (wpAny_bind (collect_tup hl (wpAny_bind (wpAny_newList ?_ hz)) hz)))
  have sz : ((s.heap.push (seqObj "list" #[] 0)).update s.heap.objs.size (Obj.mapSeq (· ++ vs.toArray))).objs.size = s.heap.objs.size + 1 := by rw [Heap.size_update, size_push']
  have new : (((s.heap.push (seqObj "list" #[] 0)).update s.heap.objs.size (Obj.mapSeq (· ++ vs.toArray))).push (seqObj "list" vs.toArray 0)).get? (s.heap.objs.size + 1) = some (seqObj "list" vs.toArray 0) := by
    rw [← sz]
    exact Heap.get?_push_size _ rfl
  show wpAny _ _ _ _ _ { s with heap := ((s.heap.push (seqObj "list" #[] 0)).update s.heap.objs.size (Obj.mapSeq (· ++ vs.toArray))).push (seqObj "list" vs.toArray 0) }
  rw [sz]
  refine wpAny_bind (wpAny_holding (wpAny_call_entry slot_list_sort ⟨_, new, rfl⟩ entry_list_sort ?_ (args_list_sort _)))
  exact SrtO.list_sort_ord SrtO.swo_int new hz (fun h2 => SrtO.ints_sortable hi h2) fun out hs hb => ⟨_, rfl, wpAny_pure ⟨_, rfl, h out hs hb⟩⟩
end
section
variable {X : Cx}
def rSrtW (K : PySem.W.Frag) : List V → Hp → VK → Prop := fun vs H Q => ∃ (a : Addr) (ns : List Int), vs = [V.ref a] ∧ Sq K H a (ns.map V.int) ∧ ∀ (ns' : List Int) (p : Addr) (H' : Hp), ns'.Perm ns → ns'.Pairwise (· ≤ ·) → H p = none → Same H H' → H' p = some (.lst (ns'.map V.int)) → Q (.ref p) H'
theorem cr_sortedW : CallR X (.builtin "sorted") (rSrtW X.K) := by
  intro pins s σ H vs us Q I r h
  obtain ⟨a, ns, rfl, hs | hs, q⟩ := h
  · exact cr_sortedI pins s σ H _ us Q I r ⟨a, ns, rfl, hs, fun ns' p k1 k2 hp => q ns' p _ k1 k2 hp (same_new hp _) upd_same⟩
  · obtain ⟨its, rv, hl, hz⟩ := I.tuple hs
    rw [Vals.ref1 r]
    have hi := rv.ints
    refine sorted_tup hl hi (by rw [← rv.length]; exact hz) ?_
    intro out h1 h2
    obtain ⟨k1, k2, k3⟩ := SrtO.ints_out hi h1 h2
    obtain ⟨ep, he⟩ := sortedAll_at s.heap its out.toArray
    have fr : H (s.heap.objs.size + 1) = none := I.hok.fresh (Nat.le_succ _)
    have len : ((out.map SrtO.iv).map V.int).length ≤ sizeLine := by
      rw [List.length_map, k2.length_eq]
      rw [List.length_map] at hz
      exact hz
    exact ⟨.ref _, _, I.laid (t' := s.toks) (o := .lst ((out.map SrtO.iv).map V.int)) (fun _ _ => sortedAll_old) (Nat.le_succ _) ⟨len, out, ep, vals_of_ints k1, he⟩, rfl, q _ _ _ k2 k3 fr (same_new fr _) upd_same⟩
end
end Ov
set_option Elab.async false
set_option linter.all false
set_option maxRecDepth 100000
set_option maxHeartbeats 4000000
set_option Elab.async false
set_option linter.all false
set_option maxRecDepth 100000
set_option maxHeartbeats 4000000
namespace Ov
open PySem L2
/-! a heap without the box, and without what else is set aside -/
open Classical in
noncomputable def off (S : Addr → Prop) (H : Hp) : Hp := fun b => if S b then none else H b
theorem off_ne {S : Addr → Prop} {b : Addr} {H : Hp} (h : ¬ S b) : off S H b = H b := if_neg h
theorem off_at {S : Addr → Prop} {H : Hp} {b : Addr} {o : HO} (h : off S H b = some o) : ¬ S b ∧ H b = some o := by
  unfold off at h
  split at h
  · cases h
  · exact ⟨by assumption, h⟩
theorem off_sub (S : Addr → Prop) (H : Hp) : Same (off S H) H := fun b o h => (off_at h).2
/-! data of a bounded form -/
def leaf (m : Nat) : PyData → Prop
  | .none => True
  | .bool _ => True
  | .int i => -(10 ^ 30 + (m : Int)) ≤ i ∧ i ≤ 10 ^ 30 + (m : Int)
  | .str x => (reprText x).length ≤ 1100
  | _ => False
def Bd (m : Nat) : Nat → PyData → Prop
  | 0, d => leaf m d
  | n + 1, d => leaf m d ∨ ∃ ds : List PyData, (d = .list ds ∨ d = .tuple ds) ∧ ds.length ≤ 16 + m ∧ ∀ e ∈ ds, Bd m n e
theorem leaf.mono {m k : Nat} (h : m ≤ k) : ∀ {d : PyData}, leaf m d → leaf k d
  | .none, _ => trivial
  | .bool _, _ => trivial
  | .int i, z => by
    obtain ⟨a, b⟩ := z
    exact ⟨by omega, by omega⟩
  | .str _, z => z
theorem Bd.mono {m k : Nat} (h : m ≤ k) : ∀ {n j : Nat} {d : PyData}, n ≤ j → Bd m n d → Bd k j d
  | 0, 0, _, _, z => leaf.mono h z
  | 0, j + 1, _, _, z => .inl (leaf.mono h z)
  | n + 1, j + 1, d, le, z => by
    rcases z with z | ⟨ds, e, l, a⟩
    · exact .inl (leaf.mono h z)
    · exact .inr ⟨ds, e, by omega, fun x hx => Bd.mono h (by omega) (a x hx)⟩
def Ln : Nat → Nat
  | 0 => 2000
  | n + 1 => 18 * (Ln n + 2) + 3
def Fits (n : Nat) (d : PyData) : Prop := d.hasDict = false ∧ d.depth ≤ n + 1 ∧ d.showable = true ∧ d.shown.length ≤ Ln n
theorem log_small {i : Int} (h : -(10 ^ 30 + 2) ≤ i ∧ i ≤ 10 ^ 30 + 2) : i.natAbs.log2 < 1920 := by
  by_cases z : i.natAbs = 0
  · rw [z]
    decide
  · have lt : i.natAbs < 2 ^ 100 := by omega
    exact Nat.lt_trans ((Nat.log2_lt z).mpr lt) (by decide)
theorem leaf_fits {m : Nat} (hm : m ≤ 2) : ∀ {d : PyData}, leaf m d → Fits 0 d
  | .none, _ => ⟨rfl, by decide, rfl, by decide⟩
  | .bool b, _ => ⟨rfl, by show _ ≤ 1; simp [PyData.depth], rfl, by cases b <;> decide⟩
  | .int i, z => by
    have l := log_small (i := i) (by obtain ⟨a, b⟩ := z; exact ⟨by omega, by omega⟩)
    refine ⟨rfl, by simp [PyData.depth], decide_eq_true l, ?_⟩
    have := PyProof.Rows.int_text_len_1921 l
    show (Str.ofString (toString i)).length ≤ 2000
    omega
  | .str x, z => ⟨rfl, by simp [PyData.depth], rfl, by
    have : (reprText x).length ≤ 1100 := z
    show (reprText x).length ≤ 2000
    omega⟩
theorem Bd.size {n : Nat} (h : n ≤ 3) {d : PyData} (f : Fits n d) : d.shown.length ≤ sizeLine := by
  have : ∀ k, k ≤ 3 → Ln k ≤ 2 ^ 24 := fun k hk => by
    match k, hk with
    | 0, _ => decide
    | 1, _ => decide
    | 2, _ => decide
    | 3, _ => decide
  exact Nat.le_trans f.2.2.2 (this n h)
end Ov
set_option Elab.async false
set_option linter.all false
set_option maxRecDepth 100000
set_option maxHeartbeats 4000000
namespace Ov
open PySem L2
/-! data that are sequences, or not; one item less, more, another -/
section
variable {m n : Nat} {ds : List PyData}
/-- a sequence of such data, wider by one at most -/
theorem Bd.seq (l : ds.length ≤ 16 + (m + 1)) (a : ∀ e ∈ ds, Bd (m + 1) n e) : Bd (m + 1) (n + 1) (.list ds) ∧ Bd (m + 1) (n + 1) (.tuple ds) := ⟨.inr ⟨ds, .inl rfl, l, a⟩, .inr ⟨ds, .inr rfl, l, a⟩⟩
theorem Bd.items {d : PyData} (h : Bd m (n + 1) d) (e : d = .list ds ∨ d = .tuple ds) : ds.length ≤ 16 + m ∧ ∀ x ∈ ds, Bd m n x := by
  rcases h with h | ⟨es, e2, l, a⟩
  · rcases e with rfl | rfl <;> exact h.elim
  · rcases e with rfl | rfl <;> rcases e2 with e2 | e2 <;> cases e2 <;> exact ⟨l, a⟩
end
end Ov
set_option Elab.async false
set_option linter.all false
set_option maxRecDepth 100000
set_option maxHeartbeats 4000000
namespace Ov
open PySem PySem.Spec PyProof.Rows L2
/-! an error without fields: raised, caught, asked for its class -/
section
variable {X : Cx}
/-! caught, with a field or without -/
def Cau0 (K : PySem.W.Frag) (H : Hp) (a C : Addr) : Prop := ∃ k : Nat, Cl K C k ∧ H a = some (exg a C none)
def CauF (K : PySem.W.Frag) (H : Hp) (a C : Addr) (f : Str) (u : V) : Prop := (f ≠ "" ∧ Cau K H a C [(f, u)]) ∨ (f = "" ∧ Cau0 K H a C)
def CauX (K : PySem.W.Frag) (H : Hp) (a C : Addr) : Prop := (∃ fs, Cau K H a C fs) ∨ Cau0 K H a C
theorem CauF.same {K : PySem.W.Frag} {H H' : Hp} {a C : Addr} {f : Str} {u : V} (h : CauF K H a C f u) (s : Same H H') : CauF K H' a C f u := by
  rcases h with ⟨n, h⟩ | ⟨n, k, x, h⟩
  · exact .inl ⟨n, h.same s⟩
  · exact .inr ⟨n, k, x, s _ _ h⟩
theorem CauF.x {K : PySem.W.Frag} {H : Hp} {a C : Addr} {f : Str} {u : V} (h : CauF K H a C f u) : CauX K H a C := by
  rcases h with ⟨n, h⟩ | ⟨n, h⟩
  · exact .inl ⟨_, h⟩
  · exact .inr h
theorem CauX.same {K : PySem.W.Frag} {H H' : Hp} {a C : Addr} (h : CauX K H a C) (s : Same H H') : CauX K H' a C := by
  rcases h with ⟨fs, h⟩ | ⟨k, x, h⟩
  · exact .inl ⟨fs, h.same s⟩
  · exact .inr ⟨k, x, s _ _ h⟩
end
end Ov
set_option Elab.async false
set_option linter.all false
set_option maxRecDepth 100000
set_option maxHeartbeats 2000000
namespace L2
open PySem PySem.Spec PyProof.Rows
/-! dicts whose keys are tuples of numbers and such tuples, their values numbers -/
/-- the object at p is o -/
def objO (p : Addr) (o : Obj) : HO := .ext fun h => h.get? p = some o
theorem objO_ok {P : Program} {w : World} {H : Hp} {h : Heap} {p : Addr} {o : Obj} (e : h.get? p = some o) : ObjOk P w H h p (objO p o) :=
  ⟨e, ⟨_, e⟩, fun _ _ e1 k => k _ e1⟩
theorem objO_get {P : Program} {w : World} {H : Hp} {h : Heap} {p : Addr} {o : Obj} (ok : HOk P w H h) (e : H p = some (objO p o)) : h.get? p = some o :=
  (show ObjOk P w H h p (objO p o) from ok p _ e).1
mutual
inductive Nk (H : Hp) : V → NestedKey → Prop
  | int (i : Int) : Nk H (.int i) (.num i)
  | tup {a : Addr} {xs : List V} {ks : List NestedKey} : H a = some (.tup xs) → NkAll H xs ks → Nk H (.ref a) (.tup ks)
inductive NkAll (H : Hp) : List V → List NestedKey → Prop
  | nil : NkAll H [] []
  | cons {v : V} {k : NestedKey} {vs : List V} {ks : List NestedKey} : Nk H v k → NkAll H vs ks → NkAll H (v :: vs) (k :: ks)
end
section
variable {P : Program} {w : World} {H H' : Hp} {h : Heap}
mutual
theorem Nk.keep (s : ∀ b xs, H b = some (.tup xs) → H' b = some (.tup xs)) : ∀ (k : NestedKey) {v : V}, Nk H v k → Nk H' v k
  | .num i, _, h => by cases h; exact .int i
  | .tup ks, _, h => by cases h with | tup e t => exact .tup (s _ _ e) (NkAll.keep s ks t)
  | .none, _, h => by cases h
  | .text _, _, h => by cases h
theorem NkAll.keep (s : ∀ b xs, H b = some (.tup xs) → H' b = some (.tup xs)) : ∀ (ks : List NestedKey) {vs : List V}, NkAll H vs ks → NkAll H' vs ks
  | [], _, h => by cases h; exact .nil
  | k :: ks, _, h => by cases h with | cons a t => exact .cons (Nk.keep s k a) (NkAll.keep s ks t)
end
mutual
theorem Nk.is (ok : HOk P w H h) : ∀ (k : NestedKey) {v : V} {u : Value}, Nk H v k → RelV v u → NestedIs h k u
  | .num i, _, u, x, r => by
    cases x
    obtain ⟨t, rfl⟩ := (show ∃ t, u = Value.int i t from r)
    exact .int i t
  | .tup ks, _, u, x, r => by
    cases x with
    | @tup a xs _ e t =>
      cases (show u = Value.ref a from r)
      obtain ⟨_, its, rv, o, h1, h2, n, h3⟩ := (show ObjOk P w H h a (.tup xs) from ok a _ e)
      exact .tup h1 h2 h3 (by simpa using NkAll.is ok ks t rv)
  | .none, _, _, x, _ => by cases x
  | .text _, _, _, x, _ => by cases x
theorem NkAll.is (ok : HOk P w H h) : ∀ (ks : List NestedKey) {vs : List V} {us : List Value}, NkAll H vs ks → Vals vs us → NestedAll h ks us
  | [], _, _, x, r => by cases x; cases r; exact .nil
  | k :: ks, _, _, x, r => by
    cases x with
    | cons a t =>
      cases r with
      | cons q r => exact .cons (Nk.is ok k a q) (NkAll.is ok ks t r)
end
mutual
theorem Nk.hash : ∀ (k : NestedKey) {v : V}, Nk H v k → ∀ w w' : World, k.hash w = k.hash w'
  | .num i, _, _, _, _ => rfl
  | .tup ks, _, x, w, w' => by
    cases x with
    | tup e t =>
      show reduceHash (Builtin.Tuple.tupleHashOf (NestedKey.hashes w ks)) = reduceHash (Builtin.Tuple.tupleHashOf (NestedKey.hashes w' ks))
      rw [NkAll.hash ks t w w']
  | .none, _, x, _, _ => by cases x
  | .text _, _, x, _, _ => by cases x
theorem NkAll.hash : ∀ (ks : List NestedKey) {vs : List V}, NkAll H vs ks → ∀ w w' : World, NestedKey.hashes w ks = NestedKey.hashes w' ks
  | [], _, _, _, _ => rfl
  | k :: ks, _, x, w, w' => by
    cases x with
    | cons a t =>
      show NestedKey.hash w k :: NestedKey.hashes w ks = NestedKey.hash w' k :: NestedKey.hashes w' ks
      rw [Nk.hash k a w w', NkAll.hash ks t w w']
end
end
abbrev NE := NestedKey × Addr × Value
/-- the entries and what they stand for -/
def NX (H : Hp) : List NE → List (NestedKey × Int) → Prop
  | [], [] => True
  | x :: xs, kv :: kvs => (x.1 = kv.1 ∧ kv.1.depth ≤ 8 ∧ Nk H (.ref x.2.1) kv.1 ∧ ∃ t, x.2.2 = Value.int kv.2 t) ∧ NX H xs kvs
  | _, _ => False
theorem NX.keep {H H' : Hp} (s : ∀ b xs, H b = some (.tup xs) → H' b = some (.tup xs)) : ∀ {xs : List NE} {kvs : List (NestedKey × Int)}, NX H xs kvs → NX H' xs kvs
  | [], [], _ => trivial
  | _ :: _, kv :: _, ⟨⟨e, d, n, t⟩, r⟩ => ⟨⟨e, d, Nk.keep s kv.1 n, t⟩, NX.keep s r⟩
  | [], _ :: _, h => h.elim
  | _ :: _, [], h => h.elim
theorem NX.keys {H : Hp} : ∀ {xs : List NE} {kvs : List (NestedKey × Int)}, NX H xs kvs → xs.map (·.1) = kvs.map (·.1)
  | [], [], _ => rfl
  | _ :: _, kv :: _, ⟨⟨e, _⟩, r⟩ => by rw [List.map_cons, List.map_cons, e, NX.keys r]
  | [], _ :: _, h => h.elim
  | _ :: _, [], h => h.elim
theorem NX.len {H : Hp} {xs : List NE} {kvs : List (NestedKey × Int)} (h : NX H xs kvs) : xs.length = kvs.length := by
  have := congrArg List.length h.keys
  rwa [List.length_map, List.length_map] at this
theorem NX.app {H : Hp} : ∀ {xs ys : List NE} {kvs jvs : List (NestedKey × Int)}, NX H xs kvs → NX H ys jvs → NX H (xs ++ ys) (kvs ++ jvs)
  | [], _, [], _, _, h => h
  | _ :: _, _, _ :: _, _, ⟨a, r⟩, h => ⟨a, NX.app r h⟩
  | [], _, _ :: _, _, h, _ => h.elim
  | _ :: _, _, [], _, h, _ => h.elim
theorem NX.get {H : Hp} : ∀ {xs : List NE} {kvs : List (NestedKey × Int)} {i : Nat} {kv : NestedKey × Int}, NX H xs kvs → kvs[i]? = some kv → ∃ b t, xs[i]? = some (kv.1, b, Value.int kv.2 t) ∧ Nk H (.ref b) kv.1
  | (k, b, v) :: _, (k', v') :: _, 0, kv, ⟨⟨e1, e2, e3, t, e4⟩, _⟩, h => by
    cases h
    cases (show k = k' from e1)
    cases (show v = Value.int v' t from e4)
    exact ⟨b, t, rfl, e3⟩
  | _ :: _, _ :: _, i + 1, kv, ⟨_, r⟩, h => NX.get (i := i) r (by simpa using h)
  | [], [], _, _, _, h => by simp at h
  | [], _ :: _, _, _, h, _ => h.elim
  | _ :: _, [], _, _, h, _ => h.elim
/-- what the object o says of the entries -/
def NOb (p : Addr) (o : Obj) (xs : List NE) : Prop := (p == sysModules) = false ∧ o.ExactDict ∧ ∃ es ep, o.data = .dict es ep ∧ ∀ w : World, es.toList = xs.map fun x => (⟨x.1.hash w, .ref x.2.1, x.2.2⟩ : DictEntry)
theorem NX.all {H : Hp} : ∀ {xs : List NE} {kvs : List (NestedKey × Int)}, NX H xs kvs → ∀ x ∈ xs, x.1.depth ≤ 8 ∧ Nk H (.ref x.2.1) x.1
  | [], [], _, x, hx => by cases hx
  | y :: _, kv :: _, ⟨⟨e, d, n, _⟩, r⟩, x, hx => by
    rcases List.mem_cons.mp hx with rfl | hx
    · rw [e]; exact ⟨d, n⟩
    · exact NX.all r x hx
  | [], _ :: _, h, _, _ => h.elim
  | _ :: _, [], h, _, _ => h.elim
section
variable {P : Program} {w : World} {H : Hp} {h : Heap} {p : Addr} {o : Obj} {xs : List NE} {kvs : List (NestedKey × Int)}
theorem n_dict (ok : HOk P w H h) (e : H p = some (objO p o)) (x : NOb p o xs) (r : NX H xs kvs) (nd : (kvs.map (·.1)).Nodup) : h.DictOfH (nestedKind P w) p xs := by
  obtain ⟨_, h1, es, ep, h2, h3⟩ := x
  refine ⟨o, es, ep, objO_get ok e, h1, h2, h3 w, fun y hy => ?_, by rw [r.keys]; exact nd⟩
  obtain ⟨a, b⟩ := r.all y hy
  exact ⟨Nk.is ok y.1 b rfl, a⟩
theorem n_back {K : Hp} (sm : (p == sysModules) = false) (d : h.DictOfH (nestedKind P w) p xs) (r : NX K xs kvs) : ∃ o, h.get? p = some o ∧ NOb p o xs := by
  obtain ⟨o, es, ep, h1, h2, h3, h4, _, _⟩ := d
  refine ⟨o, h1, sm, h2, es, ep, h3, fun w' => h4.trans (List.map_congr_left fun y hy => ?_)⟩
  show (⟨y.1.hash w, .ref y.2.1, y.2.2⟩ : DictEntry) = _
  rw [Nk.hash y.1 (r.all y hy).2 w w']
end
/-! look-up -/
def lookN : List (NestedKey × Int) → NestedKey → Option Int
  | [], _ => none
  | (j, v) :: r, k => if j = k then some v else lookN r k
def putN (kvs : List (NestedKey × Int)) (k : NestedKey) (v : Int) : List (NestedKey × Int) := if (lookN kvs k).isSome = true then kvs.map (fun kv => if kv.1 = k then (kv.1, v) else kv) else kvs ++ [(k, v)]
theorem NX.look {H : Hp} (k : NestedKey) : ∀ {xs : List NE} {kvs : List (NestedKey × Int)}, NX H xs kvs → (lookN kvs k = none ∧ atKey xs k = none) ∨ ∃ v b t, lookN kvs k = some v ∧ atKey xs k = some (b, Value.int v t)
  | [], [], _ => .inl ⟨rfl, rfl⟩
  | (j, b, u) :: xs, (j', v') :: kvs, ⟨⟨e1, _, _, t, e4⟩, r⟩ => by
    cases (show j = j' from e1)
    cases (show u = Value.int v' t from e4)
    by_cases e : j = k
    · exact .inr ⟨v', b, t, if_pos e, by unfold atKey; rw [List.find?_cons_of_pos (by simpa using e)]; rfl⟩
    · have e2 : atKey ((j, b, Value.int v' t) :: xs) k = atKey xs k := by unfold atKey; rw [List.find?_cons_of_neg (by simpa using e)]
      have e3 : lookN ((j, v') :: kvs) k = lookN kvs k := if_neg e
      rw [e2, e3]
      exact NX.look k r
  | [], _ :: _, h => h.elim
  | _ :: _, [], h => h.elim
theorem NX.map {H : Hp} {k : NestedKey} {v : Int} {t : Tok} : ∀ {xs : List NE} {kvs : List (NestedKey × Int)}, NX H xs kvs → NX H (xs.map (putAt k (Value.int v t))) (kvs.map fun kv => if kv.1 = k then (kv.1, v) else kv)
  | [], [], _ => trivial
  | (j, b, u) :: xs, (j', v') :: kvs, ⟨⟨e1, e2, e3, e4⟩, r⟩ => by
    cases (show j = j' from e1)
    refine ⟨?_, NX.map r⟩
    show (putAt k (Value.int v t) (j, b, u)).1 = (if j = k then (j, v) else (j, v')).1 ∧ _
    by_cases e : j = k
    · rw [show putAt k (Value.int v t) (j, b, u) = (j, b, Value.int v t) from if_pos e]
      simp only [if_pos e]
      exact ⟨trivial, e2, e3, t, rfl⟩
    · rw [show putAt k (Value.int v t) (j, b, u) = (j, b, u) from if_neg e]
      simp only [if_neg e]
      exact ⟨trivial, e2, e3, e4⟩
  | [], _ :: _, h => h.elim
  | _ :: _, [], h => h.elim
theorem NX.put {H : Hp} {xs : List NE} {kvs : List (NestedKey × Int)} {k : NestedKey} {b : Addr} {v : Int} {t : Tok} (r : NX H xs kvs) (d : k.depth ≤ 8) (n : Nk H (.ref b) k) : NX H (storedH xs k b (Value.int v t)) (putN kvs k v) := by
  unfold storedH putN
  rcases r.look k with ⟨e1, e2⟩ | ⟨v', b', t', e1, e2⟩
  · rw [e1, e2]
    exact r.app ⟨⟨rfl, d, n, t, rfl⟩, trivial⟩
  · rw [e1, e2]
    exact r.map
theorem lookN_none {kvs : List (NestedKey × Int)} {k : NestedKey} (h : lookN kvs k = none) : k ∉ kvs.map (·.1) := by
  induction kvs with
  | nil => simp
  | cons x r ih =>
    obtain ⟨j, v⟩ := x
    by_cases e : j = k
    · rw [show lookN ((j, v) :: r) k = some v from if_pos e] at h; cases h
    · rw [show lookN ((j, v) :: r) k = lookN r k from if_neg e] at h
      intro z
      rcases List.mem_cons.mp z with z | z
      · exact e z.symm
      · exact ih h z
theorem putN_nodup {kvs : List (NestedKey × Int)} {k : NestedKey} {v : Int} (h : (kvs.map (·.1)).Nodup) : ((putN kvs k v).map (·.1)).Nodup := by
  unfold putN
  split
  · rw [List.map_map, show ((·.1) ∘ fun kv : NestedKey × Int => if kv.1 = k then (kv.1, v) else kv) = (·.1) from funext fun x => by
      show (if x.1 = k then (x.1, v) else x).1 = x.1
      split <;> rfl]
    exact h
  · rename_i c
    have c : lookN kvs k = none := by cases e : lookN kvs k with | none => rfl | some _ => rw [e] at c; exact absurd rfl c
    rw [List.map_append]
    refine List.nodup_append.mpr ⟨h, by simp, fun x hx y hy => ?_⟩
    cases List.mem_singleton.mp hy
    exact fun e => lookN_none c (by have e : x = k := e; rw [← e]; exact hx)
theorem putN_len (kvs : List (NestedKey × Int)) (k : NestedKey) (v : Int) : (putN kvs k v).length ≤ kvs.length + 1 := by
  unfold putN
  split
  · rw [List.length_map]; omega
  · rw [List.length_append]; simp
end L2
set_option Elab.async false
set_option linter.all false
set_option maxRecDepth 100000
set_option maxHeartbeats 4000000
namespace Ov
open PySem L2
/-! Programs over plain data: what a slot holds is data, or a list that this slot alone owns.
 A reading of the hand layer is held against a plain function over the slots' data. -/
/-! data: as Dp, but no list of the written part -/
/-- a dict of numbers, its values numbers too -/
def kvI (kvs : List (Int × Int)) : List (L2.Key × V) := kvs.map fun kv => (Sum.inl kv.1, V.int kv.2)
/-- a dict of tuples of numbers, its values numbers -/
def kvK (kvs : List (List Int × Int)) : List (List L2.Key × V) := kvs.map fun kv => (kv.1.map Sum.inl, V.int kv.2)
def kvS (ks : List (List Int)) : List (List L2.Key × V) := ks.map fun k => (k.map Sum.inl, V.bl true)
def dkD (kvs : List (List Int × Int)) : PyData := .dict (kvs.map fun kv => (.tuple (kv.1.map .int), .int kv.2))
def dcD (kvs : List (Int × Int)) : PyData := .dict (kvs.map fun kv => (.int kv.1, .int kv.2))
/-- a number, or a tuple of numbers -/
def Fv (K : PySem.W.Frag) (H : Hp) (v : V) (d : PyData) : Prop := (∃ i : Int, v = .int i ∧ d = .int i) ∨ ∃ (p : Addr) (ns : List Int), v = .ref p ∧ TP H p (ns.map V.int) ∧ d = .tuple (ns.map .int)
theorem Fv.same {K : PySem.W.Frag} {H H' : Hp} (s : Same H H') {v : V} {d : PyData} (h : Fv K H v d) : Fv K H' v d := h.imp id fun ⟨p, ns, e1, e2, e3⟩ => ⟨p, ns, e1, e2.same s, e3⟩
def kvV (kvs : List (Int × V × PyData)) : List (L2.Key × V) := kvs.map fun x => (Sum.inl x.1, x.2.1)
mutual
inductive Da (K : PySem.W.Frag) (H : Hp) : V → PyData → Prop
  | non : Da K H .non .none
  | bl (b : Bool) : Da K H (.bl b) (.bool b)
  | int (i : Int) : Da K H (.int i) (.int i)
  | str (x : Str) : Da K H (.str x) (.str x)
  | lst {a : Addr} {xs : List V} {ds : List PyData} : SqL K H a xs → DaAll K H xs ds → Da K H (.ref a) (.list ds)
  | tup {a : Addr} {xs : List V} {ds : List PyData} : TP H a xs → DaAll K H xs ds → Da K H (.ref a) (.tuple ds)
  | dct {a : Addr} {d : List (PyData × PyData)} (kvs : List (Int × V × PyData)) : d = kvs.map (fun x => (.int x.1, x.2.2)) → H a = some (.dK (kvV kvs)) → (∀ x ∈ kvs, Fv K H x.2.1 x.2.2) → Da K H (.ref a) (.dict d)
  | dtk {a : Addr} {d : List (PyData × PyData)} (kvs : List (List Int × Int)) : kvs ≠ [] → d = kvs.map (fun kv => (.tuple (kv.1.map .int), .int kv.2)) → H a = some (.dT (kvK kvs)) → Da K H (.ref a) (.dict d)
inductive DaAll (K : PySem.W.Frag) (H : Hp) : List V → List PyData → Prop
  | nil : DaAll K H [] []
  | cons {v : V} {vs : List V} {d : PyData} {ds : List PyData} : Da K H v d → DaAll K H vs ds → DaAll K H (v :: vs) (d :: ds)
end
section
variable {K : PySem.W.Frag} {H H' : Hp}
theorem Da.dctI {a : Addr} {d : List (PyData × PyData)} (kvs : List (Int × Int)) (e : d = kvs.map (fun kv => (.int kv.1, .int kv.2))) (h : H a = some (.dK (kvI kvs))) : Da K H (.ref a) (.dict d) :=
  .dct (kvs.map fun kv => (kv.1, V.int kv.2, PyData.int kv.2)) (by rw [e, List.map_map]; rfl) (by rw [h]; unfold kvV kvI; rw [List.map_map]; rfl) fun x hx => by
    obtain ⟨kv, _, rfl⟩ := List.mem_map.mp hx
    exact .inl ⟨_, rfl, rfl⟩
theorem rd_same {a : Addr} {xs : List V} (s : Same H H') (h : SqL K H a xs) : SqL K H' a xs := h.imp (fun h => h.imp (fun z => s _ _ z) fun ⟨u, z⟩ => ⟨u, s _ _ z⟩) id
theorem rd_sq {a : Addr} {xs : List V} (h : SqL K H a xs) : SqL K H a xs := h
mutual
theorem Da.same (s : Same H H') : ∀ {v : V} (d : PyData), Da K H v d → Da K H' v d
  | _, .none, h => by cases h; exact .non
  | _, .bool b, h => by cases h; exact .bl b
  | _, .int i, h => by cases h; exact .int i
  | _, .str x, h => by cases h; exact .str x
  | _, .list ds, h => by cases h with | lst q t => exact .lst (rd_same s q) (DaAll.same s ds t)
  | _, .tuple ds, h => by cases h with | tup q t => exact .tup (q.same s) (DaAll.same s ds t)
  | _, .dict _, h => by cases h with
    | dct kvs e q f => exact .dct kvs e (s _ _ q) fun x hx => (f x hx).same s
    | dtk kvs n e q => exact .dtk kvs n e (s _ _ q)
theorem DaAll.same (s : Same H H') : ∀ {xs : List V} (ds : List PyData), DaAll K H xs ds → DaAll K H' xs ds
  | _, [], h => by cases h; exact .nil
  | _, d :: ds, h => by cases h with | cons q t => exact .cons (Da.same s d q) (DaAll.same s ds t)
end
mutual
theorem Da.dp : ∀ {v : V} (d : PyData), d.hasDict = false → Da K H v d → Dp K H v d
  | _, .none, _, h => by cases h; exact .non
  | _, .bool b, _, h => by cases h; exact .bl b
  | _, .int i, _, h => by cases h; exact .int i
  | _, .str x, _, h => by cases h; exact .str x
  | _, .list ds, n, h => by cases h with | lst q t => exact .lst (rd_sq q) (DaAll.dp ds n t)
  | _, .tuple ds, n, h => by cases h with | tup q t => exact .tup q.sq (DaAll.dp ds n t)
  | _, .dict _, n, h => by cases n
theorem DaAll.dp : ∀ {xs : List V} (ds : List PyData), PyData.hasDictAll ds = false → DaAll K H xs ds → DpAll K H xs ds
  | _, [], _, h => by cases h; exact .nil
  | _, d :: ds, n, h => by cases h with | cons q t => exact .cons (Da.dp d (Bool.or_eq_false_iff.mp n).1 q) (DaAll.dp ds (Bool.or_eq_false_iff.mp n).2 t)
end
theorem da_ty {v : V} {d : PyData} (h : Da K H v d) : TyX K H v (Value.type (tyD d)) := by
  cases h with
  | non => exact dp_ty .non
  | bl b => exact dp_ty (.bl b)
  | int i => exact dp_ty (.int i)
  | str x => exact dp_ty (.str x)
  | lst q t => exact tyL q
  | tup q t => exact tyT q.sq
  | dct kvs e q _ => exact .base (.dK q)
  | dtk kvs n e q => exact .base (.dT q)
mutual
theorem lay_nd : ∀ (d : PyData), d.canLay0 = true → d.hasDict = false
  | .none, _ => rfl
  | .bool _, _ => rfl
  | .int _, _ => rfl
  | .str _, _ => rfl
  | .list ds, h => lay_ndAll ds h
  | .tuple ds, h => lay_ndAll ds h
  | .dict _, h => by cases h
theorem lay_ndAll : ∀ (ds : List PyData), PyData.canLayAll0 ds = true → PyData.hasDictAll ds = false
  | [], _ => rfl
  | d :: ds, h => by
    have h' : (PyData.canLay0 d && PyData.canLayAll0 ds) = true := h
    rw [Bool.and_eq_true] at h'
    exact Bool.or_eq_false_iff.mpr ⟨lay_nd d h'.1, lay_ndAll ds h'.2⟩
end
theorem shp_nd {d : PyData} (h : SeqAt.shaped d = true) : d.hasDict = false := by
  have h' : (d.canLay0 && decide (d.depth ≤ 64)) = true := h
  rw [Bool.and_eq_true] at h'
  exact lay_nd d h'.1
theorem daAll_len : ∀ {xs : List V} {ds : List PyData}, DaAll K H xs ds → xs.length = ds.length
  | _, _, .nil => rfl
  | _, _, .cons _ t => congrArg (· + 1) (daAll_len t)
theorem daAll_get : ∀ {xs : List V} {ds : List PyData}, DaAll K H xs ds → ∀ {i : Nat} {d : PyData}, ds[i]? = some d → ∃ x, xs[i]? = some x ∧ Da K H x d
  | _, _, .nil, i, d, h => by simp at h
  | _, _, .cons h t, 0, d, e => by cases e; exact ⟨_, rfl, h⟩
  | _, _, .cons h t, i + 1, d, e => daAll_get t (i := i) e
theorem daAll_append : ∀ {xs ys : List V} {ds es : List PyData}, DaAll K H xs ds → DaAll K H ys es → DaAll K H (xs ++ ys) (ds ++ es)
  | _, _, _, _, .nil, t => t
  | _, _, _, _, .cons h r, t => .cons h (daAll_append r t)
theorem daAll_drop : ∀ {xs : List V} {ds : List PyData}, DaAll K H xs ds → ∀ i : Nat, DaAll K H (xs.drop i) (ds.drop i)
  | _, _, t, 0 => t
  | _, _, .nil, i + 1 => .nil
  | _, _, .cons _ r, i + 1 => daAll_drop r i
theorem daAll_take : ∀ {xs : List V} {ds : List PyData}, DaAll K H xs ds → ∀ i : Nat, DaAll K H (xs.take i) (ds.take i)
  | _, _, _, 0 => by rw [List.take_zero, List.take_zero]; exact .nil
  | _, _, .nil, i + 1 => .nil
  | _, _, .cons h r, i + 1 => .cons h (daAll_take r i)
theorem daAll_set {v : V} {d : PyData} (z : Da K H v d) : ∀ {xs : List V} {ds : List PyData}, DaAll K H xs ds → ∀ i : Nat, DaAll K H (xs.set i v) (ds.set i d)
  | _, _, .nil, i => .nil
  | _, _, .cons _ r, 0 => .cons z r
  | _, _, .cons h r, i + 1 => .cons h (daAll_set z r i)
end
/-- no tuple, and not locked -/
def NT : HO → Prop
  | .tup _ => False
  | .frz _ _ => False
  | _ => True
theorem off_P {S : Addr → Prop} {a : Addr} {H : Hp} {xs : List V} (hS : ∀ b, S b → ∃ o, H b = some o ∧ NT o) (h : TP H a xs) : TP (off S H) a xs := by
  refine (off_ne fun z => ?_).trans h
  obtain ⟨ys, e, n⟩ := hS a z
  rw [h] at e
  cases e
  exact n
theorem TP.off {S : Addr → Prop} {a : Addr} {H : Hp} {xs : List V} (h : TP (off S H) a xs) : TP H a xs := off_sub S H _ _ h
inductive It1 where
  | dat (d : PyData)
  | own (ds : List PyData)
inductive Wv where
  | dat (d : PyData)
  | own (xs : List It1)
  | exc (C : Addr) (f : Str) (d : PyData)
  /-- a dict of numbers, each True -/
  | dct (ks : List Int)
  /-- a dict of numbers, its values numbers too -/
  | dci (kvs : List (Int × Int))
  /-- a dict of tuples of numbers, its values numbers -/
  | dtk (kvs : List (List Int × Int))
  /-- a dict of tuples of numbers, its values True -/
  | dts (ks : List (List Int))
  /-- data that stands at a known value -/
  | pin (u : V) (d : PyData)
  /-- a dict of nested keys, its values numbers: one's own -/
  | dtn (kvs : List (NestedKey × Int))
  /-- the same, read only -/
  | nd (kvs : List (NestedKey × Int))
abbrev En := List (Option Wv)
def un (B : Addr → Prop) (l : List Addr) : Addr → Prop := fun b => B b ∨ b ∈ l
/-- all but what stands at l is kept -/
def Fr (l : List Addr) (H H' : Hp) : Prop := ∀ b o, b ∉ l → H b = some o → H' b = some o
def kvT (ks : List Int) : List (L2.Key × V) := ks.map fun k => (Sum.inl k, V.bl true)
/-- the dict of nested keys at p -/
def NdR (G : Hp) (p : Addr) (kvs : List (NestedKey × Int)) : Prop := ∃ o xs, G p = some (objO p o) ∧ NOb p o xs ∧ NX G xs kvs ∧ (kvs.map (·.1)).Nodup
theorem NdR.same {G G' : Hp} (s : Same G G') {p : Addr} {kvs : List (NestedKey × Int)} (h : NdR G p kvs) : NdR G' p kvs := by
  obtain ⟨o, xs, h1, h2, h3, h4⟩ := h
  exact ⟨o, xs, s _ _ h1, h2, h3.keep fun b xs e => s _ _ e, h4⟩
section
variable {K : PySem.W.Frag}
def Rp1 (K : PySem.W.Frag) (H G : Hp) (v : V) (x : It1) (l : List Addr) : Prop :=
  match x with
  | .dat d => l = [] ∧ Da K G v d
  | .own ds => ∃ q us, v = .ref q ∧ l = [q] ∧ H q = some (.lst us) ∧ DaAll K G us ds
def Rp1s (K : PySem.W.Frag) (H G : Hp) : List V → List It1 → List Addr → Prop
  | [], [], l => l = []
  | v :: vs, x :: xs, l => ∃ a b, l = a ++ b ∧ Rp1 K H G v x a ∧ Rp1s K H G vs xs b
  | _, _, _ => False
def RpW (K : PySem.W.Frag) (H G : Hp) (v : V) (w : Wv) (l : List Addr) : Prop :=
  match w with
  | .dat d => l = [] ∧ Da K G v d
  | .own xs => ∃ p vs b, v = .ref p ∧ l = p :: b ∧ H p = some (.lst vs) ∧ Rp1s K H G vs xs b
  | .exc C f d => l = [] ∧ ∃ a u, v = .ref a ∧ CauF K G a C f u ∧ (f ≠ "" → Da K G u d)
  | .dct ks => ∃ p, v = .ref p ∧ l = [p] ∧ H p = some (.dK (kvT ks))
  | .dci kvs => ∃ p, v = .ref p ∧ l = [p] ∧ H p = some (.dK (kvI kvs))
  | .dtk kvs => ∃ p, v = .ref p ∧ l = [p] ∧ H p = some (.dT (kvK kvs))
  | .dts ks => ∃ p, v = .ref p ∧ l = [p] ∧ H p = some (.dT (kvS ks))
  | .pin u d => l = [] ∧ v = u ∧ Da K G v d
  | .dtn kvs => ∃ p o xs, v = .ref p ∧ l = [p] ∧ H p = some (objO p o) ∧ NOb p o xs ∧ NX G xs kvs ∧ (kvs.map (·.1)).Nodup
  | .nd kvs => l = [] ∧ ∃ p, v = .ref p ∧ NdR G p kvs
def RpS (K : PySem.W.Frag) (H G : Hp) (s : Option V) (e : Option Wv) (l : List Addr) : Prop :=
  match e with
  | none => l = []
  | some w => ∃ v, s = some v ∧ RpW K H G v w l
def RpE (K : PySem.W.Frag) (H G : Hp) : St → En → List Addr → Prop
  | [], [], l => l = []
  | s :: σ, e :: env, l => ∃ a b, l = a ++ b ∧ RpS K H G s e a ∧ RpE K H G σ env b
  | _, _, _ => False
variable {H H' G G' : Hp}
theorem Rp1.mv (s : Same G G') {v : V} {x : It1} {l : List Addr} (k : ∀ q ∈ l, H' q = H q) (h : Rp1 K H G v x l) : Rp1 K H' G' v x l := by
  cases x with
  | dat d => exact ⟨h.1, Da.same s d h.2⟩
  | own ds =>
    obtain ⟨q, us, e1, e2, e3, e4⟩ := h
    exact ⟨q, us, e1, e2, (k q (by rw [e2]; exact List.mem_cons_self ..)).trans e3, DaAll.same s ds e4⟩
theorem Rp1s.mv (s : Same G G') : ∀ {vs : List V} {xs : List It1} {l : List Addr}, (∀ q ∈ l, H' q = H q) → Rp1s K H G vs xs l → Rp1s K H' G' vs xs l
  | [], [], l, _, h => h
  | v :: vs, x :: xs, l, k, ⟨a, b, e, h1, h2⟩ => ⟨a, b, e, h1.mv s fun q z => k q (by rw [e]; exact List.mem_append_left _ z), Rp1s.mv s (fun q z => k q (by rw [e]; exact List.mem_append_right _ z)) h2⟩
theorem RpW.mv (s : Same G G') {v : V} {w : Wv} {l : List Addr} (k : ∀ q ∈ l, H' q = H q) (h : RpW K H G v w l) : RpW K H' G' v w l := by
  cases w with
  | dat d => exact ⟨h.1, Da.same s d h.2⟩
  | own xs =>
    obtain ⟨p, vs, b, e1, e2, e3, e4⟩ := h
    exact ⟨p, vs, b, e1, e2, (k p (by rw [e2]; exact List.mem_cons_self ..)).trans e3, Rp1s.mv s (fun q z => k q (by rw [e2]; exact List.mem_cons_of_mem _ z)) e4⟩
  | exc C f d =>
    obtain ⟨e, a, u, e1, e2, e3⟩ := h
    exact ⟨e, a, u, e1, e2.same s, fun z => Da.same s d (e3 z)⟩
  | dct ks =>
    obtain ⟨p, e1, e2, e3⟩ := h
    exact ⟨p, e1, e2, (k p (by rw [e2]; exact List.mem_cons_self ..)).trans e3⟩
  | dci ks =>
    obtain ⟨p, e1, e2, e3⟩ := h
    exact ⟨p, e1, e2, (k p (by rw [e2]; exact List.mem_cons_self ..)).trans e3⟩
  | dtk ks =>
    obtain ⟨p, e1, e2, e3⟩ := h
    exact ⟨p, e1, e2, (k p (by rw [e2]; exact List.mem_cons_self ..)).trans e3⟩
  | pin u d => exact ⟨h.1, h.2.1, Da.same s d h.2.2⟩
  | nd kvs => obtain ⟨e1, p, e2, e3⟩ := h; exact ⟨e1, p, e2, e3.same s⟩
  | dtn kvs =>
    obtain ⟨p, o, xs, e1, e2, e3, e4, e5, e6⟩ := h
    exact ⟨p, o, xs, e1, e2, (k p (by rw [e2]; exact List.mem_cons_self ..)).trans e3, e4, e5.keep fun b xs e => s _ _ e, e6⟩
  | dts ks =>
    obtain ⟨p, e1, e2, e3⟩ := h
    exact ⟨p, e1, e2, (k p (by rw [e2]; exact List.mem_cons_self ..)).trans e3⟩
theorem RpS.mv (s : Same G G') {v : Option V} {e : Option Wv} {l : List Addr} (k : ∀ q ∈ l, H' q = H q) (h : RpS K H G v e l) : RpS K H' G' v e l := by
  cases e with
  | none => exact h
  | some w =>
    obtain ⟨x, e1, e2⟩ := h
    exact ⟨x, e1, e2.mv s k⟩
theorem RpE.mv (s : Same G G') : ∀ {σ : St} {env : En} {l : List Addr}, (∀ q ∈ l, H' q = H q) → RpE K H G σ env l → RpE K H' G' σ env l
  | [], [], l, _, h => h
  | v :: σ, e :: env, l, k, ⟨a, b, z, h1, h2⟩ => ⟨a, b, z, h1.mv s fun q y => k q (by rw [z]; exact List.mem_append_left _ y), RpE.mv s (fun q y => k q (by rw [z]; exact List.mem_append_right _ y)) h2⟩
theorem Rp1.trk {v : V} {x : It1} {l : List Addr} (h : Rp1 K H G v x l) : ∀ q ∈ l, ∃ o, H q = some o ∧ NT o := by
  cases x with
  | dat d => intro q z; rw [h.1] at z; cases z
  | own ds =>
    obtain ⟨p, us, e1, e2, e3, e4⟩ := h
    intro q z
    rw [e2] at z
    cases List.mem_singleton.mp z
    exact ⟨_, e3, trivial⟩
theorem Rp1s.trk : ∀ {vs : List V} {xs : List It1} {l : List Addr}, Rp1s K H G vs xs l → ∀ q ∈ l, ∃ o, H q = some o ∧ NT o
  | [], [], l, h => fun q z => by rw [show l = [] from h] at z; cases z
  | v :: vs, x :: xs, l, ⟨a, b, e, h1, h2⟩ => fun q z => by
    rw [e] at z
    exact (List.mem_append.mp z).elim (h1.trk q) (Rp1s.trk h2 q)
theorem RpW.trk {v : V} {w : Wv} {l : List Addr} (h : RpW K H G v w l) : ∀ q ∈ l, ∃ o, H q = some o ∧ NT o := by
  cases w with
  | dat d => intro q z; rw [h.1] at z; cases z
  | own xs =>
    obtain ⟨p, vs, b, e1, e2, e3, e4⟩ := h
    intro q z
    rw [e2] at z
    rcases List.mem_cons.mp z with z | z
    · cases z; exact ⟨_, e3, trivial⟩
    · exact e4.trk q z
  | exc C f d => intro q z; rw [h.1] at z; cases z
  | dct ks =>
    obtain ⟨p, e1, e2, e3⟩ := h
    intro q z
    rw [e2] at z
    cases List.mem_singleton.mp z
    exact ⟨_, e3, trivial⟩
  | dci ks =>
    obtain ⟨p, e1, e2, e3⟩ := h
    intro q z
    rw [e2] at z
    cases List.mem_singleton.mp z
    exact ⟨_, e3, trivial⟩
  | dtk ks =>
    obtain ⟨p, e1, e2, e3⟩ := h
    intro q z
    rw [e2] at z
    cases List.mem_singleton.mp z
    exact ⟨_, e3, trivial⟩
  | pin u d => intro q z; rw [h.1] at z; cases z
  | nd kvs => intro q z; rw [h.1] at z; cases z
  | dtn kvs =>
    obtain ⟨p, o, xs, e1, e2, e3, _⟩ := h
    intro q z
    rw [e2] at z
    cases List.mem_singleton.mp z
    exact ⟨_, e3, trivial⟩
  | dts ks =>
    obtain ⟨p, e1, e2, e3⟩ := h
    intro q z
    rw [e2] at z
    cases List.mem_singleton.mp z
    exact ⟨_, e3, trivial⟩
theorem RpE.trk : ∀ {σ : St} {env : En} {l : List Addr}, RpE K H G σ env l → ∀ q ∈ l, ∃ o, H q = some o ∧ NT o
  | [], [], l, h => fun q z => by rw [show l = [] from h] at z; cases z
  | s :: σ, e :: env, l, ⟨a, b, z, h1, h2⟩ => fun q y => by
    rw [z] at y
    refine (List.mem_append.mp y).elim (fun y => ?_) (RpE.trk h2 q)
    cases e with
    | none => rw [show a = [] from h1] at y; cases y
    | some w => obtain ⟨v, _, h1⟩ := h1; exact h1.trk q y
/-- one slot, and what may come in its place -/
theorem RpE.focus : ∀ {σ : St} {env : En} {l : List Addr} {i : Nat} {e : Option Wv}, RpE K H G σ env l → env[i]? = some e → ∃ s a lx ly, σ[i]? = some s ∧ l = lx ++ (a ++ ly) ∧ RpS K H G s e a ∧
    ∀ {H' G' : Hp} {s' : Option V} {e' : Option Wv} {a' : List Addr}, Same G G' → (∀ q ∈ lx, H' q = H q) → (∀ q ∈ ly, H' q = H q) → RpS K H' G' s' e' a' → RpE K H' G' (σ.set i s') (env.set i e') (lx ++ (a' ++ ly))
  | [], [], l, i, e, h, q => by simp at q
  | s :: σ, e :: env, l, 0, _, ⟨a, b, z, h1, h2⟩, q => by
    cases q
    refine ⟨s, a, [], b, rfl, z, h1, fun {H' G' s' e' a'} sg kx ky h' => ⟨a', b, rfl, h', h2.mv sg ky⟩⟩
  | s :: σ, e :: env, l, i + 1, e0, ⟨a, b, z, h1, h2⟩, q => by
    obtain ⟨s0, a0, lx, ly, q1, q2, q3, q4⟩ := RpE.focus (i := i) (e := e0) h2 q
    refine ⟨s0, a0, a ++ lx, ly, q1, by rw [z, q2, List.append_assoc], q3, fun {H' G' s' e' a'} sg kx ky h' => ?_⟩
    refine ⟨a, lx ++ (a' ++ ly), by rw [List.append_assoc], h1.mv sg fun q y => kx q (List.mem_append_left _ y), q4 sg (fun q y => kx q (List.mem_append_right _ y)) ky h'⟩
theorem RpE.len : ∀ {σ : St} {env : En} {l : List Addr}, RpE K H G σ env l → σ.length = env.length
  | [], [], _, _ => rfl
  | _ :: _, _ :: _, _, ⟨_, _, _, _, h⟩ => congrArg (· + 1) (RpE.len h)
end
/-- the slots hold what env says, the lists owned standing at l, beside the lists B of others -/
structure Rep (K : PySem.W.Frag) (B : Addr → Prop) (σ : St) (H : Hp) (env : En) (l : List Addr) : Prop where
  rp : RpE K H (off (un B l) H) σ env l
  nd : l.Nodup
  out : ∀ b ∈ l, ¬ B b
  tb : ∀ b, B b → ∃ o, H b = some o ∧ NT o
section
variable {K : PySem.W.Frag} {B B' : Addr → Prop} {σ : St} {H H' H1 H2 : Hp} {env : En} {l l' : List Addr}
theorem off_mono {S S' : Addr → Prop} {H H' : Hp} (hS : ∀ b, S' b → ¬ S b → H b = none) (s : ∀ b o, ¬ S b → H b = some o → H' b = some o) : Same (off S H) (off S' H') := fun b o h => by
  obtain ⟨n, e⟩ := off_at h
  rw [off_ne fun z => by rw [hS b z n] at e; cases e]
  exact s b o n e
theorem Fr.refl (l : List Addr) (H : Hp) : Fr l H H := fun _ _ _ h => h
theorem Fr.of {l : List Addr} (s : Same H H') : Fr l H H' := fun b o _ h => s b o h
theorem Fr.trans (a : Fr l H H1) (b : Fr l H1 H2) : Fr l H H2 := fun c o n h => b c o n (a c o n h)
theorem Fr.keep (f : Fr l H H') : Same (off (un B l) H) (off (un B l) H') := off_mono (fun b z n => absurd z n) fun b o n h => f b o (fun z => n (.inr z)) h
theorem Rep.tl (r : Rep K B σ H env l) : ∀ b, un B l b → ∃ o, H b = some o ∧ NT o := fun b z => z.elim (r.tb b) fun z => r.rp.trk b z
theorem Rep.fresh (r : Rep K B σ H env l) {p : Addr} (h : H p = none) : ¬ un B l p := fun z => by
  obtain ⟨o, e, _⟩ := r.tl p z
  rw [h] at e
  cases e
/-- the heap grows; more lists may stand beside -/
theorem Rep.grow (r : Rep K B σ H env l) (s : Same H H') (h1 : ∀ b, B b → B' b) (h2 : ∀ b, B' b → B b ∨ H b = none) (h3 : ∀ b, B' b → ∃ o, H' b = some o ∧ NT o) : Rep K B' σ H' env l := by
  have t := r.rp.trk
  refine ⟨r.rp.mv ?_ fun q z => ?_, r.nd, fun b z y => (h2 b y).elim (r.out b z) fun e => r.fresh e (.inr z), h3⟩
  · exact off_mono (fun b z n => z.elim (fun z => (h2 b z).elim (fun z => absurd (.inl z) n) id) fun z => absurd (.inr z) n) fun b o n h => s b o h
  · obtain ⟨us, e, _⟩ := t q z
    rw [e, s _ _ e]
theorem Rep.same (r : Rep K B σ H env l) (s : Same H H') : Rep K B σ H' env l := r.grow s (fun _ z => z) (fun _ z => .inl z) fun b z => by
  obtain ⟨o, e, n⟩ := r.tb b z
  exact ⟨o, s _ _ e, n⟩
/-- fewer lists beside -/
theorem Rep.less (r : Rep K B' σ H env l) (h : ∀ b, B b → B' b) : Rep K B σ H env l :=
  ⟨r.rp.mv (off_mono (fun b z n => absurd (z.elim (fun z => .inl (h b z)) .inr) n) fun b o n e => e) fun _ _ => rfl, r.nd, fun b z y => r.out b z (h b y), fun b z => r.tb b (h b z)⟩
theorem Rep.len (r : Rep K B σ H env l) : σ.length = env.length := r.rp.len
end
/-! results -/
inductive R where
  | dat (d : PyData)
  | slot (i : Nat)
  | exc (C : Addr) (f : Str) (d : PyData)
def RpR (K : PySem.W.Frag) (G : Hp) (σ : St) (v : V) (r : R) : Prop :=
  match r with
  | .dat d => Da K G v d
  | .slot i => σ[i]? = some (some v)
  | .exc C f d => ∃ a u, v = .ref a ∧ CauF K G a C f u ∧ (f ≠ "" → Da K G u d)
theorem RpR.mv {K : PySem.W.Frag} {G G' : Hp} {σ : St} {v : V} {r : R} (s : Same G G') (h : RpR K G σ v r) : RpR K G' σ v r := by
  cases r with
  | dat d => exact Da.same s d h
  | slot i => exact h
  | exc C f d =>
    obtain ⟨a, u, e1, e2, e3⟩ := h
    exact ⟨a, u, e1, e2.same s, fun z => Da.same s d (e3 z)⟩
inductive Rs (α : Type) where
  | ok (a : α) (env : En)
  | ex (C : Addr) (f : Str) (d : PyData)
def M (α : Type) := En → Option (Rs α)
def M.bind {α β : Type} (x : M α) (f : α → M β) : M β := fun env =>
  match x env with
  | none => none
  | some (.ok a e) => f a e
  | some (.ex C g d) => some (.ex C g d)
def M.pure {α : Type} (a : α) : M α := fun env => some (.ok a env)
instance : Monad M where
  pure := M.pure
  bind := M.bind
def lift {α : Type} (o : Option α) : M α := fun env => o.map fun a => .ok a env
def itds : List It1 → Option (List PyData)
  | [] => some []
  | .dat d :: r => (itds r).map (d :: ·)
  | .own _ :: _ => none
/-- a list of data as a list owned -/
def dats (ds : List PyData) : List It1 := ds.map .dat
theorem itds_dats (ds : List PyData) : itds (dats ds) = some ds := by
  induction ds with
  | nil => rfl
  | cons d r ih => show (itds (dats r)).map (d :: ·) = _; rw [ih]; rfl
theorem itds_eq : ∀ {xs : List It1} {ds : List PyData}, itds xs = some ds → xs = dats ds
  | [], ds, h => by cases h; rfl
  | .dat d :: r, ds, h => by
    obtain ⟨q, e1, e2⟩ := Option.map_eq_some_iff.mp (show (itds r).map (d :: ·) = some ds from h)
    subst e2
    rw [itds_eq e1]
    rfl
  | .own _ :: _, ds, h => by cases h
/-- the data of a result, as it stands -/
def vw (r : R) : M PyData := fun env =>
  match r with
  | .dat d => some (.ok d env)
  | .slot i =>
    match env[i]? with
    | some (some (.own xs)) => (itds xs).map fun ds => .ok (.list ds) env
    | _ => none
  | .exc _ _ _ => none
/-- data to be read: the outermost list may be one that is owned -/
def Vw (K : PySem.W.Frag) (S : Addr → Prop) (H : Hp) (v : V) (d : PyData) : Prop :=
  Da K (off S H) v d ∨ ∃ p vs ds, v = .ref p ∧ d = .list ds ∧ H p = some (.lst vs) ∧ DaAll K (off S H) vs ds
theorem rp1s_dats {K : PySem.W.Frag} {H G : Hp} : ∀ {vs : List V} {ds : List PyData} {l : List Addr}, Rp1s K H G vs (dats ds) l → l = [] ∧ DaAll K G vs ds
  | [], [], l, h => ⟨h, .nil⟩
  | v :: vs, d :: ds, l, ⟨a, b, e, h1, h2⟩ => by
    obtain ⟨e2, h3⟩ := rp1s_dats h2
    exact ⟨by rw [e, h1.1, e2]; rfl, .cons h1.2 h3⟩
  | [], _ :: _, _, h => h.elim
  | _ :: _, [], _, h => h.elim
theorem rp1s_of {K : PySem.W.Frag} {H G : Hp} : ∀ {vs : List V} {ds : List PyData}, DaAll K G vs ds → Rp1s K H G vs (dats ds) []
  | _, _, .nil => rfl
  | _, _, .cons h t => ⟨[], [], rfl, ⟨rfl, h⟩, rp1s_of t⟩
theorem vw_ok {K : PySem.W.Frag} {B : Addr → Prop} {σ : St} {H : Hp} {env env' : En} {l : List Addr} {v : V} {r : R} {d : PyData} (h : Rep K B σ H env l) (q : RpR K (off (un B l) H) σ v r) (e : vw r env = some (.ok d env')) : env' = env ∧ Vw K (un B l) H v d := by
  cases r with
  | dat d' => cases e; exact ⟨rfl, .inl q⟩
  | exc _ _ _ => cases e
  | slot i =>
    unfold vw at e
    simp only at e
    split at e
    · rename_i xs hx
      obtain ⟨ds, e1, e2⟩ := Option.map_eq_some_iff.mp e
      cases e2
      have hx2 := itds_eq e1
      subst hx2
      obtain ⟨s, a, lx, ly, q1, q2, ⟨v', q3, p, vs, b, q4, q5, q6, q7⟩, _⟩ := h.rp.focus hx
      rw [show σ[i]? = some (some v) from q] at q1
      cases q1
      cases q3
      exact ⟨rfl, .inr ⟨p, vs, ds, q4, rfl, q6, (rp1s_dats q7).2⟩⟩
    · cases e
theorem vw_noex {r : R} {env : En} {C : Addr} {f : Str} {d : PyData} : vw r env ≠ some (.ex C f d) := by
  unfold vw
  intro e
  split at e
  · cases e
  · split at e
    · obtain ⟨_, _, e2⟩ := Option.map_eq_some_iff.mp e
      cases e2
    · cases e
  · cases e
end Ov
set_option Elab.async false
set_option linter.all false
set_option maxRecDepth 100000
set_option maxHeartbeats 4000000
namespace Ov
open PySem L2
/-! readings held against plain functions: expressions -/
def Exn (K : PySem.W.Frag) (E : XK) (B : Addr → Prop) (H : Hp) (l : List Addr) (C : Addr) (f : Str) (d : PyData) : Prop :=
  (f ≠ "" → ∀ dx H' v, Fr l H H' → ¬ B dx → H' dx = some (.xd [(f, v)]) → Da K (off B H') v d → E (.ref C) (some dx) H') ∧ (f = "" → ∀ H', Fr l H H' → E (.ref C) none H')
theorem Exn.later {K : PySem.W.Frag} {E : XK} {B : Addr → Prop} {H H1 : Hp} {l : List Addr} {C : Addr} {f : Str} {d : PyData} (x : Exn K E B H l C f d) (s : Fr l H H1) : Exn K E B H1 l C f d :=
  ⟨fun hf dx H' v fr n h q => x.1 hf dx H' v (s.trans fr) n h q, fun hf H' fr => x.2 hf H' (s.trans fr)⟩
theorem Exn.wide {K : PySem.W.Frag} {E : XK} {B : Addr → Prop} {H : Hp} {l l1 : List Addr} {C : Addr} {f : Str} {d : PyData} (x : Exn K E B H l C f d) : Exn K E (un B l1) H l C f d :=
  ⟨fun hf dx H' v fr n hh q => x.1 hf dx H' v fr (fun z => n (.inl z)) hh (Da.same (off_mono (fun b z n => absurd (.inl z) n) fun b o n e => e) d q), x.2⟩
def PostE (K : PySem.W.Frag) (E : XK) (B : Addr → Prop) (σ : St) (H : Hp) (l : List Addr) (rs : Rs R) (Q : VK) : Prop :=
  match rs with
  | .ok r env' => ∀ v H', Rep K B σ H' env' l → Fr l H H' → RpR K (off (un B l) H') σ v r → Q v H'
  | .ex C f d => Exn K E B H l C f d
def PostT (K : PySem.W.Frag) (E : XK) (B : Addr → Prop) (σ : St) (H : Hp) (l : List Addr) (rs : Rs Bool) (Q : Bool → Hp → Prop) : Prop :=
  match rs with
  | .ok b env' => ∀ H', Rep K B σ H' env' l → Fr l H H' → Q b H'
  | .ex C f d => Exn K E B H l C f d
def RpRs (K : PySem.W.Frag) (G : Hp) (σ : St) : List V → List R → Prop
  | [], [] => True
  | v :: vs, r :: rs => RpR K G σ v r ∧ RpRs K G σ vs rs
  | _, _ => False
theorem RpRs.mv {K : PySem.W.Frag} {G G' : Hp} {σ : St} (s : Same G G') : ∀ {vs : List V} {rs : List R}, RpRs K G σ vs rs → RpRs K G' σ vs rs
  | [], [], _ => trivial
  | _ :: _, _ :: _, h => ⟨h.1.mv s, h.2.mv s⟩
def PostA (K : PySem.W.Frag) (E : XK) (B : Addr → Prop) (σ : St) (H : Hp) (l : List Addr) (rs : Rs (List R)) (Q : List V → Hp → Prop) : Prop :=
  match rs with
  | .ok r env' => ∀ vs H', Rep K B σ H' env' l → Fr l H H' → RpRs K (off (un B l) H') σ vs r → Q vs H'
  | .ex C f d => Exn K E B H l C f d
structure OkE (K : PySem.W.Frag) (E : XK) (t : TE) (f : M R) : Prop where
  run : ∀ {B : Addr → Prop} {σ : St} {H : Hp} {env : En} {l : List Addr} {rs : Rs R}, Rep K B σ H env l → f env = some rs → ∀ {Q : VK}, PostE K E B σ H l rs Q → t σ H Q
structure OkT (K : PySem.W.Frag) (E : XK) (t : TT) (f : M Bool) : Prop where
  run : ∀ {B : Addr → Prop} {σ : St} {H : Hp} {env : En} {l : List Addr} {rs : Rs Bool}, Rep K B σ H env l → f env = some rs → ∀ {Q : Bool → Hp → Prop}, PostT K E B σ H l rs Q → t σ H Q
structure OkA (K : PySem.W.Frag) (E : XK) (t : TA) (f : M (List R)) : Prop where
  run : ∀ {B : Addr → Prop} {σ : St} {H : Hp} {env : En} {l : List Addr} {rs : Rs (List R)}, Rep K B σ H env l → f env = some rs → ∀ {Q : List V → Hp → Prop}, PostA K E B σ H l rs Q → t σ H Q
theorem bind_some {α β : Type} {x : M α} {f : α → M β} {env : En} {rs : Rs β} (h : (M.bind x f) env = some rs) : (∃ a e, x env = some (.ok a e) ∧ f a e = some rs) ∨ ∃ C g d, x env = some (.ex C g d) ∧ rs = .ex C g d := by
  unfold M.bind at h
  split at h
  · cases h
  · exact .inl ⟨_, _, by assumption, h⟩
  · cases h
    exact .inr ⟨_, _, _, by assumption, rfl⟩
theorem lift_some {α : Type} {o : Option α} {env : En} {rs : Rs α} (h : lift o env = some rs) : ∃ a, o = some a ∧ rs = .ok a env := by
  obtain ⟨a, e1, e2⟩ := Option.map_eq_some_iff.mp h
  exact ⟨a, e1, e2.symm⟩
section
variable {K : PySem.W.Frag} {E : XK}
/-- take the first step of a bind: its exception is passed on -/
theorem OkE.seq {α : Type} {ta : TE} {fa : M R} {g : R → M α} (oa : OkE K E ta fa) {B : Addr → Prop} {σ : St} {H : Hp} {env : En} {l : List Addr} {rs : Rs α} (r : Rep K B σ H env l) (h : (M.bind fa g) env = some rs) {Q : VK}
    (hx : ∀ C f d, rs = .ex C f d → Exn K E B H l C f d) (hq : ∀ a e v H', g a e = some rs → Rep K B σ H' e l → Fr l H H' → RpR K (off (un B l) H') σ v a → Q v H') : ta σ H Q := by
  rcases bind_some h with ⟨a, e, h1, h2⟩ | ⟨C, f, d, h1, h2⟩
  · exact oa.run r h1 (fun v H' r' fr q => hq a e v H' h2 r' fr q)
  · exact oa.run r h1 (hx C f d h2)
theorem OkA.seq {α : Type} {ta : TA} {fa : M (List R)} {g : List R → M α} (oa : OkA K E ta fa) {B : Addr → Prop} {σ : St} {H : Hp} {env : En} {l : List Addr} {rs : Rs α} (r : Rep K B σ H env l) (h : (M.bind fa g) env = some rs) {Q : List V → Hp → Prop}
    (hx : ∀ C f d, rs = .ex C f d → Exn K E B H l C f d) (hq : ∀ a e v H', g a e = some rs → Rep K B σ H' e l → Fr l H H' → RpRs K (off (un B l) H') σ v a → Q v H') : ta σ H Q := by
  rcases bind_some h with ⟨a, e, h1, h2⟩ | ⟨C, f, d, h1, h2⟩
  · exact oa.run r h1 (fun v H' r' fr q => hq a e v H' h2 r' fr q)
  · exact oa.run r h1 (hx C f d h2)
theorem OkT.seq {α : Type} {ta : TT} {fa : M Bool} {g : Bool → M α} (oa : OkT K E ta fa) {B : Addr → Prop} {σ : St} {H : Hp} {env : En} {l : List Addr} {rs : Rs α} (r : Rep K B σ H env l) (h : (M.bind fa g) env = some rs) {Q : Bool → Hp → Prop}
    (hx : ∀ C f d, rs = .ex C f d → Exn K E B H l C f d) (hq : ∀ a e H', g a e = some rs → Rep K B σ H' e l → Fr l H H' → Q a H') : ta σ H Q := by
  rcases bind_some h with ⟨a, e, h1, h2⟩ | ⟨C, f, d, h1, h2⟩
  · exact oa.run r h1 (fun H' r' fr => hq a e H' h2 r' fr)
  · exact oa.run r h1 (hx C f d h2)
theorem PostE.exn {B : Addr → Prop} {σ : St} {H : Hp} {l : List Addr} {rs : Rs R} {Q : VK} (h : PostE K E B σ H l rs Q) : ∀ C f d, rs = .ex C f d → Exn K E B H l C f d := fun C f d e => by subst e; exact h
theorem PostT.exn {B : Addr → Prop} {σ : St} {H : Hp} {l : List Addr} {rs : Rs Bool} {Q : Bool → Hp → Prop} (h : PostT K E B σ H l rs Q) : ∀ C f d, rs = .ex C f d → Exn K E B H l C f d := fun C f d e => by subst e; exact h
theorem PostA.exn {B : Addr → Prop} {σ : St} {H : Hp} {l : List Addr} {rs : Rs (List R)} {Q : List V → Hp → Prop} (h : PostA K E B σ H l rs Q) : ∀ C f d, rs = .ex C f d → Exn K E B H l C f d := fun C f d e => by subst e; exact h
theorem exn_later {α : Type} {B : Addr → Prop} {H H1 : Hp} {l : List Addr} {rs : Rs α} (h : ∀ C f d, rs = .ex C f d → Exn K E B H l C f d) (s : Fr l H H1) : ∀ C f d, rs = .ex C f d → Exn K E B H1 l C f d := fun C f d e => (h C f d e).later s
theorem PostE.later {B : Addr → Prop} {σ : St} {H H1 : Hp} {l : List Addr} {rs : Rs R} {Q : VK} (h : PostE K E B σ H l rs Q) (s : Fr l H H1) : PostE K E B σ H1 l rs Q := by
  cases rs with
  | ok r env => exact fun v H' r' fr q => h v H' r' (s.trans fr) q
  | ex C f d => exact Exn.later h s
theorem PostT.later {B : Addr → Prop} {σ : St} {H H1 : Hp} {l : List Addr} {rs : Rs Bool} {Q : Bool → Hp → Prop} (h : PostT K E B σ H l rs Q) (s : Fr l H H1) : PostT K E B σ H1 l rs Q := by
  cases rs with
  | ok r env => exact fun H' r' fr => h H' r' (s.trans fr)
  | ex C f d => exact Exn.later h s
/-! names, constants -/
def get (i : Nat) : M R := fun env =>
  match env[i]? with
  | some (some (.dat d)) => some (.ok (.dat d) env)
  | some (some (.own _)) => some (.ok (.slot i) env)
  | some (some (.exc C f d)) => some (.ok (.exc C f d) env)
  | some (some (.dct _)) => some (.ok (.slot i) env)
  | some (some (.dci _)) => some (.ok (.slot i) env)
  | some (some (.dtk _)) => some (.ok (.slot i) env)
  | some (some (.dts _)) => some (.ok (.slot i) env)
  | some (some (.pin _ d)) => some (.ok (.dat d) env)
  | _ => none
theorem OkE.var (i : Nat) : OkE K E (tVar i) (get i) := by
  refine ⟨?_⟩
  intro B σ H env l rs r h Q post
  unfold get at h
  cases q : env[i]? with
  | none => rw [q] at h; cases h
  | some e =>
    cases e with
    | none => rw [q] at h; cases h
    | some w =>
      rw [q] at h
      obtain ⟨s, a, lx, ly, q1, q2, ⟨v, q3, q4⟩, _⟩ := r.rp.focus q
      subst q3
      refine ⟨v, q1, ?_⟩
      cases w with
      | dat d => cases h; exact post v H r (Fr.refl _ _) q4.2
      | own xs => cases h; exact post v H r (Fr.refl _ _) q1
      | exc C f d => cases h; exact post v H r (Fr.refl _ _) q4.2
      | dct ks => cases h; exact post v H r (Fr.refl _ _) q1
      | dci ks => cases h; exact post v H r (Fr.refl _ _) q1
      | dtk ks => cases h; exact post v H r (Fr.refl _ _) q1
      | dts ks => cases h; exact post v H r (Fr.refl _ _) q1
      | pin u d => cases h; exact post v H r (Fr.refl _ _) q4.2.2
      | dtn _ => cases h
      | nd _ => cases h
def con (d : PyData) : M R := M.pure (.dat d)
theorem OkE.con {v : V} {d : PyData} (hd : ∀ H : Hp, Da K H v d) : OkE K E (fun _ H Q => Q v H) (con d) := by
  refine ⟨?_⟩
  intro B σ H env l rs r h Q post
  cases h
  exact post v H r (Fr.refl _ _) (hd _)
/-! operations -/
def OpOk (K : PySem.W.Frag) (r : R2) (fo : PyData → PyData → Option PyData) : Prop := ∀ {S : Addr → Prop} {H : Hp} {x y : V} {a b d : PyData}, (∀ q, S q → ∃ o, H q = some o ∧ NT o) → Vw K S H x a → Vw K S H y b → fo a b = some d →
  ∀ {Q : VK}, (∀ v H', Same H H' → Da K (off S H') v d → Q v H') → r x y H Q
def UnOk (K : PySem.W.Frag) (r : V → Hp → VK → Prop) (fo : PyData → Option PyData) : Prop := ∀ {S : Addr → Prop} {H : Hp} {x : V} {a d : PyData}, (∀ q, S q → ∃ o, H q = some o ∧ NT o) → Vw K S H x a → fo a = some d →
  ∀ {Q : VK}, (∀ v H', Same H H' → Da K (off S H') v d → Q v H') → r x H Q
inductive VwAll (K : PySem.W.Frag) (S : Addr → Prop) (H : Hp) : List V → List PyData → Prop
  | nil : VwAll K S H [] []
  | cons {v : V} {vs : List V} {d : PyData} {ds : List PyData} : Vw K S H v d → VwAll K S H vs ds → VwAll K S H (v :: vs) (d :: ds)
def CbOk (K : PySem.W.Frag) (r : List V → Hp → VK → Prop) (fo : List PyData → Option PyData) : Prop := ∀ {S : Addr → Prop} {H : Hp} {xs : List V} {as : List PyData} {d : PyData}, (∀ q, S q → ∃ o, H q = some o ∧ NT o) → VwAll K S H xs as → fo as = some d →
  ∀ {Q : VK}, (∀ v H', Same H H' → Da K (off S H') v d → Q v H') → r xs H Q
def op2 (fo : PyData → PyData → Option PyData) (fa fb : M R) : M R := M.bind fa fun a => M.bind fb fun b => M.bind (vw a) fun x => M.bind (vw b) fun y => M.bind (lift (fo x y)) fun d => M.pure (.dat d)
def op1 (fo : PyData → Option PyData) (fa : M R) : M R := M.bind fa fun a => M.bind (vw a) fun x => M.bind (lift (fo x)) fun d => M.pure (.dat d)
theorem vw_step {α : Type} {B : Addr → Prop} {σ : St} {H : Hp} {env : En} {l : List Addr} {v : V} {r : R} {g : PyData → M α} {rs : Rs α} (h : Rep K B σ H env l) (q : RpR K (off (un B l) H) σ v r) (e : (M.bind (vw r) g) env = some rs) :
    ∃ d, g d env = some rs ∧ Vw K (un B l) H v d := by
  rcases bind_some e with ⟨a, e1, h1, h2⟩ | ⟨C, f, d, h1, _⟩
  · obtain ⟨rfl, q2⟩ := vw_ok h q h1
    exact ⟨a, h2, q2⟩
  · exact absurd h1 vw_noex
theorem lift_step {α β : Type} {o : Option α} {g : α → M β} {env : En} {rs : Rs β} (e : (M.bind (lift o) g) env = some rs) : ∃ a, o = some a ∧ g a env = some rs := by
  rcases bind_some e with ⟨a, e1, h1, h2⟩ | ⟨C, f, d, h1, _⟩
  · obtain ⟨b, e2, e3⟩ := lift_some h1
    cases e3
    exact ⟨a, e2, h2⟩
  · obtain ⟨b, e2, e3⟩ := lift_some h1
    cases e3
theorem OkE.op {r : R2} {fo : PyData → PyData → Option PyData} {ta tb : TE} {fa fb : M R} (o : OpOk K r fo) (oa : OkE K E ta fa) (ob : OkE K E tb fb) : OkE K E (tOp r ta tb) (op2 fo fa fb) := by
  refine ⟨?_⟩
  intro B σ H env l rs rp h Q post
  refine oa.seq rp h post.exn fun a e v1 H1 h1 r1 f1 q1 => ?_
  refine ob.seq r1 h1 (exn_later post.exn f1) fun b e2 v2 H2 h2 r2 f2 q2 => ?_
  obtain ⟨x, h3, w1⟩ := vw_step r2 (q1.mv f2.keep) h2
  obtain ⟨y, h4, w2⟩ := vw_step r2 q2 h3
  obtain ⟨d, h5, h6⟩ := lift_step h4
  cases h6
  exact o r2.tl w1 w2 h5 fun v H' s q => post v H' (r2.same s) ((f1.trans f2).trans (Fr.of s)) q
theorem OkE.un {r : V → Hp → VK → Prop} {fo : PyData → Option PyData} {ta : TE} {fa : M R} (o : UnOk K r fo) (oa : OkE K E ta fa) : OkE K E (tUn r ta) (op1 fo fa) := by
  refine ⟨?_⟩
  intro B σ H env l rs rp h Q post
  refine oa.seq rp h post.exn fun a e v1 H1 h1 r1 f1 q1 => ?_
  obtain ⟨x, h3, w1⟩ := vw_step r1 q1 h1
  obtain ⟨d, h5, h6⟩ := lift_step h3
  cases h6
  exact o r1.tl w1 h5 fun v H' s q => post v H' (r1.same s) (f1.trans (Fr.of s)) q
/-! arguments -/
def anil : M (List R) := M.pure []
def acons (fa : M R) (fr : M (List R)) : M (List R) := M.bind fa fun a => M.bind fr fun r => M.pure (a :: r)
theorem OkA.nil : OkA K E tNil anil := by
  refine ⟨?_⟩
  intro B σ H env l rs rp h Q post
  cases h
  exact post [] H rp (Fr.refl _ _) trivial
theorem OkA.cons {ta : TE} {tr : TA} {fa : M R} {fr : M (List R)} (oa : OkE K E ta fa) (or : OkA K E tr fr) : OkA K E (tCons ta tr) (acons fa fr) := by
  refine ⟨?_⟩
  intro B σ H env l rs rp h Q post
  refine oa.seq rp h post.exn fun a e v1 H1 h1 r1 f1 q1 => ?_
  refine or.seq r1 h1 (exn_later post.exn f1) fun b e2 v2 H2 h2 r2 f2 q2 => ?_
  cases h2
  exact post (v1 :: v2) H2 r2 (f1.trans f2) ⟨q1.mv f2.keep, q2⟩
def vws : List R → M (List PyData)
  | [] => M.pure []
  | r :: rs => M.bind (vw r) fun d => M.bind (vws rs) fun ds => M.pure (d :: ds)
theorem vws_ok {B : Addr → Prop} {σ : St} {H : Hp} {env : En} {l : List Addr} (h : Rep K B σ H env l) : ∀ {vs : List V} {rs : List R} {α : Type} {g : List PyData → M α} {z : Rs α}, RpRs K (off (un B l) H) σ vs rs → (M.bind (vws rs) g) env = some z → ∃ ds, g ds env = some z ∧ VwAll K (un B l) H vs ds
  | [], [], α, g, z, _, e => ⟨[], e, .nil⟩
  | v :: vs, r :: rs, α, g, z, q, e => by
    have e' : (M.bind (vw r) fun d => M.bind (vws rs) fun ds => g (d :: ds)) env = some z := by
      rw [← e]
      show _ = (M.bind (M.bind (vw r) fun d => M.bind (vws rs) fun ds => M.pure (d :: ds)) g) env
      unfold M.bind
      cases vw r env with
      | none => rfl
      | some a =>
        cases a with
        | ok a e2 =>
          simp only
          cases vws rs e2 with
          | none => rfl
          | some b => cases b <;> rfl
        | ex _ _ _ => rfl
    obtain ⟨d, e2, w⟩ := vw_step h q.1 e'
    obtain ⟨ds, e3, w2⟩ := vws_ok h q.2 e2
    exact ⟨d :: ds, e3, .cons w w2⟩
def cb (fo : List PyData → Option PyData) (fa : M (List R)) : M R := M.bind fa fun a => M.bind (vws a) fun ds => M.bind (lift (fo ds)) fun d => M.pure (.dat d)
theorem OkE.cb {r : List V → Hp → VK → Prop} {fo : List PyData → Option PyData} {t : TA} {fa : M (List R)} (o : CbOk K r fo) (oa : OkA K E t fa) : OkE K E (tCB r t) (Ov.cb fo fa) := by
  refine ⟨?_⟩
  intro B σ H env l rs rp h Q post
  refine oa.seq rp h post.exn fun a e vs H1 h1 r1 f1 q1 => ?_
  obtain ⟨ds, h2, w⟩ := vws_ok r1 q1 h1
  obtain ⟨d, h5, h6⟩ := lift_step h2
  cases h6
  exact o r1.tl w h5 fun v H' s q => post v H' (r1.same s) (f1.trans (Fr.of s)) q
/-! data that a new object holds -/
theorem Vw.da {S : Addr → Prop} {H : Hp} {v : V} {d : PyData} (h : Vw K S H v d) : Da K H v d := by
  rcases h with h | ⟨p, vs, ds, e1, e2, e3, e4⟩
  · exact Da.same (off_sub S H) d h
  · subst e1 e2
    exact .lst (SqL.of e3) (DaAll.same (off_sub S H) ds e4)
/-- results that are data through and through -/
def dds : List R → Option (List PyData)
  | [] => some []
  | .dat d :: r => (dds r).map (d :: ·)
  | _ :: _ => none
theorem dds_ok {G : Hp} {σ : St} : ∀ {vs : List V} {rs : List R} {ds : List PyData}, RpRs K G σ vs rs → dds rs = some ds → DaAll K G vs ds
  | [], [], ds, _, e => by cases e; exact .nil
  | v :: vs, .dat d :: rs, ds, q, e => by
    obtain ⟨x, e1, e2⟩ := Option.map_eq_some_iff.mp (show (dds rs).map (d :: ·) = some ds from e)
    subst e2
    exact .cons q.1 (dds_ok q.2 e1)
  | v :: vs, .slot i :: rs, ds, q, e => by cases e
  | v :: vs, .exc _ _ _ :: rs, ds, q, e => by cases e
theorem new_dp {S : Addr → Prop} {H : Hp} {p : Addr} {vs : List V} {ds : List PyData} (hS : ∀ q, S q → ∃ o, H q = some o ∧ NT o) (hp : H p = none) (h : DaAll K (off S H) vs ds) :
    Da K (off S (upd H p (.lst vs))) (.ref p) (.list ds) ∧ Da K (off S (upd H p (.tup vs))) (.ref p) (.tuple ds) := by
  have np : ¬ S p := fun z => by obtain ⟨o, e, _⟩ := hS p z; rw [hp] at e; cases e
  have k : ∀ o, Same (off S H) (off S (upd H p o)) := fun o => off_mono (fun b z n => absurd z n) fun b u n e => by rw [upd_ne (ne_of_none e hp)]; exact e
  exact ⟨.lst (SqL.of ((off_ne np).trans upd_same)) (DaAll.same (k _) ds h), .tup ((off_ne np).trans upd_same) (DaAll.same (k _) ds h)⟩
def sz (n : Nat) : Option Unit := if n ≤ 1000000 then some () else none
theorem sz_ok {n : Nat} {u : Unit} (h : sz n = some u) : n ≤ sizeLine := by
  unfold sz at h
  split at h
  · exact Nat.le_trans (by assumption) (by decide)
  · cases h
def tupD (fa : M (List R)) : M R := M.bind fa fun a => M.bind (lift (dds a)) fun ds => M.bind (lift (sz ds.length)) fun _ => M.pure (.dat (.tuple ds))
def lstD (fa : M (List R)) : M R := M.bind fa fun a => M.bind (lift (dds a)) fun ds => M.bind (lift (sz ds.length)) fun _ => M.pure (.dat (.list ds))
theorem OkE.tup {t : TA} {fa : M (List R)} (oa : OkA K E t fa) : OkE K E (tTup t) (tupD fa) := by
  refine ⟨?_⟩
  intro B σ H env l rs rp h Q post
  refine oa.seq rp h post.exn fun a e vs H1 h1 r1 f1 q1 => ?_
  obtain ⟨ds, e1, h2⟩ := lift_step h1
  obtain ⟨u, e2, h3⟩ := lift_step h2
  cases h3
  have dp := dds_ok q1 e1
  refine ⟨by rw [daAll_len dp]; exact sz_ok e2, fun p hp => ?_⟩
  exact post _ _ (r1.same (same_new hp _)) (f1.trans (Fr.of (same_new hp _))) (new_dp r1.tl hp dp).2
theorem OkE.lst {t : TA} {fa : M (List R)} (oa : OkA K E t fa) : OkE K E (tLst t) (lstD fa) := by
  refine ⟨?_⟩
  intro B σ H env l rs rp h Q post
  refine oa.seq rp h post.exn fun a e vs H1 h1 r1 f1 q1 => ?_
  obtain ⟨ds, e1, h2⟩ := lift_step h1
  obtain ⟨u, e2, h3⟩ := lift_step h2
  cases h3
  have dp := dds_ok q1 e1
  refine ⟨by rw [daAll_len dp]; exact sz_ok e2, fun p hp => ?_⟩
  exact post _ _ (r1.same (same_new hp _)) (f1.trans (Fr.of (same_new hp _))) (new_dp r1.tl hp dp).1
/-! truth, and, or, not, if *)-/
def tb1 (fa : M R) : M Bool := M.bind fa fun a => M.bind (vw a) fun d => match d with
  | .bool b => M.pure b
  | _ => fun _ => none
theorem OkT.val {t : TE} {fa : M R} (oa : OkE K E t fa) : OkT K E (tB t) (tb1 fa) := by
  refine ⟨?_⟩
  intro B σ H env l rs rp h Q post
  refine oa.seq rp h post.exn fun a e v1 H1 h1 r1 f1 q1 => ?_
  obtain ⟨d, h2, w⟩ := vw_step r1 q1 h1
  cases d with
  | bool b =>
    cases h2
    have := w.da
    cases this
    exact ⟨b, rfl, post H1 r1 f1⟩
  | none => cases h2
  | int _ => cases h2
  | str _ => cases h2
  | list _ => cases h2
  | tuple _ => cases h2
  | dict _ => cases h2
theorem OkT.test {t : TE} {fa : M R} (oa : OkE K E t fa) : OkT K E (tTest t) (tb1 fa) := OkT.val oa
def andT (fa fb : M Bool) : M Bool := M.bind fa fun a => if a = true then fb else M.pure false
def orT (fa fb : M Bool) : M Bool := M.bind fa fun a => if a = true then M.pure true else fb
def notT (fa : M Bool) : M Bool := M.bind fa fun a => M.pure (!a)
theorem OkT.and {ta tb : TT} {fa fb : M Bool} (oa : OkT K E ta fa) (ob : OkT K E tb fb) : OkT K E (tAnd ta tb) (andT fa fb) := by
  refine ⟨?_⟩
  intro B σ H env l rs rp h Q post
  refine oa.seq rp h post.exn fun a e H1 h1 r1 f1 => ?_
  cases a with
  | true => exact iteT (ob.run r1 (by simpa using h1) (post.later f1))
  | false => refine iteF ?_; simp only [Bool.false_eq_true, if_false] at h1; cases h1; exact post H1 r1 f1
theorem OkT.or {ta tb : TT} {fa fb : M Bool} (oa : OkT K E ta fa) (ob : OkT K E tb fb) : OkT K E (tOr ta tb) (orT fa fb) := by
  refine ⟨?_⟩
  intro B σ H env l rs rp h Q post
  refine oa.seq rp h post.exn fun a e H1 h1 r1 f1 => ?_
  cases a with
  | true => refine iteT ?_; simp only [if_true] at h1; cases h1; exact post H1 r1 f1
  | false => exact iteF (ob.run r1 (by simpa using h1) (post.later f1))
theorem OkT.not {ta : TT} {fa : M Bool} (oa : OkT K E ta fa) : OkT K E (tNot ta) (notT fa) := by
  refine ⟨?_⟩
  intro B σ H env l rs rp h Q post
  refine oa.seq rp h post.exn fun a e H1 h1 r1 f1 => ?_
  cases h1
  exact post H1 r1 f1
def ofB (b : Bool) : R := .dat (.bool b)
def andV (fa fb : M R) : M R := M.bind (tb1 fa) fun a => if a = true then fb else M.pure (ofB false)
def orV (fa fb : M R) : M R := M.bind (tb1 fa) fun a => if a = true then M.pure (ofB true) else fb
def notV (fa : M R) : M R := M.bind (tb1 fa) fun a => M.pure (ofB !a)
theorem OkE.and {ta tb : TE} {fa fb : M R} (oa : OkE K E ta fa) (ob : OkE K E tb fb) : OkE K E (tAndV ta tb) (andV fa fb) := by
  refine ⟨?_⟩
  intro B σ H env l rs rp h Q post
  refine (OkT.val oa).seq rp h post.exn fun a e H1 h1 r1 f1 => ?_
  cases a with
  | true => exact iteT (ob.run r1 (by simpa using h1) (post.later f1))
  | false => refine iteF ?_; simp only [Bool.false_eq_true, if_false] at h1; cases h1; exact post _ H1 r1 f1 (.bl false)
theorem OkE.not {ta : TE} {fa : M R} (oa : OkE K E ta fa) : OkE K E (tNotV ta) (notV fa) := by
  refine ⟨?_⟩
  intro B σ H env l rs rp h Q post
  refine (OkT.val oa).seq rp h post.exn fun a e H1 h1 r1 f1 => ?_
  cases h1
  exact post _ H1 r1 f1 (.bl _)
def ifE (ft : M Bool) (fa fb : M R) : M R := M.bind ft fun c => if c = true then fa else fb
def chainE (fo fo' : PyData → PyData → Option PyData) (fa fb fc : M R) : M R := M.bind fa fun a => M.bind fb fun b => M.bind (vw a) fun x => M.bind (vw b) fun y => M.bind (lift (fo x y)) fun d => match d with
  | .bool k => if k = true then M.bind fc fun c => M.bind (vw b) fun y' => M.bind (vw c) fun z => M.bind (lift (fo' y' z)) fun d' => M.pure (.dat d') else M.pure (ofB false)
  | _ => fun _ => none
theorem OkE.chain {r r' : R2} {fo fo' : PyData → PyData → Option PyData} {ta tb tc : TE} {fa fb fc : M R} (o : OpOk K r fo) (o' : OpOk K r' fo') (oa : OkE K E ta fa) (ob : OkE K E tb fb) (oc : OkE K E tc fc) :
    OkE K E (tChain r r' ta tb tc) (chainE fo fo' fa fb fc) := by
  refine ⟨?_⟩
  intro B σ H env l rs rp h Q post
  refine oa.seq rp h post.exn fun a e v1 H1 h1 r1 f1 q1 => ?_
  refine ob.seq r1 h1 (exn_later post.exn f1) fun b e2 v2 H2 h2 r2 f2 q2 => ?_
  obtain ⟨x, h3, w1⟩ := vw_step r2 (q1.mv f2.keep) h2
  obtain ⟨y, h4, w2⟩ := vw_step r2 q2 h3
  obtain ⟨d, h5, h6⟩ := lift_step h4
  refine o r2.tl w1 w2 h5 fun v H3 s q => ?_
  have r3 := r2.same s
  have f3 := (f1.trans f2).trans (Fr.of s)
  cases d with
  | bool k =>
    cases q
    refine ⟨k, rfl, ?_⟩
    cases k with
    | true =>
      refine iteT ?_
      simp only [if_true] at h6
      refine oc.seq r3 h6 (exn_later post.exn f3) fun c e4 v4 H4 h7 r4 f4 q4 => ?_
      obtain ⟨y', h8, w3⟩ := vw_step r4 ((q2.mv (Fr.keep (Fr.of s))).mv f4.keep) h7
      obtain ⟨z, h9, w4⟩ := vw_step r4 q4 h8
      obtain ⟨d', ha, hb⟩ := lift_step h9
      cases hb
      exact o' r4.tl w3 w4 ha fun v H' s' q => post v H' (r4.same s') ((f3.trans f4).trans (Fr.of s')) q
    | false => refine iteF ?_; simp only [Bool.false_eq_true, if_false] at h6; cases h6; exact post _ H3 r3 f3 (.bl false)
  | none => cases h6
  | int _ => cases h6
  | str _ => cases h6
  | list _ => cases h6
  | tuple _ => cases h6
  | dict _ => cases h6
end
end Ov
set_option Elab.async false
set_option linter.all false
set_option maxRecDepth 100000
set_option maxHeartbeats 4000000
namespace Ov
open PySem L2
/-! operators by data -/
section
variable {K : PySem.W.Frag} {S : Addr → Prop} {H : Hp} {x y : V}
theorem vw_int {i : Int} (h : Vw K S H x (.int i)) : x = .int i := by have := h.da; cases this; rfl
theorem vw_bool {b : Bool} (h : Vw K S H x (.bool b)) : x = .bl b := by have := h.da; cases this; rfl
theorem vw_str {z : Str} (h : Vw K S H x (.str z)) : x = .str z := by have := h.da; cases this; rfl
theorem vw_none (h : Vw K S H x .none) : x = .non := by have := h.da; cases this; rfl
theorem vw_list {ds : List PyData} (h : Vw K S H x (.list ds)) : ∃ p vs, x = .ref p ∧ SqL K H p vs ∧ DaAll K (off S H) vs ds := by
  rcases h with h | ⟨p, vs, es, e1, e2, e3, e4⟩
  · cases h with | lst q t => exact ⟨_, _, rfl, rd_same (off_sub S H) q, t⟩
  · cases e2; exact ⟨p, vs, e1, .inl (.inl e3), e4⟩
theorem vw_tup {ds : List PyData} (h : Vw K S H x (.tuple ds)) : ∃ p vs, x = .ref p ∧ SqT K (off S H) p vs ∧ DaAll K (off S H) vs ds := by
  rcases h with h | ⟨p, vs, es, e1, e2, e3, e4⟩
  · cases h with | tup q t => exact ⟨_, _, rfl, q.sq, t⟩
  · cases e2
theorem vw_tupP {ds : List PyData} (h : Vw K S H x (.tuple ds)) : ∃ p vs, x = .ref p ∧ TP (off S H) p vs ∧ DaAll K (off S H) vs ds := by
  rcases h with h | ⟨p, vs, es, e1, e2, e3, e4⟩
  · cases h with | tup q t => exact ⟨_, _, rfl, q, t⟩
  · cases e2
end
def seqD : PyData → Option (List PyData)
  | .list ds => some ds
  | .tuple ds => some ds
  | _ => none
theorem vw_seq {K : PySem.W.Frag} {S : Addr → Prop} {H : Hp} {x : V} {d : PyData} {ds : List PyData} (h : Vw K S H x d) (e : seqD d = some ds) : ∃ p vs, x = .ref p ∧ (SqL K H p vs ∨ SqT K H p vs) ∧ DaAll K (off S H) vs ds := by
  cases d with
  | list es => cases e; obtain ⟨p, vs, e1, e2, e3⟩ := vw_list h; exact ⟨p, vs, e1, .inl (rd_sq e2), e3⟩
  | tuple es => cases e; obtain ⟨p, vs, e1, e2, e3⟩ := vw_tup h; exact ⟨p, vs, e1, .inr (seqT (off_sub S H) e2), e3⟩
  | none => cases e
  | bool _ => cases e
  | int _ => cases e
  | str _ => cases e
  | dict _ => cases e
theorem vw_seqP {K : PySem.W.Frag} {S : Addr → Prop} {H : Hp} {x : V} {d : PyData} {ds : List PyData} (h : Vw K S H x d) (e : seqD d = some ds) : ∃ p vs, x = .ref p ∧ (SqL K H p vs ∨ TP H p vs) ∧ DaAll K (off S H) vs ds := by
  cases d with
  | list es => cases e; obtain ⟨p, vs, e1, e2, e3⟩ := vw_list h; exact ⟨p, vs, e1, .inl (rd_sq e2), e3⟩
  | tuple es => cases e; obtain ⟨p, vs, e1, e2, e3⟩ := vw_tupP h; exact ⟨p, vs, e1, .inr e2.off, e3⟩
  | none => cases e
  | bool _ => cases e
  | int _ => cases e
  | str _ => cases e
  | dict _ => cases e
def iI (h : Int → Int → Int) (a b : PyData) : Option PyData :=
  match a, b with
  | .int i, .int j => some (.int (h i j))
  | _, _ => none
def iIc (p : Int → Int → Bool) (h : Int → Int → Int) (a b : PyData) : Option PyData :=
  match a, b with
  | .int i, .int j => if p i j = true then some (.int (h i j)) else none
  | _, _ => none
def iB (h : Int → Int → Bool) (a b : PyData) : Option PyData :=
  match a, b with
  | .int i, .int j => some (.bool (h i j))
  | _, _ => none
section
variable {K : PySem.W.Frag}
theorem iI_some {h : Int → Int → Int} {a b d : PyData} (e : iI h a b = some d) : ∃ i j, a = .int i ∧ b = .int j ∧ d = .int (h i j) := by
  unfold iI at e
  split at e
  · cases e; exact ⟨_, _, rfl, rfl, rfl⟩
  · cases e
theorem iB_some {h : Int → Int → Bool} {a b d : PyData} (e : iB h a b = some d) : ∃ i j, a = .int i ∧ b = .int j ∧ d = .bool (h i j) := by
  unfold iB at e
  split at e
  · cases e; exact ⟨_, _, rfl, rfl, rfl⟩
  · cases e
theorem iIc_some {p : Int → Int → Bool} {h : Int → Int → Int} {a b d : PyData} (e : iIc p h a b = some d) : ∃ i j, a = .int i ∧ b = .int j ∧ p i j = true ∧ d = .int (h i j) := by
  unfold iIc at e
  split at e
  · split at e
    · cases e; exact ⟨_, _, rfl, rfl, by assumption, rfl⟩
    · cases e
  · cases e
theorem okI {h : Int → Int → Int} : OpOk K (rI0 fun i j => .int (h i j)) (iI h) := by
  intro S H x y a b d hS wa wb e Q q
  obtain ⟨i, j, rfl, rfl, rfl⟩ := iI_some e
  exact ⟨i, j, vw_int wa, vw_int wb, q _ _ (same_refl _) (.int _)⟩
theorem okB {h : Int → Int → Bool} : OpOk K (rI0 fun i j => .bl (h i j)) (iB h) := by
  intro S H x y a b d hS wa wb e Q q
  obtain ⟨i, j, rfl, rfl, rfl⟩ := iB_some e
  exact ⟨i, j, vw_int wa, vw_int wb, q _ _ (same_refl _) (.bl _)⟩
theorem okC {C : Int → Int → Prop} {p : Int → Int → Bool} {h : Int → Int → Int} (hp : ∀ i j, p i j = true → C i j) : OpOk K (rI C fun i j => .int (h i j)) (iIc p h) := by
  intro S H x y a b d hS wa wb e Q q
  obtain ⟨i, j, rfl, rfl, hc, rfl⟩ := iIc_some e
  exact ⟨i, j, vw_int wa, vw_int wb, hp i j hc, q _ _ (same_refl _) (.int _)⟩
def addD := iI (· + ·)
def subD := iI (· - ·)
def pMul (i j : Int) : Bool := decide (-(2 ^ 64) < i ∧ i < 2 ^ 64) || decide (-(2 ^ 64) < j ∧ j < 2 ^ 64)
def pDiv (_ j : Int) : Bool := decide (0 < j ∧ j < 1073741824)
def pMod (_ j : Int) : Bool := decide (0 < j)
def pPow (i j : Int) : Bool := decide (0 ≤ j ∧ j ≤ 1000000 ∧ i.natAbs < 2 ^ 64)
def mulD := iIc pMul (· * ·)
def divD := iIc pDiv (· / ·)
def modD := iIc pMod (· % ·)
def powD := iIc pPow (fun i j => i ^ j.toNat)
def ltD := iB fun i j => decide (i < j)
def leD := iB fun i j => decide (i ≤ j)
def gtD := iB fun i j => decide (j < i)
def geD := iB fun i j => decide (j ≤ i)
theorem ok_add : OpOk K (rI0 fun i j => .int (i + j)) addD := okI
theorem ok_sub : OpOk K (rI0 fun i j => .int (i - j)) subD := okI
theorem ok_lt : OpOk K (rI0 fun i j => .bl (decide (i < j))) ltD := okB
theorem ok_le : OpOk K (rI0 fun i j => .bl (decide (i ≤ j))) leD := okB
theorem ok_gt : OpOk K (rI0 fun i j => .bl (decide (j < i))) gtD := okB
theorem ok_ge : OpOk K (rI0 fun i j => .bl (decide (j ≤ i))) geD := okB
theorem ok_mul : OpOk K (rI CMul fun i j => .int (i * j)) mulD := okC fun i j h => (Bool.or_eq_true_iff.mp h).imp of_decide_eq_true of_decide_eq_true
theorem ok_div : OpOk K (rI CDiv fun i j => .int (i / j)) divD := okC fun i j h => of_decide_eq_true h
theorem ok_mod : OpOk K (rI (fun _ j => 0 < j) fun i j => .int (i % j)) modD := okC fun i j h => of_decide_eq_true h
theorem ok_pow : OpOk K (rI CPow fun i j => .int (i ^ j.toNat)) powD := okC fun i j h => of_decide_eq_true h
/-! == of atoms alike; of data -/
def eqA (n : Bool) (a b : PyData) : Option PyData :=
  match a, b with
  | .int i, .int j => some (.bool (n ^^ decide (i = j)))
  | .bool i, .bool j => some (.bool (n ^^ decide (i = j)))
  | .str i, .str j => some (.bool (n ^^ decide (i = j)))
  | .none, .none => some (.bool (n ^^ true))
  | _, _ => none
theorem eqA_some {n : Bool} {a b d : PyData} {S : Addr → Prop} {H : Hp} {x y : V} (wa : Vw K S H x a) (wb : Vw K S H y b) (e : eqA n a b = some d) : scal x y = true ∧ d = .bool (n ^^ decide (x = y)) := by
  unfold eqA at e
  split at e
  · rw [vw_int wa, vw_int wb]; cases e; exact ⟨rfl, by simp⟩
  · rw [vw_bool wa, vw_bool wb]; cases e; exact ⟨rfl, by simp⟩
  · rw [vw_str wa, vw_str wb]; cases e; exact ⟨rfl, by simp⟩
  · rw [vw_none wa, vw_none wb]; cases e; exact ⟨rfl, by simp⟩
  · cases e
theorem ok_eq : OpOk K rEq (eqA false) := by
  intro S H x y a b d hS wa wb e Q q
  obtain ⟨h1, rfl⟩ := eqA_some wa wb e
  exact ⟨h1, q _ _ (same_refl _) (by rw [Bool.false_xor]; exact .bl _)⟩
theorem ok_ne : OpOk K rNe (eqA true) := by
  intro S H x y a b d hS wa wb e Q q
  obtain ⟨h1, rfl⟩ := eqA_some wa wb e
  exact ⟨h1, q _ _ (same_refl _) (by rw [Bool.true_xor]; exact .bl _)⟩
def shp (d : PyData) : Bool := SeqAt.shaped d
def eqvD (n : Bool) (a b : PyData) : Option PyData := if shp a && shp b then some (.bool (n ^^ PyData.eqv a b)) else none
theorem ok_eqD : OpOk K (rEqD K) (eqvD false) := by
  intro S H x y a b d hS wa wb e Q q
  unfold eqvD at e
  split at e
  · rename_i h
    cases e
    rw [Bool.and_eq_true] at h
    exact ⟨a, b, Da.dp _ (shp_nd h.1) wa.da, Da.dp _ (shp_nd h.2) wb.da, h.1, h.2, q _ _ (same_refl _) (by rw [Bool.false_xor]; exact .bl _)⟩
  · cases e
theorem ok_neD : OpOk K (rNeD K) (eqvD true) := by
  intro S H x y a b d hS wa wb e Q q
  unfold eqvD at e
  split at e
  · rename_i h
    cases e
    rw [Bool.and_eq_true] at h
    exact ⟨a, b, Da.dp _ (shp_nd h.1) wa.da, Da.dp _ (shp_nd h.2) wb.da, h.1, h.2, q _ _ (same_refl _) (by rw [Bool.true_xor]; exact .bl _)⟩
  · cases e
/-! in -/
def atomD : PyData → Bool
  | .none | .bool _ | .int _ | .str _ => true
  | _ => false
theorem atom_flat {H : Hp} {x : V} {a : PyData} (h : Da K H x a) (e : atomD a = true) : flatV x = true := by
  cases h with
  | non => rfl
  | bl _ => rfl
  | int _ => rfl
  | str _ => rfl
  | lst _ _ => cases e
  | tup _ _ => cases e
  | dct _ _ _ _ => cases e
  | dtk _ _ _ _ => cases e
theorem atom_eqv {H : Hp} {x y : V} {a b : PyData} (h : Da K H x a) (h' : Da K H y b) (e : atomD a = true) (e' : atomD b = true) : eqV x y = PyData.eqv a b := by
  cases h with
  | non => cases h' with
    | non => rfl
    | bl _ => rfl
    | int _ => rfl
    | str _ => rfl
    | lst _ _ => cases e'
    | tup _ _ => cases e'
    | dct _ _ _ _ => cases e'
    | dtk _ _ _ _ => cases e'
  | bl _ => cases h' with
    | non => rfl
    | bl _ => rfl
    | int _ => rfl
    | str _ => rfl
    | lst _ _ => cases e'
    | tup _ _ => cases e'
    | dct _ _ _ _ => cases e'
    | dtk _ _ _ _ => cases e'
  | int _ => cases h' with
    | non => rfl
    | bl _ => rfl
    | int _ => rfl
    | str _ => rfl
    | lst _ _ => cases e'
    | tup _ _ => cases e'
    | dct _ _ _ _ => cases e'
    | dtk _ _ _ _ => cases e'
  | str _ => cases h' with
    | non => rfl
    | bl _ => rfl
    | int _ => rfl
    | str _ => rfl
    | lst _ _ => cases e'
    | tup _ _ => cases e'
    | dct _ _ _ _ => cases e'
    | dtk _ _ _ _ => cases e'
  | lst _ _ => cases e
  | tup _ _ => cases e
  | dct _ _ _ _ => cases e
  | dtk _ _ _ _ => cases e
theorem atoms_flat {H : Hp} : ∀ {vs : List V} {ds : List PyData}, DaAll K H vs ds → ds.all atomD = true → vs.all flatV = true
  | _, _, .nil, _ => rfl
  | _, _, .cons h t, e => by
    rw [List.all_cons, Bool.and_eq_true] at e ⊢
    exact ⟨atom_flat h e.1, atoms_flat t e.2⟩
theorem atoms_in {H : Hp} {x : V} {a : PyData} (h : Da K H x a) (e : atomD a = true) : ∀ {vs : List V} {ds : List PyData}, DaAll K H vs ds → ds.all atomD = true → inV x vs = ds.any fun z => PyData.eqv z a
  | _, _, .nil, _ => rfl
  | _, _, .cons h' t, e' => by
    rw [List.all_cons, Bool.and_eq_true] at e'
    have ih := atoms_in h e t e'.2
    unfold inV at ih ⊢
    rw [List.any_cons, List.any_cons, ih, atom_eqv h' h e'.1 e]
def inF (n : Bool) (a b : PyData) : Option PyData :=
  match seqD b with
  | some ds => if atomD a && ds.all atomD then some (.bool (n ^^ ds.any fun z => PyData.eqv z a)) else none
  | none => none
theorem ok_inF {n : Bool} : OpOk K (rIn K n) (inF n) := by
  intro S H x y a b d hS wa wb e Q q
  unfold inF at e
  cases h : seqD b with
  | none => rw [h] at e; cases e
  | some ds =>
    rw [h] at e
    simp only at e
    split at e
    · rename_i h2
      cases e
      rw [Bool.and_eq_true] at h2
      obtain ⟨p, vs, rfl, e2, e3⟩ := vw_seq wb h
      have e4 := DaAll.same (off_sub S H) ds e3
      refine ⟨p, vs, rfl, e2, atom_flat wa.da h2.1, atoms_flat e3 h2.2, q _ _ (same_refl _) ?_⟩
      rw [atoms_in wa.da h2.1 e4 h2.2]
      cases n
      · rw [Bool.false_xor]; exact .bl _
      · rw [Bool.true_xor]; exact .bl _
    · cases e
/-! items -/
theorem atI_da {H : Hp} {vs : List V} {ds : List PyData} (h : DaAll K H vs ds) {i : Int} {d : PyData} (e : atI ds i = some d) : ∃ x, atI vs i = some x ∧ Da K H x d := by
  unfold atI at e ⊢
  rw [daAll_len h]
  cases q : ixN ds.length i with
  | none => rw [q] at e; cases e
  | some j =>
    rw [q] at e
    exact daAll_get h e
def ixD (a b : PyData) : Option PyData :=
  match seqD a, b with
  | some ds, .int i => atI ds i
  | _, _ => none
theorem ok_ix : OpOk K (rIx K) ixD := by
  intro S H x y a b d hS wa wb e Q q
  unfold ixD at e
  split at e
  · rename_i ds i h
    rw [vw_int wb]
    cases a with
    | list es =>
      cases h
      obtain ⟨p, vs, rfl, e2, e3⟩ := vw_list wa
      obtain ⟨z, e4, e5⟩ := atI_da e3 e
      exact .inl ⟨p, vs, i, z, rfl, rfl, rd_sq e2, e4, q _ _ (same_refl _) e5⟩
    | tuple es =>
      cases h
      obtain ⟨p, vs, rfl, e2, e3⟩ := vw_tup wa
      obtain ⟨z, e4, e5⟩ := atI_da e3 e
      exact .inr (.inl ⟨p, vs, i, z, rfl, rfl, seqT (off_sub S H) e2, e4, q _ _ (same_refl _) e5⟩)
    | none => cases h
    | bool _ => cases h
    | int _ => cases h
    | str _ => cases h
    | dict _ => cases h
  · cases e
/-! slices -/
def cutL {α : Type} (xs : List α) (lo hi : Option Int) : List α := (xs.drop (HT.sIx xs.length 0 lo)).take (HT.sIx xs.length xs.length hi - HT.sIx xs.length 0 lo)
theorem cut_da {H : Hp} {vs : List V} {ds : List PyData} (h : DaAll K H vs ds) (lo hi : Option Int) : DaAll K H (cutV vs lo hi) (cutL ds lo hi) := by
  unfold cutV cutL
  rw [daAll_len h]
  exact daAll_take (daAll_drop h _) _
def cutD (a : PyData) (lo hi : Option Int) : Option PyData :=
  match a with
  | .list ds => some (.list (cutL ds lo hi))
  | .tuple ds => some (.tuple (cutL ds lo hi))
  | _ => none
theorem off_new {H H' : Hp} {S : Addr → Prop} (s : Same H H') : Same (off S H) (off S H') := off_mono (fun b z n => absurd z n) fun b o n h => s b o h
theorem hS_later {H H' : Hp} {S : Addr → Prop} (hS : ∀ q, S q → ∃ o, H q = some o ∧ NT o) (s : Same H H') : ∀ q, S q → ∃ o, H' q = some o ∧ NT o := fun q z => by
  obtain ⟨o, e, n⟩ := hS q z
  exact ⟨o, s _ _ e, n⟩
theorem ok_cut {S : Addr → Prop} {H : Hp} {x : V} {a d : PyData} {lo hi : Option Int} (hS : ∀ q, S q → ∃ o, H q = some o ∧ NT o) (wa : Vw K S H x a) (e : cutD a lo hi = some d) {Q : VK} (q : ∀ v H', Same H H' → Da K (off S H') v d → Q v H') : rCut K x lo hi H Q := by
  cases a with
  | list ds =>
    cases e
    obtain ⟨p, vs, rfl, e2, e3⟩ := vw_list wa
    refine ⟨p, vs, rfl, .inl ⟨rd_sq e2, fun b H' s n h => q _ _ s ?_⟩⟩
    exact .lst (SqL.of ((off_ne fun z => by obtain ⟨o, e, _⟩ := hS b z; rw [n] at e; cases e).trans h)) (DaAll.same (off_new s) _ (cut_da e3 lo hi))
  | tuple ds =>
    cases e
    obtain ⟨p, vs, rfl, e2, e3⟩ := vw_tupP wa
    refine ⟨p, vs, rfl, .inr ⟨e2.off, fun b H' s h => q _ _ s ?_⟩⟩
    exact .tup (off_P (hS_later hS s) h) (DaAll.same (off_new s) _ (cut_da e3 lo hi))
  | none => cases e
  | bool _ => cases e
  | int _ => cases e
  | str _ => cases e
  | dict _ => cases e
end
def PostO (K : PySem.W.Frag) (E : XK) (B : Addr → Prop) (σ : St) (H : Hp) (l : List Addr) (rs : Rs (Option Int)) (Q : Option Int → Hp → Prop) : Prop :=
  match rs with
  | .ok b env' => ∀ H', Rep K B σ H' env' l → Fr l H H' → Q b H'
  | .ex C f d => Exn K E B H l C f d
structure OkP (K : PySem.W.Frag) (E : XK) (t : TO) (f : M (Option Int)) : Prop where
  run : ∀ {B : Addr → Prop} {σ : St} {H : Hp} {env : En} {l : List Addr} {rs : Rs (Option Int)}, Rep K B σ H env l → f env = some rs → ∀ {Q : Option Int → Hp → Prop}, PostO K E B σ H l rs Q → t σ H Q
section
variable {K : PySem.W.Frag} {E : XK}
theorem OkP.seq {α : Type} {ta : TO} {fa : M (Option Int)} {g : Option Int → M α} (oa : OkP K E ta fa) {B : Addr → Prop} {σ : St} {H : Hp} {env : En} {l : List Addr} {rs : Rs α} (r : Rep K B σ H env l) (h : (M.bind fa g) env = some rs) {Q : Option Int → Hp → Prop}
    (hx : ∀ C f d, rs = .ex C f d → Exn K E B H l C f d) (hq : ∀ a e H', g a e = some rs → Rep K B σ H' e l → Fr l H H' → Q a H') : ta σ H Q := by
  rcases bind_some h with ⟨a, e, h1, h2⟩ | ⟨C, f, d, h1, h2⟩
  · exact oa.run r h1 (fun H' r' fr => hq a e H' h2 r' fr)
  · exact oa.run r h1 (hx C f d h2)
def poN : M (Option Int) := M.pure none
def asI : R → Option Int
  | .dat (.int i) => some i
  | _ => none
theorem asI_some {a : R} {i : Int} (h : asI a = some i) : a = .dat (.int i) := by
  unfold asI at h
  split at h
  · cases h; rfl
  · cases h
def poS (fa : M R) : M (Option Int) := M.bind fa fun a => M.bind (lift (asI a)) fun i => M.pure (some i)
theorem OkP.none : OkP K E tNoPart poN := by
  refine ⟨?_⟩
  intro B σ H env l rs rp h Q post
  cases h
  exact post H rp (Fr.refl _ _)
theorem OkP.some {t : TE} {fa : M R} (oa : OkE K E t fa) : OkP K E (tPart t) (poS fa) := by
  refine ⟨?_⟩
  intro B σ H env l rs rp h Q post
  refine oa.seq rp h (fun C f d e => by subst e; exact post) fun a e v1 H1 h1 r1 f1 q1 => ?_
  obtain ⟨i, h2, h3⟩ := lift_step h1
  cases h3
  rw [asI_some h2] at q1
  cases q1
  exact ⟨_, rfl, post H1 r1 f1⟩
def slD (fa : M R) (fl fh : M (Option Int)) : M R := M.bind fa fun a => M.bind fl fun lo => M.bind fh fun hi => M.bind (vw a) fun x => M.bind (lift (cutD x lo hi)) fun d => M.pure (.dat d)
theorem OkE.sl {t : TE} {tl th : TO} {fa : M R} {fl fh : M (Option Int)} (oa : OkE K E t fa) (ol : OkP K E tl fl) (oh : OkP K E th fh) : OkE K E (tSl (rCut K) t tl th) (slD fa fl fh) := by
  refine ⟨?_⟩
  intro B σ H env l rs rp h Q post
  refine oa.seq rp h post.exn fun a e v1 H1 h1 r1 f1 q1 => ?_
  refine ol.seq r1 h1 (exn_later post.exn f1) fun lo e2 H2 h2 r2 f2 => ?_
  refine oh.seq r2 h2 (exn_later post.exn (f1.trans f2)) fun hi e3 H3 h3 r3 f3 => ?_
  obtain ⟨x, h4, w1⟩ := vw_step r3 (q1.mv (f2.trans f3).keep) h3
  obtain ⟨d, h5, h6⟩ := lift_step h4
  cases h6
  exact ok_cut r3.tl w1 h5 fun v H' s q => post v H' (r3.same s) (((f1.trans f2).trans f3).trans (Fr.of s)) q
end
/-! built-in calls -/
section
variable {X : Cx}
/-- xs + ys of lists that stand -/
def rCatL (K : PySem.W.Frag) : R2 := fun x y H Q => ∃ l b xs zs, x = .ref l ∧ y = .ref b ∧ SqL K H l xs ∧ SqL K H b zs ∧ xs.length + zs.length ≤ sizeLine ∧ ∀ p, H p = none → Q (.ref p) (upd H p (.lst (xs ++ zs)))
theorem op_catL : OpR X (binaryOp .Add) (rCatL X.K) := by
  intro pins s σ H x y v u Q I rx ry h
  obtain ⟨l, b, xs, zs, rfl, rfl, hH, hB, hz, q⟩ := h
  cases rx
  cases ry
  obtain ⟨its, r, e, z⟩ := I.list hH
  obtain ⟨its2, r2, e2, z2⟩ := I.list hB
  have hl := r.length
  have hl2 := r2.length
  obtain ⟨⟨cls, dd, data, sl⟩, ho, hc, n, hd⟩ := e.isList
  obtain ⟨⟨cls2, dd2, data2, sl2⟩, ho2, hc2, n2, hd2⟩ := e2.isList
  simp only at hc hd hc2 hd2
  subst hc hd hc2 hd2
  have ea : its.toArray ++ its2.toArray = (its ++ its2).toArray := by simp
  refine concat_meets ⟨_, ho, rfl⟩ ⟨_, ho2, rfl⟩ noFill_list_add seq_list_add PySem.F.slot_list_add PySem.F.entry_list_add (PySem.F.args_list_add_2 _ _) (PyProof.Rows.list_addW l b its.toArray its2.toArray n n2 dd dd2 sl sl2 (by rw [List.size_toArray, List.size_toArray]; omega)) ⟨ho, ho2, ?_⟩
  rw [ea]
  exact ⟨.ref _, _, I.lnew (t' := s.toks) (r.append r2) (by rw [List.length_append]; omega), rfl, q _ I.fresh⟩
end
section
variable {K : PySem.W.Frag}
def catD (a b : PyData) : Option PyData :=
  match a, b with
  | .list xs, .list ys => (sz (xs.length + ys.length)).map fun _ => .list (xs ++ ys)
  | _, _ => none
theorem ok_catL : OpOk K (rCatL K) catD := by
  intro S H x y a b d hS wa wb e Q q
  unfold catD at e
  split at e
  · obtain ⟨u, e1, e2⟩ := Option.map_eq_some_iff.mp e
    subst e2
    obtain ⟨p, vs, rfl, h2, h3⟩ := vw_list wa
    obtain ⟨p', vs', rfl, h2', h3'⟩ := vw_list wb
    refine ⟨p, p', vs, vs', rfl, rfl, h2, h2', by rw [daAll_len h3, daAll_len h3']; exact sz_ok e1, fun r hr => ?_⟩
    exact q _ _ (same_new hr _) (new_dp hS hr (daAll_append h3 h3')).1
  · cases e
def catT (a b : PyData) : Option PyData :=
  match a, b with
  | .tuple xs, .tuple ys => (sz (xs.length + ys.length)).map fun _ => .tuple (xs ++ ys)
  | _, _ => none
theorem ok_catT : OpOk K (rCatW K) catT := by
  intro S H x y a b d hS wa wb e Q q
  unfold catT at e
  split at e
  · obtain ⟨u, e1, e2⟩ := Option.map_eq_some_iff.mp e
    subst e2
    obtain ⟨p, vs, rfl, h2, h3⟩ := vw_tupP wa
    obtain ⟨p', vs', rfl, h2', h3'⟩ := vw_tupP wb
    refine ⟨p, p', vs, vs', rfl, rfl, h2.off, h2'.off, by rw [daAll_len h3, daAll_len h3']; exact sz_ok e1, fun r H' s hr => ?_⟩
    exact q _ _ s (.tup (off_P (hS_later hS s) hr) (DaAll.same (off_new s) _ (daAll_append h3 h3')))
  · cases e
def lenD (as : List PyData) : Option PyData :=
  match as with
  | [a] => (seqD a).map fun ds => .int ds.length
  | _ => none
theorem vwAll1 {S : Addr → Prop} {H : Hp} {xs : List V} {a : PyData} (h : VwAll K S H xs [a]) : ∃ x, xs = [x] ∧ Vw K S H x a := by
  cases h with | cons h t => cases t; exact ⟨_, rfl, h⟩
theorem vwAll2 {S : Addr → Prop} {H : Hp} {xs : List V} {a b : PyData} (h : VwAll K S H xs [a, b]) : ∃ x y, xs = [x, y] ∧ Vw K S H x a ∧ Vw K S H y b := by
  cases h with | cons h t => cases t with | cons h' t => cases t; exact ⟨_, _, rfl, h, h'⟩
theorem ok_len : CbOk K (fun xs H Q => ∃ p ys, xs = [.ref p] ∧ (SqL K H p ys ∨ SqT K H p ys) ∧ Q (.int ys.length) H) lenD := by
  intro S H xs as d hS w e Q q
  unfold lenD at e
  split at e
  · obtain ⟨ds, e1, e2⟩ := Option.map_eq_some_iff.mp e
    subst e2
    obtain ⟨x, rfl, wx⟩ := vwAll1 w
    obtain ⟨p, vs, rfl, h2, h3⟩ := vw_seq wx e1
    exact ⟨p, vs, rfl, h2, q _ _ (same_refl _) (by rw [daAll_len h3]; exact .int _)⟩
  · cases e
def tupleD (as : List PyData) : Option PyData :=
  match as with
  | [a] => (seqD a).map fun ds => .tuple ds
  | _ => none
theorem ok_tuple : CbOk K (rTupW K) tupleD := by
  intro S H xs as d hS w e Q q
  unfold tupleD at e
  split at e
  · obtain ⟨ds, e1, e2⟩ := Option.map_eq_some_iff.mp e
    subst e2
    obtain ⟨x, rfl, wx⟩ := vwAll1 w
    obtain ⟨p, vs, rfl, h2, h3⟩ := vw_seqP wx e1
    exact ⟨p, vs, rfl, h2, fun r H' s hr => q _ _ s (.tup (off_P (hS_later hS s) hr) (DaAll.same (off_new s) _ h3))⟩
  · cases e
def listD (as : List PyData) : Option PyData :=
  match as with
  | [a] => (seqD a).map fun ds => .list ds
  | _ => none
theorem ok_list : CbOk K (fun xs H Q => ∃ p ys, xs = [.ref p] ∧ (SqL K H p ys ∨ SqT K H p ys) ∧ ∀ l, H l = none → Q (.ref l) (upd H l (.lst ys))) listD := by
  intro S H xs as d hS w e Q q
  unfold listD at e
  split at e
  · obtain ⟨ds, e1, e2⟩ := Option.map_eq_some_iff.mp e
    subst e2
    obtain ⟨x, rfl, wx⟩ := vwAll1 w
    obtain ⟨p, vs, rfl, h2, h3⟩ := vw_seq wx e1
    exact ⟨p, vs, rfl, h2, fun r hr => q _ _ (same_new hr _) (new_dp hS hr h3).1⟩
  · cases e
def absD (as : List PyData) : Option PyData :=
  match as with
  | [.int i] => some (.int (if i < 0 then -i else i))
  | _ => none
theorem ok_abs : CbOk K (fun xs H Q => ∃ i, xs = [.int i] ∧ Q (.int (if i < 0 then -i else i)) H) absD := by
  intro S H xs as d hS w e Q q
  unfold absD at e
  split at e
  · cases e
    obtain ⟨x, rfl, wx⟩ := vwAll1 w
    exact ⟨_, by rw [vw_int wx], q _ _ (same_refl _) (.int _)⟩
  · cases e
def minD (as : List PyData) : Option PyData :=
  match as with
  | [.int i, .int j] => some (.int (if j < i then j else i))
  | _ => none
theorem ok_min : CbOk K (fun xs H Q => ∃ i j, xs = [.int i, .int j] ∧ Q (.int (if j < i then j else i)) H) minD := by
  intro S H xs as d hS w e Q q
  unfold minD at e
  split at e
  · cases e
    obtain ⟨x, y, rfl, wx, wy⟩ := vwAll2 w
    exact ⟨_, _, by rw [vw_int wx, vw_int wy], q _ _ (same_refl _) (.int _)⟩
  · cases e
def maxD (as : List PyData) : Option PyData :=
  match as with
  | [.int i, .int j] => some (.int (if j > i then j else i))
  | _ => none
theorem ok_max : CbOk K (fun xs H Q => ∃ i j, xs = [.int i, .int j] ∧ Q (.int (if j > i then j else i)) H) maxD := by
  intro S H xs as d hS w e Q q
  unfold maxD at e
  split at e
  · cases e
    obtain ⟨x, y, rfl, wx, wy⟩ := vwAll2 w
    exact ⟨_, _, by rw [vw_int wx, vw_int wy], q _ _ (same_refl _) (.int _)⟩
  · cases e
def intD (as : List PyData) : Option PyData :=
  match as with
  | [.int i] => some (.int i)
  | [.bool k] => some (.int (if k then 1 else 0))
  | _ => none
theorem ok_int : CbOk K (fun xs H Q => (∃ i, xs = [.int i] ∧ Q (.int i) H) ∨ ∃ k, xs = [.bl k] ∧ Q (.int (if k then 1 else 0)) H) intD := by
  intro S H xs as d hS w e Q q
  unfold intD at e
  split at e
  · cases e
    obtain ⟨x, rfl, wx⟩ := vwAll1 w
    exact .inl ⟨_, by rw [vw_int wx], q _ _ (same_refl _) (.int _)⟩
  · cases e
    obtain ⟨x, rfl, wx⟩ := vwAll1 w
    exact .inr ⟨_, by rw [vw_bool wx], q _ _ (same_refl _) (.int _)⟩
  · cases e
/-- a list of truth values -/
def boolsD : List PyData → Option (List Bool)
  | [] => some []
  | .bool b :: r => (boolsD r).map (b :: ·)
  | _ :: _ => none
theorem bools_da {H : Hp} : ∀ {vs : List V} {ds : List PyData} {bs : List Bool}, DaAll K H vs ds → boolsD ds = some bs → vs = bs.map V.bl
  | _, _, bs, .nil, e => by cases e; rfl
  | _, _, bs, .cons (d := .bool b) h t, e => by
    obtain ⟨q, e1, e2⟩ := Option.map_eq_some_iff.mp (show (boolsD _).map (b :: ·) = some bs from e)
    subst e2
    cases h
    rw [bools_da t e1]
    rfl
  | _, _, bs, .cons (d := .int b) h t, e => by cases e
  | _, _, bs, .cons (d := .none) h t, e => by cases e
  | _, _, bs, .cons (d := .str b) h t, e => by cases e
  | _, _, bs, .cons (d := .list b) h t, e => by cases e
  | _, _, bs, .cons (d := .tuple b) h t, e => by cases e
  | _, _, bs, .cons (d := .dict b) h t, e => by cases e
def intsD : List PyData → Option (List Int)
  | [] => some []
  | .int b :: r => (intsD r).map (b :: ·)
  | _ :: _ => none
theorem ints_da {H : Hp} : ∀ {vs : List V} {ds : List PyData} {bs : List Int}, DaAll K H vs ds → intsD ds = some bs → vs = bs.map V.int
  | _, _, bs, .nil, e => by cases e; rfl
  | _, _, bs, .cons (d := .int b) h t, e => by
    obtain ⟨q, e1, e2⟩ := Option.map_eq_some_iff.mp (show (intsD _).map (b :: ·) = some bs from e)
    subst e2
    cases h
    rw [ints_da t e1]
    rfl
  | _, _, bs, .cons (d := .bool b) h t, e => by cases e
  | _, _, bs, .cons (d := .none) h t, e => by cases e
  | _, _, bs, .cons (d := .str b) h t, e => by cases e
  | _, _, bs, .cons (d := .list b) h t, e => by cases e
  | _, _, bs, .cons (d := .tuple b) h t, e => by cases e
  | _, _, bs, .cons (d := .dict b) h t, e => by cases e
theorem intsD_map (ns : List Int) : intsD (ns.map PyData.int) = some ns := by
  induction ns with
  | nil => rfl
  | cons n r ih => show (intsD (r.map PyData.int)).map (n :: ·) = _; rw [ih]; rfl
theorem boolsD_map (ns : List Bool) : boolsD (ns.map PyData.bool) = some ns := by
  induction ns with
  | nil => rfl
  | cons n r ih => show (boolsD (r.map PyData.bool)).map (n :: ·) = _; rw [ih]; rfl
theorem da_ints {H : Hp} : ∀ ns : List Int, DaAll K H (ns.map V.int) (ns.map PyData.int)
  | [] => .nil
  | n :: r => .cons (.int n) (da_ints r)
def allD (as : List PyData) : Option PyData :=
  match as with
  | [.list ds] => (boolsD ds).map fun bs => .bool (bs.all id)
  | _ => none
theorem ok_all : CbOk K (rAll K) allD := by
  intro S H xs as d hS w e Q q
  unfold allD at e
  split at e
  · obtain ⟨bs, e1, e2⟩ := Option.map_eq_some_iff.mp e
    subst e2
    obtain ⟨x, rfl, wx⟩ := vwAll1 w
    obtain ⟨p, vs, rfl, h2, h3⟩ := vw_list wx
    rw [bools_da h3 e1] at h2
    exact ⟨p, bs, rfl, rd_sq h2, q _ _ (same_refl _) (.bl _)⟩
  · cases e
def sumD (as : List PyData) : Option PyData :=
  match as with
  | [.list ds] => (intsD ds).map fun bs => .int bs.sum
  | _ => none
theorem ok_sum : CbOk K (rSum K) sumD := by
  intro S H xs as d hS w e Q q
  unfold sumD at e
  split at e
  · obtain ⟨bs, e1, e2⟩ := Option.map_eq_some_iff.mp e
    subst e2
    obtain ⟨x, rfl, wx⟩ := vwAll1 w
    obtain ⟨p, vs, rfl, h2, h3⟩ := vw_list wx
    rw [ints_da h3 e1] at h2
    exact ⟨p, bs, rfl, rd_sq h2, q _ _ (same_refl _) (.int _)⟩
  · cases e
/-- numbers in order -/
def sortI (ns : List Int) : List Int := ns.mergeSort (fun a b => decide (a ≤ b))
theorem sort_uniq {a b : List Int} (p : a.Perm b) (ha : a.Pairwise (· ≤ ·)) (hb : b.Pairwise (· ≤ ·)) : a = b := p.eq_of_pairwise (fun x y _ _ h1 h2 => Int.le_antisymm h1 h2) ha hb
theorem sortI_perm (ns : List Int) : (sortI ns).Perm ns := List.mergeSort_perm ..
theorem sortI_pw (ns : List Int) : (sortI ns).Pairwise (· ≤ ·) := by
  have h := List.pairwise_mergeSort (le := fun a b : Int => decide (a ≤ b)) (fun a b c h1 h2 => decide_eq_true (Int.le_trans (of_decide_eq_true h1) (of_decide_eq_true h2))) (fun a b => by
    rw [Bool.or_eq_true]
    exact (Int.le_total a b).imp decide_eq_true decide_eq_true) ns
  exact h.imp fun z => of_decide_eq_true z
def sortD (as : List PyData) : Option PyData :=
  match as with
  | [a] => (seqD a).bind fun ds => (intsD ds).map fun ns => .list ((sortI ns).map .int)
  | _ => none
theorem ok_sort : CbOk K (rSrtW K) sortD := by
  intro S H xs as d hS w e Q q
  unfold sortD at e
  split at e
  · obtain ⟨ds, e1, e2⟩ := Option.bind_eq_some_iff.mp e
    obtain ⟨ns, e3, e4⟩ := Option.map_eq_some_iff.mp e2
    subst e4
    obtain ⟨x, rfl, wx⟩ := vwAll1 w
    obtain ⟨p, vs, rfl, h2, h3⟩ := vw_seq wx e1
    rw [ints_da h3 e3] at h2
    refine ⟨p, ns, rfl, h2, fun ns' r H' pm pw n s hr => q _ _ s ?_⟩
    have : ns' = sortI ns := sort_uniq (pm.trans (sortI_perm ns).symm) pw (sortI_pw ns)
    subst this
    exact .lst (SqL.of ((off_ne fun z => by obtain ⟨o, e, _⟩ := hS r z; rw [n] at e; cases e).trans hr)) (da_ints _)
  · cases e
end
end Ov
set_option Elab.async false
set_option linter.all false
set_option maxRecDepth 100000
set_option maxHeartbeats 4000000
namespace Ov
open PySem L2
/-! values that may be owned, statements -/
structure Fr2 (l : List Addr) (H : Hp) (l' : List Addr) (H' : Hp) : Prop where
  fr : Fr l H H'
  sub : ∀ b ∈ l', b ∈ l ∨ H b = none
theorem Fr2.refl (l : List Addr) (H : Hp) : Fr2 l H l H := ⟨Fr.refl _ _, fun _ z => .inl z⟩
theorem Fr2.of {l : List Addr} {H H' : Hp} (f : Fr l H H') : Fr2 l H l H' := ⟨f, fun _ z => .inl z⟩
theorem Fr2.trans {l l1 l2 : List Addr} {H H1 H2 : Hp} (a : Fr2 l H l1 H1) (b : Fr2 l1 H1 l2 H2) : Fr2 l H l2 H2 := by
  refine ⟨fun c o n h => b.fr c o (fun z => ?_) (a.fr c o n h), fun c z => ?_⟩
  · rcases a.sub c z with z | z
    · exact n z
    · rw [h] at z; cases z
  · rcases b.sub c z with z | z
    · exact a.sub c z
    · by_cases m : c ∈ l
      · exact .inl m
      · cases q : H c with
        | none => exact .inr rfl
        | some o => rw [a.fr c o m q] at z; cases z
section
variable {K : PySem.W.Frag} {E : XK}
theorem Exn.later2 {B : Addr → Prop} {H H1 : Hp} {l l1 : List Addr} {C : Addr} {f : Str} {d : PyData} (x : Exn K E B H l C f d) (s : Fr2 l H l1 H1) : Exn K E B H1 l1 C f d :=
  ⟨fun hf dx H' v fr n h q => x.1 hf dx H' v (s.trans (Fr2.of fr)).fr n h q, fun hf H' fr => x.2 hf H' (s.trans (Fr2.of fr)).fr⟩
def PostW (K : PySem.W.Frag) (E : XK) (B : Addr → Prop) (σ : St) (H : Hp) (l : List Addr) (rs : Rs Wv) (Q : VK) : Prop :=
  match rs with
  | .ok w env' => ∀ v H' lw, Rep K (un B lw) σ H' env' l → Fr l H H' → RpW K H' (off (un (un B lw) l) H') v w lw → lw.Nodup → (∀ b ∈ lw, H b = none) → Q v H'
  | .ex C f d => Exn K E B H l C f d
structure OkW (K : PySem.W.Frag) (E : XK) (t : TE) (f : M Wv) : Prop where
  run : ∀ {B : Addr → Prop} {σ : St} {H : Hp} {env : En} {l : List Addr} {rs : Rs Wv}, Rep K B σ H env l → f env = some rs → ∀ {Q : VK}, PostW K E B σ H l rs Q → t σ H Q
theorem PostW.exn {B : Addr → Prop} {σ : St} {H : Hp} {l : List Addr} {rs : Rs Wv} {Q : VK} (h : PostW K E B σ H l rs Q) : ∀ C f d, rs = .ex C f d → Exn K E B H l C f d := fun C f d e => by subst e; exact h
theorem OkW.seq {α : Type} {ta : TE} {fa : M Wv} {g : Wv → M α} (oa : OkW K E ta fa) {B : Addr → Prop} {σ : St} {H : Hp} {env : En} {l : List Addr} {rs : Rs α} (r : Rep K B σ H env l) (h : (M.bind fa g) env = some rs) {Q : VK}
    (hx : ∀ C f d, rs = .ex C f d → Exn K E B H l C f d) (hq : ∀ a e v H' lw, g a e = some rs → Rep K (un B lw) σ H' e l → Fr l H H' → RpW K H' (off (un (un B lw) l) H') v a lw → lw.Nodup → (∀ b ∈ lw, H b = none) → Q v H') : ta σ H Q := by
  rcases bind_some h with ⟨a, e, h1, h2⟩ | ⟨C, f, d, h1, h2⟩
  · exact oa.run r h1 (fun v H' lw r' fr q n1 n2 => hq a e v H' lw h2 r' fr q n1 n2)
  · exact oa.run r h1 (hx C f d h2)
theorem un_nil (B : Addr → Prop) : un B [] = B := by
  funext b
  exact propext ⟨fun z => z.elim id (fun z => by cases z), .inl⟩
theorem un_app (B : Addr → Prop) (a b : List Addr) : un (un B a) b = un B (a ++ b) := by
  funext c
  exact propext ⟨fun z => z.elim (fun z => z.imp id (List.mem_append_left _)) fun z => .inr (List.mem_append_right _ z), fun z => z.elim (fun z => .inl (.inl z)) fun z => (List.mem_append.mp z).elim (fun z => .inl (.inr z)) .inr⟩
def toW : R → Option Wv
  | .dat d => some (.dat d)
  | .exc C f d => some (.exc C f d)
  | .slot _ => none
/-- a value that is no list of one's own -/
def pl (f : M R) : M Wv := M.bind f fun r => lift (toW r)
theorem OkE.w {t : TE} {f : M R} (o : OkE K E t f) : OkW K E t (pl f) := by
  refine ⟨?_⟩
  intro B σ H env l rs rp h Q post
  refine o.seq rp h post.exn fun a e v H' h1 r1 f1 q1 => ?_
  obtain ⟨w, h2, h3⟩ := lift_some h1
  subst h3
  refine post v H' [] (by rw [un_nil]; exact r1) f1 ?_ List.nodup_nil (fun _ z => by cases z)
  rw [un_nil]
  cases a with
  | dat d => cases h2; exact ⟨rfl, q1⟩
  | slot i => cases h2
  | exc C f d => cases h2; exact ⟨rfl, q1⟩
/-- a list of one's own as data from here on -/
def itD : It1 → PyData
  | .dat d => d
  | .own ds => .list ds
def ofW : Wv → Option R
  | .dat d => some (.dat d)
  | .own xs => some (.dat (.list (xs.map itD)))
  | .exc C f d => some (.exc C f d)
  | .dct _ => none
  | .dci kvs => some (.dat (dcD kvs))
  | .dts _ => none
  | .pin _ _ => none
  | .dtn _ => none
  | .nd _ => none
  | .dtk [] => none
  | .dtk (z :: r) => some (.dat (dkD (z :: r)))
theorem rp1_free {H G G' : Hp} {v : V} {x : It1} {l : List Addr} (s : Same G G') (k : ∀ b ∈ l, ∀ us, H b = some (.lst us) → G' b = some (.lst us)) (h : Rp1 K H G v x l) : Da K G' v (itD x) := by
  cases x with
  | dat d => exact Da.same s d h.2
  | own ds =>
    obtain ⟨q, us, rfl, rfl, e3, e4⟩ := h
    exact .lst (SqL.of (k q (List.mem_cons_self ..) us e3)) (DaAll.same s ds e4)
theorem rp1s_free {H G G' : Hp} (s : Same G G') : ∀ {vs : List V} {xs : List It1} {l : List Addr}, (∀ b ∈ l, ∀ us, H b = some (.lst us) → G' b = some (.lst us)) → Rp1s K H G vs xs l → DaAll K G' vs (xs.map itD)
  | [], [], l, _, h => .nil
  | v :: vs, x :: xs, l, k, ⟨a, b, e, h1, h2⟩ => .cons (rp1_free s (fun c z => k c (by rw [e]; exact List.mem_append_left _ z)) h1) (rp1s_free s (fun c z => k c (by rw [e]; exact List.mem_append_right _ z)) h2)
  | [], _ :: _, _, _, h => h.elim
  | _ :: _, [], _, _, h => h.elim
theorem rpW_free {H G G' : Hp} {σ : St} {v : V} {w : Wv} {r : R} {l : List Addr} (hr : ofW w = some r) (s : Same G G') (k : ∀ b ∈ l, ∀ us, H b = some us → G' b = some us) (h : RpW K H G v w l) : RpR K G' σ v r := by
  cases w with
  | dct ks => cases hr
  | dci kvs =>
    cases hr
    obtain ⟨p, rfl, rfl, e3⟩ := h
    exact .dctI kvs rfl (k p (List.mem_cons_self ..) _ e3)
  | dts ks => cases hr
  | pin _ _ => cases hr
  | dtn _ => cases hr
  | nd _ => cases hr
  | dtk kvs =>
    cases kvs with
    | nil => cases hr
    | cons z r =>
      cases hr
      obtain ⟨p, rfl, rfl, e3⟩ := h
      exact .dtk (z :: r) (by simp) rfl (k p (List.mem_cons_self ..) _ e3)
  | dat d => cases hr; exact Da.same s d h.2
  | own xs =>
    cases hr
    obtain ⟨p, vs, b, rfl, rfl, e3, e4⟩ := h
    exact .lst (SqL.of (k p (List.mem_cons_self ..) _ e3)) (rp1s_free s (fun c z us => k c (List.mem_cons_of_mem _ z) (.lst us)) e4)
  | exc C f d =>
    cases hr
    obtain ⟨_, a, u, e1, e2, e3⟩ := h
    exact ⟨a, u, e1, e2.same s, fun z => Da.same s d (e3 z)⟩
def fz (f : M Wv) : M R := M.bind f fun w => lift (ofW w)
theorem OkW.e {t : TE} {f : M Wv} (o : OkW K E t f) : OkE K E t (fz f) := by
  refine ⟨?_⟩
  intro B σ H env l rs rp h Q post
  refine o.seq rp h post.exn fun a e v H' lw h1 r1 f1 q1 nd fr => ?_
  obtain ⟨r, h2, h3⟩ := lift_some h1
  subst h3
  refine post v H' (r1.less fun _ z => .inl z) f1 (rpW_free h2 (off_mono (fun b z n => absurd (z.elim (fun z => .inl (.inl z)) .inr) n) fun b o n e => e) (fun b z us e => ?_) q1)
  refine (off_ne fun y => ?_).trans e
  exact rp.fresh (fr b z) y
inductive Fl where
  | nx | bk | ct
  | rt (w : Wv)
def PostS (K : PySem.W.Frag) (E : XK) (bx : Bool) (B : Addr → Prop) (σ : St) (H : Hp) (l : List Addr) (rs : Rs Fl) (D : Ends) : Prop :=
  match rs with
  | .ok .nx env' => ∀ σ' H' l', Rep K B σ' H' env' l' → Fr2 l H l' H' → (bx = true → σ'[0]? = σ[0]?) → D.nx σ' H'
  | .ok .bk env' => ∀ σ' H' l', Rep K B σ' H' env' l' → Fr2 l H l' H' → (bx = true → σ'[0]? = σ[0]?) → D.bk σ' H'
  | .ok .ct env' => ∀ σ' H' l', Rep K B σ' H' env' l' → Fr2 l H l' H' → (bx = true → σ'[0]? = σ[0]?) → D.ct σ' H'
  | .ok (.rt w) env' => ∀ v σ' H' l' lw, Rep K (un B lw) σ' H' env' l' → Fr2 l H (l' ++ lw) H' → (bx = true → σ'[0]? = σ[0]?) → RpW K H' (off (un (un B lw) l') H') v w lw → lw.Nodup → (∀ b ∈ lw, b ∉ l' ∧ ¬ B b) → D.rt v H'
  | .ex C f d => Exn K E B H l C f d
structure OkS (K : PySem.W.Frag) (E : XK) (bx : Bool) (t : TS) (f : M Fl) : Prop where
  run : ∀ {B : Addr → Prop} {σ : St} {H : Hp} {env : En} {l : List Addr} {rs : Rs Fl}, Rep K B σ H env l → f env = some rs → ∀ {D : Ends}, PostS K E bx B σ H l rs D → t D σ H
variable {bx : Bool}
theorem PostS.exn {B : Addr → Prop} {σ : St} {H : Hp} {l : List Addr} {rs : Rs Fl} {D : Ends} (h : PostS K E bx B σ H l rs D) : ∀ C f d, rs = .ex C f d → Exn K E B H l C f d := fun C f d e => by subst e; exact h
theorem PostS.later {B : Addr → Prop} {σ σ1 : St} {H H1 : Hp} {l l1 : List Addr} {rs : Rs Fl} {D : Ends} (h : PostS K E bx B σ H l rs D) (s : Fr2 l H l1 H1) (e0 : bx = true → σ1[0]? = σ[0]?) : PostS K E bx B σ1 H1 l1 rs D := by
  cases rs with
  | ex C f d => exact Exn.later2 h s
  | ok fl env =>
    cases fl with
    | nx => exact fun σ' H' l' r f b => h σ' H' l' r (s.trans f) fun z => (b z).trans (e0 z)
    | bk => exact fun σ' H' l' r f b => h σ' H' l' r (s.trans f) fun z => (b z).trans (e0 z)
    | ct => exact fun σ' H' l' r f b => h σ' H' l' r (s.trans f) fun z => (b z).trans (e0 z)
    | rt w => exact fun v σ' H' l' lw r f b => h v σ' H' l' lw r (s.trans f) fun z => (b z).trans (e0 z)
def nxt : M Fl := M.pure .nx
theorem OkS.nil : OkS K E bx tNext nxt := by
  refine ⟨?_⟩
  intro B σ H env l rs rp h D post
  cases h
  exact post σ H l rp (Fr2.refl _ _) fun _ => rfl
def thenS (f g : M Fl) : M Fl := M.bind f fun fl => match fl with
  | .nx => g
  | o => M.pure o
theorem OkS.cut {t u : TS} {f g : M Fl} (o : OkS K E bx t f) (o' : OkS K E bx u g) : OkS K E bx (Evl.tCut t u) (thenS f g) := by
  refine ⟨?_⟩
  intro B σ H env l rs rp h D post
  rcases bind_some h with ⟨fl, e, h1, h2⟩ | ⟨C, g', d, h1, h2⟩
  · cases fl with
    | nx => exact ⟨fun σ' H' => ∃ l', Rep K B σ' H' e l' ∧ Fr2 l H l' H' ∧ (bx = true → σ'[0]? = σ[0]?), o.run rp h1 (fun σ' H' l' r f b => ⟨l', r, f, b⟩), fun σ' H' ⟨l', r, f, b⟩ => o'.run r h2 (post.later f b)⟩
    | bk => cases h2; exact ⟨fun _ _ => False, o.run rp h1 post, fun _ _ z => z.elim⟩
    | ct => cases h2; exact ⟨fun _ _ => False, o.run rp h1 post, fun _ _ z => z.elim⟩
    | rt w => cases h2; exact ⟨fun _ _ => False, o.run rp h1 post, fun _ _ z => z.elim⟩
  · subst h2; exact ⟨fun _ _ => False, o.run rp h1 post, fun _ _ z => z.elim⟩
def exprS (f : M R) : M Fl := M.bind f fun _ => M.pure .nx
theorem OkS.expr {t : TE} {f : M R} (o : OkE K E t f) : OkS K E bx (tDrop t) (exprS f) := by
  refine ⟨?_⟩
  intro B σ H env l rs rp h D post
  refine o.seq rp h post.exn fun a e v H' h1 r1 f1 q1 => ?_
  cases h1
  exact post σ H' l r1 (Fr2.of f1) fun _ => rfl
def retS (f : M Wv) : M Fl := M.bind f fun w => M.pure (.rt w)
theorem OkS.ret {t : TE} {f : M Wv} (o : OkW K E t f) : OkS K E bx (tRet t) (retS f) := by
  refine ⟨?_⟩
  intro B σ H env l rs rp h D post
  refine o.seq rp h post.exn fun a e v H' lw h1 r1 f1 q1 nd fr => ?_
  cases h1
  exact post v σ H' l lw r1 ⟨f1, fun b z => (List.mem_append.mp z).imp id (fr b)⟩ (fun _ => rfl) q1 nd fun b z => ⟨fun y => rp.fresh (fr b z) (.inr y), fun y => rp.fresh (fr b z) (.inl y)⟩
def retN : M Fl := M.pure (.rt (.dat .none))
/-- the list of slot i leaves -/
def moveS (i : Nat) : M Fl := fun env =>
  match env[i]? with
  | some (some (.own xs)) => some (.ok (.rt (.own xs)) (env.set i none))
  | _ => none
theorem OkS.move (i : Nat) : OkS K E bx (tRet (tVar i)) (moveS i) := by
  refine ⟨?_⟩
  intro B σ H env l rs rp h D post
  unfold moveS at h
  split at h
  · rename_i xs hx
    cases h
    obtain ⟨s, a, lx, ly, q1, q2, ⟨v, q3, q4⟩, q5⟩ := rp.rp.focus hx
    subst q3
    have ev : un (un B a) (lx ++ ([] ++ ly)) = un B l := by
      rw [un_app, q2]
      funext b
      refine propext ⟨fun z => z.imp id fun z => ?_, fun z => z.imp id fun z => ?_⟩
      · rcases List.mem_append.mp z with z | z
        · exact List.mem_append_right _ (List.mem_append_left _ z)
        · rcases List.mem_append.mp z with z | z
          · exact List.mem_append_left _ z
          · exact List.mem_append_right _ (List.mem_append_right _ (by simpa using z))
      · rcases List.mem_append.mp z with z | z
        · exact List.mem_append_right _ (List.mem_append_left _ z)
        · rcases List.mem_append.mp z with z | z
          · exact List.mem_append_left _ z
          · exact List.mem_append_right _ (List.mem_append_right _ (by simpa using z))
    have nd := rp.nd
    rw [q2] at nd
    obtain ⟨n1, n2, n3⟩ := List.nodup_append.mp nd
    obtain ⟨n4, n5, n6⟩ := List.nodup_append.mp n2
    have e : σ.set i (some v) = σ := by
      apply List.ext_getElem?
      intro j
      by_cases z : i = j
      · subst z; rw [List.getElem?_set_self (List.getElem?_eq_some_iff.mp q1).1, q1]
      · rw [List.getElem?_set_ne z]
    have r' : Rep K (un B a) σ H (env.set i none) (lx ++ ([] ++ ly)) := by
      refine ⟨?_, ?_, ?_, ?_⟩
      · rw [ev]
        have := q5 (H' := H) (G' := off (un B l) H) (s' := some v) (e' := none) (a' := []) (fun _ _ z => z) (fun _ _ => rfl) (fun _ _ => rfl) rfl
        rw [e] at this
        exact this
      · rw [List.nil_append]
        exact List.nodup_append.mpr ⟨n1, n5, fun x hx y hy => n3 x hx y (List.mem_append_right _ hy)⟩
      · intro b z y
        rw [List.nil_append] at z
        rcases y with y | y
        · refine rp.out b ?_ y
          rw [q2]
          exact (List.mem_append.mp z).elim (List.mem_append_left _) fun z => List.mem_append_right _ (List.mem_append_right _ z)
        · rcases List.mem_append.mp z with z | z
          · exact n3 b z b (List.mem_append_left _ y) rfl
          · exact n6 b y b z rfl
      · intro b z
        refine rp.tl b (z.imp id fun z => ?_)
        rw [q2]
        exact List.mem_append_right _ (List.mem_append_left _ z)
    refine ⟨v, q1, post v σ H (lx ++ ([] ++ ly)) a r' ⟨Fr.refl _ _, fun b z => .inl ?_⟩ (fun _ => rfl) (by rw [ev]; exact q4) n4 fun b z => ⟨fun y => ?_, fun y => ?_⟩⟩
    · rw [q2]
      rcases List.mem_append.mp z with z | z
      · rw [List.nil_append] at z
        exact (List.mem_append.mp z).elim (List.mem_append_left _) fun z => List.mem_append_right _ (List.mem_append_right _ z)
      · exact List.mem_append_right _ (List.mem_append_left _ z)
    · rw [List.nil_append] at y
      rcases List.mem_append.mp y with y | y
      · exact n3 b y b (List.mem_append_left _ z) rfl
      · exact n6 b z b y rfl
    · exact rp.out b (by rw [q2]; exact List.mem_append_right _ (List.mem_append_left _ z)) y
  · cases h
def ifS (c : M Bool) (f g : M Fl) : M Fl := M.bind c fun b => if b = true then f else g
theorem OkS.ife {c : TT} {t u : TS} {fc : M Bool} {f g : M Fl} (oc : OkT K E c fc) (o : OkS K E bx t f) (o' : OkS K E bx u g) : OkS K E bx (tIfS c t u) (ifS fc f g) := by
  refine ⟨?_⟩
  intro B σ H env l rs rp h D post
  refine oc.seq rp h post.exn fun b e H1 h1 r1 f1 => ?_
  cases b with
  | true => exact iteT (o.run r1 (by simpa using h1) (post.later (Fr2.of f1) fun _ => rfl))
  | false => exact iteF (o'.run r1 (by simpa using h1) (post.later (Fr2.of f1) fun _ => rfl))
/-! stores to names -/
theorem Rep.put {B : Addr → Prop} {σ : St} {H : Hp} {env : En} {l lw : List Addr} {i : Nat} {v : V} {w : Wv} (r : Rep K (un B lw) σ H env l) (hi : i < env.length) (h : RpW K H (off (un (un B lw) l) H) v w lw) (nd : lw.Nodup) (hw : ∀ b ∈ lw, b ∉ l ∧ ¬ B b) :
    ∃ l', Rep K B (σ.set i (some v)) H (env.set i (some w)) l' ∧ ∀ b ∈ l', b ∈ l ∨ b ∈ lw := by
  obtain ⟨s, a, lx, ly, q1, q2, q3, q5⟩ := r.rp.focus (List.getElem?_eq_getElem hi)
  have nd0 := r.nd
  rw [q2] at nd0
  obtain ⟨n1, n2, n3⟩ := List.nodup_append.mp nd0
  obtain ⟨n4, n5, n6⟩ := List.nodup_append.mp n2
  have mem : ∀ b ∈ lx ++ (lw ++ ly), b ∈ l ∨ b ∈ lw := fun b z => by
    rw [q2]
    rcases List.mem_append.mp z with z | z
    · exact .inl (List.mem_append_left _ z)
    · rcases List.mem_append.mp z with z | z
      · exact .inr z
      · exact .inl (List.mem_append_right _ (List.mem_append_right _ z))
  have sub : Same (off (un (un B lw) l) H) (off (un B (lx ++ (lw ++ ly))) H) := off_mono (fun b z n => absurd (z.elim (fun z => .inl (.inl z)) fun z => (mem b z).elim .inr fun z => .inl (.inr z)) n) fun b o n e => e
  refine ⟨lx ++ (lw ++ ly), ⟨q5 sub (fun _ _ => rfl) (fun _ _ => rfl) ⟨v, rfl, h.mv sub fun _ _ => rfl⟩, ?_, ?_, fun b z => r.tb b (.inl z)⟩, mem⟩
  · have inl : ∀ b ∈ ly, b ∈ l := fun b z => by rw [q2]; exact List.mem_append_right _ (List.mem_append_right _ z)
    have inx : ∀ b ∈ lx, b ∈ l := fun b z => by rw [q2]; exact List.mem_append_left _ z
    refine List.nodup_append.mpr ⟨n1, List.nodup_append.mpr ⟨nd, n5, fun x hx y hy e => (hw x hx).1 (by rw [e]; exact inl y hy)⟩, fun x hx y hy e => ?_⟩
    rcases List.mem_append.mp hy with z | z
    · exact (hw y z).1 (by rw [← e]; exact inx x hx)
    · exact n3 x hx y (List.mem_append_right _ z) e
  · intro b z y
    rcases mem b z with z | z
    · exact r.out b z (.inl y)
    · exact (hw b z).2 y
def putM (i : Nat) (w : Wv) : M Unit := fun env => if i < env.length then some (.ok () (env.set i (some w))) else none
theorem putM_some {i : Nat} {w : Wv} {env : En} {rs : Rs Unit} (h : putM i w env = some rs) : i < env.length ∧ rs = .ok () (env.set i (some w)) := by
  unfold putM at h
  split at h
  · cases h; exact ⟨by assumption, rfl⟩
  · cases h
def setS (i : Nat) (f : M Wv) : M Fl := M.bind f fun w => M.bind (putM i w) fun _ => M.pure .nx
theorem putM_step {α : Type} {i : Nat} {w : Wv} {g : Unit → M α} {env : En} {rs : Rs α} (h : (M.bind (putM i w) g) env = some rs) : i < env.length ∧ g () (env.set i (some w)) = some rs := by
  rcases bind_some h with ⟨a, e, h1, h2⟩ | ⟨C, f, d, h1, h2⟩
  · obtain ⟨z, e1⟩ := putM_some h1
    cases e1
    exact ⟨z, h2⟩
  · obtain ⟨z, e1⟩ := putM_some h1
    cases e1
theorem OkS.set {i : Nat} {t : TE} {f : M Wv} (hb : bx = true → i ≠ 0) (o : OkW K E t f) : OkS K E bx (tAsg t (gName i)) (setS i f) := by
  refine ⟨?_⟩
  intro B σ H env l rs rp h D post
  refine o.seq rp h post.exn fun w e v H' lw h1 r1 f1 q1 nd fr => ?_
  obtain ⟨hi, h2⟩ := putM_step h1
  cases h2
  obtain ⟨l', r', m⟩ := r1.put hi q1 nd fun b z => ⟨fun y => rp.fresh (fr b z) (.inr y), fun y => rp.fresh (fr b z) (.inl y)⟩
  exact post _ H' l' r' ⟨f1, fun b z => (m b z).imp id (fr b)⟩ fun z => List.getElem?_set_ne (hb z)
end
end Ov
set_option Elab.async false
set_option linter.all false
set_option maxRecDepth 100000
set_option maxHeartbeats 4000000
namespace Ov
open PySem L2
/-! targets -/
def isOwn : Option (Option Wv) → Bool
  | some (some (.own _)) => true
  | some (some (.dct _)) => true
  | some (some (.dci _)) => true
  | some (some (.dtk _)) => true
  | some (some (.dts _)) => true
  | some (some (.dtn _)) => true
  | _ => false
def free (env : En) (js : List Nat) : Prop := ∀ j ∈ js, isOwn env[j]? = false
section
variable {K : PySem.W.Frag} {E : XK} {bx : Bool}
structure OkG (K : PySem.W.Frag) (g : TG) (js : List Nat) (p : PyData → En → Option En) : Prop where
  run : ∀ {B : Addr → Prop} {σ : St} {H : Hp} {env env' : En} {l : List Addr} {v : V} {d : PyData}, Rep K B σ H env l → Da K (off (un B l) H) v d → p d env = some env' → ∀ {Q : St → Hp → Prop},
    (∀ σ' l', Rep K B σ' H env' l' → (∀ b ∈ l', b ∈ l) → (free env js → l' = l) → (∀ j, j ∉ js → σ'[j]? = σ[j]?) → Q σ' H) → g v σ H Q
  keep : ∀ {d : PyData} {env env' : En}, p d env = some env' → (∀ j, j ∉ js → env'[j]? = env[j]?) ∧ (∀ j ∈ js, isOwn env'[j]? = false) ∧ env'.length = env.length
structure OkGs (K : PySem.W.Frag) (g : TGs) (js : List Nat) (n : Nat) (p : List PyData → En → Option En) : Prop where
  run : ∀ {B : Addr → Prop} {σ : St} {H : Hp} {env env' : En} {l : List Addr} {vs : List V} {ds : List PyData}, Rep K B σ H env l → DaAll K (off (un B l) H) vs ds → p ds env = some env' → ∀ {Q : St → Hp → Prop},
    (∀ σ' l', Rep K B σ' H env' l' → (∀ b ∈ l', b ∈ l) → (free env js → l' = l) → (∀ j, j ∉ js → σ'[j]? = σ[j]?) → Q σ' H) → g vs σ H Q
  keep : ∀ {ds : List PyData} {env env' : En}, p ds env = some env' → (∀ j, j ∉ js → env'[j]? = env[j]?) ∧ (∀ j ∈ js, isOwn env'[j]? = false) ∧ env'.length = env.length
  len : ∀ {ds : List PyData} {env env' : En}, p ds env = some env' → ds.length = n
def gN (i : Nat) (d : PyData) (env : En) : Option En := if i < env.length then some (env.set i (some (.dat d))) else none
theorem Rep.putD {B : Addr → Prop} {σ : St} {H : Hp} {env : En} {l : List Addr} {i : Nat} {v : V} {d : PyData} (r : Rep K B σ H env l) (hi : i < env.length) (h : Da K (off (un B l) H) v d) :
    ∃ l', Rep K B (σ.set i (some v)) H (env.set i (some (.dat d))) l' ∧ (∀ b ∈ l', b ∈ l) ∧ (isOwn env[i]? = false → l' = l) := by
  obtain ⟨s, a, lx, ly, q1, q2, q3, q5⟩ := r.rp.focus (List.getElem?_eq_getElem hi)
  have nd0 := r.nd
  rw [q2] at nd0
  obtain ⟨n1, n2, n3⟩ := List.nodup_append.mp nd0
  obtain ⟨n4, n5, n6⟩ := List.nodup_append.mp n2
  have mem : ∀ b ∈ lx ++ ([] ++ ly), b ∈ l := fun b z => by
    rw [q2]
    rcases List.mem_append.mp z with z | z
    · exact List.mem_append_left _ z
    · exact List.mem_append_right _ (List.mem_append_right _ (by simpa using z))
  have sub : Same (off (un B l) H) (off (un B (lx ++ ([] ++ ly))) H) := off_mono (fun b z n => absurd (z.imp id (mem b)) n) fun b o n e => e
  refine ⟨lx ++ ([] ++ ly), ⟨q5 sub (fun _ _ => rfl) (fun _ _ => rfl) ⟨v, rfl, rfl, Da.same sub d h⟩, ?_, fun b z => r.out b (mem b z), r.tb⟩, mem, fun z => ?_⟩
  · rw [List.nil_append]
    exact List.nodup_append.mpr ⟨n1, n5, fun x hx y hy => n3 x hx y (List.mem_append_right _ hy)⟩
  · rw [List.getElem?_eq_getElem hi] at z
    have : a = [] := by
      cases q : env[i] with
      | none => rw [q] at q3; exact q3
      | some w =>
        rw [q] at q3 z
        obtain ⟨v', _, q3⟩ := q3
        cases w with
        | dat _ => exact q3.1
        | own xs => cases z
        | dct ks => cases z
        | dci ks => cases z
        | dtk ks => cases z
        | dts ks => cases z
        | pin _ _ => exact q3.1
        | dtn _ => cases z
        | nd _ => exact q3.1
        | exc _ _ _ => exact q3.1
    rw [q2, this]
theorem OkG.name (i : Nat) : OkG K (gName i) [i] (gN i) := by
  refine ⟨?_, ?_⟩
  · intro B σ H env env' l v d r h e Q q
    unfold gN at e
    split at e
    · rename_i hi
      cases e
      obtain ⟨l', r', m, f⟩ := r.putD hi h
      exact q _ l' r' m (fun z => f (z i (List.mem_cons_self ..))) fun j n => List.getElem?_set_ne fun z => n (by rw [z]; exact List.mem_cons_self ..)
    · cases e
  · intro d env env' e
    unfold gN at e
    split at e
    · rename_i hi
      cases e
      refine ⟨fun j n => List.getElem?_set_ne fun z => n (by rw [z]; exact List.mem_cons_self ..), fun j z => ?_, List.length_set ..⟩
      cases List.mem_singleton.mp z
      rw [List.getElem?_set_self hi]
      rfl
    · cases e
def gsN (ds : List PyData) (env : En) : Option En :=
  match ds with
  | [] => some env
  | _ => none
def gsC (p : PyData → En → Option En) (q : List PyData → En → Option En) (ds : List PyData) (env : En) : Option En :=
  match ds with
  | d :: r => (p d env).bind fun e => q r e
  | [] => none
theorem OkGs.nil : OkGs K gNil [] 0 gsN := by
  refine ⟨?_, ?_, ?_⟩
  · intro B σ H env env' l vs ds r h e Q q
    unfold gsN at e
    split at e
    · cases e; cases h; exact ⟨rfl, q σ l r (fun _ z => z) (fun _ => rfl) fun _ _ => rfl⟩
    · cases e
  · intro ds env env' e
    unfold gsN at e
    split at e
    · cases e; exact ⟨fun _ _ => rfl, fun _ z => (by cases z), rfl⟩
    · cases e
  · intro ds env env' e
    unfold gsN at e
    split at e
    · rfl
    · cases e
theorem OkGs.cons {g : TG} {gs : TGs} {is js : List Nat} {n : Nat} {p : PyData → En → Option En} {q : List PyData → En → Option En} (o : OkG K g is p) (os : OkGs K gs js n q) : OkGs K (gCons g gs) (is ++ js) (n + 1) (gsC p q) := by
  have two : ∀ {d : PyData} {env e : En}, p d env = some e → free env (is ++ js) → free env is ∧ free e js := fun {d env e} h f => by
    obtain ⟨k1, k2, _⟩ := o.keep h
    refine ⟨fun j z => f j (List.mem_append_left _ z), fun j z => ?_⟩
    by_cases y : j ∈ is
    · exact k2 j y
    · rw [k1 j y]; exact f j (List.mem_append_right _ z)
  refine ⟨?_, ?_, ?_⟩
  · intro B σ H env env' l vs ds r h e Q k
    cases ds with
    | nil => cases e
    | cons d ds =>
      obtain ⟨e1, h1, h2⟩ := Option.bind_eq_some_iff.mp (show (p d env).bind (fun e => q ds e) = some env' from e)
      cases h with
      | cons ha hr =>
        refine ⟨_, _, rfl, o.run r ha h1 fun σ1 l1 r1 m1 f1 k1 => ?_⟩
        have sub : Same (off (un B l) H) (off (un B l1) H) := off_mono (fun b z n => absurd (z.imp id (m1 b)) n) fun b o n e => e
        refine os.run r1 (DaAll.same sub ds hr) h2 fun σ2 l2 r2 m2 f2 k2 => ?_
        refine k σ2 l2 r2 (fun b z => m1 b (m2 b z)) (fun f => ?_) fun j n => ?_
        · obtain ⟨f3, f4⟩ := two h1 f
          rw [f2 f4, f1 f3]
        · rw [k2 j fun z => n (List.mem_append_right _ z), k1 j fun z => n (List.mem_append_left _ z)]
  · intro ds env env' e
    cases ds with
    | nil => cases e
    | cons d ds =>
      obtain ⟨e1, h1, h2⟩ := Option.bind_eq_some_iff.mp (show (p d env).bind (fun e => q ds e) = some env' from e)
      obtain ⟨a1, a2, a3⟩ := o.keep h1
      obtain ⟨b1, b2, b3⟩ := os.keep h2
      refine ⟨fun j n => ?_, fun j z => ?_, b3.trans a3⟩
      · rw [b1 j fun z => n (List.mem_append_right _ z), a1 j fun z => n (List.mem_append_left _ z)]
      · by_cases y : j ∈ js
        · exact b2 j y
        · rw [b1 j y]
          exact a2 j ((List.mem_append.mp z).resolve_right y)
  · intro ds env env' e
    cases ds with
    | nil => cases e
    | cons d ds =>
      obtain ⟨e1, h1, h2⟩ := Option.bind_eq_some_iff.mp (show (p d env).bind (fun e => q ds e) = some env' from e)
      rw [List.length_cons, os.len h2]
def gT (q : List PyData → En → Option En) (d : PyData) (env : En) : Option En :=
  match d with
  | .tuple ds => q ds env
  | _ => none
theorem OkG.tup {gs : TGs} {js : List Nat} {n : Nat} {q : List PyData → En → Option En} (os : OkGs K gs js n q) : OkG K (gTup K n gs) js (gT q) := by
  refine ⟨?_, ?_⟩
  · intro B σ H env env' l v d r h e Q k
    cases d with
    | tuple ds =>
      cases h with
      | tup hq ha =>
        exact ⟨_, _, rfl, hq.off.sq, (daAll_len ha).trans (os.len (show q ds env = some env' from e)), os.run r ha e k⟩
    | none => cases e
    | bool _ => cases e
    | int _ => cases e
    | str _ => cases e
    | list _ => cases e
    | dict _ => cases e
  · intro d env env' e
    cases d with
    | tuple ds => exact os.keep (show q ds env = some env' from e)
    | none => cases e
    | bool _ => cases e
    | int _ => cases e
    | str _ => cases e
    | list _ => cases e
    | dict _ => cases e
def liftE (p : En → Option En) : M Unit := fun env => (p env).map fun e => .ok () e
theorem liftE_step {α : Type} {p : En → Option En} {g : Unit → M α} {env : En} {rs : Rs α} (h : (M.bind (liftE p) g) env = some rs) : ∃ e, p env = some e ∧ g () e = some rs := by
  rcases bind_some h with ⟨a, e, h1, h2⟩ | ⟨C, f, d, h1, h2⟩
  · obtain ⟨e', h3, h4⟩ := Option.map_eq_some_iff.mp (show (p env).map (fun e => Rs.ok () e) = _ from h1)
    cases h4
    exact ⟨e, h3, h2⟩
  · obtain ⟨e', h3, h4⟩ := Option.map_eq_some_iff.mp (show (p env).map (fun e => Rs.ok () e) = _ from h1)
    cases h4
def asD : R → Option PyData
  | .dat d => some d
  | _ => none
theorem asD_some {a : R} {d : PyData} (h : asD a = some d) : a = .dat d := by
  unfold asD at h
  split at h
  · cases h; rfl
  · cases h
/-- a, b = e -/
def unS (p : PyData → En → Option En) (f : M R) : M Fl := M.bind f fun r => M.bind (lift (asD r)) fun d => M.bind (liftE (p d)) fun _ => M.pure .nx
theorem OkS.unpack {g : TG} {js : List Nat} {p : PyData → En → Option En} {t : TE} {f : M R} (og : OkG K g js p) (hb : bx = true → 0 ∉ js) (o : OkE K E t f) : OkS K E bx (tAsg t g) (unS p f) := by
  refine ⟨?_⟩
  intro B σ H env l rs rp h D post
  refine o.seq rp h post.exn fun a e v H' h1 r1 f1 q1 => ?_
  obtain ⟨d, h2, h3⟩ := lift_step h1
  obtain ⟨e2, h4, h5⟩ := liftE_step h3
  cases h5
  rw [asD_some h2] at q1
  exact og.run r1 q1 h4 fun σ' l' r' m f k => post σ' H' l' r' ⟨f1, fun b z => .inl (m b z)⟩ fun z => k 0 (hb z)
/-! what is walked -/
def PostI (K : PySem.W.Frag) (E : XK) (B : Addr → Prop) (σ : St) (H : Hp) (l : List Addr) (rs : Rs (List PyData)) (R : It → Hp → Prop) : Prop :=
  match rs with
  | .ok ds env' => ∀ J H' G Y, Rep K B σ H' env' l → Fr l H H' → Walk J ds.length G Y → (∀ H2, Fr l H' H2 → G H2) →
      (∀ i x H2 H3 d S, Fr l H' H2 → Y i H2 x H3 → ds[i]? = some d → (∀ b, S b → un B l b ∨ H' b = none) → (∀ b, S b → ∃ o, H2 b = some o ∧ NT o) → Same H2 H3 ∧ Da K (off S H3) x d) → R J H'
  | .ex C f d => Exn K E B H l C f d
structure OkI (K : PySem.W.Frag) (E : XK) (t : TI) (f : M (List PyData)) : Prop where
  run : ∀ {B : Addr → Prop} {σ : St} {H : Hp} {env : En} {l : List Addr} {rs : Rs (List PyData)}, Rep K B σ H env l → f env = some rs → ∀ {R : It → Hp → Prop}, PostI K E B σ H l rs R → t σ H R
theorem PostI.exn {B : Addr → Prop} {σ : St} {H : Hp} {l : List Addr} {rs : Rs (List PyData)} {R : It → Hp → Prop} (h : PostI K E B σ H l rs R) : ∀ C f d, rs = .ex C f d → Exn K E B H l C f d := fun C f d e => by subst e; exact h
theorem Da.walk {B S : Addr → Prop} {l : List Addr} {H H2 : Hp} {x : V} {d : PyData} (h : Da K (off (un B l) H) x d) (f : Fr l H H2) (hs : ∀ b, S b → un B l b ∨ H b = none) : Da K (off S H2) x d :=
  Da.same (off_mono (fun b z n => (hs b z).resolve_left n) fun b o n e => f b o (fun z => n (.inr z)) e) d h
/-! for -/
def forM (p : PyData → En → Option En) (body : M Fl) : List PyData → M Fl
  | [] => M.pure .nx
  | d :: ds => fun env =>
    match p d env with
    | none => none
    | some e =>
      match body e with
      | none => none
      | some (.ex C f d) => some (.ex C f d)
      | some (.ok .nx e2) => forM p body ds e2
      | some (.ok .ct e2) => forM p body ds e2
      | some (.ok .bk e2) => some (.ok .nx e2)
      | some (.ok (.rt w) e2) => some (.ok (.rt w) e2)
def forS (fi : M (List PyData)) (p : PyData → En → Option En) (body : M Fl) : M Fl := M.bind fi fun ds => forM p body ds
theorem OkS.for {wi : TI} {g : TG} {tb : TS} {fi : M (List PyData)} {js : List Nat} {p : PyData → En → Option En} {body : M Fl} (oi : OkI K E wi fi) (og : OkG K g js p) (hb : bx = true → 0 ∉ js) (ob : OkS K E bx tb body) : OkS K E bx (tFor wi g tb) (forS fi p body) := by
  refine ⟨?_⟩
  intro B σ H env l rs rp h D post
  rcases bind_some h with ⟨ds, e0, h1, h2⟩ | ⟨C, f, d, h1, h2⟩
  case inr => exact oi.run rp h1 (post.exn C f d h2)
  refine oi.run rp h1 ?_
  intro J H1 G Y r1 f1 wk hG hY
  have post1 := post.later (Fr2.of f1) (σ1 := σ) fun _ => rfl
  refine for_it wk (fun i σ' H' => ∃ env_i l_i, Rep K B σ' H' env_i l_i ∧ Fr2 l H1 l_i H' ∧ (bx = true → σ'[0]? = σ[0]?) ∧ forM p body (ds.drop i) env_i = some rs) ⟨e0, l, r1, Fr2.refl _ _, fun _ => rfl, h2⟩ (fun i σ' H' _ ⟨_, _, _, f, _⟩ => hG H' f.fr) ?_ ?_
  · rintro i x σ' H2 H3 hi ⟨ei, li, ri, fi, b0, hi2⟩ hy
    have hd : ds.drop i = ds[i] :: ds.drop (i + 1) := List.drop_eq_getElem_cons hi
    rw [hd] at hi2
    unfold forM at hi2
    obtain ⟨s3, da⟩ := hY i x H2 H3 ds[i] (un B li) fi.fr hy (List.getElem?_eq_getElem hi) (fun b z => z.elim (fun z => .inl (.inl z)) fun z => (fi.sub b z).imp .inr id) ri.tl
    have r3 := ri.same s3
    cases q : p ds[i] ei with
    | none => rw [q] at hi2; cases hi2
    | some e2 =>
      rw [q] at hi2
      simp only at hi2
      refine og.run r3 da q fun σ4 l4 r4 m4 _ k4 => ?_
      have f4 : Fr2 l H1 l4 H3 := fi.trans ⟨Fr.of s3, fun b z => .inl (m4 b z)⟩
      have b4 : bx = true → σ4[0]? = σ[0]? := fun z => (k4 0 (hb z)).trans (b0 z)
      cases q2 : body e2 with
      | none => rw [q2] at hi2; cases hi2
      | some z =>
        rw [q2] at hi2
        cases z with
        | ex C f d => cases hi2; exact ob.run r4 q2 (Exn.later2 post1 f4)
        | ok fl e3 =>
          cases fl with
          | nx => exact ob.run r4 q2 fun σ5 H5 l5 r5 f5 b5 => ⟨e3, l5, r5, f4.trans f5, fun z => (b5 z).trans (b4 z), hi2⟩
          | ct => exact ob.run r4 q2 fun σ5 H5 l5 r5 f5 b5 => ⟨e3, l5, r5, f4.trans f5, fun z => (b5 z).trans (b4 z), hi2⟩
          | bk => cases hi2; exact ob.run r4 q2 fun σ5 H5 l5 r5 f5 b5 => post1 σ5 H5 l5 r5 (f4.trans f5) fun z => (b5 z).trans (b4 z)
          | rt w => cases hi2; exact ob.run r4 q2 fun v σ5 H5 l5 lw r5 f5 b5 => post1 v σ5 H5 l5 lw r5 (f4.trans f5) fun z => (b5 z).trans (b4 z)
  · rintro σ' H' ⟨en, ln, rn, fn, b0, hn⟩
    rw [List.drop_length] at hn
    cases hn
    exact post1 σ' H' ln rn fn b0
/-! while -/
def whileM (c : M Bool) (body : M Fl) : Nat → M Fl
  | 0 => fun _ => none
  | n + 1 => fun env =>
    match c env with
    | none => none
    | some (.ex C f d) => some (.ex C f d)
    | some (.ok b e) => if b = true then
        match body e with
        | none => none
        | some (.ex C f d) => some (.ex C f d)
        | some (.ok .nx e2) => whileM c body n e2
        | some (.ok .ct e2) => whileM c body n e2
        | some (.ok .bk e2) => some (.ok .nx e2)
        | some (.ok (.rt w) e2) => some (.ok (.rt w) e2)
      else some (.ok .nx e)
theorem OkS.while {c : TT} {tb : TS} {fc : M Bool} {body : M Fl} (n : Nat) (oc : OkT K E c fc) (ob : OkS K E bx tb body) : OkS K E bx (tWhile c tb) (whileM fc body n) := by
  refine ⟨?_⟩
  intro B σ H env l rs rp h D post
  refine ⟨fun m σ' H' => ∃ en ln, Rep K B σ' H' en ln ∧ Fr2 l H ln H' ∧ (bx = true → σ'[0]? = σ[0]?) ∧ whileM fc body m en = some rs, ⟨n, env, l, rp, Fr2.refl _ _, fun _ => rfl, h⟩, ?_⟩
  rintro m σ' H' ⟨en, ln, rn, fn, b0, hm⟩
  cases m with
  | zero => cases hm
  | succ m =>
    unfold whileM at hm
    cases q : fc en with
    | none => rw [q] at hm; cases hm
    | some z =>
      rw [q] at hm
      cases z with
      | ex C f d => cases hm; exact oc.run rn q (Exn.later2 post fn)
      | ok b e =>
        refine oc.run rn q fun H1 r1 f1 => ?_
        have f1' := fn.trans (Fr2.of f1)
        cases b with
        | false =>
          refine iteF ?_
          cases hm
          exact post σ' H1 ln r1 f1' b0
        | true =>
          refine iteT ?_
          simp only [if_true] at hm
          cases q2 : body e with
          | none => rw [q2] at hm; cases hm
          | some z =>
            rw [q2] at hm
            have nx : ∀ e2, whileM fc body m e2 = some rs → ∀ σ5 H5 l5, Rep K B σ5 H5 e2 l5 → Fr2 ln H1 l5 H5 → (bx = true → σ5[0]? = σ'[0]?) → ∃ en ln, Rep K B σ5 H5 en ln ∧ Fr2 l H ln H5 ∧ (bx = true → σ5[0]? = σ[0]?) ∧ whileM fc body m en = some rs :=
              fun e2 h2 σ5 H5 l5 r5 f5 b5 => ⟨e2, l5, r5, f1'.trans f5, fun z => (b5 z).trans (b0 z), h2⟩
            refine ⟨fun σ5 H5 => ∃ en ln, Rep K B σ5 H5 en ln ∧ Fr2 l H ln H5 ∧ (bx = true → σ5[0]? = σ[0]?) ∧ whileM fc body m en = some rs, fun _ _ z => ⟨m, Nat.lt_succ_self m, z⟩, ?_⟩
            cases z with
            | ex C f d => cases hm; exact ob.run r1 q2 (Exn.later2 post f1')
            | ok fl e3 =>
              cases fl with
              | nx => exact ob.run r1 q2 (nx e3 hm)
              | ct => exact ob.run r1 q2 (nx e3 hm)
              | bk => cases hm; exact ob.run r1 q2 fun σ5 H5 l5 r5 f5 b5 => post σ5 H5 l5 r5 (f1'.trans f5) fun z => (b5 z).trans (b0 z)
              | rt w => cases hm; exact ob.run r1 q2 fun v σ5 H5 l5 lw r5 f5 b5 => post v σ5 H5 l5 lw r5 (f1'.trans f5) fun z => (b5 z).trans (b0 z)
/-! the list of a slot is data from here on -/
def frzM (i : Nat) : M Unit := fun env =>
  match env[i]? with
  | some (some (.own xs)) => some (.ok () (env.set i (some (.dat (.list (xs.map itD))))))
  | some _ => some (.ok () env)
  | none => none
theorem OkS.frz (i : Nat) {t : TS} {f : M Fl} (o : OkS K E bx t f) : OkS K E bx t (M.bind (frzM i) fun _ => f) := by
  refine ⟨?_⟩
  intro B σ H env l rs rp h D post
  rcases bind_some h with ⟨u, e, h1, h2⟩ | ⟨C, f, d, h1, h2⟩
  · unfold frzM at h1
    split at h1
    · rename_i xs hx
      cases h1
      obtain ⟨s, a, lx, ly, q1, q2, ⟨v, q3, q4⟩, q5⟩ := rp.rp.focus hx
      subst q3
      have hi : i < env.length := (List.getElem?_eq_some_iff.mp hx).1
      have nd := rp.nd
      rw [q2] at nd
      obtain ⟨n1, n2, n3⟩ := List.nodup_append.mp nd
      obtain ⟨n4, n5, n6⟩ := List.nodup_append.mp n2
      have mem : ∀ b ∈ lx ++ ([] ++ ly), b ∈ l ∧ b ∉ a := fun b z => by
        rw [q2]
        rcases List.mem_append.mp z with z | z
        · exact ⟨List.mem_append_left _ z, fun y => n3 b z b (List.mem_append_left _ y) rfl⟩
        · have z : b ∈ ly := by simpa using z
          exact ⟨List.mem_append_right _ (List.mem_append_right _ z), fun y => n6 b y b z rfl⟩
      have e : σ.set i (some v) = σ := by
        apply List.ext_getElem?
        intro j
        by_cases z : i = j
        · subst z; rw [List.getElem?_set_self (List.getElem?_eq_some_iff.mp q1).1, q1]
        · rw [List.getElem?_set_ne z]
      have sub : Same (off (un B l) H) (off (un B (lx ++ ([] ++ ly))) H) := off_mono (fun b z n => absurd (z.imp id fun z => (mem b z).1) n) fun b o n e => e
      have da : Da K (off (un B (lx ++ ([] ++ ly))) H) v (.list (xs.map itD)) := by
        have := rpW_free (σ := σ) (show ofW (.own xs) = some _ from rfl) sub (fun b z us e => (off_ne fun y => ?_).trans e) q4
        · exact this
        · rcases y with y | y
          · exact rp.out b (by rw [q2]; exact List.mem_append_right _ (List.mem_append_left _ z)) y
          · exact (mem b y).2 z
      have r' : Rep K B σ H (env.set i (some (.dat (.list (xs.map itD))))) (lx ++ ([] ++ ly)) := by
        refine ⟨?_, ?_, fun b z => rp.out b (mem b z).1, rp.tb⟩
        · have := q5 sub (fun _ _ => rfl) (fun _ _ => rfl) (show RpS K H _ (some v) (some (.dat (.list (xs.map itD)))) [] from ⟨v, rfl, rfl, da⟩)
          rw [e] at this
          exact this
        · rw [List.nil_append]
          exact List.nodup_append.mpr ⟨n1, n5, fun x hx y hy => n3 x hx y (List.mem_append_right _ hy)⟩
      exact o.run r' h2 (post.later ⟨Fr.refl _ _, fun b z => .inl (mem b z).1⟩ fun _ => rfl)
    · cases h1; exact o.run rp h2 post
    · cases h1
  · unfold frzM at h1
    split at h1 <;> cases h1
end
end Ov
set_option Elab.async false
set_option linter.all false
set_option maxRecDepth 100000
set_option maxHeartbeats 4000000
namespace Ov
open PySem L2
/-! comprehensions -/
def wipeE (env : En) : List Nat → En
  | [] => env
  | v :: vs => (wipeE env vs).set v none
def freeB (env : En) (js : List Nat) : Bool := js.all fun j => !isOwn env[j]?
theorem freeB_free {env : En} {js : List Nat} (h : freeB env js = true) : free env js := fun j z => by
  have := List.all_eq_true.mp h j z
  simpa using this
theorem wipeE_length (env : En) : ∀ vs : List Nat, (wipeE env vs).length = env.length
  | [] => rfl
  | v :: vs => by unfold wipeE; rw [List.length_set, wipeE_length env vs]
theorem wipe_get (σ : St) (j : Nat) : ∀ vs : List Nat, (wipe σ vs)[j]? = if j ∈ vs then (if j < σ.length then some none else none) else σ[j]?
  | [] => by simp [wipe]
  | v :: vs => by
    unfold wipe
    have ih := wipe_get σ j vs
    by_cases e : v = j
    · subst e
      by_cases h : v < σ.length
      · rw [List.getElem?_set_self (by rw [wipe_length]; exact h)]; simp [h]
      · rw [List.getElem?_eq_none (by rw [List.length_set, wipe_length]; omega)]; simp [h]
    · rw [List.getElem?_set_ne e, ih]
      have : (j ∈ v :: vs) ↔ j ∈ vs := ⟨fun z => (List.mem_cons.mp z).resolve_left fun z => e z.symm, List.mem_cons_of_mem _⟩
      simp only [this]
theorem wipeE_get (σ : En) (j : Nat) : ∀ vs : List Nat, (wipeE σ vs)[j]? = if j ∈ vs then (if j < σ.length then some none else none) else σ[j]?
  | [] => by simp [wipeE]
  | v :: vs => by
    unfold wipeE
    have ih := wipeE_get σ j vs
    by_cases e : v = j
    · subst e
      by_cases h : v < σ.length
      · rw [List.getElem?_set_self (by rw [wipeE_length]; exact h)]; simp [h]
      · rw [List.getElem?_eq_none (by rw [List.length_set, wipeE_length]; omega)]; simp [h]
    · rw [List.getElem?_set_ne e, ih]
      have : (j ∈ v :: vs) ↔ j ∈ vs := ⟨fun z => (List.mem_cons.mp z).resolve_left fun z => e z.symm, List.mem_cons_of_mem _⟩
      simp only [this]
theorem wipe_ext {σ τ : St} {vs : List Nat} (hl : σ.length = τ.length) (h : ∀ j, j ∉ vs → σ[j]? = τ[j]?) : wipe σ vs = wipe τ vs := by
  apply List.ext_getElem?
  intro j
  rw [wipe_get, wipe_get, hl]
  by_cases z : j ∈ vs
  · simp [z]
  · simp only [z, if_false]; exact h j z
section
variable {K : PySem.W.Frag} {E : XK} {bx : Bool} {H G : Hp}
theorem RpE.drop1 {σ : St} {env : En} {l : List Addr} {v : Nat} (h : RpE K H G σ env l) (f : isOwn env[v]? = false) : RpE K H G (σ.set v none) (env.set v none) l := by
  cases q : env[v]? with
  | none =>
    have n : env.length ≤ v := List.getElem?_eq_none_iff.mp q
    rw [List.set_eq_of_length_le n, List.set_eq_of_length_le (by rw [h.len]; exact n)]
    exact h
  | some e =>
    obtain ⟨s, a, lx, ly, q1, q2, q3, q5⟩ := h.focus q
    have ha : a = [] := by
      rw [q] at f
      cases e with
      | none => exact q3
      | some w =>
        obtain ⟨_, _, q3⟩ := q3
        cases w with
        | dat _ => exact q3.1
        | own _ => cases f
        | dct _ => cases f
        | dci _ => cases f
        | dtk _ => cases f
        | dts _ => cases f
        | pin _ _ => exact q3.1
        | dtn _ => cases f
        | nd _ => exact q3.1
        | exc _ _ _ => exact q3.1
    rw [q2, ha]
    exact q5 (fun _ _ z => z) (fun _ _ => rfl) (fun _ _ => rfl) rfl
theorem RpE.wipe {σ : St} {env : En} {l : List Addr} (h : RpE K H G σ env l) : ∀ {vs : List Nat}, free env vs → RpE K H G (L2.wipe σ vs) (wipeE env vs) l
  | [], _ => h
  | v :: vs, f => by
    refine RpE.drop1 (RpE.wipe h (vs := vs) fun j z => f j (List.mem_cons_of_mem _ z)) ?_
    rw [wipeE_get]
    by_cases z : v ∈ vs
    · simp only [z, if_true]
      by_cases y : v < env.length
      · simp [y, isOwn]
      · simp [y, isOwn]
    · simp only [z, if_false]; exact f v (List.mem_cons_self ..)
/-- what stands in empty slots does not matter -/
theorem RpE.any : ∀ {σ τ : St} {env : En} {l : List Addr}, RpE K H G σ env l → σ.length = τ.length → (∀ (j : Nat) (w : Wv), env[j]? = some (some w) → τ[j]? = σ[j]?) → RpE K H G τ env l
  | [], [], [], l, h, _, _ => h
  | s :: σ, t :: τ, e :: env, l, ⟨a, b, z, h1, h2⟩, hl, hk => by
    refine ⟨a, b, z, ?_, RpE.any h2 (by simpa using hl) fun j w q => hk (j + 1) w q⟩
    cases e with
    | none => exact h1
    | some w =>
      have : t = s := Option.some.inj (hk 0 w rfl)
      rw [this]
      exact h1
theorem Rep.wipe {B : Addr → Prop} {σ : St} {env : En} {l : List Addr} {vs : List Nat} (r : Rep K B σ H env l) (f : free env vs) : Rep K B (L2.wipe σ vs) H (wipeE env vs) l := ⟨r.rp.wipe f, r.nd, r.out, r.tb⟩
theorem Rep.amb {B : Addr → Prop} {σ : St} {env : En} {l : List Addr} {p : Addr} {o : HO} (r : Rep K B σ H env l) (hp : B p) (n : NT o) : Rep K B σ (upd H p o) env l := by
  have sub : Same (off (un B l) H) (off (un B l) (upd H p o)) := off_mono (fun b z n => absurd z n) fun b o n e => by rw [upd_ne (fun z => n (.inl (by rw [z]; exact hp)))]; exact e
  refine ⟨r.rp.mv sub fun q z => upd_ne fun y => r.out q z (y ▸ hp), r.nd, r.out, fun b z => ?_⟩
  by_cases e : b = p
  · subst e; exact ⟨o, upd_same, n⟩
  · rw [upd_ne e]; exact r.tb b z
def yesT : M Bool := M.pure true
theorem OkT.yes : OkT K E tYes yesT := by
  refine ⟨?_⟩
  intro B σ H env l rs rp h Q post
  cases h
  exact post H rp (Fr.refl _ _)
def compM (p : PyData → En → Option En) (ft : M Bool) (fe : M R) (vs : List Nat) : List PyData → List PyData → M (List PyData)
  | [], acc => M.pure acc
  | d :: ds, acc => fun env =>
    match p d env with
    | none => none
    | some e =>
      match ft e with
      | some (.ok b e2) => if b = true then
          match fe e2 with
          | some (.ok (.dat y) e3) => if freeB e3 vs = true ∧ acc.length < 1000000 then compM p ft fe vs ds (acc ++ [y]) (wipeE e3 vs) else none
          | _ => none
        else if freeB e2 vs = true then compM p ft fe vs ds acc (wipeE e2 vs) else none
      | _ => none
theorem compM_noex {p : PyData → En → Option En} {ft : M Bool} {fe : M R} {vs : List Nat} : ∀ {ds acc : List PyData} {env : En} {C : Addr} {f : Str} {d : PyData}, compM p ft fe vs ds acc env ≠ some (.ex C f d)
  | [], acc, env, C, f, d, h => by cases h
  | d :: ds, acc, env, C, f, d', h => by
    unfold compM at h
    split at h
    · cases h
    · split at h
      · split at h
        · split at h
          · split at h
            · exact compM_noex h
            · cases h
          · cases h
        · split at h
          · exact compM_noex h
          · cases h
      · cases h
def lcW (fi : M (List PyData)) (p : PyData → En → Option En) (ft : M Bool) (fe : M R) (vs : List Nat) : M Wv := M.bind fi fun ds => fun env => if freeB env vs = true then (M.bind (compM p ft fe vs ds []) fun out => M.pure (.own (dats out))) (wipeE env vs) else none
theorem OkW.lc {wi : TI} {g : TG} {tt : TT} {te : TE} {vs js : List Nat} {fi : M (List PyData)} {p : PyData → En → Option En} {ft : M Bool} {fe : M R} (oi : OkI K E wi fi) (og : OkG K g js p) (hj : ∀ j ∈ js, j ∈ vs) (ot : OkT K L2.E0 tt ft) (oe : OkE K L2.E0 te fe) :
    OkW K E (tLc wi g tt te vs) (lcW fi p ft fe vs) := by
  refine ⟨?_⟩
  intro B σ H env l rs rp h Q post
  rcases bind_some h with ⟨ds, e0, h1, h2⟩ | ⟨C, f, d, h1, h2⟩
  case inr => exact oi.run rp h1 (post.exn C f d h2)
  split at h2
  case isFalse => cases h2
  rename_i hf0
  rcases bind_some h2 with ⟨out, e9, h3, h4⟩ | ⟨C, f, d, h3, _⟩
  case inr => exact absurd h3 compM_noex
  cases h4
  refine oi.run rp h1 ?_
  intro J H1 G Y r1 f1 wk hG hY D hD
  have nD : ∀ b ∈ l, b ≠ D := fun b z e => r1.fresh hD (.inr (e ▸ z))
  have r1' : Rep K (un B [D]) σ (upd H1 D (.lst [])) e0 l := r1.grow (same_new hD _) (fun _ z => .inl z) (fun b z => z.imp id fun z => by rw [List.mem_singleton.mp z]; exact hD) fun b z => by
    by_cases e : b = D
    · subst e; exact ⟨_, upd_same, trivial⟩
    · rw [upd_ne e]; exact r1.tb b (z.resolve_right fun z => e (List.mem_singleton.mp z))
  refine lc_it wk (fun i H' => ∃ env_i acc va, Rep K (un B [D]) (L2.wipe σ vs) H' env_i l ∧ Fr l H1 H' ∧ H' D = some (.lst va) ∧ DaAll K (off (un (un B [D]) l) H') va acc ∧ (∀ j ∈ vs, ∀ w, env_i[j]? ≠ some (some w)) ∧ compM p ft fe vs (ds.drop i) acc env_i = some (.ok out e9)) ?_ (fun i H' _ ⟨_, _, _, _, f, _⟩ => hG H' f) ?_ ?_
  · refine ⟨_, [], [], r1'.wipe (freeB_free hf0), Fr.of (same_new hD _), upd_same, .nil, fun j z w => ?_, h3⟩
    rw [wipeE_get]
    simp only [z, if_true]
    split <;> exact fun q => by cases q
  · rintro i x H2 H3 hi ⟨ei, acc, va, ri, fri, hDi, dai, fre, hc⟩ hy
    have hd : ds.drop i = ds[i] :: ds.drop (i + 1) := List.drop_eq_getElem_cons hi
    rw [hd] at hc
    unfold compM at hc
    obtain ⟨s3, da⟩ := hY i x H2 H3 ds[i] (un (un B [D]) l) fri hy (List.getElem?_eq_getElem hi) (fun b z => z.elim (fun z => z.elim (fun z => .inl (.inl z)) fun z => by rw [List.mem_singleton.mp z]; exact .inr hD) fun z => .inl (.inr z)) ri.tl
    have r3 := ri.same s3
    cases q : p ds[i] ei with
    | none => rw [q] at hc; cases hc
    | some e2 =>
      rw [q] at hc
      simp only at hc
      have fr0 : free ei js := fun j z => by
        cases q0 : ei[j]? with
        | none => rfl
        | some w =>
          cases w with
          | none => rfl
          | some w => exact absurd q0 (fre j (hj j z) w)
      refine og.run r3 da q fun σ4 l4 r4 m4 le4 k4 => ?_
      have el := le4 fr0
      subst el
      have sl : σ4.length = (L2.wipe σ vs).length := by rw [r4.len, (og.keep q).2.2, ri.len]
      have wp : L2.wipe σ4 vs = L2.wipe σ vs := by
        rw [wipe_ext sl fun j z => k4 j fun y => z (hj j y)]
        refine wipe_ext (wipe_length σ vs) fun j z => ?_
        rw [wipe_get]
        simp [z]
      refine ⟨wp, ?_⟩
      cases q2 : ft e2 with
      | none => rw [q2] at hc; cases hc
      | some z2 =>
        rw [q2] at hc
        cases z2 with
        | ex C f d => cases hc
        | ok b e3 =>
          refine ot.run r4 q2 fun H4 r5 f5 => ?_
          have nx : ∀ {e5 : En} {H5 : Hp}, Rep K (un B [D]) σ4 H5 e5 l4 → freeB e5 vs = true → Rep K (un B [D]) (L2.wipe σ vs) H5 (wipeE e5 vs) l4 ∧ ∀ j ∈ vs, ∀ w, (wipeE e5 vs)[j]? ≠ some (some w) := fun {e5 H5} r fb => by
            refine ⟨by rw [← wp]; exact r.wipe (freeB_free fb), fun j z w => ?_⟩
            rw [wipeE_get]
            simp only [z, if_true]
            split <;> exact fun q => by cases q
          have f25 : Fr l4 H2 H4 := (Fr.of s3).trans f5
          have kD : ∀ {H5 : Hp}, Fr l4 H2 H5 → H5 D = some (.lst va) := fun f => f D _ (fun z => nD D z rfl) hDi
          cases b with
          | false =>
            refine iteF ?_
            simp only [Bool.false_eq_true, if_false] at hc
            split at hc
            · rename_i fb
              obtain ⟨ra, rb⟩ := nx r5 fb
              exact ⟨_, acc, va, ra, fri.trans f25, kD f25, DaAll.same f25.keep acc dai, rb, hc⟩
            · cases hc
          | true =>
            refine iteT ?_
            simp only [if_true] at hc
            cases q3 : fe e3 with
            | none => rw [q3] at hc; cases hc
            | some z3 =>
              rw [q3] at hc
              cases z3 with
              | ex C f d => cases hc
              | ok y e4 =>
                cases y with
                | slot _ => cases hc
                | exc _ _ _ => cases hc
                | dat y =>
                  simp only at hc
                  split at hc
                  · rename_i fb
                    refine oe.run r5 q3 fun v H5 r6 f6 q6 => ?_
                    have f26 := f25.trans f6
                    have sz : va.length < sizeLine := by rw [daAll_len dai]; exact Nat.lt_trans fb.2 (by decide)
                    refine ⟨va, kD f26, sz, ?_⟩
                    obtain ⟨ra, rb⟩ := nx r6 fb.1
                    have hBD : (un B [D]) D := .inr (List.mem_cons_self ..)
                    have sub : Same (off (un (un B [D]) l4) H5) (off (un (un B [D]) l4) (upd H5 D (.lst (va ++ [v])))) := off_mono (fun b z n => absurd z n) fun b o n e => by rw [upd_ne (fun z => n (.inl (by rw [z]; exact hBD)))]; exact e
                    refine ⟨_, acc ++ [y], va ++ [v], ra.amb hBD trivial, fun b o n e => ?_, upd_same, ?_, rb, hc⟩
                    · rw [upd_ne (ne_of_none e hD)]
                      exact (fri.trans f26) b o n e
                    · exact daAll_append (DaAll.same sub acc (DaAll.same f26.keep acc dai)) (.cons (Da.same sub y q6) .nil)
                  · cases hc
  · rintro H9 ⟨en, acc, va, rn, frn, hDn, dan, fre, hc⟩
    rw [List.drop_length] at hc
    cases hc
    have rr : Rep K (un B [D]) σ H9 e9 l := ⟨rn.rp.any (wipe_length σ vs) fun j w q => by
      rw [wipe_get]
      by_cases z : j ∈ vs
      · exact absurd q (fre j z w)
      · simp [z], rn.nd, rn.out, rn.tb⟩
    refine post (.ref D) H9 [D] rr (f1.trans frn) ⟨D, va, [], rfl, rfl, hDn, rp1s_of dan⟩ (List.nodup_cons.mpr ⟨by simp, List.nodup_nil⟩) fun b z => ?_
    rw [List.mem_singleton.mp z]
    cases q : H D with
    | none => rfl
    | some o =>
      rw [f1 D o (fun z => nD D z rfl) q] at hD
      cases hD
end
end Ov
set_option Elab.async false
set_option linter.all false
set_option maxRecDepth 100000
set_option maxHeartbeats 4000000
namespace Ov
open PySem L2
/-! what is walked -/
section
variable {X : Cx} {tg : Expr}
def iSeq (K : PySem.W.Frag) (tl : TE) : TI := fun σ H R => tl σ H fun x H1 => ∃ a xs, x = .ref a ∧ ((SqL K H1 a xs ∧ R (Itl K a) H1) ∨ (SqT K H1 a xs ∧ R (Itt K a) H1))
theorem pi_seq {l : Expr} {tl : TE} (hl : PE X l tl) : PI X tg l (iSeq X.K tl) := by
  refine ⟨fun pins s σ H R I h => ?_⟩
  refine thn (hl.run pins s σ H _ I h) fun v s1 ⟨x, H1, I1, r1, q1⟩ => ?_
  obtain ⟨a, xs, e, ⟨hq, q⟩ | ⟨hq, q⟩⟩ := q1
  · subst e
    cases r1
    obtain ⟨its, rv, p, hz⟩ := I1.list hq
    refine wpAny_pyIter_list p.isList ?_
    refine ⟨s1.heap.objs.size, [s1.heap.objs.size], _, _, H1, rfl, I1.kept (t' := s1.toks) fun b o e => Heap.get?_push_of_some _ e, turn_list a _, ⟨_, Heap.get?_push_size _ rfl, rfl, rfl⟩, fun b hb => ?_, q⟩
    rw [List.mem_singleton.mp hb]
    exact I1.fpOk (Nat.le_refl _) (I1.hok.fresh (Nat.le_refl _))
  · subst e
    cases r1
    obtain ⟨its, rv, p, hz⟩ := I1.tuple hq
    refine wpAny_pyIter_tuple p ?_
    refine ⟨s1.heap.objs.size, [s1.heap.objs.size], _, _, H1, rfl, I1.kept (t' := s1.toks) fun b o e => Heap.get?_push_of_some _ e, turn_tuple a _, ⟨_, Heap.get?_push_size _ rfl, rfl, rfl⟩, fun b hb => ?_, q⟩
    rw [List.mem_singleton.mp hb]
    exact I1.fpOk (Nat.le_refl _) (I1.hok.fresh (Nat.le_refl _))
end
section
variable {K : PySem.W.Frag} {E : XK} {bx : Bool}
def seqI (f : M R) : M (List PyData) := M.bind f fun r => M.bind (lift (asD r)) fun d => lift (seqD d)
theorem OkI.seq {t : TE} {f : M R} (o : OkE K E t f) : OkI K E (iSeq K t) (seqI f) := by
  refine ⟨?_⟩
  intro B σ H env l rs rp h R post
  refine o.seq rp h post.exn fun a e v H1 h1 r1 f1 q1 => ?_
  obtain ⟨d, h2, h3⟩ := lift_step h1
  rw [asD_some h2] at q1
  obtain ⟨ds, h4, h5⟩ := lift_some h3
  subst h5
  have q1 : Da K (off (un B l) H1) v d := q1
  cases d with
  | list es =>
    cases h4
    cases q1 with
    | lst hq ha =>
      refine ⟨_, _, rfl, .inl ⟨rd_sq (rd_same (off_sub _ _) hq), post _ H1 _ _ r1 f1 (by rw [← daAll_len ha]; exact walk_list) (fun H2 f => rd_sq (rd_same (off_sub _ _) (rd_same f.keep hq))) ?_⟩⟩
      rintro i x H2 H3 d S fr ⟨rfl, hx⟩ hd hs _
      obtain ⟨y, e1, e2⟩ := daAll_get ha hd
      rw [hx] at e1
      cases e1
      exact ⟨same_refl _, e2.walk fr hs⟩
  | tuple es =>
    cases h4
    cases q1 with
    | tup hq ha =>
      refine ⟨_, _, rfl, .inr ⟨seqP (off_sub _ _) hq, post _ H1 _ _ r1 f1 (by rw [← daAll_len ha]; exact walk_tup) (fun H2 f => seqT (off_sub _ _) (seqP f.keep hq)) ?_⟩⟩
      rintro i x H2 H3 d S fr ⟨rfl, hx⟩ hd hs _
      obtain ⟨y, e1, e2⟩ := daAll_get ha hd
      rw [hx] at e1
      cases e1
      exact ⟨same_refl _, e2.walk fr hs⟩
  | none => cases h4
  | bool _ => cases h4
  | int _ => cases h4
  | str _ => cases h4
  | dict _ => cases h4
/-- lo, lo + 1, .. below hi -/
def rngL (lo hi : Int) : List Int := (List.range (hi - lo).toNat).map fun (k : Nat) => lo + (k : Int)
def rngD (as : List PyData) : Option (List PyData) :=
  match as with
  | [.int j] => if -(2 ^ 62) ≤ j ∧ j < 2 ^ 62 then some ((rngL 0 j).map .int) else none
  | _ => none
def rngD2 (as : List PyData) : Option (List PyData) :=
  match as with
  | [.int i, .int j] => if -(2 ^ 62) ≤ i ∧ i < 2 ^ 62 ∧ -(2 ^ 62) ≤ j ∧ j < 2 ^ 62 then some ((rngL i j).map .int) else none
  | _ => none
def argI (fo : List PyData → Option (List PyData)) (fa : M (List R)) : M (List PyData) := M.bind fa fun rs => M.bind (lift (dds rs)) fun ds => lift (fo ds)
theorem rng_len (lo hi : Int) : ((rngL lo hi).map PyData.int).length = (hi - lo).toNat := by simp [rngL]
theorem rng_get {lo hi : Int} {i : Nat} {d : PyData} (h : ((rngL lo hi).map PyData.int)[i]? = some d) : d = .int (lo + i) := by
  unfold rngL at h
  rw [List.getElem?_map, List.getElem?_map] at h
  obtain ⟨x, h1, h2⟩ := Option.map_eq_some_iff.mp h
  obtain ⟨y, h3, h4⟩ := Option.map_eq_some_iff.mp h1
  obtain ⟨h5, h6⟩ := List.getElem?_eq_some_iff.mp h3
  rw [List.getElem_range] at h6
  subst h6 h4 h2
  rfl
theorem OkI.range1 {t : TA} {fa : M (List R)} (o : OkA K E t fa) : OkI K E (iRng1 t) (argI rngD fa) := by
  refine ⟨?_⟩
  intro B σ H env l rs rp h R post
  refine o.seq rp h post.exn fun a e v H1 h1 r1 f1 q1 => ?_
  obtain ⟨ds, h2, h3⟩ := lift_step h1
  obtain ⟨out, h4, h5⟩ := lift_some h3
  subst h5
  have da := dds_ok q1 h2
  unfold rngD at h4
  split at h4
  · split at h4
    · rename_i j hj
      cases h4
      cases da with
      | cons d1 t1 =>
        cases t1
        cases d1
        refine ⟨j, rfl, hj.1, hj.2, post _ H1 _ _ r1 f1 (by rw [rng_len, show j - 0 = j by omega]; exact walk_range) (fun _ _ => trivial) ?_⟩
        rintro i x H2 H3 d S fr ⟨rfl, rfl⟩ hd hs _
        rw [rng_get hd]
        exact ⟨same_refl _, .int _⟩
    · cases h4
  · cases h4
theorem OkI.range2 {t : TA} {fa : M (List R)} (o : OkA K E t fa) : OkI K E (iRng2 t) (argI rngD2 fa) := by
  refine ⟨?_⟩
  intro B σ H env l rs rp h R post
  refine o.seq rp h post.exn fun a e v H1 h1 r1 f1 q1 => ?_
  obtain ⟨ds, h2, h3⟩ := lift_step h1
  obtain ⟨out, h4, h5⟩ := lift_some h3
  subst h5
  have da := dds_ok q1 h2
  unfold rngD2 at h4
  split at h4
  · split at h4
    · rename_i i0 j0 hj
      cases h4
      cases da with
      | cons d1 t1 =>
        cases t1 with
        | cons d2 t2 =>
          cases t2
          cases d1
          cases d2
          refine ⟨_, _, rfl, hj, post _ H1 _ _ r1 f1 (by rw [rng_len]; exact walk_range) (fun _ _ => trivial) ?_⟩
          rintro i x H2 H3 d S fr ⟨rfl, rfl⟩ hd hs _
          rw [rng_get hd]
          exact ⟨same_refl _, .int _⟩
    · cases h4
  · cases h4
/-- pairs -/
def pairUp (a b : List PyData) : List PyData := List.zipWith (fun x y => .tuple [x, y]) a b
theorem pair_get {a b : List PyData} {i : Nat} {d : PyData} (h : (pairUp a b)[i]? = some d) : ∃ x y, a[i]? = some x ∧ b[i]? = some y ∧ d = .tuple [x, y] := by
  unfold pairUp at h
  rw [List.getElem?_zipWith] at h
  cases q : a[i]? with
  | none => rw [q] at h; cases h
  | some x =>
    cases q2 : b[i]? with
    | none => rw [q, q2] at h; cases h
    | some y => rw [q, q2] at h; cases h; exact ⟨x, y, rfl, rfl, rfl⟩
theorem pair_len (a b : List PyData) : (pairUp a b).length = min a.length b.length := List.length_zipWith ..
/-- a new pair of two data -/
theorem pair_da {B S : Addr → Prop} {l : List Addr} {H1 H2 H3 : Hp} {T : Addr} {u v : V} {x y : PyData} (hS : ∀ b, S b → ∃ o, H2 b = some o ∧ NT o) (hT : H2 T = none) (e : H3 = upd H2 T (.tup [u, v])) (hu : Da K (off S H2) u x) (hv : Da K (off S H2) v y) :
    Same H2 H3 ∧ Da K (off S H3) (.ref T) (.tuple [x, y]) := by
  subst e
  exact ⟨same_new hT _, (new_dp hS hT (.cons hu (.cons hv .nil))).2⟩
def zipD (as : List PyData) : Option (List PyData) :=
  match as with
  | [.list a, .list b] => some (pairUp a b)
  | [.tuple a, .tuple b] => some (pairUp a b)
  | _ => none
theorem OkI.zipA {t : TA} {fa : M (List R)} (o : OkA K E t fa) : OkI K E (RZ.iZipA K t) (argI zipD fa) := by
  refine ⟨?_⟩
  intro B σ H env l rs rp h R post
  refine o.seq rp h post.exn fun a e v H1 h1 r1 f1 q1 => ?_
  obtain ⟨ds, h2, h3⟩ := lift_step h1
  obtain ⟨out, h4, h5⟩ := lift_some h3
  subst h5
  have da := dds_ok q1 h2
  unfold zipD at h4
  split at h4
  · cases h4
    cases da with
    | cons d1 t1 =>
      cases t1 with
      | cons d2 t2 =>
        cases t2
        cases d1 with
        | lst qa ha =>
          cases d2 with
          | lst qb hb =>
            refine ⟨_, _, _, _, rfl, .inl ⟨rd_sq (rd_same (off_sub _ _) qa), rd_sq (rd_same (off_sub _ _) qb), post _ H1 _ _ r1 f1 (walk_zip (by rw [pair_len, daAll_len ha, daAll_len hb])) (fun H2 f => ⟨rd_sq (rd_same (off_sub _ _) (rd_same f.keep qa)), rd_sq (rd_same (off_sub _ _) (rd_same f.keep qb))⟩) ?_⟩⟩
            rintro i x H2 H3 d S fr ⟨T, u, w, rfl, hT, e3, e4, e5⟩ hd hs hS
            obtain ⟨x1, y1, g1, g2, rfl⟩ := pair_get hd
            obtain ⟨u', k1, k2⟩ := daAll_get ha g1
            obtain ⟨w', k3, k4⟩ := daAll_get hb g2
            cases k1.symm.trans e4
            cases k3.symm.trans e5
            exact pair_da (B := B) (l := l) (H1 := H1) hS hT e3 (k2.walk fr hs) (k4.walk fr hs)
  · cases h4
    cases da with
    | cons d1 t1 =>
      cases t1 with
      | cons d2 t2 =>
        cases t2
        cases d1 with
        | tup qa ha =>
          cases d2 with
          | tup qb hb =>
            refine ⟨_, _, _, _, rfl, .inr ⟨seqP (off_sub _ _) qa, seqP (off_sub _ _) qb, post _ H1 _ _ r1 f1 (walk_zipT (by rw [pair_len, daAll_len ha, daAll_len hb])) (fun H2 f => ⟨seqT (off_sub _ _) (seqP f.keep qa), seqT (off_sub _ _) (seqP f.keep qb)⟩) ?_⟩⟩
            rintro i x H2 H3 d S fr ⟨T, u, w, rfl, hT, e3, e4, e5⟩ hd hs hS
            obtain ⟨x1, y1, g1, g2, rfl⟩ := pair_get hd
            obtain ⟨u', k1, k2⟩ := daAll_get ha g1
            obtain ⟨w', k3, k4⟩ := daAll_get hb g2
            cases k1.symm.trans e4
            cases k3.symm.trans e5
            exact pair_da (B := B) (l := l) (H1 := H1) hS hT e3 (k2.walk fr hs) (k4.walk fr hs)
  · cases h4
theorem daAll1 {G : Hp} {vs : List V} {d : PyData} (h : DaAll K G vs [d]) : ∃ v, vs = [v] ∧ Da K G v d := by
  cases h with | cons a t => cases t; exact ⟨_, rfl, a⟩
def enumL (k : Int) (ds : List PyData) : List PyData := ds.zipIdx.map fun p => .tuple [.int (k + (p.2 : Nat)), p.1]
theorem enum_len (k : Int) (ds : List PyData) : (enumL k ds).length = ds.length := by simp [enumL]
theorem enum_get {k : Int} {ds : List PyData} {i : Nat} {d : PyData} (h : (enumL k ds)[i]? = some d) : ∃ x, ds[i]? = some x ∧ d = .tuple [.int (k + (i : Nat)), x] := by
  unfold enumL at h
  rw [List.getElem?_map, List.getElem?_zipIdx] at h
  cases q : ds[i]? with
  | none => rw [q] at h; cases h
  | some x => rw [q] at h; simp at h; exact ⟨x, rfl, h.symm⟩
def enumD (as : List PyData) : Option (List PyData) :=
  match as with
  | [a] => (seqD a).map (enumL 0)
  | _ => none
theorem OkI.enum {t : TA} {fa : M (List R)} (o : OkA K E t fa) : OkI K E (iEnW K t) (argI enumD fa) := by
  refine ⟨?_⟩
  intro B σ H env l rs rp h R post
  refine o.seq rp h post.exn fun a e v H1 h1 r1 f1 q1 => ?_
  obtain ⟨ds, h2, h3⟩ := lift_step h1
  obtain ⟨out, h4, h5⟩ := lift_some h3
  subst h5
  have da := dds_ok q1 h2
  unfold enumD at h4
  split at h4
  · rename_i a0
    obtain ⟨es, h6, h7⟩ := Option.map_eq_some_iff.mp h4
    subst h7
    obtain ⟨v0, rfl, d1⟩ := daAll1 da
    · cases a0 with
      | list es' =>
        cases h6
        cases d1 with
        | lst qa ha =>
          refine ⟨_, rfl, _, .inl ⟨rd_sq (rd_same (off_sub _ _) qa), post _ H1 _ _ r1 f1 (by rw [enum_len, ← daAll_len ha]; exact walk_itW) (fun H2 f => rd_sq (rd_same (off_sub _ _) (rd_same f.keep qa))) ?_⟩⟩
          rintro i x H2 H3 d S fr ⟨T, u, w, rfl, hT, e3, e4, e5⟩ hd hs hS
          obtain ⟨x1, g1, rfl⟩ := enum_get hd
          obtain ⟨w', k3, k4⟩ := daAll_get ha g1
          cases k3.symm.trans e5
          cases e4
          exact pair_da (B := B) (l := l) (H1 := H1) hS hT e3 (.int _) (k4.walk fr hs)
      | tuple es' =>
        cases h6
        cases d1 with
        | tup qa ha =>
          refine ⟨_, rfl, _, .inr ⟨seqP (off_sub _ _) qa, post _ H1 _ _ r1 f1 (by rw [enum_len, ← daAll_len ha]; exact walk_itW) (fun H2 f => seqT (off_sub _ _) (seqP f.keep qa)) ?_⟩⟩
          rintro i x H2 H3 d S fr ⟨T, u, w, rfl, hT, e3, e4, e5⟩ hd hs hS
          obtain ⟨x1, g1, rfl⟩ := enum_get hd
          obtain ⟨w', k3, k4⟩ := daAll_get ha g1
          cases k3.symm.trans e5
          cases e4
          exact pair_da (B := B) (l := l) (H1 := H1) hS hT e3 (.int _) (k4.walk fr hs)
      | none => cases h6
      | bool _ => cases h6
      | int _ => cases h6
      | str _ => cases h6
      | dict _ => cases h6
  · cases h4
end
end Ov
set_option Elab.async false
set_option linter.all false
set_option maxRecDepth 100000
set_option maxHeartbeats 4000000
namespace Ov
open PySem L2
/-! a list that a slot owns, changed by its methods -/
section
variable {K : PySem.W.Frag} {E : XK} {bx : Bool}
theorem set_same {α : Type} {σ : List α} {i : Nat} {s : α} (h : σ[i]? = some s) : σ.set i s = σ := by
  apply List.ext_getElem?
  intro j
  by_cases z : i = j
  · subst z; rw [List.getElem?_set_self (List.getElem?_eq_some_iff.mp h).1, h]
  · rw [List.getElem?_set_ne z]
/-- the list of slot i, and any other in its place -/
theorem Rep.mut2 {B : Addr → Prop} {σ : St} {H : Hp} {env : En} {l : List Addr} {i : Nat} {ds : List PyData} (r : Rep K B σ H env l) (hx : env[i]? = some (some (.own (dats ds)))) :
    ∃ p vs, σ[i]? = some (some (.ref p)) ∧ H p = some (.lst vs) ∧ p ∈ l ∧ DaAll K (off (un B l) H) vs ds ∧ ∀ {H' : Hp} {B' : Addr → Prop} {vs' : List V} {ds' : List PyData}, (∀ q ∈ l, q ≠ p → H' q = H q) → H' p = some (.lst vs') → Same (off (un B l) H) (off (un B' l) H') →
      DaAll K (off (un B' l) H') vs' ds' → (∀ b ∈ l, ¬ B' b) → (∀ b, B' b → ∃ o, H' b = some o ∧ NT o) → Rep K B' σ H' (env.set i (some (.own (dats ds')))) l := by
  obtain ⟨s, a, lx, ly, q1, q2, ⟨v, rfl, p, vs, b, rfl, rfl, q6, q7⟩, q5⟩ := r.rp.focus hx
  obtain ⟨rfl, q8⟩ := rp1s_dats q7
  have hp : p ∈ l := by rw [q2]; exact List.mem_append_right _ (List.mem_append_left _ (List.mem_cons_self ..))
  refine ⟨p, vs, q1, q6, hp, q8, fun {H' B' vs' ds'} k1 k2 sub h' o' t' => ?_⟩
  have nd := r.nd
  rw [q2] at nd
  obtain ⟨n1, n2, n3⟩ := List.nodup_append.mp nd
  obtain ⟨n4, n5, n6⟩ := List.nodup_append.mp n2
  refine ⟨?_, r.nd, o', t'⟩
  have := q5 (H' := H') (G' := off (un B' l) H') (s' := some (.ref p)) (e' := some (.own (dats ds'))) (a' := [p]) sub
    (fun q z => k1 q (by rw [q2]; exact List.mem_append_left _ z) fun e => n3 q z p (List.mem_append_left _ (List.mem_cons_self ..)) e) (fun q z => k1 q (by rw [q2]; exact List.mem_append_right _ (List.mem_append_right _ z)) fun e => n6 p (List.mem_cons_self ..) q z e.symm)
    ⟨_, rfl, p, vs', [], rfl, rfl, k2, rp1s_of h'⟩
  rw [set_same q1] at this
  rw [q2] at this ⊢
  exact this
theorem Rep.mut {B : Addr → Prop} {σ : St} {H : Hp} {env : En} {l : List Addr} {i : Nat} {ds : List PyData} (r : Rep K B σ H env l) (hx : env[i]? = some (some (.own (dats ds)))) :
    ∃ p vs, σ[i]? = some (some (.ref p)) ∧ H p = some (.lst vs) ∧ p ∈ l ∧ DaAll K (off (un B l) H) vs ds ∧ ∀ {vs' : List V} {ds' : List PyData}, DaAll K (off (un B l) H) vs' ds' → Rep K B σ (upd H p (.lst vs')) (env.set i (some (.own (dats ds')))) l := by
  obtain ⟨p, vs, q1, q6, hp, q8, q9⟩ := r.mut2 hx
  refine ⟨p, vs, q1, q6, hp, q8, fun {vs' ds'} h' => ?_⟩
  have sub : Same (off (un B l) H) (off (un B l) (upd H p (.lst vs'))) := off_mono (fun b z n => absurd z n) fun b o n e => by rw [upd_ne (fun z => n (.inr (by rw [z]; exact hp)))]; exact e
  refine q9 (fun q _ n => upd_ne n) upd_same sub (DaAll.same sub ds' h') r.out fun b z => ?_
  obtain ⟨o, e, n⟩ := r.tb b z
  exact ⟨o, by rw [upd_ne (fun y => r.out p hp (by rw [← y]; exact z))]; exact e, n⟩
theorem fr_upd {l : List Addr} {H : Hp} {p : Addr} {o : HO} (hp : p ∈ l) : Fr l H (upd H p o) := fun b u n h => by rw [upd_ne (fun z => n (by rw [z]; exact hp))]; exact h
def ownD (i : Nat) : M (List PyData) := fun env =>
  match env[i]? with
  | some (some (.own xs)) => (itds xs).map fun ds => .ok ds env
  | _ => none
theorem ownD_step {α : Type} {i : Nat} {g : List PyData → M α} {env : En} {rs : Rs α} (h : (M.bind (ownD i) g) env = some rs) : ∃ ds, env[i]? = some (some (.own (dats ds))) ∧ g ds env = some rs := by
  have key : ∀ z, ownD i env = some z → ∃ ds, env[i]? = some (some (.own (dats ds))) ∧ z = .ok ds env := fun z hz => by
    unfold ownD at hz
    split at hz
    · rename_i xs hx
      obtain ⟨ds, e1, e2⟩ := Option.map_eq_some_iff.mp hz
      exact ⟨ds, by rw [hx, itds_eq e1], e2.symm⟩
    · cases hz
  rcases bind_some h with ⟨a, e, h1, h2⟩ | ⟨C, f, d, h1, h2⟩
  · obtain ⟨ds, e1, e2⟩ := key _ h1
    cases e2
    exact ⟨_, e1, h2⟩
  · obtain ⟨ds, e1, e2⟩ := key _ h1
    cases e2
def setOwn (i : Nat) (ds : List PyData) : M Unit := fun env => some (.ok () (env.set i (some (.own (dats ds)))))
theorem setOwn_step {α : Type} {i : Nat} {ds : List PyData} {g : Unit → M α} {env : En} {rs : Rs α} (h : (M.bind (setOwn i ds) g) env = some rs) : g () (env.set i (some (.own (dats ds)))) = some rs := h
def MtOk (K : PySem.W.Frag) (r : V → List V → Hp → VK → Prop) (fo : List PyData → List PyData → Option (List PyData × PyData)) : Prop := ∀ {S : Addr → Prop} {H : Hp} {p : Addr} {vs xs : List V} {ds as ds' : List PyData} {d : PyData},
  H p = some (.lst vs) → DaAll K (off S H) vs ds → DaAll K (off S H) xs as → fo ds as = some (ds', d) → ∀ {Q : VK}, (∀ v vs', DaAll K (off S H) vs' ds' → Da K (off S H) v d → Q v (upd H p (.lst vs'))) → r (.ref p) xs H Q
def mthE (i : Nat) (fo : List PyData → List PyData → Option (List PyData × PyData)) (fa : M (List R)) : M R := M.bind (ownD i) fun _ => M.bind fa fun rs => M.bind (lift (dds rs)) fun as => M.bind (ownD i) fun ds => M.bind (lift (fo ds as)) fun r => M.bind (setOwn i r.1) fun _ => M.pure (.dat r.2)
theorem OkE.mth {i : Nat} {r : V → List V → Hp → VK → Prop} {fo : List PyData → List PyData → Option (List PyData × PyData)} {t : TA} {fa : M (List R)} (o : MtOk K r fo) (oa : OkA K E t fa) : OkE K E (tBM K "list" r (tVar i) t) (mthE i fo fa) := by
  refine ⟨?_⟩
  intro B σ H env l rs rp h Q post
  obtain ⟨ds0, hx0, h0⟩ := ownD_step h
  obtain ⟨p, vs0, q1, q2, q3, q4, _⟩ := rp.mut hx0
  refine ⟨.ref p, q1, .inl ⟨rfl, _, SqL.of q2⟩, ?_⟩
  refine oa.seq rp h0 post.exn fun a e vs H1 h1 r1 f1 w1 => ?_
  obtain ⟨as, h2, h3⟩ := lift_step h1
  obtain ⟨ds, hx, h4⟩ := ownD_step h3
  obtain ⟨⟨ds', d⟩, h5, h6⟩ := lift_step h4
  have h7 := setOwn_step h6
  cases h7
  obtain ⟨p', vs1, s1, s2, s3, s4, s5⟩ := r1.mut hx
  rw [q1] at s1
  cases s1
  refine o s2 s4 (dds_ok w1 h2) h5 fun v vs' d1 d2 => post v _ (s5 d1) (f1.trans (fr_upd s3)) ?_
  refine Da.same (off_mono (fun b z n => absurd z n) fun b o n e => ?_) _ d2
  rw [upd_ne (fun z => n (.inr (by rw [z]; exact s3)))]
  exact e
def appD (ds as : List PyData) : Option (List PyData × PyData) :=
  match as with
  | [a] => (sz (ds.length + 1)).map fun _ => (ds ++ [a], .none)
  | _ => none
theorem sz_lt {n : Nat} {u : Unit} (h : sz (n + 1) = some u) : n < sizeLine := sz_ok h
theorem ok_app : MtOk K rAppend appD := by
  intro S H p vs xs ds as ds' d hp hd ha e Q q
  unfold appD at e
  split at e
  · obtain ⟨u, e1, e2⟩ := Option.map_eq_some_iff.mp e
    cases e2
    obtain ⟨v, rfl, h1⟩ := daAll1 ha
    exact ⟨p, vs, v, rfl, rfl, hp, by rw [daAll_len hd]; exact sz_lt e1, q _ _ (daAll_append hd (.cons h1 .nil)) .non⟩
  · cases e
/-! x[i] = e, the list of a slot -/
def setIx (i : Nat) (fe fk : M R) : M Fl := M.bind fe fun r => M.bind (lift (asD r)) fun d => M.bind (ownD i) fun _ => M.bind fk fun k => M.bind (lift (asI k)) fun k => M.bind (ownD i) fun ds => M.bind (lift (ixN ds.length k)) fun j => M.bind (setOwn i (ds.set j d)) fun _ => M.pure .nx
theorem OkS.setIx {i : Nat} {te tk : TE} {fe fk : M R} (oe : OkE K E te fe) (ok : OkE K E tk fk) : OkS K E bx (tAsg te (gSub (tVar i) tk rSetL)) (Ov.setIx i fe fk) := by
  refine ⟨?_⟩
  intro B σ H env l rs rp h D post
  refine oe.seq rp h post.exn fun a e v H1 h1 r1 f1 q1 => ?_
  obtain ⟨d, h2, h3⟩ := lift_step h1
  obtain ⟨ds0, hx0, h4⟩ := ownD_step h3
  obtain ⟨p, vs0, s1, s2, s3, s4, _⟩ := r1.mut hx0
  refine ⟨.ref p, s1, ?_⟩
  refine ok.seq r1 h4 (exn_later post.exn f1) fun k e2 v2 H2 h5 r2 f2 q2 => ?_
  obtain ⟨k', h6, h7⟩ := lift_step h5
  obtain ⟨ds, hx, h8⟩ := ownD_step h7
  obtain ⟨j, h9, ha⟩ := lift_step h8
  have hb := setOwn_step ha
  cases hb
  obtain ⟨p', vs, t1, t2, t3, t4, t5⟩ := r2.mut hx
  rw [s1] at t1
  cases t1
  rw [asI_some h6] at q2
  cases q2
  rw [asD_some h2] at q1
  refine ⟨p, vs, k', j, rfl, rfl, t2, by rw [daAll_len t4]; exact h9, ?_⟩
  exact post σ _ l (t5 (daAll_set (Da.same f2.keep d q1) t4 j)) (Fr2.of ((f1.trans f2).trans (fr_upd t3))) fun _ => rfl
/-! new lists of one's own -/
theorem new_own {B : Addr → Prop} {σ : St} {H1 : Hp} {env : En} {l : List Addr} {p : Addr} {vs : List V} {ds : List PyData} (r : Rep K B σ H1 env l) (hp : H1 p = none) (da : DaAll K (off (un B l) H1) vs ds) :
    Rep K (un B [p]) σ (upd H1 p (.lst vs)) env l ∧ RpW K (upd H1 p (.lst vs)) (off (un (un B [p]) l) (upd H1 p (.lst vs))) (.ref p) (.own (dats ds)) [p] := by
  refine ⟨r.grow (same_new hp _) (fun _ z => .inl z) (fun b z => z.imp id fun z => by rw [List.mem_singleton.mp z]; exact hp) fun b z => ?_, p, vs, [], rfl, rfl, upd_same, rp1s_of (DaAll.same ?_ ds da)⟩
  · by_cases e : b = p
    · subst e; exact ⟨_, upd_same, trivial⟩
    · rw [upd_ne e]; exact r.tb b (z.resolve_right fun z => e (List.mem_singleton.mp z))
  · refine off_mono (fun b z n => ?_) fun b o n e => by rw [upd_ne (ne_of_none e hp)]; exact e
    rcases z with (z | z) | z
    · exact absurd (.inl z) n
    · rw [List.mem_singleton.mp z]; exact hp
    · exact absurd (.inr z) n
theorem fresh_back {B : Addr → Prop} {σ : St} {H H1 : Hp} {env : En} {l : List Addr} {p : Addr} (r : Rep K B σ H1 env l) (f : Fr l H H1) (hp : H1 p = none) : ∀ b ∈ [p], H b = none := fun b z => by
  rw [List.mem_singleton.mp z]
  cases q : H p with
  | none => rfl
  | some o =>
    rw [f p o (fun z => r.fresh hp (.inr z)) q] at hp
    cases hp
def lstW (fa : M (List R)) : M Wv := M.bind fa fun a => M.bind (lift (dds a)) fun ds => M.bind (lift (sz ds.length)) fun _ => M.pure (.own (dats ds))
theorem OkW.lst {t : TA} {fa : M (List R)} (oa : OkA K E t fa) : OkW K E (tLst t) (lstW fa) := by
  refine ⟨?_⟩
  intro B σ H env l rs rp h Q post
  refine oa.seq rp h post.exn fun a e vs H1 h1 r1 f1 q1 => ?_
  obtain ⟨ds, e1, h2⟩ := lift_step h1
  obtain ⟨u, e2, h3⟩ := lift_step h2
  cases h3
  have dp := dds_ok q1 e1
  refine ⟨by rw [daAll_len dp]; exact sz_ok e2, fun p hp => ?_⟩
  obtain ⟨n1, n2⟩ := new_own r1 hp dp
  exact post _ _ [p] n1 (f1.trans (Fr.of (same_new hp _))) n2 (List.nodup_cons.mpr ⟨by simp, List.nodup_nil⟩) (fresh_back r1 f1 hp)
def listW (fa : M (List R)) : M Wv := M.bind fa fun a => M.bind (vws a) fun ds => M.bind (lift (match ds with | [a] => seqD a | _ => none)) fun es => M.pure (.own (dats es))
theorem OkW.list {t : TA} {fa : M (List R)} (oa : OkA K E t fa) : OkW K E (tCB (fun xs H Q => ∃ p ys, xs = [.ref p] ∧ (SqL K H p ys ∨ SqT K H p ys) ∧ ∀ l, H l = none → Q (.ref l) (upd H l (.lst ys))) t) (listW fa) := by
  refine ⟨?_⟩
  intro B σ H env l rs rp h Q post
  refine oa.seq rp h post.exn fun a e vs H1 h1 r1 f1 q1 => ?_
  obtain ⟨ds, h2, w⟩ := vws_ok r1 q1 h1
  obtain ⟨es, h5, h6⟩ := lift_step h2
  cases h6
  split at h5
  · obtain ⟨x, rfl, wx⟩ := vwAll1 w
    obtain ⟨p, ys, rfl, hq, da⟩ := vw_seq wx h5
    refine ⟨p, ys, rfl, hq, fun p hp => ?_⟩
    obtain ⟨n1, n2⟩ := new_own r1 hp da
    exact post _ _ [p] n1 (f1.trans (Fr.of (same_new hp _))) n2 (List.nodup_cons.mpr ⟨by simp, List.nodup_nil⟩) (fresh_back r1 f1 hp)
  · cases h5
end
/-! what a def keeps -/
/-- data in, a value out -/
def spA (K : PySem.W.Frag) (F : List PyData → Option Wv) : Sp := fun vs H Q _ => ∃ B ds w, DaAll K (off B H) vs ds ∧ (∀ b, B b → ∃ o, H b = some o ∧ NT o) ∧ F ds = some w ∧
  ∀ v H' lw, Same H H' → RpW K H' (off (un B lw) H') v w lw → lw.Nodup → (∀ b ∈ lw, H b = none) → Q v H'
/-- the first argument is a list that may be changed -/
def spB (K : PySem.W.Frag) (F : List PyData → List PyData → Option (Wv × List PyData)) : Sp := fun vs H Q _ => ∃ B p bv bs vs' ds w bs', vs = .ref p :: vs' ∧ H p = some (.lst bv) ∧ ¬ B p ∧ DaAll K (off (un B [p]) H) bv bs ∧ DaAll K (off (un B [p]) H) vs' ds ∧
  (∀ b, B b → ∃ o, H b = some o ∧ NT o) ∧ F bs ds = some (w, bs') ∧
  ∀ v H' lw bv', Fr [p] H H' → H' p = some (.lst bv') → DaAll K (off (un (un B lw) [p]) H') bv' bs' → RpW K H' (off (un (un B lw) [p]) H') v w lw → lw.Nodup → (∀ b ∈ lw, H b = none) → Q v H'
def env0 (ds : List PyData) (n : Nat) : En := ds.map (fun d => some (.dat d)) ++ List.replicate n none
def runA (np n : Nat) (fb : M Fl) (ds : List PyData) : Option Wv := if ds.length = np then
  match fb (env0 ds (n - ds.length)) with
  | some (.ok .nx _) => some (.dat .none)
  | some (.ok (.rt w) _) => some w
  | _ => none else none
def runB (np n : Nat) (fb : M Fl) (bs ds : List PyData) : Option (Wv × List PyData) := if ds.length + 1 = np then
  match fb (some (.own (dats bs)) :: env0 ds (n - (ds.length + 1))) with
  | some (.ok (.rt w) (some (.own xs) :: _)) => (itds xs).map fun bs' => (w, bs')
  | _ => none else none
section
variable {K : PySem.W.Frag} {G H : Hp}
theorem rpe_none : ∀ n : Nat, RpE K H G (List.replicate n none) (List.replicate n none) []
  | 0 => rfl
  | n + 1 => ⟨[], [], rfl, rfl, rpe_none n⟩
theorem rpe_args : ∀ {vs : List V} {ds : List PyData} (n : Nat), DaAll K G vs ds → RpE K H G (vs.map some ++ List.replicate n none) (env0 ds n) []
  | _, _, n, .nil => rpe_none n
  | _, _, n, .cons h t => ⟨[], [], rfl, ⟨_, rfl, rfl, h⟩, rpe_args n t⟩
theorem finA {t : TS} {fb : M Fl} {N : List Str} {vs : List V} {Q : VK} {E : XK} {np : Nat} (o : OkS K L2.E0 false t fb) (h : spA K (runA np N.length fb) vs H Q E) : t { nx := fun _ H' => Q .non H', rt := Q } (L2.start N vs) H := by
  obtain ⟨B, ds, w, da, hB, hf, q⟩ := h
  have el := daAll_len da
  have rp : Rep K B (L2.start N vs) H (env0 ds (N.length - ds.length)) [] := by
    refine ⟨?_, List.nodup_nil, fun _ z => (by cases z), hB⟩
    rw [un_nil]
    unfold L2.start
    rw [el]
    exact rpe_args _ da
  unfold runA at hf
  split at hf
  case isFalse => cases hf
  cases hz : fb (env0 ds (N.length - ds.length)) with
  | none => rw [hz] at hf; cases hf
  | some z =>
    rw [hz] at hf
    cases z with
    | ex C f d => cases hf
    | ok fl e =>
      cases fl with
      | bk => cases hf
      | ct => cases hf
      | nx =>
        cases hf
        refine o.run rp hz fun σ' H' l' r' f' _ => q .non H' [] (fun b o e => f'.fr b o (fun z => by cases z) e) ⟨rfl, .non⟩ List.nodup_nil fun _ z => by cases z
      | rt w' =>
        cases hf
        refine o.run rp hz fun v σ' H' l' lw r' f' _ rw' nd hl => q v H' lw (fun b o e => f'.fr b o (fun z => by cases z) e) ?_ nd fun b z => ?_
        · exact rw'.mv (off_mono (fun b z n => absurd (.inl z) n) fun b o n e => e) fun _ _ => rfl
        · exact (f'.sub b (List.mem_append_right _ z)).resolve_left fun z => by cases z
theorem finB {t : TS} {fb : M Fl} {N : List Str} {vs : List V} {Q : VK} {E : XK} {np : Nat} (o : OkS K L2.E0 true t fb) (h : spB K (runB np N.length fb) vs H Q E) : t { nx := fun _ H' => Q .non H', rt := Q } (L2.start N vs) H := by
  obtain ⟨B, p, bv, bs, vs', ds, w, bs', rfl, hp, nB, db, da, hB, hf, q⟩ := h
  have el := daAll_len da
  have rp : Rep K B (L2.start N (.ref p :: vs')) H (some (.own (dats bs)) :: env0 ds (N.length - (ds.length + 1))) [p] := by
    refine ⟨?_, List.nodup_cons.mpr ⟨by simp, List.nodup_nil⟩, fun b z => by rw [List.mem_singleton.mp z]; exact nB, hB⟩
    unfold L2.start
    rw [List.map_cons, List.cons_append, List.length_cons, el]
    exact ⟨[p], [], rfl, ⟨_, rfl, p, bv, [], rfl, rfl, hp, rp1s_of db⟩, rpe_args _ da⟩
  unfold runB at hf
  split at hf
  case isFalse => cases hf
  cases hz : fb (some (.own (dats bs)) :: env0 ds (N.length - (ds.length + 1))) with
  | none => rw [hz] at hf; cases hf
  | some z =>
    rw [hz] at hf
    cases z with
    | ex C f d => cases hf
    | ok fl e =>
      cases fl with
      | bk => cases hf
      | ct => cases hf
      | nx => cases hf
      | rt w' =>
        cases e with
        | nil => cases hf
        | cons e0 er =>
          cases e0 with
          | none => cases hf
          | some w0 =>
          cases w0 with
          | dat _ => cases hf
          | exc _ _ _ => cases hf
          | dct _ => cases hf
          | dci _ => cases hf
          | dtk _ => cases hf
          | dts _ => cases hf
          | pin _ _ => cases hf
          | dtn _ => cases hf
          | nd _ => cases hf
          | own xs =>
          obtain ⟨bs2, e1, e2⟩ := Option.map_eq_some_iff.mp (show (itds xs).map (fun bs' => (w', bs')) = _ from hf)
          cases e2
          have hx : (some (Wv.own xs) :: er)[0]? = some (some (.own (dats bs'))) := by rw [itds_eq e1]; rfl
          refine o.run rp hz fun v σ' H' l' lw r' f' b0 rw' nd hl => ?_
          obtain ⟨p', vs2, s1, s2, s3, s4, _⟩ := r'.mut hx
          have s0 : σ'[0]? = some (some (.ref p)) := (b0 rfl).trans rfl
          rw [s0] at s1
          cases s1
          have sub : Same (off (un (un B lw) l') H') (off (un (un B lw) [p]) H') := off_mono (fun b z n => ?_) fun b o n e => e
          · refine q v H' lw vs2 f'.fr s2 (DaAll.same sub _ s4) (rw'.mv sub fun _ _ => rfl) nd fun b z => ?_
            exact (f'.sub b (List.mem_append_right _ z)).resolve_left fun y => (hl b z).1 (by rw [List.mem_singleton.mp y]; exact s3)
          · rcases z with z | z
            · exact absurd (.inl z) n
            · rw [List.mem_singleton.mp z] at n; exact absurd (.inr s3) n
end
theorem lenA {K : PySem.W.Frag} {np n : Nat} {fb : M Fl} {vs : List V} {H : Hp} {Q : VK} {E : XK} (h : spA K (runA np n fb) vs H Q E) : vs.length = np := by
  obtain ⟨B, ds, w, da, hB, hf, q⟩ := h
  unfold runA at hf
  split at hf
  · rw [daAll_len da]; assumption
  · cases hf
theorem lenB {K : PySem.W.Frag} {np n : Nat} {fb : M Fl} {vs : List V} {H : Hp} {Q : VK} {E : XK} (h : spB K (runB np n fb) vs H Q E) : vs.length = np := by
  obtain ⟨B, p, bv, bs, vs', ds, w, bs', rfl, hp, nB, db, da, hB, hf, q⟩ := h
  unfold runB at hf
  split at hf
  · rw [List.length_cons, daAll_len da]; assumption
  · cases hf
/-! calls -/
section
variable {K : PySem.W.Frag} {E : XK} {bx : Bool}
def callA (F : List PyData → Option Wv) (fa : M (List R)) : M Wv := M.bind fa fun rs => M.bind (lift (dds rs)) fun ds => lift (F ds)
theorem callA_ok {B : Addr → Prop} {σ : St} {H H1 : Hp} {e : En} {l : List Addr} {vs : List V} {ds : List PyData} {F : List PyData → Option Wv} {w : Wv} {Q : VK} {E' : XK} (r1 : Rep K B σ H1 e l) (f1 : Fr l H H1) (da : DaAll K (off (un B l) H1) vs ds) (hw : F ds = some w)
    (post : PostW K E B σ H l (.ok w e) Q) : spA K F vs H1 Q E' := by
  refine ⟨un B l, ds, w, da, r1.tl, hw, fun v H' lw s rw' nd fr => ?_⟩
  have hl : ∀ b ∈ lw, ¬ un B l b := fun b z => r1.fresh (fr b z)
  refine post v H' lw (r1.grow s (fun _ z => .inl z) (fun b z => z.imp id (fr b)) fun b z => ?_) (f1.trans (Fr.of s)) (rw'.mv (off_mono (fun b z n => absurd (z.elim (fun z => z.elim (fun z => .inl (.inl z)) .inr) fun z => .inl (.inr z)) n) fun b o n e => e) fun _ _ => rfl) nd fun b z => ?_
  · rcases z with z | z
    · obtain ⟨o, e, n⟩ := r1.tb b z
      exact ⟨o, s _ _ e, n⟩
    · exact rw'.trk b z
  · cases q : H b with
    | none => rfl
    | some o =>
      have := f1 b o (fun y => hl b z (.inr y)) q
      rw [fr b z] at this
      cases this
theorem OkW.call {F : List PyData → Option Wv} {E' : XK} {t : TA} {fa : M (List R)} (oa : OkA K E t fa) : OkW K E (tCall (spA K F) [] E' t) (callA F fa) := by
  refine ⟨?_⟩
  intro B σ H env l rs rp h Q post
  refine oa.seq rp h post.exn fun a e vs H1 h1 r1 f1 q1 => ?_
  obtain ⟨ds, h2, h3⟩ := lift_step h1
  obtain ⟨w, h4, h5⟩ := lift_some h3
  subst h5
  rw [List.append_nil]
  exact callA_ok r1 f1 (dds_ok q1 h2) h4 post
/-- keywords alone, in the order g -/
theorem OkW.callK {F : List PyData → Option Wv} {E' : XK} {n : Nat} {gV : List V → List V → List V} {gD : List PyData → List PyData} {t : TA} {fa : M (List R)} (hg : ∀ {G : Hp} {vs : List V} {ds : List PyData}, DaAll K G vs ds → ds.length = n → DaAll K G (gV [] vs) (gD ds)) (oa : OkA K E t fa) :
    OkW K E (L2.tCallN 0 n (spA K F) gV E' tNil t) (callA (fun ds => if ds.length = n then F (gD ds) else none) fa) := by
  refine ⟨?_⟩
  intro B σ H env l rs rp h Q post
  refine oa.seq rp h post.exn fun a e vs H1 h1 r1 f1 q1 => ?_
  obtain ⟨ds, h2, h3⟩ := lift_step h1
  obtain ⟨w, h4, h5⟩ := lift_some h3
  subst h5
  have da := dds_ok q1 h2
  simp only at h4
  split at h4
  · rename_i hn
    exact ⟨rfl, by rw [daAll_len da]; exact hn, callA_ok r1 f1 (hg da hn) h4 post⟩
  · cases h4
/-- the first argument is slot i's own list -/
def callB (i : Nat) (F : List PyData → List PyData → Option (Wv × List PyData)) (fa : M (List R)) : M Wv := M.bind (ownD i) fun _ => M.bind fa fun rs => M.bind (lift (dds rs)) fun ds => M.bind (ownD i) fun bs => M.bind (lift (F bs ds)) fun r => M.bind (setOwn i r.2) fun _ => M.pure r.1
theorem un_less {B : Addr → Prop} {l : List Addr} {p : Addr} (hp : p ∈ l) : un (fun b => un B l b ∧ b ≠ p) [p] = un B l := by
  funext b
  refine propext ⟨fun z => z.elim (fun z => z.1) fun z => ?_, fun z => ?_⟩
  · rw [List.mem_singleton.mp z]; exact .inr hp
  · by_cases e : b = p
    · exact .inr (by rw [e]; exact List.mem_cons_self ..)
    · exact .inl ⟨z, e⟩
theorem OkW.callB {i : Nat} {F : List PyData → List PyData → Option (Wv × List PyData)} {E' : XK} {t : TA} {fa : M (List R)} (oa : OkA K E t fa) : OkW K E (tCall (spB K F) [] E' (tCons (tVar i) t)) (Ov.callB i F fa) := by
  refine ⟨?_⟩
  intro B σ H env l rs rp h Q post
  obtain ⟨ds0, hx0, h0⟩ := ownD_step h
  obtain ⟨p, vs0, q1, q2, q3, q4, _⟩ := rp.mut hx0
  refine ⟨.ref p, q1, ?_⟩
  refine oa.seq rp h0 post.exn fun a e vs H1 h1 r1 f1 w1 => ?_
  obtain ⟨as, h2, h3⟩ := lift_step h1
  obtain ⟨bs, hx, h4⟩ := ownD_step h3
  obtain ⟨⟨w, bs'⟩, h5, h6⟩ := lift_step h4
  have h7 := setOwn_step h6
  cases h7
  obtain ⟨p', vs1, s1, s2, s3, s4, s5⟩ := r1.mut2 hx
  rw [q1] at s1
  cases s1
  have da := dds_ok w1 h2
  rw [List.append_nil]
  refine ⟨fun b => un B l b ∧ b ≠ p, p, vs1, bs, vs, as, w, bs', rfl, s2, fun z => z.2 rfl, by rw [un_less s3]; exact s4, by rw [un_less s3]; exact da, fun b z => r1.tl b z.1, h5, fun v H' lw bv' fr hb' db' rw' nd fw => ?_⟩
  have ew : ∀ b, un (un B lw) l b → un (un (fun b => un B l b ∧ b ≠ p) lw) [p] b := fun b z => by
    by_cases e : b = p
    · exact .inr (by rw [e]; exact List.mem_cons_self ..)
    · exact .inl (z.elim (fun z => z.imp (fun z => ⟨.inl z, e⟩) id) fun z => .inl ⟨.inr z, e⟩)
  have sb : Same (off (un (un (fun b => un B l b ∧ b ≠ p) lw) [p]) H') (off (un (un B lw) l) H') := off_mono (fun b z n => absurd (ew b z) n) fun b o n e => e
  have hl : ∀ b ∈ lw, ¬ un B l b := fun b z => r1.fresh (fw b z)
  have sub : Same (off (un B l) H1) (off (un (un B lw) l) H') := off_mono (fun b z n => z.elim (fun z => z.elim (fun z => absurd (.inl z) n) (fw b)) fun z => absurd (.inr z) n) fun b o n e => fr b o (fun z => n (by rw [List.mem_singleton.mp z]; exact .inr s3)) e
  refine post v H' lw (s5 (fun q z n => ?_) hb' sub (DaAll.same sb _ db') (fun b z y => y.elim (r1.out b z) fun y => hl b y (.inr z)) fun b z => ?_) (f1.trans fun b o n e => fr b o (fun z => n (by rw [List.mem_singleton.mp z]; exact s3)) e) (rw'.mv sb fun _ _ => rfl) nd fun b z => ?_
  · obtain ⟨us, e, _⟩ := r1.rp.trk q z
    rw [e]
    exact fr q _ (fun y => n (List.mem_singleton.mp y)) e
  · rcases z with z | z
    · obtain ⟨o, e, n⟩ := r1.tb b z
      exact ⟨o, fr b o (fun y => r1.out p s3 (by rw [← List.mem_singleton.mp y]; exact z)) e, n⟩
    · exact rw'.trk b z
  · cases q : H b with
    | none => rfl
    | some o =>
      have := f1 b o (fun y => hl b z (.inr y)) q
      rw [fw b z] at this
      cases this
end
end Ov
set_option Elab.async false
set_option linter.all false
set_option maxRecDepth 100000
set_option maxHeartbeats 4000000
namespace Ov
open PySem L2
def chk (b : Bool) : Option Unit := if b = true then some () else none
theorem chk_ok {b : Bool} {u : Unit} (h : chk b = some u) : b = true := by
  unfold chk at h
  split at h
  · assumption
  · cases h
section
variable {K : PySem.W.Frag} {E : XK} {bx : Bool}
/-! isinstance of data -/
def kitD (T : String) (d : PyData) : Option Bool := kitB (tyD d) T
def isiE (T : String) (fa : M R) : M R := M.bind fa fun r => M.bind (vw r) fun d => M.bind (lift (kitD T d)) fun b => M.pure (ofB b)
theorem OkE.isi {T : String} {ta : TE} {fa : M R} (oa : OkE K E ta fa) : OkE K E (tCB (rIsi K) (tCons ta (tCons (tC (.ty T)) tNil))) (isiE T fa) := by
  refine ⟨?_⟩
  intro B σ H env l rs rp h Q post
  refine oa.seq rp h post.exn fun a e v H1 h1 r1 f1 q1 => ?_
  obtain ⟨d, h2, w⟩ := vw_step r1 q1 h1
  obtain ⟨b, h3, h4⟩ := lift_step h2
  cases h4
  exact ⟨v, .ty T, _, _, b, rfl, .ty T, da_ty w.da, kit_ty h3, post _ H1 r1 f1 (.bl b)⟩
def isiE2 (A B : String) (fa : M R) : M R := M.bind fa fun r => M.bind (vw r) fun d => M.bind (lift (kitD A d)) fun a => M.bind (lift (kitD B d)) fun b => M.pure (ofB (a || b))
theorem OkE.isi2 {T U : String} {ta : TE} {fa : M R} (oa : OkE K E ta fa) : OkE K E (tCB (rIsiT K) (tCons ta (tCons (tTup (tCons (tC (.ty T)) (tCons (tC (.ty U)) tNil))) tNil))) (isiE2 T U fa) := by
  refine ⟨?_⟩
  intro B σ H env l rs rp h Q post
  refine oa.seq rp h post.exn fun a e v H1 h1 r1 f1 q1 => ?_
  obtain ⟨d, h2, w⟩ := vw_step r1 q1 h1
  obtain ⟨b, h3, h4⟩ := lift_step h2
  obtain ⟨b2, h5, h6⟩ := lift_step h4
  cases h6
  refine ⟨smallB rfl, fun p hp => ?_⟩
  have s1 := same_new hp (.tup [.ty T, .ty U])
  exact ⟨v, p, _, _, _, b || b2, rfl, upd_same, .cons (.ty T) (.cons (.ty U) .nil), da_ty (Da.same s1 d w.da), kit2 h3 h5, post _ _ (r1.same s1) (f1.trans (Fr.of s1)) (.bl _)⟩
/-! is None, is True -/
def isNR : R → Option Bool
  | .dat .none => some true
  | .dat _ => some false
  | .exc _ _ _ => some false
  | .slot _ => none
def isNE (n : Bool) (fa : M R) : M R := M.bind fa fun r => M.bind (lift (isNR r)) fun b => M.pure (ofB (n ^^ b))
theorem isNR_ok {G : Hp} {σ : St} {v : V} {r : R} {b : Bool} (q : RpR K G σ v r) (h : isNR r = some b) : decide (v = .non) = b := by
  cases r with
  | dat d =>
    have q : Da K G v d := q
    cases q with
    | non => cases h; rfl
    | bl _ => cases h; rfl
    | int _ => cases h; rfl
    | str _ => cases h; rfl
    | lst _ _ => cases h; rfl
    | tup _ _ => cases h; rfl
    | dct _ _ _ _ => cases h; rfl
    | dtk _ _ _ _ => cases h; rfl
  | slot i => cases h
  | exc C f d =>
    obtain ⟨a, u, rfl, _⟩ := q
    cases h
    rfl
theorem OkE.isN {ta : TE} {fa : M R} (oa : OkE K E ta fa) : OkE K E (tOp (fun x y H Q => y = .non ∧ Q (.bl (decide (x = .non))) H) ta (tC .non)) (isNE false fa) := by
  refine ⟨?_⟩
  intro B σ H env l rs rp h Q post
  refine oa.seq rp h post.exn fun a e v H1 h1 r1 f1 q1 => ?_
  obtain ⟨b, h3, h4⟩ := lift_step h1
  cases h4
  refine ⟨rfl, ?_⟩
  rw [isNR_ok q1 h3]
  exact post _ H1 r1 f1 (by rw [Bool.false_xor]; exact .bl b)
/-! turned round -/
/-! len(set(t)) -/
/-! str of a number, range as a tuple or list -/
theorem rgV_eq (a b : Int) : rgV a b = (rngL a b).map V.int := by
  unfold rgV rngL
  rw [List.map_map]
  rfl
def rgE (fr : M (Int × Int)) : M R := M.bind fr fun r => M.bind (lift (chk (decide (-(2 ^ 62) ≤ r.1 ∧ r.1 < 2 ^ 62 ∧ -(2 ^ 62) ≤ r.2 ∧ r.2 < 2 ^ 62 ∧ (r.2 - r.1).toNat ≤ 1000000)))) fun _ => M.pure (.dat (.tuple ((rngL r.1 r.2).map .int)))
def rg2 (fa fb : M R) : M (Int × Int) := M.bind fa fun a => M.bind fb fun b => M.bind (lift (asI a)) fun i => M.bind (lift (asI b)) fun j => M.pure (i, j)
/-! a, b = x, y -/
def parS (i j : Nat) (f g : M Wv) : M Fl := M.bind f fun v => M.bind g fun w => M.bind (putM i v) fun _ => M.bind (putM j w) fun _ => M.pure .nx
theorem OkS.par {i j : Nat} {ta tb : TE} {f g : M Wv} (hb : bx = true → i ≠ 0 ∧ j ≠ 0) (o : OkW K E ta f) (o' : OkW K E tb g) : OkS K E bx (tPar i j (tCons ta (tCons tb tNil))) (parS i j f g) := by
  refine ⟨?_⟩
  intro B σ H env l rs rp h D post
  refine o.seq rp h post.exn fun w1 e1 v1 H1 l1 h1 r1 f1 q1 nd1 fr1 => ?_
  have n1 : ∀ b ∈ l1, ¬ un B l b := fun b z => rp.fresh (fr1 b z)
  have ex1 : ∀ C f d, rs = .ex C f d → Exn K E (un B l1) H1 l C f d := fun C f d e => by
    have := (post.exn C f d e).later f1
    exact this.wide
  refine o'.seq r1 h1 ex1 fun w2 e2 v2 H2 l2 h2 r2 f2 q2 nd2 fr2 => ?_
  have n2 : ∀ b ∈ l2, ¬ un (un B l1) l b := fun b z => r1.fresh (fr2 b z)
  obtain ⟨hi, h3⟩ := putM_step h2
  obtain ⟨hj, h4⟩ := putM_step h3
  cases h4
  refine ⟨v1, v2, rfl, ?_⟩
  have ec : un (un B l1) l2 = un (un B l2) l1 := by
    funext b
    exact propext ⟨fun z => z.elim (fun z => z.elim (fun z => .inl (.inl z)) .inr) fun z => .inl (.inr z), fun z => z.elim (fun z => z.elim (fun z => .inl (.inl z)) .inr) fun z => .inl (.inr z)⟩
  have q1' : RpW K H2 (off (un (un (un B l2) l1) l) H2) v1 w1 l1 := by
    refine q1.mv (off_mono (fun b z n => ?_) fun b o n e => f2 b o (fun z => n (.inr z)) e) fun b z => ?_
    · rcases z with ((z | z) | z) | z
      · exact absurd (.inl (.inl z)) n
      · exact fr2 b z
      · exact absurd (.inl (.inr z)) n
      · exact absurd (.inr z) n
    · obtain ⟨o, e, _⟩ := q1.trk b z
      rw [e]
      exact f2 b o (fun y => n1 b z (.inr y)) e
  rw [ec] at r2
  obtain ⟨l3, r3, m3⟩ := r2.put hi q1' nd1 fun b z => ⟨fun y => n1 b z (.inr y), fun y => y.elim (fun y => n1 b z (.inl y)) fun y => n2 b y (.inl (.inr z))⟩
  have sub3 : ∀ b ∈ l3, b ∈ l ∨ b ∈ l1 := m3
  have q2' : RpW K H2 (off (un (un B l2) l3) H2) v2 w2 l2 := by
    refine q2.mv (off_mono (fun b z n => ?_) fun b o n e => e) fun _ _ => rfl
    rcases z with (z | z) | z
    · exact absurd (.inl (.inl (.inl z))) n
    · exact absurd (.inl (.inr z)) n
    · rcases m3 b z with z | z
      · exact absurd (.inr z) n
      · exact absurd (.inl (.inl (.inr z))) n
  obtain ⟨l4, r4, m4⟩ := r3.put hj q2' nd2 fun b z => ⟨fun y => (m3 b y).elim (fun y => n2 b z (.inr y)) fun y => n2 b z (.inl (.inr y)), fun y => n2 b z (.inl (.inl y))⟩
  refine post _ H2 l4 r4 ⟨f1.trans f2, fun b z => ?_⟩ fun z => ?_
  · rcases m4 b z with z | z
    · exact (m3 b z).imp id (fr1 b)
    · refine .inr ?_
      cases q : H b with
      | none => rfl
      | some o =>
        have := f1 b o (fun y => n2 b z (.inr y)) q
        rw [fr2 b z] at this
        cases this
  · rw [List.getElem?_set_ne (hb z).2, List.getElem?_set_ne (hb z).1]
/-! dicts of numbers -/
def dnew : M Wv := M.pure (.dct [])
def dctD (i : Nat) : M (List Int) := fun env =>
  match env[i]? with
  | some (some (.dct ks)) => some (.ok ks env)
  | _ => none
def putT (ks : List Int) (k : Int) : List Int := if k ∈ ks then ks else ks ++ [k]
def dinT (n : Bool) (i : Nat) (fk : M R) : M Bool := M.bind fk fun r => M.bind (lift (asI r)) fun k => M.bind (dctD i) fun ks => M.pure (n ^^ decide (k ∈ ks))
def dputS (i : Nat) (fk : M R) : M Fl := M.bind (dctD i) fun _ => M.bind fk fun r => M.bind (lift (asI r)) fun k => M.bind (dctD i) fun ks => M.bind (lift (chk (decide (ks.length < 1000)))) fun _ => M.bind (putM i (.dct (putT ks k))) fun _ => M.pure .nx
def sortDct (i : Nat) : M R := M.bind (dctD i) fun ks => M.bind (lift (chk (decide (ks.length < 64)))) fun _ => M.pure (.dat (.list ((sortI ks).map .int)))
end
end Ov
set_option Elab.async false
set_option linter.all false
set_option maxRecDepth 100000
set_option maxHeartbeats 4000000
namespace Ov
open PySem L2
/-! repr -/
section
variable {K : PySem.W.Frag} {E : XK} {bx : Bool}
theorem getD_da {G : Hp} {vs : List V} {ds : List PyData} (h : DaAll K G vs ds) {i : Nat} (hi : i < ds.length) : Da K G (vs.getD i .non) (ds.getD i .none) := by
  obtain ⟨x, e1, e2⟩ := daAll_get h (List.getElem?_eq_getElem hi)
  rw [List.getD_eq_getElem?_getD, List.getD_eq_getElem?_getD, e1, List.getElem?_eq_getElem hi]
  exact e2
theorem kw_da {n : Nat} {pi : List Nat} (hp : pi.all (· < n) = true) {G : Hp} {vs : List V} {ds : List PyData} (h : DaAll K G vs ds) (hn : ds.length = n) : DaAll K G (pi.map fun i => vs.getD i .non) (pi.map fun i => ds.getD i .none) := by
  induction pi with
  | nil => exact .nil
  | cons i r ih =>
    rw [List.all_cons, Bool.and_eq_true] at hp
    exact .cons (getD_da h (by have := of_decide_eq_true hp.1; omega)) (ih hp.2)
end
end Ov
namespace Ov
open PySem L2
theorem vacA {K : PySem.W.Frag} {vs : List V} {H : Hp} {Q : VK} {E : XK} (h : spA K (fun _ => none) vs H Q E) : False := by
  obtain ⟨B, ds, w, da, hB, hf, q⟩ := h
  cases hf
theorem vacB {K : PySem.W.Frag} {vs : List V} {H : Hp} {Q : VK} {E : XK} (h : spB K (fun _ _ => none) vs H Q E) : False := by
  obtain ⟨B, p, bv, bs, vs', ds, w, bs', rfl, hp, nB, db, da, hB, hf, q⟩ := h
  cases hf
end Ov
set_option Elab.async false
set_option linter.all false
set_option maxRecDepth 100000
set_option maxHeartbeats 4000000
namespace Ov
open PySem L2
/-! the rules whose reading names the written part, with that part given (a comprehension's block has it too) -/
section
variable {X : Cx} {K : PySem.W.Frag} (hK : X.K = K)
include hK
theorem k_len : CallR X (.builtin "len") (fun xs H Q => ∃ p ys, xs = [.ref p] ∧ (SqL K H p ys ∨ SqT K H p ys) ∧ Q (.int ys.length) H) := by subst hK; exact call_len_seq
theorem k_tup : CallR X (.type "tuple") (rTupW K) := by subst hK; exact call_tupW
theorem k_list : CallR X (.type "list") (fun xs H Q => ∃ p ys, xs = [.ref p] ∧ (SqL K H p ys ∨ SqT K H p ys) ∧ ∀ l, H l = none → Q (.ref l) (upd H l (.lst ys))) := by subst hK; exact call_list_of
theorem k_all (hc : X.calm = true) : CallR X (.builtin "all") (rAll K) := by subst hK; exact cr_all hc
theorem k_sum (hc : X.calm = true) : CallR X (.builtin "sum") (rSum K) := by subst hK; exact cr_sum hc
theorem k_sorted : CallR X (.builtin "sorted") (rSrtW K) := by subst hK; exact cr_sortedW
theorem k_isi : CallR X (.builtin "isinstance") (rIsi K) := by subst hK; exact call_isi
theorem k_isiT : CallR X (.builtin "isinstance") (rIsiT K) := by subst hK; exact call_isiT
theorem k_notin : OpR X (compareOp .NotIn) (rIn K true) := by subst hK; exact op_notIn_seq
theorem k_eqD (hu : X.A.units + 64 < cLine) : OpR X (compareOp .Eq) (rEqD K) := by subst hK; exact op_eqD hu
theorem k_neD (hu : X.A.units + 64 < cLine) : OpR X (compareOp .NotEq) (rNeD K) := by subst hK; exact op_neD hu
theorem k_ix : IxR X (rIx K) := by subst hK; exact ix_seq
theorem k_cut : SlR X (rCut K) := by subst hK; exact sl_cut
theorem k_catW : OpR X (binaryOp .Add) (rCatW K) := by subst hK; exact op_catW
theorem k_seq {tg l : Expr} {tl : TE} (hl : PE X l tl) : PI X tg l (iSeq K tl) := by subst hK; exact pi_seq hl
theorem k_zipA {e e2 : Expr} {ta : TA} {p pos tpos : Pos} {elts : List Expr} {kk : Nat} (hg : Gl X "zip") (hm : X.mg "zip" = none) (ha : PA X [e, e2] ta)
    (hs : starEach [e, e2] X.env = (false, eval e X.env) :: starEach [e2] X.env := by rfl) (hpl : (backTo pos (starEach [e2] X.env)).any (·.1) = false := by rfl) :
    PI X (.Tuple elts kk tpos) (.Call (.Name "zip" p) [e, e2] [] pos) (RZ.iZipA K ta) := by subst hK; exact RZ.pi_zipA hg hm ha hs hpl
theorem k_enW {elts : List Expr} {kk : Nat} {tpos : Pos} {e : Expr} {ta : TA} {p pos : Pos} (hg : Gl X "enumerate") (hm : X.mg "enumerate" = none) (ha : PA X [e] ta) (hs : starEach [e] X.env = [(false, eval e X.env)] := by rfl) :
    PI X (.Tuple elts kk tpos) (.Call (.Name "enumerate" p) [e] [] pos) (iEnW K ta) := by subst hK; exact pi_enW hg hm ha hs
theorem k_bm {T id : String} {o e : Expr} {es : List Expr} {to : TE} {t : TA} {name : Str} {apos cpos : Pos} {r : V → List V → Hp → VK → Prop} (pa : PlainAttrs T) (slot : Slot T name id) (hty : typeOf (.builtin id) = pure (.type "method_descriptor")) (hm : MtR X id r) (ho : PE X o to) (ha : PA X (e :: es) t)
    (hbase : attributeBase o name X.env (eval o X.env) = eval o X.env := by rfl)
    (hfew : ((backTo cpos (starEach (e :: es) X.env)).all (fun x => !x.1) && (backToKw cpos (keywordEach [] X.env)).all (fun x => x.1.isSome)
      && decide ((e :: es).length + ([] : List Keyword).length + (if ([] : List Keyword).isEmpty then 0 else 1) < 30)) = true := by rfl)
    (hline : (apos.endLine == cpos.line) = true := by rfl) (hs : starEach (e :: es) X.env = (false, eval e X.env) :: starEach es X.env := by rfl) (hplain : (backTo cpos (starEach es X.env)).any (·.1) = false := by rfl) :
    PE X (.Call (.Attribute o name apos) (e :: es) [] cpos) (tBM K T r to t) := by subst hK; exact pe_bm pa slot hty hm ho ha hbase hfew hline hs hplain
end
section
variable {K : PySem.W.Frag} {E : XK}
/-- xs + ys as a list of one's own -/
def catW (fa fb : M R) : M Wv := M.bind fa fun a => M.bind fb fun b => M.bind (vw a) fun x => M.bind (vw b) fun y => M.bind (lift (catD x y)) fun d => M.bind (lift (match d with | .list ds => some ds | _ => none)) fun ds => M.pure (.own (dats ds))
end
end Ov
set_option Elab.async false
set_option linter.all false
set_option maxRecDepth 100000
set_option maxHeartbeats 4000000
namespace Ov
open PySem L2
/-! methods that only read, of a list that is plain data -/
section
variable {K : PySem.W.Frag} {E : XK}
def isLD : PyData → Option Unit
  | .list _ => some ()
  | _ => none
def rmE (fo : List PyData → Option PyData) (fa : M R) (fs : M (List R)) : M R := M.bind fa fun a => M.bind (vw a) fun x0 => M.bind (lift (isLD x0)) fun _ => M.bind fs fun rs => M.bind (vw a) fun x => M.bind (vws rs) fun as => M.bind (lift (fo (x :: as))) fun d => M.pure (.dat d)
theorem OkE.rm {r : V → List V → Hp → VK → Prop} {fo : List PyData → Option PyData} {ta : TE} {t : TA} {fa : M R} {fs : M (List R)} (o : CbOk K (fun vs H Q => ∃ x xs, vs = x :: xs ∧ r x xs H Q) fo) (oa : OkE K E ta fa) (os : OkA K E t fs) : OkE K E (tBM K "list" r ta t) (rmE fo fa fs) := by
  refine ⟨?_⟩
  intro B σ H env l rs rp h Q post
  refine oa.seq rp h post.exn fun a e v1 H1 h1 r1 f1 q1 => ?_
  obtain ⟨x0, h2, w0⟩ := vw_step r1 q1 h1
  obtain ⟨u, h3, h4⟩ := lift_step h2
  have hx : ∃ ds, x0 = .list ds := by
    cases x0 with
    | list ds => exact ⟨ds, rfl⟩
    | _ => cases h3
  obtain ⟨ds, rfl⟩ := hx
  obtain ⟨p, vs0, rfl, hs, _⟩ := vw_list w0
  refine ⟨.inl ⟨rfl, _, hs⟩, ?_⟩
  refine os.seq r1 h4 (exn_later post.exn f1) fun b e2 vs H2 h5 r2 f2 q2 => ?_
  obtain ⟨x, h6, w1⟩ := vw_step r2 (q1.mv f2.keep) h5
  obtain ⟨as, h7, w2⟩ := vws_ok r2 q2 h6
  obtain ⟨d, h8, h9⟩ := lift_step h7
  cases h9
  obtain ⟨x', xs', ex, hr⟩ := o r2.tl (.cons w1 w2) h8 fun v H' s q => post v H' (r2.same s) ((f1.trans f2).trans (Fr.of s)) q
  cases ex
  exact hr
/-- l.index(x) -/
def idxD (as : List PyData) : Option PyData :=
  match as with
  | [.list ds, d] => if shp (.list ds) && shp d then (ds.findIdx? fun z => PyData.eqv z d).map fun j => .int (j : Nat) else none
  | _ => none
theorem ok_idx : CbOk K (fun vs H Q => ∃ x xs, vs = x :: xs ∧ rIndexD K x xs H Q) idxD := by
  intro S H xs as d hS w e Q q
  unfold idxD at e
  split at e
  · split at e
    · rename_i ds d0 hc
      rw [Bool.and_eq_true] at hc
      obtain ⟨j, e1, e2⟩ := Option.map_eq_some_iff.mp e
      subst e2
      cases w with
      | cons w1 w2 =>
        cases w2 with
        | cons w2 w3 =>
          cases w3
          obtain ⟨p, vs, rfl, hs, hd⟩ := vw_list w1
          rw [List.findIdx?_eq_some_iff_getElem] at e1
          obtain ⟨hj, e3, e4⟩ := e1
          refine ⟨_, _, rfl, p, _, d0, ds, j, ds[j], rfl, rfl, Da.dp _ (shp_nd hc.1) w1.da, Da.dp _ (shp_nd hc.2) w2.da, hc.1, hc.2, List.getElem?_eq_getElem hj, e3, fun m z' hm hz => ?_, q _ _ (same_refl _) (.int _)⟩
          obtain ⟨hml, rfl⟩ := List.getElem?_eq_some_iff.mp hz
          exact Bool.eq_false_iff.mpr (e4 m hm)
    · cases e
  · cases e
end
section
variable {X : Cx} {K : PySem.W.Frag} (hK : X.K = K)
include hK
theorem k_index (hu : X.A.units + 65 < cLine) : MtR X "list.index" (rIndexD K) := by subst hK; exact mt_indexD hu
end
end Ov
set_option Elab.async false
set_option linter.all false
set_option maxRecDepth 100000
set_option maxHeartbeats 4000000
namespace Ov
open PySem L2 PySem.Spec PyProof.Rows
/-! zip of two sequences, each a list or a tuple -/
def SqB (t : Bool) (K : PySem.W.Frag) (H : Hp) (a : Addr) (xs : List V) : Prop := match t with
  | true => SqT K H a xs
  | false => SqL K H a xs
def ItB (t : Bool) (h : Heap) (it l : Addr) (k : Nat) : Prop := match t with
  | true => h.IsTupleIter it l k
  | false => h.IsListIter it l k
def SeB (t : Bool) (h : Heap) (l : Addr) (its : Array Value) : Prop := match t with
  | true => h.IsTuple l its
  | false => h.IsList l its
def itO (t : Bool) (l : Addr) : Obj := { cls := .type (match t with | true => "tuple_iterator" | false => "list_iterator"), data := .fields #[.ref l, .int 0 0] }
theorem drB {P : Program} {w : World} {A : Around} (t : Bool) (no : A.handled = none) (it l : Addr) (ne : l ≠ it) (its : Array Value) :
    Draws P w A it [it, l] its.size (fun i v => its[i]? = some v) (fun i h => ItB t h it l i ∧ SeB t h l its) := by
  cases t with
  | true => exact Draws.tuple no it l ne its
  | false => exact Draws.list no it l ne its
theorem bgB (t : Bool) (l : Addr) (its : Array Value) : Begins (.ref l) (itO t l) (fun h => SeB t h l its) := by
  cases t with
  | true => exact begins_tuple l its
  | false => exact begins_list l its
theorem ItB.new {t : Bool} {h : Heap} {it l : Addr} (e : h.get? it = some (itO t l)) : ItB t h it l 0 := by
  cases t with
  | true => exact ⟨_, e, rfl, rfl⟩
  | false => exact ⟨_, e, rfl, rfl⟩
theorem ItB.up {t : Bool} {h h' : Heap} {it l : Addr} {k : Nat} (x : ItB t h it l k) (f : ∀ o, h.get? it = some o → h'.get? it = some o) : ItB t h' it l k := by
  cases t with
  | true => exact Heap.IsTupleIter.at x f
  | false => exact Heap.IsListIter.at x f
theorem ItB.ob {t : Bool} {h : Heap} {it l : Addr} {k : Nat} (x : ItB t h it l k) : ∃ o, h.get? it = some o ∧ ∀ v, o.data ≠ .cell v := by
  cases t with
  | true => obtain ⟨o, e, _, d⟩ := x; exact ⟨o, e, fun v z => by rw [d] at z; cases z⟩
  | false => obtain ⟨o, e, _, d⟩ := x; exact ⟨o, e, fun v z => by rw [d] at z; cases z⟩
theorem SeB.lt {t : Bool} {h : Heap} {l : Addr} {its : Array Value} (x : SeB t h l its) : l < h.objs.size := by
  cases t with
  | true => obtain ⟨o, e, _⟩ := x; exact Heap.lt_size e
  | false => obtain ⟨o, e, _⟩ := x; exact Heap.lt_size e
section
variable {X : Cx} {pins : List (Addr × Obj)} {σ : L2.St} {H : Hp} {s : Shared} {t : Bool} {a : Addr} {xs ys : List V}
theorem SqB.read (I : Inv X pins σ H s) (h : SqB t X.K H a xs) : ∃ its : List Value, Vals xs its ∧ SeB t s.heap a its.toArray := by
  cases t with
  | true => obtain ⟨its, r, p, _⟩ := I.tuple h; exact ⟨its, r, p⟩
  | false => obtain ⟨its, r, p, _⟩ := I.list h; exact ⟨its, r, p.isList⟩
theorem SqB.inj (I : Inv X pins σ H s) (h : SqB t X.K H a xs) (h' : SqB t X.K H a ys) : xs = ys := by
  cases t with
  | true => exact I.tuple_inj h h'
  | false => exact I.list_inj h h'
end
def ItzB (t u : Bool) (K : PySem.W.Frag) (a b : Addr) : It where
  go := fun i H => ∃ (xs ys : List V) (x y : V), SqB t K H a xs ∧ SqB u K H b ys ∧ xs[i]? = some x ∧ ys[i]? = some y
  yld := fun i H v H' => ∃ p x y, v = .ref p ∧ H p = none ∧ H' = upd H p (.tup [x, y]) ∧ (∀ xs, SqB t K H a xs → xs[i]? = some x) ∧ ∀ ys, SqB u K H b ys → ys[i]? = some y
  stop := fun i H => ∃ xs ys : List V, SqB t K H a xs ∧ SqB u K H b ys ∧ i ≤ xs.length ∧ i ≤ ys.length ∧ (xs.length = i ∨ ys.length = i)
theorem turn_zipB {P : Program} {w : World} {K : PySem.W.Frag} {tgs : List Expr} {kk : Nat} {tp : Pos} {t u : Bool} {a b z m n c d : Addr} (D : ZipSep2 z m n c d [c, a] [d, b]) (na : a ≠ c) (nb : b ≠ d) :
    Turn P w K (.Tuple tgs kk tp) (ItzB t u K a b) [z, m, n, c, d] z (fun i h => IsZip h z m n .none ∧ IsTupOf2 h m (.ref c) (.ref d) ∧ (∃ x y, IsTupOf2 h n x y) ∧ ItB t h c a i ∧ ItB u h d b i) where
  mem := by simp
  obj := fun i h st e he => by
    obtain ⟨q1, q2, ⟨x, y, q3⟩, q4, q5⟩ := st
    simp only [List.mem_cons, List.not_mem_nil, or_false] at he
    rcases he with rfl | rfl | rfl | rfl | rfl
    · exact ⟨_, q1, fun v r => nomatch r⟩
    · exact ⟨_, q2, fun v r => nomatch r⟩
    · exact ⟨_, q3, fun v r => nomatch r⟩
    · exact q4.ob
    · exact q5.ob
  keep := fun i h h' st k => by
    obtain ⟨q1, q2, ⟨x, y, q3⟩, q4, q5⟩ := st
    exact ⟨k _ (by simp) _ q1, k _ (by simp) _ q2, ⟨x, y, k _ (by simp) _ q3⟩, q4.up fun o e => k _ (by simp) o e, q5.up fun o e => k _ (by simp) o e⟩
  item := by
    intro X eP ew eK calm i pins s σ H E I ff st hg
    subst eP ew eK
    obtain ⟨q1, q2, ⟨x0, y0, q3⟩, q4, q5⟩ := st
    obtain ⟨xs, ys, x, y, hX, hY, ex, ey⟩ := hg
    obtain ⟨is, rx, px⟩ := hX.read I
    obtain ⟨js, ry, py⟩ := hY.read I
    obtain ⟨v1, e1, r1⟩ := rx.get ex
    obtain ⟨v2, e2, r2⟩ := ry.get ey
    have lz : z < s.heap.objs.size := Heap.lt_size q1
    have no := I.ok.hd calm
    have b1 : i < is.toArray.size := by simpa using (List.getElem?_eq_some_iff.mp e1).1
    have b2 : i < js.toArray.size := by simpa using (List.getElem?_eq_some_iff.mp e2).1
    refine wpAny_pyNext_zipD2_item D (drB t (A := X.A.in1) no c a na is.toArray) (drB u (A := X.A.in1) no d b nb js.toArray) q1 q2 q3 ⟨q4, px⟩ ⟨q5, py⟩ b1 b2 ?_
    intro w1 w2 h' tk p1 p2 z' n' s1 s2 nw hsz hk
    have c1 : w1 = v1 := Option.some.inj ((show is.toArray[i]? = some w1 from p1).symm.trans (by simpa using e1))
    have c2 : w2 = v2 := Option.some.inj ((show js.toArray[i]? = some w2 from p2).symm.trans (by simpa using e2))
    subst c1 c2
    refine ⟨_, rfl, wpAny_letOwnedTupleGo_zip (s := { s with heap := h', toks := tk }) z' fun h'' z'' sb => ?_⟩
    have nw2 : h''.get? s.heap.objs.size = some { cls := .type "tuple", data := .seq #[w1, w2] } := (sb.2 _ (Nat.ne_of_gt lz)).trans nw
    have ok : ObjOk X.prog X.w (upd H s.heap.objs.size (.tup [x, y])) h'' s.heap.objs.size (.tup [x, y]) := ⟨by show 2 ≤ sizeLine; decide, [w1, w2], .cons r1 (.cons r2 .nil), ⟨_, nw2, rfl, _, rfl⟩⟩
    have I1 : Inv X pins σ (upd H s.heap.objs.size (.tup [x, y])) { s with heap := h'', toks := tk } := by
      refine I.turnedNew (t' := tk) (ch := [z, m, n, c, d]) (fun e o he f => ?_) ff (Nat.le_refl _) ok
      simp only [List.mem_cons, List.not_mem_nil, or_false, not_or] at he
      exact (sb.2 e he.1).trans (hk e o he.1 he.2.2.1 he.2.2.2.1 he.2.2.2.2 f)
    have zc : c ≠ z := fun e => D.zi1 e.symm
    have zd : d ≠ z := fun e => D.zi2 e.symm
    refine ⟨.ref s.heap.objs.size, _, I1, rfl, ⟨_, x, y, rfl, I.hok.fresh (Nat.le_refl _), rfl, fun l hl => by rw [hl.inj I hX]; exact ex, fun l hl => by rw [hl.inj I hY]; exact ey⟩, ⟨z'', ?_, ⟨w1, w2, ?_⟩, ?_, ?_⟩, fun e he => ?_⟩
    · exact (sb.2 _ D.TIz).trans (hk _ _ D.TIz D.TITO D.TIi1 D.TIi2 q2)
    · exact (sb.2 _ D.TOz).trans n'
    · exact s1.1.up fun o f => (sb.2 _ zc).trans f
    · exact s2.1.up fun o f => (sb.2 _ zd).trans f
    · obtain ⟨o, f, _⟩ : ∃ o, s.heap.get? e = some o ∧ True := by
        simp only [List.mem_cons, List.not_mem_nil, or_false] at he
        rcases he with rfl | rfl | rfl | rfl | rfl
        · exact ⟨_, q1, trivial⟩
        · exact ⟨_, q2, trivial⟩
        · exact ⟨_, q3, trivial⟩
        · obtain ⟨o, f, _⟩ := q4.ob; exact ⟨o, f, trivial⟩
        · obtain ⟨o, f, _⟩ := q5.ob; exact ⟨o, f, trivial⟩
      rw [upd_ne (Nat.ne_of_lt (Heap.lt_size f))]
      exact (ff e he).1
  done := by
    intro X eP ew eK calm i pins s σ H E I ff st hg
    subst eP ew eK
    obtain ⟨q1, q2, ⟨x0, y0, q3⟩, q4, q5⟩ := st
    obtain ⟨xs, ys, hX, hY, l1, l2, over⟩ := hg
    obtain ⟨is, rx, px⟩ := hX.read I
    obtain ⟨js, ry, py⟩ := hY.read I
    have no := I.ok.hd calm
    have g1 := rx.length
    have g2 := ry.length
    refine wpAny_pyNext_zipD2_end D (drB t (A := X.A.in1) no c a na is.toArray) (drB u (A := X.A.in1) no d b nb js.toArray) q1 q2 q3 ⟨q4, px⟩ ⟨q5, py⟩ (by rw [List.size_toArray]; omega) (by rw [List.size_toArray]; omega) ?_ fun h' tk hk => ⟨rfl, ?_⟩
    · rw [List.size_toArray, List.size_toArray]
      omega
    · refine I.turnedL (t' := tk) (ch := [z, m, n, c, d]) (fun e o he f => ?_) ff
      simp only [List.mem_cons, List.not_mem_nil, or_false, not_or] at he
      exact hk e o he.1 he.2.2.1 he.2.2.2.1 he.2.2.2.2 f
  self := fun A i s Q E st h => wpAny_pyIter_zip st.1 h
end Ov
set_option Elab.async false
set_option linter.all false
set_option maxRecDepth 100000
set_option maxHeartbeats 4000000
namespace Ov
open PySem L2 PySem.Spec PyProof.Rows
def iZipB (K : PySem.W.Frag) (ta : TA) : TI := fun σ H R => ta σ H fun vs H1 => ∃ (t u : Bool) (a b : Addr) (xs ys : List V), vs = [.ref a, .ref b] ∧ SqB t K H1 a xs ∧ SqB u K H1 b ys ∧ R (ItzB t u K a b) H1
theorem pi_zipB {X : Cx} {e1 e2 : Expr} {ta : TA} {p0 p1 p2 : Pos} {tgs : List Expr} {kk : Nat} (gl : Gl X "zip") (un : X.mg "zip" = none) (ha : PA X [e1, e2] ta)
    (st : starEach [e1, e2] X.env = (false, eval e1 X.env) :: starEach [e2] X.env := by rfl) (pl : (backTo p1 (starEach [e2] X.env)).any (·.1) = false := by rfl) :
    PI X (.Tuple tgs kk p2) (.Call (.Name "zip" p0) [e1, e2] [] p1) (iZipB X.K ta) := by
  refine ⟨fun pins s σ H R I h => ?_⟩
  refine Call_ (ld_blt I gl un boot_zip (callWith_type1 (thn (ha.run p1 pins s σ H _ I h) ?_) st pl))
  rintro us s1 ⟨vs, H1, J, rel, t, u, a, b, xs, ys, rfl, hX, hY, q⟩
  obtain ⟨v1, v2, rfl, r1, r2⟩ : ∃ v1 v2, us = [v1, v2] ∧ v1 = Value.ref a ∧ v2 = Value.ref b := by
    cases rel with
    | cons r rr => cases rr with | cons r' rr => cases rr; exact ⟨_, _, rfl, r, r'⟩
  subst r1 r2
  obtain ⟨is, _, px⟩ := hX.read J
  obtain ⟨js, _, py⟩ := hY.read J
  have la := px.lt
  have lb := py.lt
  refine zip_begins2 (bgB t a is.toArray) (bgB u b js.toArray) px py fun h' z m n c d _ hk => wpAny_pyIter_zip z ?_
  have J2 : Inv X pins σ H1 { s1 with heap := h' } := J.kept (t' := s1.toks) hk
  have sep : ZipSep2 (s1.heap.objs.size + 4) (s1.heap.objs.size + 2) (s1.heap.objs.size + 3) s1.heap.objs.size (s1.heap.objs.size + 1) [s1.heap.objs.size, a] [s1.heap.objs.size + 1, b] := zip_sep2 (fp1 := [a]) (fp2 := [b]) (fun e he => by rw [List.mem_singleton.mp he]; exact la) (fun e he => by rw [List.mem_singleton.mp he]; exact lb)
  refine ⟨_, [s1.heap.objs.size + 4, s1.heap.objs.size + 2, s1.heap.objs.size + 3, s1.heap.objs.size, s1.heap.objs.size + 1], _, _, H1, rfl, J2, turn_zipB sep (Nat.ne_of_lt la) (Nat.ne_of_lt (Nat.lt_succ_of_lt lb)), ⟨z, m, ⟨_, _, n⟩, .new c, .new d⟩, fun e he => ?_, q⟩
  have le : s1.heap.objs.size ≤ e := by
    simp only [List.mem_cons, List.not_mem_nil, or_false] at he
    rcases he with rfl | rfl | rfl | rfl | rfl
    · exact Nat.le_add_right _ _
    · exact Nat.le_add_right _ _
    · exact Nat.le_add_right _ _
    · exact Nat.le_refl _
    · exact Nat.le_add_right _ _
  exact J.fpOk le (J.hok.fresh le)
section
variable {K : PySem.W.Frag} {E : XK} {t u : Bool} {a b : Addr} {xs ys : List V}
theorem SqB.same {H H' : Hp} (s : Same H H') (h : SqB t K H a xs) : SqB t K H' a xs := by
  cases t with
  | true => exact seqT s h
  | false => exact rd_same s h
theorem da_sq {G : Hp} {v : V} {d : PyData} {ds : List PyData} (h : Da K G v d) (e : seqD d = some ds) : ∃ (t : Bool) (p : Addr) (vs : List V), v = .ref p ∧ SqB t K G p vs ∧ DaAll K G vs ds := by
  cases h with
  | lst q r => cases e; exact ⟨false, _, _, rfl, q, r⟩
  | tup q r => cases e; exact ⟨true, _, _, rfl, q.sq, r⟩
  | dct _ _ _ _ => cases e
  | dtk _ _ _ _ => cases e
  | non => cases e
  | bl _ => cases e
  | int _ => cases e
  | str _ => cases e
theorem walk_zipB {n : Nat} (hn : n = min xs.length ys.length) : Walk (ItzB t u K a b) n (fun H => SqB t K H a xs ∧ SqB u K H b ys) (YPair (fun i => xs[i]?) (fun i => ys[i]?)) := by
  subst hn
  refine ⟨fun i H hi q => ?_, fun H q => ⟨xs, ys, q.1, q.2, by omega, by omega, by omega⟩, fun i H v H' _ q y => ?_⟩
  · have k1 : i < xs.length := by omega
    have k2 : i < ys.length := by omega
    exact ⟨xs, ys, xs[i], ys[i], q.1, q.2, List.getElem?_eq_getElem k1, List.getElem?_eq_getElem k2⟩
  · obtain ⟨T, x, y', g1, g2, g3, g4, g5⟩ := y
    exact ⟨T, x, y', g1, g2, g3, g4 _ q.1, g5 _ q.2⟩
def zipM (as : List PyData) : Option (List PyData) :=
  match as with
  | [x, y] => (seqD x).bind fun ds => (seqD y).map fun es => pairUp ds es
  | _ => none
theorem OkI.zipB {t : TA} {fa : M (List R)} (o : OkA K E t fa) : OkI K E (iZipB K t) (argI zipM fa) := by
  refine ⟨?_⟩
  intro B σ H env l rs rp h R post
  refine o.seq rp h post.exn fun a e v H1 h1 r1 f1 q1 => ?_
  obtain ⟨ds, h2, h3⟩ := lift_step h1
  obtain ⟨out, h4, h5⟩ := lift_some h3
  subst h5
  have da := dds_ok q1 h2
  unfold zipM at h4
  split at h4
  · obtain ⟨es, e1, e2⟩ := Option.bind_eq_some_iff.mp h4
    obtain ⟨gs, e3, e4⟩ := Option.map_eq_some_iff.mp e2
    subst e4
    cases da with
    | cons d1 t1 =>
      cases t1 with
      | cons d2 t2 =>
        cases t2
        obtain ⟨k1, p, ws, rfl, qa, ha⟩ := da_sq d1 e1
        obtain ⟨k2, p', ws', rfl, qb, hb⟩ := da_sq d2 e3
        refine ⟨k1, k2, p, p', ws, ws', rfl, qa.same (off_sub _ _), qb.same (off_sub _ _), post _ H1 _ _ r1 f1 (walk_zipB (by rw [pair_len, daAll_len ha, daAll_len hb])) (fun H2 f => ⟨(qa.same f.keep).same (off_sub _ _), (qb.same f.keep).same (off_sub _ _)⟩) ?_⟩
        rintro i x H2 H3 d S fr ⟨T, u, w, rfl, hT, g3, g4, g5⟩ hd hs hS
        obtain ⟨x1, y1, j1, j2, rfl⟩ := pair_get hd
        obtain ⟨u', m1, m2⟩ := daAll_get ha j1
        obtain ⟨w', m3, m4⟩ := daAll_get hb j2
        cases m1.symm.trans g4
        cases m3.symm.trans g5
        exact pair_da (B := B) (l := l) (H1 := H1) hS hT g3 (m2.walk fr hs) (m4.walk fr hs)
  · cases h4
end
section
variable {X : Cx} {K : PySem.W.Frag} (hK : X.K = K)
include hK
theorem k_zipB {e1 e2 : Expr} {ta : TA} {p0 p1 p2 : Pos} {tgs : List Expr} {kk : Nat} (gl : Gl X "zip") (un : X.mg "zip" = none) (ha : PA X [e1, e2] ta)
    (st : starEach [e1, e2] X.env = (false, eval e1 X.env) :: starEach [e2] X.env := by rfl) (pl : (backTo p1 (starEach [e2] X.env)).any (·.1) = false := by rfl) :
    PI X (.Tuple tgs kk p2) (.Call (.Name "zip" p0) [e1, e2] [] p1) (iZipB K ta) := by subst hK; exact pi_zipB gl un ha st pl
end
end Ov
set_option Elab.async false
set_option linter.all false
set_option maxRecDepth 100000
set_option maxHeartbeats 4000000
namespace Ov
open PySem L2 PySem.Spec PyProof.Rows
/-! a zip whose last pair is kept by somebody: it makes a new one each time -/
section
variable {P : Program} {w : World} {A : Around} {E : Value → Shared → Prop} {s : Shared} {z m n c d T : Addr} {fp gp : List Addr} {n1 n2 i : Nat} {P1 P2 : Nat → Value → Prop} {S1 S2 : Nat → Heap → Prop} {f : Bool} {oT : Obj}
theorem zh_run {Q : Fin → Shared → Prop} (D : ZipSep2 z m n c d fp gp) (D1 : Draws P w A c fp n1 P1 S1) (D2 : Draws P w A d gp n2 P2 S2) (hz : IsZipHeld s.heap z m n T f) (hT : s.heap.get? T = some oT) (hm : IsTupOf2 s.heap m (.ref c) (.ref d)) (a1 : S1 i s.heap) (a2 : S2 i s.heap)
    (h : ∀ h1, IsZipHeld h1 z m n T true → Heap.SameBut z s.heap h1 → S1 i h1 → S2 i h1 → wpAny (model P w) A (Builtin.SmallTypes.nextOf (.ref c)) (fun x s2 => wpAny (model P w) A (Builtin.SmallTypes.nextOf (.ref d)) (fun y s3 => wpAny (model P w) A (newTuple [x, y]) (fun v s4 => Q (.done (.ret v)) s4) E s3) E s2) E { s with heap := h1 }) :
    wpAny (model P w) A (Builtin.«zip.__next__» ⟨[.ref z], []⟩) Q E s := by
  show wpAny _ _ (field (.ref z) 2 >>= _) _ _ _
  refine wpAny_bind (wpAny_field hz rfl (x := .bool false) rfl (show wpAny _ _ (field (.ref z) 3 >>= _) _ _ _ from ?_))
  refine wpAny_bind (wpAny_field hz rfl (x := .ref m) rfl (wpAny_bind (wpAny_seqItems hm rfl ?_)))
  refine (show wpAny _ _ (Builtin.SmallTypes.ownedTupleIsFree (.ref z) >>= _) _ _ _ from wpAny_bind (wpAny_tupleHeld_zip hz hT fun h1 z1 e1 => ?_))
  simp only [Bool.false_eq_true, if_false]
  refine wpAny_bind ?_
  rw [← Array.forIn_toList]
  simp only [List.forIn_cons, List.forIn_nil]
  have b1 := D1.over a1 e1 D.zf1
  have b2 := D2.over a2 e1 D.zf2
  refine wpAny_bind (wpAny_bind (wpAny_holding (show wpAny _ _ (Builtin.SmallTypes.nextOf (.ref c) >>= _) _ _ _ from wpAny_bind (wpAny_mono (h h1 z1 e1 b1 b2) (fun x s2 k2 => ?_) fun _ _ k => k))))
  refine wpAny_pure (wpAny_pure (wpAny_bind (wpAny_bind (wpAny_holding (show wpAny _ _ (Builtin.SmallTypes.nextOf (.ref d) >>= _) _ _ _ from wpAny_bind (wpAny_mono k2 (fun y s3 k3 => ?_) fun _ _ k => k))))))
  refine wpAny_pure (wpAny_pure (wpAny_pure (show wpAny _ _ (newTuple [x, y] >>= _) _ _ _ from wpAny_bind (wpAny_mono k3 (fun v s4 k4 => wpAny_pure k4) fun _ _ k => k))))
theorem zh_item {Q : Option Value → Shared → Prop} (D : ZipSep2 z m n c d fp gp) (D1 : Draws P w A.in1 c fp n1 P1 S1) (D2 : Draws P w A.in1 d gp n2 P2 S2) (hz : IsZipHeld s.heap z m n T f) (hT : s.heap.get? T = some oT) (hm : IsTupOf2 s.heap m (.ref c) (.ref d)) (a1 : S1 i s.heap) (a2 : S2 i s.heap) (l1 : i < n1) (l2 : i < n2)
    (q : ∀ x y h' tk, P1 i x → P2 i y → IsZipHeld h' z m n T true → S1 (i + 1) h' → S2 (i + 1) h' → IsTupOf2 h' s.heap.objs.size x y → (∀ e o, e ≠ z → e ≠ c → e ≠ d → s.heap.get? e = some o → h'.get? e = some o) → Q (some (.ref s.heap.objs.size)) { s with heap := h', toks := tk }) :
    wpAny (model P w) A (pyNext (.ref z)) Q E s := by
  have ty : s.TypeIs (.ref z) "zip" := ⟨_, hz, rfl⟩
  unfold pyNext
  refine wpAny_bind (wpAny_attempt (wpAny_callSpecial?_slot (name := Str.ofString "__next__") ty F.slot_zip_next (wpAny_call_entry F.slot_zip_next ty F.entry_zip_next (zh_run D D1 D2 hz hT hm a1 a2 fun h1 z1 e1 b1 b2 => ?_) (F.args_zip_next_1 _))))
  refine D1.item i _ _ _ l1 b1 fun x h2 t2 p1 c1 e2 => D2.item i _ _ _ l2 (D2.over b2 e2 D.sep1_2) fun y h3 t3 p2 c2 e3 => wpAny_newTuple ⟨_, rfl, wpAny_pure ?_⟩
  have sz : h3.objs.size = s.heap.objs.size := e3.1.trans (e2.1.trans e1.1)
  have z3 : IsZipHeld h3 z m n T true := e3.extBut _ _ D.zi2 (e2.extBut _ _ D.zi1 z1)
  have up : ∀ e o, h3.get? e = some o → (h3.push { cls := .type "tuple", data := .seq #[x, y] }).get? e = some o := fun e o k => Heap.get?_push_of_some _ k
  have new : IsTupOf2 (h3.push { cls := .type "tuple", data := .seq #[x, y] }) h3.objs.size x y := Heap.get?_push_size _ rfl
  show Q (some (.ref h3.objs.size)) _
  rw [sz] at new ⊢
  exact q x y _ _ p1 p2 (up _ _ z3) (D1.frame _ _ _ (D1.over c1 e3 D.sep2_1) fun b _ o k => up b o k) (D2.frame _ _ _ c2 fun b _ o k => up b o k) new fun e o k1 k2 k3 k => up e o (e3.extBut _ _ k3 (e2.extBut _ _ k2 (e1.extBut _ _ k1 k)))
theorem zh_end {Q : Option Value → Shared → Prop} (D : ZipSep2 z m n c d fp gp) (D1 : Draws P w A.in1 c fp n1 P1 S1) (D2 : Draws P w A.in1 d gp n2 P2 S2) (hz : IsZipHeld s.heap z m n T f) (hT : s.heap.get? T = some oT) (hm : IsTupOf2 s.heap m (.ref c) (.ref d)) (a1 : S1 i s.heap) (a2 : S2 i s.heap) (l1 : i ≤ n1) (l2 : i ≤ n2) (l3 : i = n1 ∨ i = n2)
    (q : ∀ h' tk, (∀ e o, e ≠ z → e ≠ c → e ≠ d → s.heap.get? e = some o → h'.get? e = some o) → Q none { s with heap := h', toks := tk }) :
    wpAny (model P w) A (pyNext (.ref z)) Q E s := by
  have ty : s.TypeIs (.ref z) "zip" := ⟨_, hz, rfl⟩
  unfold pyNext
  refine wpAny_bind (wpAny_attempt (wpAny_callSpecial?_slot (name := Str.ofString "__next__") ty F.slot_zip_next (wpAny_call_entry F.slot_zip_next ty F.entry_zip_next (zh_run D D1 D2 hz hT hm a1 a2 fun h1 z1 e1 b1 b2 => ?_) (F.args_zip_next_1 _))))
  by_cases k1 : i = n1
  · subst k1
    refine D1.done _ _ _ b1 fun h2 e x2 ⟨o, ho, hc⟩ => wpAny_bind (wpAny_isInstance (T := "StopIteration") (b := true) ⟨o, ho, hc⟩ isSubtype_stop (wpAny_pure (q _ s.toks fun b o j1 j2 _ k => x2 _ _ j2 (e1.extBut _ _ j1 k))))
  · have k2 : i = n2 := l3.resolve_left k1
    subst k2
    refine D1.item i _ _ _ (by omega) b1 fun x h2 t2 p1 c1 e2 => D2.done _ _ _ (D2.over b2 e2 D.sep1_2) fun h3 e x3 ⟨o, ho, hc⟩ => ?_
    exact wpAny_bind (wpAny_isInstance (T := "StopIteration") (b := true) ⟨o, ho, hc⟩ isSubtype_stop (wpAny_pure (q _ _ fun b o j1 j2 j3 k => x3 _ _ j3 (e2.extBut _ _ j2 (e1.extBut _ _ j1 k)))))
end
end Ov
set_option Elab.async false
set_option linter.all false
set_option maxRecDepth 100000
set_option maxHeartbeats 4000000
namespace Ov
open PySem L2 PySem.Spec PyProof.Rows
/-! list(zip(a, b)) -/
def Zs (h : Heap) (H : Hp) (z m n : Addr) : Prop := (IsZip h z m n .none ∧ ∃ x y, IsTupOf2 h n x y) ∨ ∃ (T : Addr) (f : Bool) (x y : V), IsZipHeld h z m n T f ∧ H T = some (.tup [x, y])
structure Lz (X : Cx) (pins : List (Addr × Obj)) (σ : L2.St) (t u : Bool) (a b : Addr) (xs ys : List V) (z m n c d : Addr) (H0 : Hp) (i : Nat) (H : Hp) (s : Shared) : Prop where
  inv : Inv X pins σ H s
  fa : SqB t X.K H0 a xs
  fb : SqB u X.K H0 b ys
  base : Same H0 H
  free : ∀ e ∈ [z, m, n, c, d], FpOk X pins H e
  zs : Zs s.heap H z m n
  tm : IsTupOf2 s.heap m (.ref c) (.ref d)
  i1 : ItB t s.heap c a i
  i2 : ItB u s.heap d b i
section
variable {X : Cx} {pins : List (Addr × Obj)} {σ : L2.St} {t u : Bool} {a b z m n c d : Addr} {xs ys : List V} {H0 H : Hp} {i : Nat} {s : Shared} {A : Around} {E : Value → Shared → Prop}
theorem Lz.obj (L : Lz X pins σ t u a b xs ys z m n c d H0 i H s) : ∀ e ∈ [z, m, n, c, d], e = n ∨ ∃ o, s.heap.get? e = some o := fun e he => by
  simp only [List.mem_cons, List.not_mem_nil, or_false] at he
  rcases he with rfl | rfl | rfl | rfl | rfl
  · rcases L.zs with ⟨k, _⟩ | ⟨T, f, x, y, k, _⟩
    · exact .inr ⟨_, k⟩
    · exact .inr ⟨_, k⟩
  · exact .inr ⟨_, L.tm⟩
  · exact .inl rfl
  · obtain ⟨o, k, _⟩ := L.i1.ob; exact .inr ⟨o, k⟩
  · obtain ⟨o, k, _⟩ := L.i2.ob; exact .inr ⟨o, k⟩
theorem tup_live (I : Inv X pins σ H s) {T : Addr} {x y : V} (h : H T = some (.tup [x, y])) : ∃ o, s.heap.get? T = some o := by
  obtain ⟨_, its, _, o, e, _⟩ := I.hok _ _ h
  exact ⟨o, e⟩
theorem Lz.item {Q : Option Value → Shared → Prop} {x y : V} (L : Lz X pins σ t u a b xs ys z m n c d H0 i H s) (hA : A.handled = none) (D : ZipSep2 z m n c d [c, a] [d, b]) (na : a ≠ c) (nb : b ≠ d) (ln : n < s.heap.objs.size) (ex : xs[i]? = some x) (ey : ys[i]? = some y)
    (q : ∀ T s', H T = none → n < s'.heap.objs.size → Lz X pins σ t u a b xs ys z m n c d H0 (i + 1) (upd H T (.tup [x, y])) s' → Q (some (.ref T)) s') : wpAny (model X.prog X.w) A (pyNext (.ref z)) Q E s := by
  obtain ⟨is, rx, px⟩ := (L.fa.same L.base).read L.inv
  obtain ⟨js, ry, py⟩ := (L.fb.same L.base).read L.inv
  obtain ⟨v1, e1, r1⟩ := rx.get ex
  obtain ⟨v2, e2, r2⟩ := ry.get ey
  have b1 : i < is.toArray.size := by simpa using (List.getElem?_eq_some_iff.mp e1).1
  have b2 : i < js.toArray.size := by simpa using (List.getElem?_eq_some_iff.mp e2).1
  have fr : H s.heap.objs.size = none := L.inv.hok.fresh (Nat.le_refl _)
  have lt : ∀ e ∈ [z, m, n, c, d], e < s.heap.objs.size := fun e he => by
    rcases L.obj e he with rfl | ⟨o, k⟩
    · exact ln
    · exact Heap.lt_size k
  have zc : c ≠ z := fun e => D.zi1 e.symm
  have zd : d ≠ z := fun e => D.zi2 e.symm
  have fin : ∀ (w1 w2 : Value) (h' : Heap) (tk : Nat), is.toArray[i]? = some w1 → js.toArray[i]? = some w2 → Zs h' (upd H s.heap.objs.size (.tup [x, y])) z m n → ItB t h' c a (i + 1) → ItB u h' d b (i + 1) → IsTupOf2 h' s.heap.objs.size w1 w2 →
      (∀ e o, e ≠ z → e ≠ n → e ≠ c → e ≠ d → s.heap.get? e = some o → h'.get? e = some o) → Q (some (.ref s.heap.objs.size)) { s with heap := h', toks := tk } := fun w1 w2 h' tk g1 g2 z' s1 s2 nw hk => by
    have c1 : w1 = v1 := Option.some.inj (g1.symm.trans (by simpa using e1))
    have c2 : w2 = v2 := Option.some.inj (g2.symm.trans (by simpa using e2))
    subst c1 c2
    have ok : ObjOk X.prog X.w (upd H s.heap.objs.size (.tup [x, y])) h' s.heap.objs.size (.tup [x, y]) := ⟨by show 2 ≤ sizeLine; decide, [w1, w2], .cons r1 (.cons r2 .nil), ⟨_, nw, rfl, _, rfl⟩⟩
    have I1 : Inv X pins σ (upd H s.heap.objs.size (.tup [x, y])) { s with heap := h', toks := tk } := by
      refine L.inv.turnedNew (t' := tk) (ch := [z, m, n, c, d]) (fun e o he k => ?_) L.free (Nat.le_refl _) ok
      simp only [List.mem_cons, List.not_mem_nil, or_false, not_or] at he
      exact hk e o he.1 he.2.2.1 he.2.2.2.1 he.2.2.2.2 k
    refine q _ _ fr (Nat.lt_trans ln (Heap.lt_size nw)) ⟨I1, L.fa, L.fb, L.base.trans (same_new fr _), fun e he => ⟨?_, (L.free e he).2⟩, z', hk _ _ D.TIz D.TITO D.TIi1 D.TIi2 L.tm, s1, s2⟩
    rw [upd_ne (Nat.ne_of_lt (lt e he))]
    exact (L.free e he).1
  rcases L.zs with ⟨k, x0, y0, k0⟩ | ⟨T, f, x0, y0, k, k0⟩
  · refine wpAny_pyNext_zipD2_item D (drB t (A := A.in1) hA c a na is.toArray) (drB u (A := A.in1) hA d b nb js.toArray) k L.tm k0 ⟨L.i1, px⟩ ⟨L.i2, py⟩ b1 b2 ?_
    intro w1 w2 h' tk p1 p2 z' n' s1 s2 nw hsz hk
    exact fin w1 w2 h' tk p1 p2 (.inr ⟨s.heap.objs.size, false, x, y, z', upd_same⟩) s1.1 s2.1 nw hk
  · obtain ⟨oT, kT⟩ := tup_live L.inv k0
    refine zh_item D (drB t (A := A.in1) hA c a na is.toArray) (drB u (A := A.in1) hA d b nb js.toArray) k kT L.tm ⟨L.i1, px⟩ ⟨L.i2, py⟩ b1 b2 ?_
    intro w1 w2 h' tk p1 p2 z' s1 s2 nw hk
    refine fin w1 w2 h' tk p1 p2 (.inr ⟨T, true, x0, y0, z', ?_⟩) s1.1 s2.1 nw fun e o q1 _ q3 q4 => hk e o q1 q3 q4
    rw [upd_ne (ne_of_none k0 fr)]
    exact k0
theorem Lz.over {Q : Option Value → Shared → Prop} (L : Lz X pins σ t u a b xs ys z m n c d H0 i H s) (hA : A.handled = none) (D : ZipSep2 z m n c d [c, a] [d, b]) (na : a ≠ c) (nb : b ≠ d) (l1 : i ≤ xs.length) (l2 : i ≤ ys.length) (l3 : xs.length = i ∨ ys.length = i)
    (q : ∀ s', Inv X pins σ H s' → Q none s') : wpAny (model X.prog X.w) A (pyNext (.ref z)) Q E s := by
  obtain ⟨is, rx, px⟩ := (L.fa.same L.base).read L.inv
  obtain ⟨js, ry, py⟩ := (L.fb.same L.base).read L.inv
  have g1 := rx.length
  have g2 := ry.length
  have o1 : i ≤ is.toArray.size := by rw [List.size_toArray]; omega
  have o2 : i ≤ js.toArray.size := by rw [List.size_toArray]; omega
  have o3 : i = is.toArray.size ∨ i = js.toArray.size := by rw [List.size_toArray, List.size_toArray]; omega
  have fin : ∀ (h' : Heap) (tk : Nat), (∀ e o, e ≠ z → e ≠ n → e ≠ c → e ≠ d → s.heap.get? e = some o → h'.get? e = some o) → Q none { s with heap := h', toks := tk } := fun h' tk hk => by
    refine q _ (L.inv.turnedL (t' := tk) (ch := [z, m, n, c, d]) (fun e o he k => ?_) L.free)
    simp only [List.mem_cons, List.not_mem_nil, or_false, not_or] at he
    exact hk e o he.1 he.2.2.1 he.2.2.2.1 he.2.2.2.2 k
  rcases L.zs with ⟨k, x0, y0, k0⟩ | ⟨T, f, x0, y0, k, k0⟩
  · exact wpAny_pyNext_zipD2_end D (drB t (A := A.in1) hA c a na is.toArray) (drB u (A := A.in1) hA d b nb js.toArray) k L.tm k0 ⟨L.i1, px⟩ ⟨L.i2, py⟩ o1 o2 o3 fun h' tk hk => fin h' tk hk
  · obtain ⟨oT, kT⟩ := tup_live L.inv k0
    exact zh_end D (drB t (A := A.in1) hA c a na is.toArray) (drB u (A := A.in1) hA d b nb js.toArray) k kT L.tm ⟨L.i1, px⟩ ⟨L.i2, py⟩ o1 o2 o3 fun h' tk hk => fin h' tk fun e o q1 _ q3 q4 => hk e o q1 q3 q4
/-- the list grows -/
theorem Lz.push (L : Lz X pins σ t u a b xs ys z m n c d H0 i H s) {S : Addr} {vs : List V} {v : V} {w1 : Value} (h0 : H0 S = none) (hS : H S = some (.lst vs)) (rv : RelV v w1) (hz : vs.length < sizeLine) (no : ∀ p x y, H p = some (.tup [x, y]) → p ≠ S) {its : List Value} {k : Nat} (e : s.heap.get? S = some { cls := .type "list", data := .seq its.toArray k }) (r : Vals vs its) :
    Lz X pins σ t u a b xs ys z m n c d H0 i (upd H S (.lst (vs ++ [v]))) { s with heap := s.heap.update S (Obj.mapSeq (·.push w1)) } := by
  have ne : ∀ q ∈ [z, m, n, c, d], q ≠ S := fun q hq z' => by
    have := (L.free q hq).1
    rw [z', hS] at this
    cases this
  have up : ∀ q o, q ≠ S → s.heap.get? q = some o → (s.heap.update S (Obj.mapSeq (·.push w1))).get? q = some o := fun q o h k => (Heap.get?_update_other _ _ (Ne.symm h)).trans k
  refine ⟨L.inv.lset (its' := its ++ [w1]) (t' := s.toks) hS e (by simp) (r.append (.cons rv .nil)) (by rw [List.length_append, List.length_singleton]; omega), L.fa, L.fb, fun q o k => ?_, fun q hq => ⟨?_, (L.free q hq).2⟩, ?_, up _ _ (ne m (by simp)) L.tm, L.i1.up fun o k => up _ o (ne c (by simp)) k, L.i2.up fun o k => up _ o (ne d (by simp)) k⟩
  · rw [upd_ne (ne_of_none k h0)]
    exact L.base q o k
  · rw [upd_ne (ne q hq)]
    exact (L.free q hq).1
  · rcases L.zs with ⟨j, x0, y0, j0⟩ | ⟨T, f, x0, y0, j, j0⟩
    · exact .inl ⟨up _ _ (ne z (by simp)) j, x0, y0, up _ _ (ne n (by simp)) j0⟩
    · refine .inr ⟨T, f, x0, y0, up _ _ (ne z (by simp)) j, ?_⟩
      rw [upd_ne (no T x0 y0 j0)]
      exact j0
end
end Ov
set_option Elab.async false
set_option linter.all false
set_option maxRecDepth 100000
set_option maxHeartbeats 4000000
namespace Ov
open PySem L2 PySem.Spec PyProof.Rows
section
variable {X : Cx} {pins : List (Addr × Obj)} {σ : L2.St} {t u : Bool} {a b z m n c d : Addr} {xs ys : List V} {H0 H : Hp} {i : Nat} {s : Shared} {A : Around} {E : Value → Shared → Prop}
theorem Lz.ty (L : Lz X pins σ t u a b xs ys z m n c d H0 i H s) : s.TypeIs (.ref z) "zip" := by
  rcases L.zs with ⟨k, _⟩ | ⟨T, f, x, y, k, _⟩
  · exact ⟨_, k, rfl⟩
  · exact ⟨_, k, rfl⟩
/-- another state of the list -/
theorem Lz.at {S : Addr} {vs : List V} (L : Lz X pins σ t u a b xs ys z m n c d H0 i H s) (hS : H S = some (.lst vs)) {s' : Shared} (I' : Inv X pins σ H s') (k : ∀ q o, q ≠ S → s.heap.get? q = some o → s'.heap.get? q = some o) : Lz X pins σ t u a b xs ys z m n c d H0 i H s' := by
  have ne : ∀ q ∈ [z, m, n, c, d], q ≠ S := fun q hq e => by
    have := (L.free q hq).1
    rw [e, hS] at this
    cases this
  refine ⟨I', L.fa, L.fb, L.base, L.free, ?_, k _ _ (ne m (by simp)) L.tm, L.i1.up fun o e => k _ o (ne c (by simp)) e, L.i2.up fun o e => k _ o (ne d (by simp)) e⟩
  rcases L.zs with ⟨j, x0, y0, j0⟩ | ⟨T, f, x0, y0, j, j0⟩
  · exact .inl ⟨k _ _ (ne z (by simp)) j, x0, y0, k _ _ (ne n (by simp)) j0⟩
  · exact .inr ⟨T, f, x0, y0, k _ _ (ne z (by simp)) j, j0⟩
end
end Ov
set_option Elab.async false
set_option linter.all false
set_option maxRecDepth 100000
set_option maxHeartbeats 4000000
namespace Ov
open PySem L2
theorem units65 {k : Nat} {A : Around} (r : Room k A) : A.units + 65 < cLine := by have := r.un; omega
end Ov
set_option Elab.async false
set_option linter.all false
set_option maxRecDepth 100000
set_option maxHeartbeats 4000000
set_option Elab.async false
set_option linter.all false
set_option maxRecDepth 100000
set_option maxHeartbeats 4000000
namespace Ov
open PySem L2
/-! the plain functions, evaluated: every word applied to the slots -/
def cont {α β : Type} (o : Option (Rs α)) (f : α → M β) : Option (Rs β) :=
  match o with
  | none => none
  | some (.ok a e) => f a e
  | some (.ex C g d) => some (.ex C g d)
section
variable {α β : Type} {env e : En}
theorem v_bind (x : M α) (f : α → M β) : M.bind x f env = cont (x env) f := rfl
theorem v_ok (a : α) (f : α → M β) : cont (some (.ok a e)) f = f a e := rfl
theorem v_none (f : α → M β) : cont none f = none := rfl
theorem v_pure (a : α) : M.pure a env = some (.ok a env) := rfl
theorem v_lift (a : α) : lift (some a) env = some (.ok a env) := rfl
theorem v_liftN : lift (none : Option α) env = none := rfl
theorem v_con (d : PyData) : con d env = some (.ok (.dat d) env) := rfl
def gk (o : Option (Option Wv)) (i : Nat) : Option R :=
  match o with
  | some (some (.dat d)) => some (.dat d)
  | some (some (.own _)) => some (.slot i)
  | some (some (.exc C f d)) => some (.exc C f d)
  | some (some (.dct _)) => some (.slot i)
  | some (some (.dci _)) => some (.slot i)
  | some (some (.dtk _)) => some (.slot i)
  | some (some (.dts _)) => some (.slot i)
  | some (some (.pin _ d)) => some (.dat d)
  | _ => none
theorem v_get (i : Nat) : get i env = lift (gk env[i]? i) env := by
  unfold get gk
  cases env[i]? with
  | none => rfl
  | some o => cases o with
    | none => rfl
    | some w => cases w <;> rfl
theorem v_gkd (d : PyData) (i : Nat) : gk (some (some (.dat d))) i = some (.dat d) := rfl
theorem v_gko (xs : List It1) (i : Nat) : gk (some (some (.own xs))) i = some (.slot i) := rfl
theorem v_gkc (xs : List Int) (i : Nat) : gk (some (some (.dct xs))) i = some (.slot i) := rfl
theorem v_vwd (d : PyData) : vw (.dat d) env = some (.ok d env) := rfl
def ok1 (o : Option (Option Wv)) : Option (List PyData) :=
  match o with
  | some (some (.own xs)) => itds xs
  | _ => none
theorem v_vws (i : Nat) : vw (.slot i) env = lift ((ok1 env[i]?).map .list) env := by
  unfold vw ok1 lift
  simp only
  cases env[i]? with
  | none => rfl
  | some o => cases o with
    | none => rfl
    | some w =>
      cases w with
      | own xs => simp only; cases itds xs <;> rfl
      | dat _ => rfl
      | exc _ _ _ => rfl
      | dct _ => rfl
      | dci _ => rfl
      | dtk _ => rfl
      | dts _ => rfl
      | pin _ _ => rfl
      | dtn _ => rfl
      | nd _ => rfl
theorem v_ok1 (ds : List PyData) : ok1 (some (some (.own (dats ds)))) = some ds := itds_dats ds
theorem v_ownD (i : Nat) : ownD i env = lift (ok1 env[i]?) env := by
  unfold ownD ok1 lift
  cases env[i]? with
  | none => rfl
  | some o => cases o with
    | none => rfl
    | some w =>
      cases w with
      | own xs => simp only
      | dat _ => rfl
      | exc _ _ _ => rfl
      | dct _ => rfl
      | dci _ => rfl
      | dtk _ => rfl
      | dts _ => rfl
      | pin _ _ => rfl
      | dtn _ => rfl
      | nd _ => rfl
def dk1 (o : Option (Option Wv)) : Option (List Int) :=
  match o with
  | some (some (.dct xs)) => some xs
  | _ => none
theorem v_dctD (i : Nat) : dctD i env = lift (dk1 env[i]?) env := by
  unfold dctD dk1 lift
  cases env[i]? with
  | none => rfl
  | some o => cases o with
    | none => rfl
    | some w => cases w <;> rfl
theorem v_dk1 (ks : List Int) : dk1 (some (some (.dct ks))) = some ks := rfl
theorem v_setOwn (i : Nat) (ds : List PyData) : setOwn i ds env = some (.ok () (env.set i (some (.own (dats ds))))) := rfl
theorem v_putM (i : Nat) (w : Wv) (h : i < env.length) : putM i w env = some (.ok () (env.set i (some w))) := if_pos h
theorem v_op2 (fo : PyData → PyData → Option PyData) (fa fb : M R) : op2 fo fa fb env = cont (fa env) fun a => M.bind fb fun b => M.bind (vw a) fun x => M.bind (vw b) fun y => M.bind (lift (fo x y)) fun d => M.pure (.dat d) := rfl
theorem v_op1 (fo : PyData → Option PyData) (fa : M R) : op1 fo fa env = cont (fa env) fun a => M.bind (vw a) fun x => M.bind (lift (fo x)) fun d => M.pure (.dat d) := rfl
theorem v_anil : anil env = some (.ok [] env) := rfl
theorem v_acons (fa : M R) (fr : M (List R)) : acons fa fr env = cont (fa env) fun a => M.bind fr fun r => M.pure (a :: r) := rfl
theorem v_vws0 : vws [] env = some (.ok [] env) := rfl
theorem v_vwsC (r : R) (rs : List R) : vws (r :: rs) env = cont (vw r env) fun d => M.bind (vws rs) fun ds => M.pure (d :: ds) := rfl
theorem v_cb (fo : List PyData → Option PyData) (fa : M (List R)) : cb fo fa env = cont (fa env) fun a => M.bind (vws a) fun ds => M.bind (lift (fo ds)) fun d => M.pure (.dat d) := rfl
theorem v_tupD (fa : M (List R)) : tupD fa env = cont (fa env) fun a => M.bind (lift (dds a)) fun ds => M.bind (lift (sz ds.length)) fun _ => M.pure (.dat (.tuple ds)) := rfl
theorem v_lstD (fa : M (List R)) : lstD fa env = cont (fa env) fun a => M.bind (lift (dds a)) fun ds => M.bind (lift (sz ds.length)) fun _ => M.pure (.dat (.list ds)) := rfl
theorem v_lstW (fa : M (List R)) : lstW fa env = cont (fa env) fun a => M.bind (lift (dds a)) fun ds => M.bind (lift (sz ds.length)) fun _ => M.pure (.own (dats ds)) := rfl
theorem v_listW (fa : M (List R)) : listW fa env = cont (fa env) fun a => M.bind (vws a) fun ds => M.bind (lift (match ds with | [a] => seqD a | _ => none)) fun es => M.pure (.own (dats es)) := rfl
theorem v_dds0 : dds [] = some [] := rfl
theorem v_ddsC (d : PyData) (r : List R) : dds (.dat d :: r) = (dds r).map (d :: ·) := rfl
def asB : PyData → Option Bool
  | .bool b => some b
  | _ => none
theorem v_asB (b : Bool) : asB (.bool b) = some b := rfl
theorem v_tb1 (fa : M R) : tb1 fa env = cont (fa env) fun a => M.bind (vw a) fun d => lift (asB d) := by
  unfold tb1
  rw [v_bind]
  congr 1
  funext a
  congr 1
  funext d
  cases d <;> rfl
theorem v_andT (fa fb : M Bool) : andT fa fb env = cont (fa env) fun a => if a = true then fb else M.pure false := rfl
theorem v_orT (fa fb : M Bool) : orT fa fb env = cont (fa env) fun a => if a = true then M.pure true else fb := rfl
theorem v_notT (fa : M Bool) : notT fa env = cont (fa env) fun a => M.pure (!a) := rfl
theorem v_andV (fa fb : M R) : andV fa fb env = cont (tb1 fa env) fun a => if a = true then fb else M.pure (ofB false) := rfl
theorem v_orV (fa fb : M R) : orV fa fb env = cont (tb1 fa env) fun a => if a = true then M.pure (ofB true) else fb := rfl
theorem v_notV (fa : M R) : notV fa env = cont (tb1 fa env) fun a => M.pure (ofB !a) := rfl
theorem v_ofB (b : Bool) : ofB b = .dat (.bool b) := rfl
theorem v_ifE (ft : M Bool) (fa fb : M R) : ifE ft fa fb env = cont (ft env) fun c => if c = true then fa else fb := rfl
theorem v_pl (f : M R) : pl f env = cont (f env) fun r => lift (toW r) := rfl
theorem v_toW (d : PyData) : toW (.dat d) = some (.dat d) := rfl
theorem v_fz (f : M Wv) : fz f env = cont (f env) fun w => lift (ofW w) := rfl
theorem v_ofWd (d : PyData) : ofW (.dat d) = some (.dat d) := rfl
theorem itD_dats (ds : List PyData) : (dats ds).map itD = ds := by
  unfold dats
  rw [List.map_map]
  exact List.map_id ds
theorem v_ofWo (ds : List PyData) : ofW (.own (dats ds)) = some (.dat (.list ds)) := by
  show some (R.dat (.list ((dats ds).map itD))) = _
  rw [itD_dats]
theorem v_nxt : nxt env = some (.ok .nx env) := rfl
theorem v_thenS (f g : M Fl) : thenS f g env = cont (f env) fun fl => match fl with | .nx => g | o => M.pure o := rfl
theorem v_exprS (f : M R) : exprS f env = cont (f env) fun _ => M.pure .nx := rfl
theorem v_retS (f : M Wv) : retS f env = cont (f env) fun w => M.pure (.rt w) := rfl
theorem v_retN : retN env = some (.ok (.rt (.dat .none)) env) := rfl
theorem v_ifS (c : M Bool) (f g : M Fl) : ifS c f g env = cont (c env) fun b => if b = true then f else g := rfl
theorem v_setS (i : Nat) (f : M Wv) : setS i f env = cont (f env) fun w => M.bind (putM i w) fun _ => M.pure .nx := rfl
theorem v_parS (i j : Nat) (f g : M Wv) : parS i j f g env = cont (f env) fun v => M.bind g fun w => M.bind (putM i v) fun _ => M.bind (putM j w) fun _ => M.pure .nx := rfl
theorem v_setIx (i : Nat) (fe fk : M R) : setIx i fe fk env = cont (fe env) fun r => M.bind (lift (asD r)) fun d => M.bind (ownD i) fun _ => M.bind fk fun k => M.bind (lift (asI k)) fun k => M.bind (ownD i) fun ds => M.bind (lift (ixN ds.length k)) fun j => M.bind (setOwn i (ds.set j d)) fun _ => M.pure .nx := rfl
theorem v_asD (d : PyData) : asD (.dat d) = some d := rfl
theorem v_asI (i : Int) : asI (.dat (.int i)) = some i := rfl
theorem v_mthE (i : Nat) (fo : List PyData → List PyData → Option (List PyData × PyData)) (fa : M (List R)) : mthE i fo fa env = cont (ownD i env) fun _ => M.bind fa fun rs => M.bind (lift (dds rs)) fun as => M.bind (ownD i) fun ds => M.bind (lift (fo ds as)) fun r => M.bind (setOwn i r.1) fun _ => M.pure (.dat r.2) := rfl
theorem v_callA (F : List PyData → Option Wv) (fa : M (List R)) : callA F fa env = cont (fa env) fun rs => M.bind (lift (dds rs)) fun ds => lift (F ds) := rfl
theorem v_callB (i : Nat) (F : List PyData → List PyData → Option (Wv × List PyData)) (fa : M (List R)) : callB i F fa env = cont (ownD i env) fun _ => M.bind fa fun rs => M.bind (lift (dds rs)) fun ds => M.bind (ownD i) fun bs => M.bind (lift (F bs ds)) fun r => M.bind (setOwn i r.2) fun _ => M.pure r.1 := rfl
theorem v_moveS (i : Nat) (xs : List It1) (h : env[i]? = some (some (.own xs))) : moveS i env = some (.ok (.rt (.own xs)) (env.set i none)) := by
  unfold moveS
  rw [h]
theorem v_forS (fi : M (List PyData)) (p : PyData → En → Option En) (body : M Fl) : forS fi p body env = cont (fi env) fun ds => forM p body ds := rfl
theorem v_argI (fo : List PyData → Option (List PyData)) (fa : M (List R)) : argI fo fa env = cont (fa env) fun rs => M.bind (lift (dds rs)) fun ds => lift (fo ds) := rfl
theorem v_seqI (f : M R) : seqI f env = cont (f env) fun r => M.bind (lift (asD r)) fun d => lift (seqD d) := rfl
theorem v_slD (fa : M R) (fl fh : M (Option Int)) : slD fa fl fh env = cont (fa env) fun a => M.bind fl fun lo => M.bind fh fun hi => M.bind (vw a) fun x => M.bind (lift (cutD x lo hi)) fun d => M.pure (.dat d) := rfl
theorem v_poN : poN env = some (.ok none env) := rfl
theorem v_poS (fa : M R) : poS fa env = cont (fa env) fun a => M.bind (lift (asI a)) fun i => M.pure (some i) := rfl
theorem v_isiE (T : String) (fa : M R) : isiE T fa env = cont (fa env) fun r => M.bind (vw r) fun d => M.bind (lift (kitD T d)) fun b => M.pure (ofB b) := rfl
theorem v_isiE2 (A B : String) (fa : M R) : isiE2 A B fa env = cont (fa env) fun r => M.bind (vw r) fun d => M.bind (lift (kitD A d)) fun a => M.bind (lift (kitD B d)) fun b => M.pure (ofB (a || b)) := rfl
theorem v_isNE (n : Bool) (fa : M R) : isNE n fa env = cont (fa env) fun r => M.bind (lift (isNR r)) fun b => M.pure (ofB (n ^^ b)) := rfl
theorem v_dnew : dnew env = some (.ok (.dct []) env) := rfl
theorem v_dinT (n : Bool) (i : Nat) (fk : M R) : dinT n i fk env = cont (fk env) fun r => M.bind (lift (asI r)) fun k => M.bind (dctD i) fun ks => M.pure (n ^^ decide (k ∈ ks)) := rfl
theorem v_dputS (i : Nat) (fk : M R) : dputS i fk env = cont (dctD i env) fun _ => M.bind fk fun r => M.bind (lift (asI r)) fun k => M.bind (dctD i) fun ks => M.bind (lift (chk (decide (ks.length < 1000)))) fun _ => M.bind (putM i (.dct (putT ks k))) fun _ => M.pure .nx := rfl
theorem v_sortDct (i : Nat) : sortDct i env = cont (dctD i env) fun ks => M.bind (lift (chk (decide (ks.length < 64)))) fun _ => M.pure (.dat (.list ((sortI ks).map .int))) := rfl
theorem v_rgE (fr : M (Int × Int)) : rgE fr env = cont (fr env) fun r => M.bind (lift (chk (decide (-(2 ^ 62) ≤ r.1 ∧ r.1 < 2 ^ 62 ∧ -(2 ^ 62) ≤ r.2 ∧ r.2 < 2 ^ 62 ∧ (r.2 - r.1).toNat ≤ 1000000)))) fun _ => M.pure (.dat (.tuple ((rngL r.1 r.2).map .int))) := rfl
theorem v_rg2 (fa fb : M R) : rg2 fa fb env = cont (fa env) fun a => M.bind fb fun b => M.bind (lift (asI a)) fun i => M.bind (lift (asI b)) fun j => M.pure (i, j) := rfl
theorem v_unS (p : PyData → En → Option En) (f : M R) : unS p f env = cont (f env) fun r => M.bind (lift (asD r)) fun d => M.bind (liftE (p d)) fun _ => M.pure .nx := rfl
theorem v_catW (fa fb : M R) : catW fa fb env = cont (fa env) fun a => M.bind fb fun b => M.bind (vw a) fun x => M.bind (vw b) fun y => M.bind (lift (catD x y)) fun d => M.bind (lift (match d with | .list ds => some ds | _ => none)) fun ds => M.pure (.own (dats ds)) := rfl
theorem v_chainE (fo fo' : PyData → PyData → Option PyData) (fa fb fc : M R) : chainE fo fo' fa fb fc env = cont (fa env) fun a => M.bind fb fun b => M.bind (vw a) fun x => M.bind (vw b) fun y => M.bind (lift (fo x y)) fun d => M.bind (lift (asB d)) fun k => if k = true then M.bind fc fun c => M.bind (vw b) fun y' => M.bind (vw c) fun z => M.bind (lift (fo' y' z)) fun d' => M.pure (.dat d') else M.pure (ofB false) := by
  unfold chainE
  have : (fun (b : R) (d : PyData) => (match d with | .bool k => if k = true then M.bind fc fun c => M.bind (vw b) fun y' => M.bind (vw c) fun z => M.bind (lift (fo' y' z)) fun d' => M.pure (.dat d') else M.pure (ofB false) | _ => fun _ => none : M R)) = fun b d => M.bind (lift (asB d)) fun k => if k = true then M.bind fc fun c => M.bind (vw b) fun y' => M.bind (vw c) fun z => M.bind (lift (fo' y' z)) fun d' => M.pure (.dat d') else M.pure (ofB false) := by
    funext b d
    cases d <;> rfl
  have h2 : ∀ b, (fun (d : PyData) => (match d with | .bool k => if k = true then M.bind fc fun c => M.bind (vw b) fun y' => M.bind (vw c) fun z => M.bind (lift (fo' y' z)) fun d' => M.pure (.dat d') else M.pure (ofB false) | _ => fun _ => none : M R)) = fun d => M.bind (lift (asB d)) fun k => if k = true then M.bind fc fun c => M.bind (vw b) fun y' => M.bind (vw c) fun z => M.bind (lift (fo' y' z)) fun d' => M.pure (.dat d') else M.pure (ofB false) := fun b => congrFun this b
  show M.bind _ _ env = _
  rw [v_bind]
  congr 1
  funext a
  congr 1
  funext b
  congr 1
  funext x
  congr 1
  funext y
  congr 1
  exact h2 b
/-! operators on numbers -/
theorem v_add (i j : Int) : addD (.int i) (.int j) = some (.int (i + j)) := rfl
theorem v_sub (i j : Int) : subD (.int i) (.int j) = some (.int (i - j)) := rfl
theorem v_mul (i j : Int) (h : pMul i j = true) : mulD (.int i) (.int j) = some (.int (i * j)) := if_pos h
theorem v_div (i j : Int) (h : pDiv i j = true) : divD (.int i) (.int j) = some (.int (i / j)) := if_pos h
theorem v_mod (i j : Int) (h : pMod i j = true) : modD (.int i) (.int j) = some (.int (i % j)) := if_pos h
theorem v_pow (i j : Int) (h : pPow i j = true) : powD (.int i) (.int j) = some (.int (i ^ j.toNat)) := if_pos h
theorem v_lt (i j : Int) : ltD (.int i) (.int j) = some (.bool (decide (i < j))) := rfl
theorem v_le (i j : Int) : leD (.int i) (.int j) = some (.bool (decide (i ≤ j))) := rfl
theorem v_gt (i j : Int) : gtD (.int i) (.int j) = some (.bool (decide (j < i))) := rfl
theorem v_ge (i j : Int) : geD (.int i) (.int j) = some (.bool (decide (j ≤ i))) := rfl
theorem v_eqI (n : Bool) (i j : Int) : eqA n (.int i) (.int j) = some (.bool (n ^^ decide (i = j))) := rfl
theorem v_eqB (n : Bool) (i j : Bool) : eqA n (.bool i) (.bool j) = some (.bool (n ^^ decide (i = j))) := rfl
theorem v_eqS (n : Bool) (i j : Str) : eqA n (.str i) (.str j) = some (.bool (n ^^ decide (i = j))) := rfl
theorem v_ixL (ds : List PyData) (i : Int) : ixD (.list ds) (.int i) = atI ds i := rfl
theorem v_ixT (ds : List PyData) (i : Int) : ixD (.tuple ds) (.int i) = atI ds i := rfl
theorem v_lenL (ds : List PyData) : lenD [.list ds] = some (.int ds.length) := rfl
theorem v_lenT (ds : List PyData) : lenD [.tuple ds] = some (.int ds.length) := rfl
theorem v_abs (i : Int) : absD [.int i] = some (.int (if i < 0 then -i else i)) := rfl
theorem v_intI (i : Int) : intD [.int i] = some (.int i) := rfl
theorem v_intB (k : Bool) : intD [.bool k] = some (.int (if k then 1 else 0)) := rfl
theorem v_min (i j : Int) : minD [.int i, .int j] = some (.int (if j < i then j else i)) := rfl
theorem v_max (i j : Int) : maxD [.int i, .int j] = some (.int (if j > i then j else i)) := rfl
theorem v_sz (n : Nat) (h : n ≤ 1000000) : sz n = some () := if_pos h
theorem v_chk : chk true = some () := rfl
theorem v_app (ds : List PyData) (a : PyData) (h : ds.length + 1 ≤ 1000000) : appD ds [a] = some (ds ++ [a], .none) := by
  show (sz (ds.length + 1)).map _ = _
  rw [v_sz _ h]
  rfl
end
theorem v_cat (xs ys : List PyData) (h : xs.length + ys.length ≤ 1000000) : catD (.list xs) (.list ys) = some (.list (xs ++ ys)) := by
  show (sz _).map _ = _
  rw [v_sz _ h]
  rfl
theorem then_nx {f g : M Fl} {env e : En} (h : f env = some (.ok .nx e)) : thenS f g env = g e := by
  rw [v_thenS, h]
  rfl
/-- a function's run, by its body's -/
theorem runA_eq {np n : Nat} {fb : M Fl} {ds : List PyData} {w : Wv} (hl : ds.length = np) (h : ∃ e, fb (env0 ds (n - ds.length)) = some (.ok (.rt w) e)) : runA np n fb ds = some w := by
  obtain ⟨e, h⟩ := h
  unfold runA
  rw [if_pos hl, h]
theorem runB_eq {np n : Nat} {fb : M Fl} {bs ds bs' : List PyData} {w : Wv} (hl : ds.length + 1 = np) (h : ∃ e, fb (some (.own (dats bs)) :: env0 ds (n - (ds.length + 1))) = some (.ok (.rt w) (some (.own (dats bs')) :: e))) : runB np n fb bs ds = some (w, bs') := by
  obtain ⟨e, h⟩ := h
  unfold runB
  rw [if_pos hl, h]
  show (itds (dats bs')).map _ = _
  rw [itds_dats]
  rfl
end Ov
set_option Elab.async false
set_option linter.all false
set_option maxRecDepth 100000
set_option maxHeartbeats 4000000
namespace Ov
open PySem L2
/-! loops and comprehensions, a turn at a time -/
section
variable {env e e2 : En}
theorem while_go {c : M Bool} {b : M Fl} {k : Nat} (h1 : c env = some (.ok true e)) (h2 : b e = some (.ok .nx e2)) : whileM c b (k + 1) env = whileM c b k e2 := by
  simp only [whileM, h1, h2, if_true]
theorem while_end {c : M Bool} {b : M Fl} {k : Nat} (h1 : c env = some (.ok false e)) : whileM c b (k + 1) env = some (.ok .nx e) := by
  simp only [whileM, h1, Bool.false_eq_true, if_false]
theorem for_nil {p : PyData → En → Option En} {b : M Fl} : forM p b [] env = some (.ok .nx env) := rfl
theorem for_go {p : PyData → En → Option En} {b : M Fl} {d : PyData} {ds : List PyData} (h1 : p d env = some e) (h2 : b e = some (.ok .nx e2)) : forM p b (d :: ds) env = forM p b ds e2 := by
  simp only [forM, h1, h2]
theorem comp_yes {p : PyData → En → Option En} {ft : M Bool} {fe : M R} {vs : List Nat} {d y : PyData} {ds acc : List PyData} {e3 : En} (h1 : p d env = some e) (h2 : ft e = some (.ok true e2)) (h3 : fe e2 = some (.ok (.dat y) e3)) (h4 : freeB e3 vs = true) (h5 : acc.length < 1000000) :
    compM p ft fe vs (d :: ds) acc env = compM p ft fe vs ds (acc ++ [y]) (wipeE e3 vs) := by
  simp only [compM, h1, h2, h3, h4, h5, if_true, true_and, and_self]
theorem comp_no {p : PyData → En → Option En} {ft : M Bool} {fe : M R} {vs : List Nat} {d : PyData} {ds acc : List PyData} (h1 : p d env = some e) (h2 : ft e = some (.ok false e2)) (h4 : freeB e2 vs = true) :
    compM p ft fe vs (d :: ds) acc env = compM p ft fe vs ds acc (wipeE e2 vs) := by
  simp only [compM, h1, h2, h4, if_true, Bool.false_eq_true, if_false]
/-- nothing changes but the list -/
theorem comp_all {p : PyData → En → Option En} {ft : M Bool} {fe : M R} {vs : List Nat} (g : PyData → PyData) (t : PyData → Bool) : ∀ (ds acc : List PyData), acc.length + ds.length < 1000000 →
    (∀ d ∈ ds, ∃ e, p d env = some e ∧ ft e = some (.ok (t d) e) ∧ (t d = true → fe e = some (.ok (.dat (g d)) e)) ∧ freeB e vs = true ∧ wipeE e vs = env) → compM p ft fe vs ds acc env = some (.ok (acc ++ (ds.filter t).map g) env)
  | [], acc, _, _ => by simp [compM, M.pure]
  | d :: ds, acc, hl, h => by
    obtain ⟨e, h1, h2, h3, h4, h5⟩ := h d (List.mem_cons_self ..)
    rw [List.length_cons] at hl
    cases q : t d with
    | true =>
      rw [q] at h2
      rw [comp_yes h1 h2 (h3 q) h4 (by omega), h5, comp_all g t ds (acc ++ [g d]) (by rw [List.length_append]; show acc.length + 1 + _ < _; omega) fun x hx => h x (List.mem_cons_of_mem _ hx)]
      simp [q]
    | false =>
      rw [q] at h2
      rw [comp_no h1 h2 h4, h5, comp_all g t ds acc (by omega) fun x hx => h x (List.mem_cons_of_mem _ hx)]
      simp [q]
theorem comp_map {p : PyData → En → Option En} {ft : M Bool} {fe : M R} {vs : List Nat} (g : PyData → PyData) (ds acc : List PyData) (hl : acc.length + ds.length < 1000000)
    (h : ∀ d ∈ ds, ∃ e, p d env = some e ∧ ft e = some (.ok true e) ∧ fe e = some (.ok (.dat (g d)) e) ∧ freeB e vs = true ∧ wipeE e vs = env) : compM p ft fe vs ds acc env = some (.ok (acc ++ ds.map g) env) := by
  have := comp_all (env := env) (p := p) (ft := ft) (fe := fe) (vs := vs) g (fun _ => true) ds acc hl fun d hd => by
    obtain ⟨e, h1, h2, h3, h4, h5⟩ := h d hd
    exact ⟨e, h1, h2, fun _ => h3, h4, h5⟩
  rw [List.filter_eq_self.mpr fun _ _ => rfl] at this
  exact this
theorem lc_eq {fi : M (List PyData)} {p : PyData → En → Option En} {ft : M Bool} {fe : M R} {vs : List Nat} {ds out : List PyData} {e3 : En} (h1 : fi env = some (.ok ds e)) (h2 : freeB e vs = true) (h3 : wipeE e vs = e2) (h4 : compM p ft fe vs ds [] e2 = some (.ok out e3)) :
    lcW fi p ft fe vs env = some (.ok (.own (dats out)) e3) := by
  show cont (fi env) _ = _
  rw [h1]
  show (if freeB e vs = true then (M.bind (compM p ft fe vs ds []) fun out => M.pure (Wv.own (dats out))) (wipeE e vs) else none) = _
  rw [if_pos h2, h3]
  show cont (compM p ft fe vs ds [] e2) _ = _
  rw [h4]
  rfl
end
theorem shp_list (ns : List Int) : shp (.list (ns.map .int)) = true := sh_ints ns
theorem shp_int (i : Int) : shp (.int i) = true := by simp [shp, SeqAt.shaped, PyData.canLay0, PyData.depth]
end Ov
set_option Elab.async false
set_option linter.all false
set_option maxRecDepth 100000
set_option maxHeartbeats 4000000
namespace Ov
open PySem L2
/-! a comprehension of two clauses, the second one over a range -/
section
variable {K : PySem.W.Frag} {E : XK}
def PostJ (K : PySem.W.Frag) (E : XK) (B : Addr → Prop) (σ : St) (H : Hp) (l : List Addr) (rs : Rs (List PyData)) (R : It → Hp → Prop) : Prop :=
  match rs with
  | .ok ds env' => ∀ J H' Y, Rep K B σ H' env' l → Fr l H H' → Walk J ds.length (fun _ => True) Y → (∀ i x H2 H3 d, Y i H2 x H3 → ds[i]? = some d → H3 = H2 ∧ ∃ k : Int, x = .int k ∧ d = .int k) → R J H'
  | .ex C f d => Exn K E B H l C f d
theorem PostJ.exn {B : Addr → Prop} {σ : St} {H : Hp} {l : List Addr} {rs : Rs (List PyData)} {R : It → Hp → Prop} (h : PostJ K E B σ H l rs R) : ∀ C f d, rs = .ex C f d → Exn K E B H l C f d := fun C f d e => by subst e; exact h
/-! what it does -/
end
end Ov
set_option Elab.async false
set_option linter.all false
set_option maxRecDepth 100000
set_option maxHeartbeats 4000000
set_option Elab.async false
set_option linter.all false
set_option maxRecDepth 100000
set_option maxHeartbeats 4000000
namespace Ov
open PySem L2
theorem vals_getD : ∀ {zs : List V} {ws : List Value}, Vals zs ws → ∀ i : Nat, RelV (zs.getD i .non) (ws.getD i .none)
  | _, _, .nil, i => by simp; rfl
  | _, _, .cons r t, 0 => r
  | _, _, .cons r t, i + 1 => by
    have := vals_getD t i
    simpa using this
theorem vals_perm {zs : List V} {ws : List Value} (r : Vals zs ws) : ∀ π : List Nat, Vals (π.map fun i => zs.getD i .non) (π.map fun i => ws.getD i .none)
  | [] => .nil
  | i :: q => .cons (vals_getD r i) (vals_perm r q)
theorem kbn_perm {K : PySem.W.Frag} {x qual : Str} {st : Stmt} {f : Addr} {fd : FuncData} {ps : List Str} (F : Fun K x qual st f fd) (ks : List Str) (π : List Nat)
    (h : ∀ (kV doc pm : Value) (an : Option Addr) (cdv ct : Value) (ws : List Value), ws.length = ks.length → bindArgs (PySem.W.fnOf x qual (defArgs st) (defBody st) (defScope st) .none kV doc pm an cdv ct) ⟨[], ks.zip ws⟩ = pure (ps.zip (π.map fun i => ws.getD i .none))) :
    KBn K fd ps 0 ks (fun _ ws => π.map fun i => ws.getD i .none) (fun _ zs => π.map fun i => zs.getD i .non) := by
  obtain ⟨oc, od, kV, doc, pm, an, cdv, ct, osl, rfl, lk, hcd⟩ := F.ex
  refine ⟨fun s us ws _ l1 l2 => ?_, fun _ r2 => vals_perm r2 π⟩
  cases us with
  | nil => exact .of_eq (h kV doc pm an cdv ct ws l2)
  | cons _ _ => cases l1
theorem law_sp {K : PySem.W.Frag} {H : Hp} {a : Addr} {ns : List Int} {E : XK} (F : List PyData → Option Wv) (hF : F [.list (ns.map .int)] = some (.dat (.bool true))) (h : SqL K H a (ns.map V.int)) : spA K F [.ref a] H (fun v _ => v = .bl true) E := by
  refine ⟨fun _ => False, [.list (ns.map .int)], .dat (.bool true), .cons (.lst (rd_same (fun b o e => (off_ne (fun z => z)).trans e) h) (da_ints _)) .nil, fun _ z => z.elim, hF, fun v H' lw s q nd no => ?_⟩
  obtain ⟨_, d⟩ := q
  cases d
  rfl
end Ov
set_option Elab.async false
set_option linter.all false
set_option maxRecDepth 100000
set_option maxHeartbeats 4000000
set_option Elab.async false
set_option linter.all false
set_option maxRecDepth 100000
set_option maxHeartbeats 4000000
namespace Ov
open PySem L2
/-! errors: raised, handed on, caught and kept -/
section
variable {K : PySem.W.Frag} {E : XK} {bx : Bool}
/-! try: x = ..; except (A, B, ..) as error: caught = error -/
def noOwn (env : En) : Bool := env.all fun s => !isOwn (some s)
theorem rpe_nil {H G : Hp} : ∀ {σ : St} {env : En} {l : List Addr}, RpE K H G σ env l → noOwn env = true → l = []
  | [], [], l, h, _ => h
  | s :: σ, e :: env, l, ⟨a, b, z, h1, h2⟩, hn => by
    have hn : (!isOwn (some e) && env.all fun s => !isOwn (some s)) = true := by rw [← hn]; rfl
    obtain ⟨n1, n2⟩ := (Bool.and_eq_true _ _).mp hn
    have hb := rpe_nil h2 n2
    subst hb
    have ha : a = [] := by
      cases e with
      | none => exact h1
      | some w =>
        obtain ⟨v, _, h1⟩ := h1
        cases w with
        | dat d => exact h1.1
        | own xs => cases n1
        | exc C f d => exact h1.1
        | dct ks => cases n1
        | dci ks => cases n1
        | dtk ks => cases n1
        | dts ks => cases n1
        | pin _ _ => exact h1.1
        | dtn _ => cases n1
        | nd _ => exact h1.1
    rw [z, ha]
    rfl
def isEmp : Option (Option Wv) → Bool
  | some none => true
  | _ => false
theorem isEmp_ok {x : Option (Option Wv)} (h : isEmp x = true) : x = some none := by
  cases x with
  | none => cases h
  | some y => cases y with
    | none => rfl
    | some _ => cases h
def keepS (i j m : Nat) (cs : List Addr) (f : M Wv) : M Fl := fun env =>
  match f env with
  | some (.ok w e) => (M.bind (putM i w) fun _ => M.pure Fl.nx) e
  | some (.ex C fl d) => if C ∈ cs ∧ noOwn env = true ∧ m < env.length ∧ j < env.length ∧ j ≠ m ∧ isEmp env[j]? = true then some (.ok .nx (env.set m (some (.exc C fl d)))) else none
  | none => none
/-- as OkW, at given slots -/
structure OkWat (K : PySem.W.Frag) (E : XK) (σ : St) (t : TE) (f : M Wv) : Prop where
  run : ∀ {B : Addr → Prop} {H : Hp} {env : En} {l : List Addr} {rs : Rs Wv}, Rep K B σ H env l → f env = some rs → ∀ {Q : VK}, PostW K E B σ H l rs Q → t σ H Q
theorem OkS.keep {i j m : Nat} {cs : List Addr} {te : WX → TE} {tt : Value → Value → Bool} {f : M Wv} (o : ∀ (W : WX) (σ : St), OkWat K (fun cls d H' => W cls d σ H') σ (te W) f)
    (hc : ∀ C ∈ cs, ∃ k, Cl K C k) (hx : ∀ C ∈ cs, ∀ c ∈ cs.map Value.ref, PySem.W.exmOne K (.ref C) c = some (tt (.ref C) c)) (ht : ∀ C ∈ cs, (cs.map Value.ref).any (tt (.ref C)) = true) :
    OkS K E false (fun D σ H => tAsg (te (wKeep tt K (cs.map Value.ref) j (fun _ _ _ => tAsg (tVar j) (gName m)) D)) (gName i) D σ H) (keepS i j m cs f) := by
  refine ⟨?_⟩
  intro B σ H env l rs rp h D post
  unfold keepS at h
  cases hf : f env with
  | none => rw [hf] at h; cases h
  | some z =>
    rw [hf] at h
    cases z with
    | ok w e =>
      refine (o _ _).run rp hf fun v H' lw r1 f1 q1 nd fr => ?_
      obtain ⟨hi, h2⟩ := putM_step h
      cases h2
      obtain ⟨l', r', mm⟩ := r1.put hi q1 nd fun b z => ⟨fun y => rp.fresh (fr b z) (.inr y), fun y => rp.fresh (fr b z) (.inl y)⟩
      exact post _ H' l' r' ⟨f1, fun b z => (mm b z).imp id (fr b)⟩ fun z => by cases z
    | ex C fl d =>
      simp only at h
      split at h
      case isFalse => cases h
      rename_i hh
      obtain ⟨hC, hn, hm, hj, jm, ej⟩ := hh
      cases h
      have l0 := rpe_nil rp.rp hn
      subst l0
      obtain ⟨k, cl⟩ := hc C hC
      have sl : σ.length = env.length := rp.len
      have tail : ∀ (od : Option Addr) (H' : Hp) (v : V), Fr [] H H' → (∀ a, H' a = none → CauF K (off B (upd H' a (exg a C od))) a C fl v) → (fl ≠ "" → Da K (off B H') v d) → wKeep tt K (cs.map Value.ref) j (fun _ _ _ => tAsg (tVar j) (gName m)) D (.ref C) od σ H' := by
        intro od H' v f1 ca dv
        have s1 : Same H H' := fun b o e => f1 b o (fun z => by cases z) e
        refine ⟨C, rfl, hx C hC, ht C hC, fun a na => ?_⟩
        have sj : (σ.set j (some (.ref a)))[j]? = some (some (.ref a)) := by rw [List.getElem?_set_self (by omega)]
        refine ⟨.ref a, sj, ?_⟩
        have s2 : Same H' (upd H' a (exg a C od)) := same_new na _
        have r2 : Rep K B σ (upd H' a (exg a C od)) env [] := (rp.same s1).same s2
        show D.nx ((((σ.set j (some (.ref a))).set m (some (.ref a))).set j none)) (upd H' a (exg a C od))
        refine post _ _ [] ?_ (Fr2.of (fun b o n e => s2 _ _ (s1 _ _ e))) fun z => by cases z
        have sub : Same (off B H') (off (un (un B []) []) (upd H' a (exg a C od))) := by
          rw [un_nil, un_nil]
          exact off_mono (fun b z n => absurd z n) fun b o n e => s2 _ _ e
        have r3 : Rep K (un B []) σ (upd H' a (exg a C od)) env [] := by rw [un_nil]; exact r2
        obtain ⟨l', r4, mm⟩ := r3.put (i := m) (v := .ref a) (w := .exc C fl d) hm ⟨rfl, a, v, rfl, by rw [un_nil, un_nil]; exact ca a na, fun z => Da.same sub d (dv z)⟩ List.nodup_nil fun b z => by cases z
        have e' : l' = [] := by
          cases l' with
          | nil => rfl
          | cons b _ => rcases mm b (List.mem_cons_self ..) with z | z <;> cases z
        subst e'
        refine ⟨r4.rp.any (by simp) fun p w hp => ?_, r4.nd, r4.out, r4.tb⟩
        by_cases pj : p = j
        · subst pj
          rw [List.getElem?_set_ne (fun z => jm z.symm), isEmp_ok ej] at hp
          cases hp
        · rw [List.getElem?_set_ne (fun z => pj z.symm)]
          by_cases pm : p = m
          · subst pm
            rw [List.getElem?_set_self (by rw [List.length_set]; omega), List.getElem?_set_self (by omega)]
          · rw [List.getElem?_set_ne (fun z => pm z.symm), List.getElem?_set_ne (fun z => pj z.symm), List.getElem?_set_ne (fun z => pm z.symm)]
      refine (o _ _).run rp hf ⟨fun hne dx H' v f1 nB hd dv => tail (some dx) H' v f1 (fun a na => .inl ⟨hne, k, dx, cl, ?_, ?_⟩) fun _ => dv, fun he H' f1 => tail none H' .non f1 (fun a na => .inr ⟨he, k, cl, ?_⟩) fun z => absurd he z⟩
      · exact (off_ne fun z => ((rp.same fun b o e => f1 b o (fun z => by cases z) e).fresh na) (.inl z)).trans upd_same
      · exact (off_ne nB).trans ((upd_ne fun z => by rw [z, na] at hd; cases hd).trans hd)
      · exact (off_ne fun z => ((rp.same fun b o e => f1 b o (fun z => by cases z) e).fresh na) (.inl z)).trans upd_same
end
end Ov
set_option Elab.async false
set_option linter.all false
set_option maxRecDepth 100000
set_option maxHeartbeats 4000000
set_option Elab.async false
set_option linter.all false
set_option maxRecDepth 100000
set_option maxHeartbeats 4000000
set_option Elab.async false
set_option linter.all false
set_option maxRecDepth 100000
set_option maxHeartbeats 4000000
namespace Ov
open PySem L2
/-! several values at once, some of them lists of their own -/
inductive RvAll (K : PySem.W.Frag) (H G : Hp) : List V → List Wv → List Addr → Prop
  | nil : RvAll K H G [] [] []
  | cons {v : V} {w : Wv} {vs : List V} {ws : List Wv} {a b : List Addr} : RpW K H G v w a → RvAll K H G vs ws b → RvAll K H G (v :: vs) (w :: ws) (a ++ b)
section
variable {K : PySem.W.Frag} {E : XK} {bx : Bool}
theorem RvAll.mv {H H' G G' : Hp} (s : Same G G') : ∀ {vs : List V} {ws : List Wv} {l : List Addr}, RvAll K H G vs ws l → (∀ q ∈ l, H' q = H q) → RvAll K H' G' vs ws l
  | _, _, _, .nil, _ => .nil
  | _, _, _, .cons q r, k => .cons (q.mv s fun c z => k c (List.mem_append_left _ z)) (RvAll.mv s r fun c z => k c (List.mem_append_right _ z))
theorem RvAll.trk {H G : Hp} : ∀ {vs : List V} {ws : List Wv} {l : List Addr}, RvAll K H G vs ws l → ∀ q ∈ l, ∃ o, H q = some o ∧ NT o
  | _, _, _, .nil, q, z => by cases z
  | _, _, _, .cons h r, q, z => (List.mem_append.mp z).elim (fun z => RpW.trk h q z) fun z => RvAll.trk r q z
theorem RvAll.len {H G : Hp} : ∀ {vs : List V} {ws : List Wv} {l : List Addr}, RvAll K H G vs ws l → vs.length = ws.length
  | _, _, _, .nil => rfl
  | _, _, _, .cons _ r => by rw [List.length_cons, List.length_cons, RvAll.len r]
def PostV (K : PySem.W.Frag) (E : XK) (B : Addr → Prop) (σ : St) (H : Hp) (l : List Addr) (rs : Rs (List Wv)) (Q : List V → Hp → Prop) : Prop :=
  match rs with
  | .ok ws env' => ∀ vs H' lw, Rep K (un B lw) σ H' env' l → Fr l H H' → RvAll K H' (off (un (un B lw) l) H') vs ws lw → lw.Nodup → (∀ b ∈ lw, H b = none) → Q vs H'
  | .ex C f d => Exn K E B H l C f d
structure OkV (K : PySem.W.Frag) (E : XK) (t : TA) (f : M (List Wv)) : Prop where
  run : ∀ {B : Addr → Prop} {σ : St} {H : Hp} {env : En} {l : List Addr} {rs : Rs (List Wv)}, Rep K B σ H env l → f env = some rs → ∀ {Q : List V → Hp → Prop}, PostV K E B σ H l rs Q → t σ H Q
theorem PostV.exn {B : Addr → Prop} {σ : St} {H : Hp} {l : List Addr} {rs : Rs (List Wv)} {Q : List V → Hp → Prop} (h : PostV K E B σ H l rs Q) : ∀ C f d, rs = .ex C f d → Exn K E B H l C f d := fun C f d e => by subst e; exact h
theorem OkV.seq {α : Type} {ta : TA} {fa : M (List Wv)} {g : List Wv → M α} (oa : OkV K E ta fa) {B : Addr → Prop} {σ : St} {H : Hp} {env : En} {l : List Addr} {rs : Rs α} (r : Rep K B σ H env l) (h : (M.bind fa g) env = some rs) {Q : List V → Hp → Prop}
    (hx : ∀ C f d, rs = .ex C f d → Exn K E B H l C f d) (hq : ∀ a e v H' lw, g a e = some rs → Rep K (un B lw) σ H' e l → Fr l H H' → RvAll K H' (off (un (un B lw) l) H') v a lw → lw.Nodup → (∀ b ∈ lw, H b = none) → Q v H') : ta σ H Q := by
  rcases bind_some h with ⟨a, e, h1, h2⟩ | ⟨C, f, d, h1, h2⟩
  · exact oa.run r h1 (fun v H' lw r' fr q n1 n2 => hq a e v H' lw h2 r' fr q n1 n2)
  · exact oa.run r h1 (hx C f d h2)
def wnil : M (List Wv) := M.pure []
def wcons (f : M Wv) (g : M (List Wv)) : M (List Wv) := M.bind f fun a => M.bind g fun as => M.pure (a :: as)
theorem OkV.nil : OkV K E tNil wnil := by
  refine ⟨?_⟩
  intro B σ H env l rs rp h Q post
  cases h
  exact post [] H [] (by rw [un_nil]; exact rp) (Fr.refl _ _) .nil List.nodup_nil fun b z => by cases z
theorem OkV.cons {ta : TE} {tr : TA} {fa : M Wv} {fr : M (List Wv)} (oa : OkW K E ta fa) (or : OkV K E tr fr) : OkV K E (tCons ta tr) (wcons fa fr) := by
  refine ⟨?_⟩
  intro B σ H env l rs rp h Q post
  refine oa.seq rp h post.exn fun w1 e1 v1 H1 l1 h1 r1 f1 q1 nd1 fr1 => ?_
  have n1 : ∀ b ∈ l1, ¬ un B l b := fun b z => rp.fresh (fr1 b z)
  have ex1 : ∀ C f d, rs = .ex C f d → Exn K E (un B l1) H1 l C f d := fun C f d e => by
    have := (post.exn C f d e).later f1
    exact this.wide
  refine or.seq r1 h1 ex1 fun ws e2 vs H2 l2 h2 r2 f2 q2 nd2 fr2 => ?_
  cases h2
  have n2 : ∀ b ∈ l2, ¬ un (un B l1) l b := fun b z => r1.fresh (fr2 b z)
  refine post (v1 :: vs) H2 (l1 ++ l2) (by rw [← un_app]; exact r2) (f1.trans f2) (.cons ?_ (by rw [← un_app]; exact q2)) ?_ fun b z => ?_
  · rw [← un_app]
    refine q1.mv (off_mono (fun b z n => ?_) fun b o n e => f2 b o (fun z => n (.inr z)) e) fun b z => ?_
    · rcases z with (z | z) | z
      · exact absurd (.inl z) n
      · exact fr2 b z
      · exact absurd (.inr z) n
    · obtain ⟨o, e, _⟩ := q1.trk b z
      rw [e]
      exact f2 b o (fun y => n1 b z (.inr y)) e
  · exact List.nodup_append.mpr ⟨nd1, nd2, fun x hx y hy e => n2 y hy (.inl (.inr (e ▸ hx)))⟩
  · rcases List.mem_append.mp z with z | z
    · exact fr1 b z
    · cases q : H b with
      | none => rfl
      | some o =>
        have := f1 b o (fun y => n2 b z (.inr y)) q
        rw [fr2 b z] at this
        cases this
end
end Ov
set_option Elab.async false
set_option linter.all false
set_option maxRecDepth 100000
set_option maxHeartbeats 4000000
namespace L2
open PySem PySem.Spec PyProof.Rows
theorem ovMul1 (l : Addr) (items : Array Value) (n : Nat) (dd : Option Addr) (sl : Array (Option Value)) (u : Tok) :
    Meets (Builtin.«tuple.__mul__» ⟨[.ref l, .int 1 u], []⟩) (fun _ R s => s.heap.get? l = some { cls := .type "tuple", dict := dd, data := .seq items n, slots := sl } ∧ R (.ok (.ret (Value.ref l))) s) :=
  .of_wp fun prog w A R s h => by
    obtain ⟨hp, g, d, tk, os⟩ := s
    obtain ⟨hl, h⟩ := h
    have c1 : (items.isEmpty || (1 : Int) == 1) = true := by simp
    wp_walk using wpAny_loadPart' hl
    repeat (first
      | (refine wpAny_ite_true (decide_eq_true (by rw [c1])) ?_; wp_walk using wpAny_loadPart' hl)
      | (refine wpAny_ite_false (decide_eq_false (by decide)) ?_; wp_walk using wpAny_loadPart' hl))
    exact ⟨_, rfl, h⟩
theorem ovMul0 (l : Addr) (items : Array Value) (n : Nat) (dd : Option Addr) (sl : Array (Option Value)) (u : Tok) (hi : items.isEmpty = false) :
    Meets (Builtin.«tuple.__mul__» ⟨[.ref l, .int 0 u], []⟩) (fun _ R s => s.heap.get? l = some { cls := .type "tuple", dict := dd, data := .seq items n, slots := sl } ∧ R (.ok (.ret (Value.ref s.heap.objs.size))) { s with heap := s.heap.push { cls := Value.type "tuple", data := Data.seq #[] }, toks := s.toks }) :=
  .of_wp fun prog w A R s h => by
    obtain ⟨hp, g, d, tk, os⟩ := s
    obtain ⟨hl, h⟩ := h
    have f1 := AutoSeq1.idx_int
    have c1 : (items.isEmpty || (0 : Int) == 1) = false := by rw [hi]; rfl
    have c2 : (decide ((0 : Int) ≤ 0) || items.isEmpty) = true := rfl
    wp_walk using wpAny_loadPart' hl
    repeat (first
      | (refine wpAny_ite_false (decide_eq_false (by rw [c1]; exact Bool.false_ne_true)) ?_; wp_walk using wpAny_loadPart' hl)
      | (refine wpAny_ite_true (decide_eq_true c2) ?_; wp_walk using wpAny_loadPart' hl)
      | (refine wpAny_ite_false (decide_eq_false (by decide)) ?_; wp_walk using wpAny_loadPart' hl))
    exact ⟨_, rfl, h⟩
section
variable {X : Cx}
def ovRepT (K : PySem.W.Frag) : R2 := fun x y H Q => ∃ l k xs, x = .ref l ∧ y = .int k ∧ Ov.TP H l xs ∧ xs ≠ [] ∧ 0 ≤ k ∧ k ≤ 1000 ∧ xs.length ≤ 1000 ∧ ∀ p H', Same H H' → Ov.TP H' p (List.replicate k.toNat xs).flatten → Q (.ref p) H'
theorem op_ovRepT : OpR X (binaryOp .Mult) (ovRepT X.K) := by
  intro pins s σ H x y v u Q I rx ry h
  obtain ⟨l, k, xs, rfl, rfl, hT, hne, h1, h2, hz, q⟩ := h
  by_cases k0 : k = 0
  · subst k0
    cases rx
    obtain ⟨t, rfl⟩ := ry
    obtain ⟨its, r, ⟨⟨cls, dd, data, sl⟩, ho, hc, n, hd⟩, hs⟩ := I.tuple hT.sq
    simp only at hc hd
    subst hc hd
    have hi : its.toArray.isEmpty = false := by
      cases its with
      | nil =>
        have : xs.length = 0 := r.length
        exact absurd (List.eq_nil_of_length_eq_zero this) hne
      | cons a b => rfl
    refine wpAny_binaryOp_repeat_ref (T := "tuple") (U := "int") (by decide) ⟨_, ho, rfl⟩ (fun s' => typeIs_int s' 0 t) noFill_tuple_mul F.fills_int_mul F.slot_int_rmul repeat_tuple F.slot_int_index.lookup
      (call_meets F.slot_int_rmul (typeIs_int s 0 t) F.entry_int_rmul (F.args_int_rmul_2 _ _) (int_rmul_tuple 0 t l its.toArray n dd sl)
        ⟨ho, rfl, ⟨_, ho, rfl⟩, call_meets F.slot_tuple_mul ⟨_, ho, rfl⟩ F.entry_tuple_mul (F.args_tuple_mul_2 _ _) (ovMul0 l its.toArray n dd sl t hi) ⟨ho, ?_⟩⟩)
    have hp := I.hok.fresh (Nat.le_refl s.heap.objs.size)
    refine ⟨.ref s.heap.objs.size, _, I.laid (t' := s.toks) (o := .tup []) (fun b ob q => Heap.get?_push_of_some _ q) (Nat.le_refl _) ?_, rfl, q _ _ (Ov.same_new hp _) upd_same⟩
    exact ⟨Nat.zero_le _, [], .nil, IsTup.new _ _⟩
  by_cases k1 : k = 1
  · subst k1
    cases rx
    obtain ⟨t, rfl⟩ := ry
    obtain ⟨its, r, ⟨⟨cls, dd, data, sl⟩, ho, hc, n, hd⟩, hs⟩ := I.tuple hT.sq
    simp only at hc hd
    subst hc hd
    refine wpAny_binaryOp_repeat_ref (T := "tuple") (U := "int") (by decide) ⟨_, ho, rfl⟩ (fun s' => typeIs_int s' 1 t) noFill_tuple_mul F.fills_int_mul F.slot_int_rmul repeat_tuple F.slot_int_index.lookup
      (call_meets F.slot_int_rmul (typeIs_int s 1 t) F.entry_int_rmul (F.args_int_rmul_2 _ _) (int_rmul_tuple 1 t l its.toArray n dd sl)
        ⟨ho, rfl, ⟨_, ho, rfl⟩, call_meets F.slot_tuple_mul ⟨_, ho, rfl⟩ F.entry_tuple_mul (F.args_tuple_mul_2 _ _) (ovMul1 l its.toArray n dd sl t) ⟨ho, ?_⟩⟩)
    refine ⟨.ref l, H, I, rfl, q l H (Ov.same_refl H) ?_⟩
    show Ov.TP H l (List.replicate 1 xs).flatten
    rw [show (List.replicate 1 xs).flatten = xs by simp]
    exact hT
  · exact op_repT pins s σ H _ _ v u Q I rx ry ⟨l, k, xs, rfl, rfl, hT.sq, hne, by omega, h2, hz, fun p hp => q p _ (Ov.same_new hp _) upd_same⟩
end
end L2
namespace Ov
open PySem L2
section
variable {K : PySem.W.Frag} {E : XK} {bx : Bool}
def repD (a b : PyData) : Option PyData :=
  match a, b with
  | .tuple ds, .int k => if ds ≠ [] ∧ ds.length ≤ 1000 ∧ 0 ≤ k ∧ k ≤ 1000 then some (.tuple (List.replicate k.toNat ds).flatten) else none
  | _, _ => none
theorem da_rep {H : Hp} {vs : List V} {ds : List PyData} (h : DaAll K H vs ds) : ∀ n : Nat, DaAll K H (List.replicate n vs).flatten (List.replicate n ds).flatten
  | 0 => .nil
  | n + 1 => by
    rw [List.replicate_succ, List.replicate_succ, List.flatten_cons, List.flatten_cons]
    exact daAll_append h (da_rep h n)
theorem ok_rep : OpOk K (ovRepT K) repD := by
  intro S H x y a b d hS wa wb e Q q
  unfold repD at e
  split at e
  · rename_i ds k
    split at e
    · rename_i hc
      cases e
      obtain ⟨p, vs, rfl, hq, hd⟩ := vw_tupP wa
      have hk := vw_int wb
      subst hk
      refine ⟨p, k, vs, rfl, rfl, hq.off, fun z => hc.1 ?_, hc.2.2.1, hc.2.2.2, by rw [daAll_len hd]; exact hc.2.1, fun r H' s hr => q _ _ s (.tup (off_P (hS_later hS s) hr) (DaAll.same (off_new s) _ (da_rep hd _)))⟩
      subst z
      cases hd
      rfl
    · cases e
  · cases e
/-! list(range(..)) -/
def lrE (fr : M (Int × Int)) : M R := M.bind fr fun r => M.bind (lift (chk (decide (-(2 ^ 62) ≤ r.1 ∧ r.1 < 2 ^ 62 ∧ -(2 ^ 62) ≤ r.2 ∧ r.2 < 2 ^ 62 ∧ (r.2 - r.1).toNat ≤ 1000000)))) fun _ => M.pure (.dat (.list ((rngL r.1 r.2).map .int)))
theorem OkE.lstRg2 {ta tb : TE} {fa fb : M R} (oa : OkE K E ta fa) (ob : OkE K E tb fb) : OkE K E (tLstRg (tRg2 ta tb)) (lrE (rg2 fa fb)) := by
  refine ⟨?_⟩
  intro B σ H env l rs rp h Q post
  have h' : (M.bind fa fun a => M.bind fb fun b => M.bind (lift (asI a)) fun i => M.bind (lift (asI b)) fun j => M.bind (lift (chk (decide (-(2 ^ 62) ≤ i ∧ i < 2 ^ 62 ∧ -(2 ^ 62) ≤ j ∧ j < 2 ^ 62 ∧ (j - i).toNat ≤ 1000000)))) fun _ => M.pure (.dat (.list ((rngL i j).map .int)))) env = some rs := by
    rw [← h]
    unfold lrE rg2 M.bind
    cases fa env with
    | none => rfl
    | some z =>
      cases z with
      | ex _ _ _ => rfl
      | ok a e =>
        simp only
        cases fb e with
        | none => rfl
        | some z =>
          cases z with
          | ex _ _ _ => rfl
          | ok b e2 =>
            simp only
            cases asI a with
            | none => rfl
            | some i =>
              cases asI b with
              | none => rfl
              | some j => rfl
  refine oa.seq rp h' post.exn fun a e v1 H1 h1 r1 f1 q1 => ?_
  refine ob.seq r1 h1 (exn_later post.exn f1) fun b e2 v2 H2 h2 r2 f2 q2 => ?_
  obtain ⟨i, h3, h4⟩ := lift_step h2
  obtain ⟨j, h5, h6⟩ := lift_step h4
  rw [asI_some h3] at q1
  rw [asI_some h5] at q2
  cases q1
  cases q2
  obtain ⟨u, h7, h8⟩ := lift_step h6
  cases h8
  have hc := of_decide_eq_true (chk_ok h7)
  refine ⟨i, j, rfl, rfl, ⟨hc.1, hc.2.1, hc.2.2.1, hc.2.2.2.1, Nat.le_trans hc.2.2.2.2 (by decide)⟩, fun p hp => ?_⟩
  rw [rgV_eq]
  exact post _ _ (r2.same (same_new hp _)) ((f1.trans f2).trans (Fr.of (same_new hp _))) (new_dp r2.tl hp (da_ints _)).1
end
section
variable {X : Cx} {K : PySem.W.Frag} (hK : X.K = K)
include hK
theorem k_rep : OpR X (binaryOp .Mult) (ovRepT K) := by subst hK; exact op_ovRepT
end
end Ov
set_option Elab.async false
set_option linter.all false
set_option maxRecDepth 100000
set_option maxHeartbeats 4000000
namespace Ov
open PySem L2
section
variable {K : PySem.W.Frag} {E : XK} {bx : Bool}
def ownW : Wv → Option (List PyData)
  | .own xs => itds xs
  | _ => none
/-- a call whose box is made on the spot -/
def callBt (F : List PyData → List PyData → Option (Wv × List PyData)) (fa : M Wv) : M Wv := M.bind fa fun w => M.bind (lift (ownW w)) fun bs => lift ((F bs []).map (·.1))
theorem OkW.callBt {F : List PyData → List PyData → Option (Wv × List PyData)} {E' : XK} {ta : TE} {fa : M Wv} (oa : OkW K E ta fa) : OkW K E (tCall (spB K F) [] E' (tCons ta tNil)) (Ov.callBt F fa) := by
  refine ⟨?_⟩
  intro B σ H env l rs rp h Q post
  refine oa.seq rp h post.exn fun w0 e v0 H1 lw0 h1 r1 f1 q1 nd1 fr1 => ?_
  obtain ⟨bs, h2, h3⟩ := lift_step h1
  obtain ⟨w, h4, h5⟩ := lift_some h3
  subst h5
  obtain ⟨⟨w', bs'⟩, h6, h7⟩ := Option.map_eq_some_iff.mp h4
  cases h7
  cases w0 with
  | dat d => cases h2
  | exc C f d => cases h2
  | dct ks => cases h2
  | dci ks => cases h2
  | dtk ks => cases h2
  | dts ks => cases h2
  | pin _ _ => cases h2
  | dtn _ => cases h2
  | nd _ => cases h2
  | own xs =>
    have ex : xs = dats bs := itds_eq h2
    subst ex
    obtain ⟨p, vs1, b, rfl, el, hp, rp1⟩ := q1
    obtain ⟨rfl, da⟩ := rp1s_dats rp1
    subst el
    have np : ¬ un B l p := rp.fresh (fr1 p (List.mem_cons_self ..))
    show spB K F ([V.ref p] ++ []) H1 Q E'
    refine ⟨un B l, p, vs1, bs, [], [], w', bs', rfl, hp, np, DaAll.same (off_mono (fun b z n => absurd ?_ n) fun b o n e => e) _ da, .nil, fun b z => r1.tl b (z.elim (fun z => .inl (.inl z)) .inr), h6, fun v H' lw bv' fr hb' db' rw' nd fw => ?_⟩
    · rcases z with (z | z) | z
      · exact .inl (.inl z)
      · exact .inr z
      · exact .inl (.inr z)
    have nb : ∀ b, un B l b → b ≠ p := fun b z y => np (by rw [← y]; exact z)
    have hl : ∀ b ∈ lw, ¬ un (un B [p]) l b := fun b z => r1.fresh (fw b z)
    have sub : Same (off (un (un B [p]) l) H1) (off (un (un B lw) l) H') := off_mono (fun b z n => by
      rcases z with (z | z) | z
      · exact absurd (.inl (.inl z)) n
      · exact fw b z
      · exact absurd (.inr z) n) fun b o n e => fr b o (fun z => n (.inl (.inr z))) e
    have rp' : Rep K (un B lw) σ H' e l := by
      refine ⟨r1.rp.mv sub fun q z => ?_, r1.nd, fun b z y => ?_, fun b z => ?_⟩
      · obtain ⟨o, e, _⟩ := r1.rp.trk q z
        rw [e]
        exact fr q o (fun y => nb q (.inr z) (List.mem_singleton.mp y)) e
      · rcases y with y | y
        · exact r1.out b z (.inl y)
        · exact hl b y (.inr z)
      · rcases z with z | z
        · obtain ⟨o, e, n⟩ := r1.tb b (.inl z)
          exact ⟨o, fr b o (fun y => nb b (.inl z) (List.mem_singleton.mp y)) e, n⟩
        · exact rw'.trk b z
    refine post v H' lw rp' (fun b o n e => fr b o (fun y => ?_) (f1 b o n e)) (rw'.mv (off_mono (fun b z n => absurd ?_ n) fun b o n e => e) fun _ _ => rfl) nd fun b z => ?_
    · rw [List.mem_singleton.mp y, fr1 p (List.mem_cons_self ..)] at e
      cases e
    · rcases z with (z | z) | z
      · exact .inl (.inl (.inl z))
      · exact .inl (.inr z)
      · exact .inl (.inl (.inr z))
    · cases q : H b with
      | none => rfl
      | some o =>
        have := f1 b o (fun y => hl b z (.inr y)) q
        rw [fw b z] at this
        cases this
end
end Ov
set_option Elab.async false
set_option linter.all false
set_option maxRecDepth 100000
set_option maxHeartbeats 4000000
set_option Elab.async false
set_option linter.all false
set_option maxRecDepth 100000
set_option maxHeartbeats 4000000
namespace Ov
open PySem L2
/-! what each piece does, as equations to be put together by a tool -/
section
variable {α : Type} {env e e1 e2 e3 : En} {f g h : M R} {r s q : R} {rs : List R} {fa fr : M (List R)} {a b c d : PyData} {ds : List PyData} {F : List PyData → Option Wv} {t u : M Bool} {x y : Bool} {st su : M Fl} {i j : Nat} {W W2 : M Wv} {w w2 : Wv} {X : Option (Rs Fl)}
theorem get_x (h : env[i]? = some (some (.dat d))) : get i env = some (.ok (.dat d) env) := by rw [v_get, h]; rfl
theorem getO_x {xs : List It1} (h : env[i]? = some (some (.own xs))) : get i env = some (.ok (.slot i) env) := by rw [v_get, h]; rfl
theorem con_x : con d env = some (.ok (.dat d) env) := rfl
theorem vwd_x : vw (.dat d) env = some (.ok d env) := rfl
theorem vws_x (h : env[i]? = some (some (.own (dats ds)))) : vw (.slot i) env = some (.ok (.list ds) env) := by
  rw [v_vws, h]
  show lift ((itds (dats ds)).map PyData.list) env = _
  rw [itds_dats]
  rfl
theorem op2_x {fo : PyData → PyData → Option PyData} (h1 : f env = some (.ok r e1)) (h2 : g e1 = some (.ok s e2)) (v1 : vw r e2 = some (.ok a e2)) (v2 : vw s e2 = some (.ok b e2)) (h3 : fo a b = some c) : op2 fo f g env = some (.ok (.dat c) e2) := by
  rw [v_op2, h1, v_ok, v_bind, h2, v_ok, v_bind, v1, v_ok, v_bind, v2, v_ok, v_bind, h3]
  rfl
theorem anil_x : anil env = some (.ok [] env) := rfl
theorem acons_x (h1 : f env = some (.ok r e1)) (h2 : fr e1 = some (.ok rs e2)) : acons f fr env = some (.ok (r :: rs) e2) := by
  rw [v_acons, h1, v_ok, v_bind, h2]
  rfl
theorem vw0_x : vws [] env = some (.ok [] env) := rfl
theorem vwC_x (h1 : vw r env = some (.ok d env)) (h2 : vws rs env = some (.ok ds env)) : vws (r :: rs) env = some (.ok (d :: ds) env) := by
  rw [v_vwsC, h1, v_ok, v_bind, h2]
  rfl
theorem cb_x {fo : List PyData → Option PyData} (h1 : fa env = some (.ok rs e1)) (v : vws rs e1 = some (.ok ds e1)) (h : fo ds = some d) : cb fo fa env = some (.ok (.dat d) e1) := by
  rw [v_cb, h1, v_ok, v_bind, v, v_ok, v_bind, h]
  rfl
theorem tup_x (h1 : fa env = some (.ok rs e1)) (h2 : dds rs = some ds) (h3 : ds.length ≤ 1000000) : tupD fa env = some (.ok (.dat (.tuple ds)) e1) := by
  rw [v_tupD, h1, v_ok, v_bind, h2, v_lift, v_ok, v_bind, v_sz _ h3]
  rfl
theorem lst_x (h1 : fa env = some (.ok rs e1)) (h2 : dds rs = some ds) (h3 : ds.length ≤ 1000000) : lstD fa env = some (.ok (.dat (.list ds)) e1) := by
  rw [v_lstD, h1, v_ok, v_bind, h2, v_lift, v_ok, v_bind, v_sz _ h3]
  rfl
theorem lstW_x (h1 : fa env = some (.ok rs e1)) (h2 : dds rs = some ds) (h3 : ds.length ≤ 1000000) : lstW fa env = some (.ok (.own (dats ds)) e1) := by
  rw [v_lstW, h1, v_ok, v_bind, h2, v_lift, v_ok, v_bind, v_sz _ h3]
  rfl
theorem callA_x (h1 : fa env = some (.ok rs e1)) (h2 : dds rs = some ds) (h3 : F ds = some w) : callA F fa env = some (.ok w e1) := by
  rw [v_callA, h1, v_ok, v_bind, h2, v_lift, v_ok, h3]
  rfl
theorem ownD_x (h : env[i]? = some (some (.own (dats ds)))) : ownD i env = some (.ok ds env) := by
  rw [v_ownD, h]
  show lift (itds (dats ds)) env = _
  rw [itds_dats]
  rfl
theorem callB_x {FB : List PyData → List PyData → Option (Wv × List PyData)} {b0 bs bs' : List PyData} (h0 : env[i]? = some (some (.own (dats b0)))) (h1 : fa env = some (.ok rs e1)) (h2 : dds rs = some ds) (hb : e1[i]? = some (some (.own (dats bs)))) (h3 : FB bs ds = some (w, bs')) : callB i FB fa env = some (.ok w (e1.set i (some (.own (dats bs'))))) := by
  rw [v_callB, ownD_x h0, v_ok, v_bind, h1, v_ok, v_bind, h2, v_lift, v_ok, v_bind, ownD_x hb, v_ok, v_bind, h3]
  rfl
theorem fz_x (h : W env = some (.ok w e)) (hw : ofW w = some r) : fz W env = some (.ok r e) := by
  rw [v_fz, h, v_ok, hw]
  rfl
theorem pl_x (h : f env = some (.ok r e)) (hw : toW r = some w) : pl f env = some (.ok w e) := by
  rw [v_pl, h, v_ok, hw]
  rfl
theorem tb_x (h : f env = some (.ok r e)) (v : vw r e = some (.ok (.bool x) e)) : tb1 f env = some (.ok x e) := by
  rw [v_tb1, h, v_ok, v_bind, v]
  rfl
theorem andT_t (h : t env = some (.ok true e1)) (h2 : u e1 = some (.ok x e2)) : andT t u env = some (.ok x e2) := by rw [v_andT, h, v_ok, if_pos rfl, h2]
theorem andT_f (h : t env = some (.ok false e1)) : andT t u env = some (.ok false e1) := by rw [v_andT, h]; rfl
theorem orT_t (h : t env = some (.ok true e1)) : orT t u env = some (.ok true e1) := by rw [v_orT, h]; rfl
theorem orT_f (h : t env = some (.ok false e1)) (h2 : u e1 = some (.ok x e2)) : orT t u env = some (.ok x e2) := by rw [v_orT, h, v_ok, if_neg (by decide), h2]
theorem notT_x (h : t env = some (.ok x e1)) : notT t env = some (.ok (!x) e1) := by rw [v_notT, h]; rfl
theorem andV_t (h : tb1 f env = some (.ok true e1)) (h2 : g e1 = some (.ok r e2)) : andV f g env = some (.ok r e2) := by rw [v_andV, h, v_ok, if_pos rfl, h2]
theorem chain_t {fo fo' : PyData → PyData → Option PyData} {a b b' c d : PyData} (h1 : f env = some (.ok r e1)) (h2 : g e1 = some (.ok s e2)) (v1 : vw r e2 = some (.ok a e2)) (v2 : vw s e2 = some (.ok b e2)) (h3 : fo a b = some (.bool true)) (h4 : h e2 = some (.ok q e3)) (v3 : vw s e3 = some (.ok b' e3)) (v4 : vw q e3 = some (.ok c e3)) (h5 : fo' b' c = some d) : chainE fo fo' f g h env = some (.ok (.dat d) e3) := by
  rw [v_chainE, h1, v_ok, v_bind, h2, v_ok, v_bind, v1, v_ok, v_bind, v2, v_ok, v_bind, h3, v_lift, v_ok, v_bind, v_asB, v_lift, v_ok, if_pos rfl, v_bind, h4, v_ok, v_bind, v3, v_ok, v_bind, v4, v_ok, v_bind, h5]
  rfl
theorem chain_f {fo fo' : PyData → PyData → Option PyData} {a b : PyData} (h1 : f env = some (.ok r e1)) (h2 : g e1 = some (.ok s e2)) (v1 : vw r e2 = some (.ok a e2)) (v2 : vw s e2 = some (.ok b e2)) (h3 : fo a b = some (.bool false)) : chainE fo fo' f g h env = some (.ok (.dat (.bool false)) e2) := by
  rw [v_chainE, h1, v_ok, v_bind, h2, v_ok, v_bind, v1, v_ok, v_bind, v2, v_ok, v_bind, h3, v_lift, v_ok, v_bind, v_asB, v_lift, v_ok, if_neg (by decide)]
  rfl
theorem poN_x : poN env = some (.ok none env) := rfl
theorem poS_x {k : Int} (h : f env = some (.ok (.dat (.int k)) e)) : poS f env = some (.ok (some k) e) := by rw [v_poS, h]; rfl
theorem sl_x {fl fh : M (Option Int)} {lo hi : Option Int} (h1 : f env = some (.ok r e1)) (h2 : fl e1 = some (.ok lo e2)) (h3 : fh e2 = some (.ok hi e3)) (v : vw r e3 = some (.ok a e3)) (h4 : cutD a lo hi = some c) : slD f fl fh env = some (.ok (.dat c) e3) := by
  rw [v_slD, h1, v_ok, v_bind, h2, v_ok, v_bind, h3, v_ok, v_bind, v, v_ok, v_bind, h4]
  rfl
theorem mth_x {fo : List PyData → List PyData → Option (List PyData × PyData)} {b0 bs : List PyData} {z : List PyData × PyData} (h0 : env[i]? = some (some (.own (dats b0)))) (h1 : fa env = some (.ok rs e1)) (h2 : dds rs = some ds) (hb : e1[i]? = some (some (.own (dats bs)))) (h3 : fo bs ds = some z) : mthE i fo fa env = some (.ok (.dat z.2) (e1.set i (some (.own (dats z.1))))) := by
  rw [v_mthE, ownD_x h0, v_ok, v_bind, h1, v_ok, v_bind, h2, v_lift, v_ok, v_bind, ownD_x hb, v_ok, v_bind, h3]
  rfl
theorem rm_x {fo : List PyData → Option PyData} {fs : M (List R)} {x0 x : PyData} {as : List PyData} (h1 : f env = some (.ok r e1)) (v0 : vw r e1 = some (.ok x0 e1)) (hl : isLD x0 = some ()) (h2 : fs e1 = some (.ok rs e2)) (v1 : vw r e2 = some (.ok x e2)) (v2 : vws rs e2 = some (.ok as e2)) (h3 : fo (x :: as) = some c) : rmE fo f fs env = some (.ok (.dat c) e2) := by
  unfold rmE
  rw [v_bind, h1, v_ok, v_bind, v0, v_ok, v_bind, hl, v_lift, v_ok, v_bind, h2, v_ok, v_bind, v1, v_ok, v_bind, v2, v_ok, v_bind, h3]
  rfl
theorem rg2_x {k l : Int} (h1 : f env = some (.ok (.dat (.int k)) e1)) (h2 : g e1 = some (.ok (.dat (.int l)) e2)) : rg2 f g env = some (.ok (k, l) e2) := by
  rw [v_rg2, h1, v_ok, v_bind, h2]
  rfl
theorem then_x (h1 : st env = some (.ok .nx e)) (h2 : su e = X) : thenS st su env = X := (then_nx h1).trans h2
theorem expr_x (h : f env = some (.ok r e)) : exprS f env = some (.ok .nx e) := by rw [v_exprS, h]; rfl
theorem ret_x (h : W env = some (.ok w e)) : retS W env = some (.ok (.rt w) e) := by rw [v_retS, h]; rfl
theorem ifS_t (h : t env = some (.ok true e)) (h2 : st e = X) : ifS t st su env = X := by rw [v_ifS, h, v_ok, if_pos rfl, h2]
theorem ifS_f (h : t env = some (.ok false e)) (h2 : su e = X) : ifS t st su env = X := by rw [v_ifS, h, v_ok, if_neg (by decide), h2]
theorem nxt_x : nxt env = some (.ok .nx env) := rfl
theorem set_x (h : W env = some (.ok w e)) (hi : i < e.length) : setS i W env = some (.ok .nx (e.set i (some w))) := by
  rw [v_setS, h, v_ok, v_bind, v_putM _ _ hi]
  rfl
theorem par_x (h : W env = some (.ok w e)) (h2 : W2 e = some (.ok w2 e2)) (hi : i < e2.length) (hj : j < e2.length) : parS i j W W2 env = some (.ok .nx ((e2.set i (some w)).set j (some w2))) := by
  rw [v_parS, h, v_ok, v_bind, h2, v_ok, v_bind, v_putM _ _ hi, v_ok, v_bind, v_putM _ _ (by rw [List.length_set]; exact hj)]
  rfl
theorem wnil_x : wnil env = some (.ok [] env) := rfl
theorem wcons_x {V : M (List Wv)} {ws : List Wv} (h : W env = some (.ok w e1)) (h2 : V e1 = some (.ok ws e2)) : wcons W V env = some (.ok (w :: ws) e2) := by
  show cont (W env) _ = _
  rw [h, v_ok, v_bind, h2]
  rfl
theorem for_x {fi : M (List PyData)} {p : PyData → En → Option En} (h : fi env = some (.ok ds e)) (h2 : forM p st ds e = X) : forS fi p st env = X := by
  rw [v_forS, h, v_ok]
  exact h2
theorem seq_x (h : f env = some (.ok (.dat d) e)) (hs : seqD d = some ds) : seqI f env = some (.ok ds e) := by
  rw [v_seqI, h, v_ok, v_bind, v_asD, v_lift, v_ok, hs]
  rfl
theorem argI_x {fo : List PyData → Option (List PyData)} {es : List PyData} (h : fa env = some (.ok rs e)) (h2 : dds rs = some ds) (h3 : fo ds = some es) : argI fo fa env = some (.ok es e) := by
  rw [v_argI, h, v_ok, v_bind, h2, v_lift, v_ok, h3]
  rfl
theorem move_x (h : env[i]? = some (some (.own (dats ds)))) : moveS i env = some (.ok (.rt (.own (dats ds))) (env.set i none)) := v_moveS i _ h
theorem eqI_f (k l : Int) : eqA false (.int k) (.int l) = some (.bool (decide (k = l))) := by rw [v_eqI, Bool.false_xor]
theorem eqI_t (k l : Int) : eqA true (.int k) (.int l) = some (.bool (!decide (k = l))) := by rw [v_eqI, Bool.true_xor]
theorem min_x (k l : Int) : minD [.int k, .int l] = some (.int (min k l)) := by rw [v_min]; congr 2; split <;> omega
theorem max_x (k l : Int) : maxD [.int k, .int l] = some (.int (max k l)) := by rw [v_max]; congr 2; split <;> omega
theorem lenLm_x {β : Type} (l : List β) (z : β → PyData) : lenD [.list (l.map z)] = some (.int (l.length : Nat)) := by rw [v_lenL, List.length_map]
theorem lenTm_x {β : Type} (l : List β) (z : β → PyData) : lenD [.tuple (l.map z)] = some (.int (l.length : Nat)) := by rw [v_lenT, List.length_map]
theorem sortLm_x (l : List Int) : sortD [.list (l.map .int)] = some (.list ((sortI l).map .int)) := by
  show ((intsD (l.map .int)).map fun ns => PyData.list ((sortI ns).map .int)) = _
  have : intsD (l.map PyData.int) = some l := by
    induction l with
    | nil => rfl
    | cons a r ih => show (intsD (r.map PyData.int)).map (a :: ·) = _; rw [ih]; rfl
  rw [this]
  rfl
theorem sortTm_x (l : List Int) : sortD [.tuple (l.map .int)] = some (.list ((sortI l).map .int)) := sortLm_x l
theorem addI_x (k l : Int) : addD (.int k) (.int l) = some (.int (k + l)) := rfl
theorem subI_x (k l : Int) : subD (.int k) (.int l) = some (.int (k - l)) := rfl
theorem ltI_x (k l : Int) : ltD (.int k) (.int l) = some (.bool (decide (k < l))) := rfl
theorem leI_x (k l : Int) : leD (.int k) (.int l) = some (.bool (decide (k ≤ l))) := rfl
theorem gtI_x (k l : Int) : gtD (.int k) (.int l) = some (.bool (decide (l < k))) := rfl
theorem geI_x (k l : Int) : geD (.int k) (.int l) = some (.bool (decide (l ≤ k))) := rfl
end
/-- a comprehension over pictures, each element by what it gives -/
theorem comp_x {β : Type} {env : En} {p : PyData → En → Option En} {ft : M Bool} {fe : M R} {vs : List Nat} {z : β → PyData} (g : β → PyData) (t : β → Bool) : ∀ (l : List β) (acc : List PyData), acc.length + l.length < 1000000 →
    (∀ x ∈ l, ∃ e, p (z x) env = some e ∧ ft e = some (.ok (t x) e) ∧ (t x = true → fe e = some (.ok (.dat (g x)) e)) ∧ freeB e vs = true ∧ wipeE e vs = env) → compM p ft fe vs (l.map z) acc env = some (.ok (acc ++ (l.filter t).map g) env)
  | [], acc, _, _ => by simp [compM, M.pure]
  | x :: l, acc, hl, h => by
    obtain ⟨e, h1, h2, h3, h4, h5⟩ := h x (List.mem_cons_self ..)
    rw [List.length_cons] at hl
    rw [List.map_cons]
    cases q : t x with
    | true =>
      rw [q] at h2
      rw [comp_yes h1 h2 (h3 q) h4 (by omega), h5, comp_x g t l (acc ++ [g x]) (by rw [List.length_append]; show acc.length + 1 + _ < _; omega) fun y hy => h y (List.mem_cons_of_mem _ hy)]
      simp [q]
    | false =>
      rw [q] at h2
      rw [comp_no h1 h2 h4, h5, comp_x g t l acc (by omega) fun y hy => h y (List.mem_cons_of_mem _ hy)]
      simp [q]
theorem compM_x {β : Type} {env : En} {p : PyData → En → Option En} {ft : M Bool} {fe : M R} {vs : List Nat} {z : β → PyData} (g : β → PyData) (l : List β) (hl : l.length < 1000000)
    (h : ∀ x ∈ l, ∃ e, p (z x) env = some e ∧ ft e = some (.ok true e) ∧ fe e = some (.ok (.dat (g x)) e) ∧ freeB e vs = true ∧ wipeE e vs = env) : compM p ft fe vs (l.map z) [] env = some (.ok (l.map g) env) := by
  have := comp_x (env := env) (p := p) (ft := ft) (fe := fe) (vs := vs) (z := z) g (fun _ => true) l [] (by show 0 + _ < _; omega) fun x hx => by
    obtain ⟨e, h1, h2, h3, h4, h5⟩ := h x hx
    exact ⟨e, h1, h2, fun _ => h3, h4, h5⟩
  rw [List.filter_eq_self.mpr fun _ _ => rfl, List.nil_append] at this
  exact this
end Ov
set_option Elab.async false
set_option linter.all false
set_option maxRecDepth 100000
set_option maxHeartbeats 4000000
namespace Ov
open PySem L2
/-! general facts for the values of defs -/
def nI (i : Nat) : PyData := .int (i : Int)
theorem pMul_l {i j : Int} (h : -(2 ^ 64) < i) (h2 : i < 2 ^ 64) : pMul i j = true := by
  unfold pMul
  rw [decide_eq_true ⟨h, h2⟩]
  rfl
/-! ranges -/
theorem rng_int (a b : Nat) : (rngL (a : Int) (b : Int)).map PyData.int = (List.range' a (b - a)).map nI := by
  unfold rngL nI
  rw [List.map_map, List.range'_eq_map_range, List.map_map, show ((b : Int) - (a : Int)).toNat = b - a by omega]
  refine List.map_congr_left fun k _ => ?_
  show PyData.int ((a : Int) + (k : Int)) = .int ((a + k : Nat) : Int)
  rw [Int.natCast_add]
theorem rng1N {n : Nat} (h : n ≤ 1000000) : rngD [.int (n : Int)] = some ((List.range' 0 n).map nI) := by
  have g : -(2 ^ 62) ≤ (n : Int) ∧ (n : Int) < 2 ^ 62 := ⟨by omega, by omega⟩
  have := rng_int 0 n
  rw [Nat.sub_zero] at this
  rw [← this]
  show rngD [.int (n : Int)] = some ((rngL 0 (n : Int)).map .int)
  generalize (n : Int) = N at g ⊢
  exact if_pos g
theorem rng2N {a b : Nat} (h : a ≤ 1000000) (h2 : b ≤ 1000000) : rngD2 [.int (a : Int), .int (b : Int)] = some ((List.range' a (b - a)).map nI) := by
  have g : -(2 ^ 62) ≤ (a : Int) ∧ (a : Int) < 2 ^ 62 ∧ -(2 ^ 62) ≤ (b : Int) ∧ (b : Int) < 2 ^ 62 := ⟨by omega, by omega, by omega, by omega⟩
  rw [← rng_int]
  generalize (a : Int) = A at g ⊢
  generalize (b : Int) = N at g ⊢
  exact if_pos g
/-! shapes -/
def Sh (k : Nat) (d : PyData) : Prop := PyData.canLay0 d = true ∧ PyData.depth d ≤ k
theorem Sh.int (i : Int) {k : Nat} : Sh (k + 1) (.int i) := ⟨rfl, by show 0 ≤ _; omega⟩
theorem Sh.none {k : Nat} : Sh (k + 1) .none := ⟨rfl, by show 0 ≤ _; omega⟩
theorem Sh.bool (b : Bool) {k : Nat} : Sh (k + 1) (.bool b) := ⟨rfl, by show 0 ≤ _; omega⟩
theorem sh_all : ∀ {k : Nat} {l : List PyData}, (∀ x ∈ l, Sh k x) → PyData.canLayAll0 l = true ∧ PyData.depthAll l ≤ k
  | k, [], _ => ⟨rfl, Nat.zero_le _⟩
  | k, x :: l, h => by
    have h1 := h x (List.mem_cons_self ..)
    have h2 := sh_all fun y hy => h y (List.mem_cons_of_mem _ hy)
    constructor
    · show (PyData.canLay0 x && PyData.canLayAll0 l) = true
      rw [h1.1, h2.1]
      rfl
    · show max (PyData.depth x) (PyData.depthAll l) ≤ k
      have := h1.2
      have := h2.2
      omega
theorem Sh.lst {k : Nat} {l : List PyData} (h : ∀ x ∈ l, Sh k x) : Sh (k + 1) (.list l) := ⟨(sh_all h).1, by show PyData.depthAll l + 1 ≤ k + 1; have := (sh_all h).2; omega⟩
theorem Sh.tup {k : Nat} {l : List PyData} (h : ∀ x ∈ l, Sh k x) : Sh (k + 1) (.tuple l) := ⟨(sh_all h).1, by show PyData.depthAll l + 1 ≤ k + 1; have := (sh_all h).2; omega⟩
theorem Sh.mono {k m : Nat} {d : PyData} (h : Sh k d) (e : k ≤ m) : Sh m d := ⟨h.1, Nat.le_trans h.2 e⟩
theorem Sh.ints (l : List Int) {k : Nat} : ∀ x ∈ l.map PyData.int, Sh (k + 1) x := fun x hx => by
  obtain ⟨i, _, rfl⟩ := List.mem_map.mp hx
  exact .int i
theorem eq_yes {n : Bool} {d : PyData} (h : shp d = true) : eqvD n d d = some (.bool (!n)) := by
  unfold eqvD
  have h' : (d.canLay0 && decide (d.depth ≤ 64)) = true := h
  rw [h, PySem.SeqAt.eqv_refl d ((Bool.and_eq_true _ _).mp h').1]
  cases n <;> rfl
/-! data without bools: equal by == only if the same -/
/-! items and parts of pictures -/
theorem ixT_map {β : Type} {z : β → PyData} {l : List β} {k : Nat} {x : β} (h : l[k]? = some x) : ixD (.tuple (l.map z)) (.int (k : Int)) = some (z x) := by
  have hk := (List.getElem?_eq_some_iff.mp h).1
  show (L2.ixN (l.map z).length (k : Int)).bind (fun j => (l.map z)[j]?) = _
  unfold L2.ixN
  rw [if_pos (by omega), if_pos (by rw [List.length_map]; omega)]
  show (l.map z)[(k : Int).toNat]? = _
  rw [Int.toNat_natCast, List.getElem?_map, h]
  rfl
theorem ixL_map {β : Type} {z : β → PyData} {l : List β} {k : Nat} {x : β} (h : l[k]? = some x) : ixD (.list (l.map z)) (.int (k : Int)) = some (z x) := ixT_map h
theorem cutT_from {β : Type} {z : β → PyData} {l : List β} {k : Nat} : cutD (.tuple (l.map z)) (some (k : Int)) none = some (.tuple ((l.drop k).map z)) := by
  show some (PyData.tuple (cutL _ _ _)) = _
  unfold cutL
  rw [HT.sIx_nat, HT.sIx_none, List.length_map, List.map_drop]
  congr 2
  by_cases h : k ≤ l.length
  · rw [Nat.min_eq_left h, List.take_of_length_le (by rw [List.length_drop, List.length_map]; omega)]
  · rw [Nat.min_eq_right (by omega), Nat.sub_self, List.take_zero, List.drop_eq_nil_of_le (by rw [List.length_map]; omega)]
theorem cutL_from' {β : Type} {z : β → PyData} {l : List β} {k : Nat} : cutD (.list (l.map z)) (some (k : Int)) none = some (.list ((l.drop k).map z)) := by
  have := cutT_from (z := z) (l := l) (k := k)
  show some (PyData.list (cutL _ _ _)) = _
  have e : some (PyData.tuple (cutL (l.map z) (some (k : Int)) none)) = some (.tuple ((l.drop k).map z)) := this
  injection e with e
  injection e with e
  rw [e]
theorem cutT_to {β : Type} {z : β → PyData} {l : List β} {k : Nat} : cutD (.tuple (l.map z)) none (some (k : Int)) = some (.tuple ((l.take k).map z)) := by
  show some (PyData.tuple (cutL _ _ _)) = _
  unfold cutL
  rw [HT.sIx_nat, HT.sIx_none, List.length_map, List.map_take, List.drop_zero, Nat.sub_zero]
  congr 2
  by_cases h : k ≤ l.length
  · rw [Nat.min_eq_left h]
  · rw [Nat.min_eq_right (by omega), List.take_of_length_le (by rw [List.length_map]; omega), List.take_of_length_le (by rw [List.length_map]; omega)]
theorem cutL_to' {β : Type} {z : β → PyData} {l : List β} {k : Nat} : cutD (.list (l.map z)) none (some (k : Int)) = some (.list ((l.take k).map z)) := by
  have e : some (PyData.tuple (cutL (l.map z) none (some (k : Int)))) = some (.tuple ((l.take k).map z)) := cutT_to (z := z) (l := l) (k := k)
  show some (PyData.list (cutL _ _ _)) = _
  injection e with e
  injection e with e
  rw [e]
theorem sum_ints' (l : List Int) : sumD [.list (l.map .int)] = some (.int l.sum) := by
  show ((intsD (l.map .int)).map fun bs => PyData.int bs.sum) = _
  have : intsD (l.map PyData.int) = some l := by
    induction l with
    | nil => rfl
    | cons a r ih => show (intsD (r.map PyData.int)).map (a :: ·) = _; rw [ih]; rfl
  rw [this]
  rfl
theorem enum_map {β : Type} {z : β → PyData} (l : List β) (k : Nat) : enumL (k : Int) (l.map z) = ((List.range' k l.length).zip l).map fun p => .tuple [nI p.1, z p.2] := by
  induction l generalizing k with
  | nil => rfl
  | cons x l ih =>
    have e : enumL (k : Int) (z x :: l.map z) = .tuple [.int (k : Int), z x] :: enumL ((k + 1 : Nat) : Int) (l.map z) := by
      have at_ : ∀ (k : Int) (ds : List PyData) (i : Nat), (enumL k ds)[i]? = ds[i]?.map fun x => .tuple [.int (k + (i : Nat)), x] := fun k ds i => by
        unfold enumL
        rw [List.getElem?_map, List.getElem?_zipIdx]
        cases ds[i]? <;> simp
      apply List.ext_getElem?
      intro i
      cases i with
      | zero => rw [at_]; simp
      | succ i =>
        rw [at_, List.getElem?_cons_succ, List.getElem?_cons_succ, at_]
        congr 1
        funext x
        rw [show (k : Int) + ((i + 1 : Nat) : Int) = ((k + 1 : Nat) : Int) + (i : Int) by omega]
    rw [List.map_cons, e, ih, List.length_cons, List.range'_succ]
    rfl
end Ov
set_option Elab.async false
set_option linter.all false
set_option maxRecDepth 100000
set_option maxHeartbeats 4000000
namespace Ov
section
open PySem PySem.Spec PyProof.Rows L2
/-! sorted of pairs of numbers, whatever they stand in -/
def kh (h : Heap) (u : Value) : Int × Int := match u with
  | .ref t => match h.get? t with
    | some o => match o.data with
      | .seq its _ => match its.toList with
        | [.int i _, .int j _] => (i, j)
        | _ => (0, 0)
      | _ => (0, 0)
    | none => (0, 0)
  | _ => (0, 0)
def PrsV (K : PySem.W.Frag) (H : Hp) (xs : List V) (ps : List (Int × Int)) : Prop := xs.length = ps.length ∧ ∀ (i : Nat) (x : V) (p : Int × Int), xs[i]? = some x → ps[i]? = some p → ∃ t, x = .ref t ∧ TP H t [.int p.1, .int p.2]
def leP (p q : Int × Int) : Prop := p.1 < q.1 ∨ (p.1 = q.1 ∧ p.2 ≤ q.2)
def rSortPT (K : PySem.W.Frag) : List V → Hp → VK → Prop := fun vs H Q => ∃ (a : Addr) (xs : List V) (ps : List (Int × Int)), vs = [V.ref a] ∧ SqL K H a xs ∧ PrsV K H xs ps ∧
  ∀ (ys : List V) (qs : List (Int × Int)) (p : Addr), qs.Perm ps → qs.Pairwise leP → PrsV K H ys qs → H p = none → Q (.ref p) (upd H p (.lst ys))
theorem cr_sortPT {X : Cx} : CallR X (.builtin "sorted") (rSortPT X.K) := by
  intro pins s σ H vs us Q I r h
  obtain ⟨a, xs, ps, rfl, hs, ⟨hlen, hx⟩, q⟩ := h
  obtain ⟨its, rv, hl, hz⟩ := I.list hs
  obtain ⟨u, rfl, ru⟩ := vals1 r
  obtain rfl : u = Value.ref a := ru
  have hx' : ∀ x ∈ xs, ∃ t, x = V.ref t := fun x m => by
    obtain ⟨i, hi, e⟩ := List.getElem_of_mem m
    obtain ⟨t, ht, _⟩ := hx i x (ps[i]'(by omega)) (by rw [← e]; exact List.getElem?_eq_getElem hi) (List.getElem?_eq_getElem (by omega))
    exact ⟨t, ht⟩
  obtain ⟨e1, e2⟩ := refs_back rv hx'
  have li : its.length = ps.length := by rw [← hlen, e1, List.length_map]
  have pr : ∀ (i : Nat) (v : Value) (p : Int × Int), its[i]? = some v → ps[i]? = some p → Srt.IsPair s.heap v p.1 p.2 ∧ kh s.heap v = p ∧ ∃ t, v = .ref t ∧ TP H t [.int p.1, .int p.2] := fun i v p h1 h2 => by
    obtain ⟨t, rfl⟩ := e2 v (List.mem_of_getElem? h1)
    obtain ⟨t', e, ht⟩ := hx i (.ref t) p (by rw [e1, List.getElem?_map, h1]; rfl) h2
    cases e
    obtain ⟨its2, r2, ⟨o, ho, hc, n, hd⟩, hz2⟩ := I.tuple ht.sq
    obtain ⟨u1, u2, rfl, ri, rj⟩ := vals2 r2
    obtain ⟨t1, rfl⟩ := ri
    obtain ⟨t2, rfl⟩ := rj
    refine ⟨⟨t, o, t1, t2, n, rfl, ho, hc, hd⟩, ?_, t, rfl, ht⟩
    unfold kh
    simp only [ho, hd]
  have hk : its.map (kh s.heap) = ps := by
    apply List.ext_getElem?
    intro i
    rw [List.getElem?_map]
    cases h1 : its[i]? with
    | none =>
      have : its.length ≤ i := List.getElem?_eq_none_iff.mp h1
      rw [List.getElem?_eq_none (by omega)]
      rfl
    | some v =>
      have lt : i < its.length := (List.getElem?_eq_some_iff.mp h1).1
      have h2 : ps[i]? = some (ps[i]'(by omega)) := List.getElem?_eq_getElem (by omega)
      rw [h2]
      show some (kh s.heap v) = _
      rw [(pr i v _ h1 h2).2.1]
  have mem : ∀ v ∈ its, Srt.IsPair s.heap v (kh s.heap v).1 (kh s.heap v).2 ∧ ∃ t, v = .ref t ∧ TP H t [.int (kh s.heap v).1, .int (kh s.heap v).2] := fun v hv => by
    obtain ⟨i, hi, e⟩ := List.getElem_of_mem hv
    have h2 : ps[i]? = some (ps[i]'(by omega)) := List.getElem?_eq_getElem (by omega)
    obtain ⟨k1, k2, k3⟩ := pr i v _ (by rw [← e]; exact List.getElem?_eq_getElem hi) h2
    rw [k2]
    exact ⟨k1, k3⟩
  refine SrtO.sorted_pairsO (k := kh s.heap) hl.isList (by rw [← rv.length]; exact hz) (fun v hv => (mem v hv).1) fun h' d out h1 h2 kp hd hn => ?_
  have h3 : ∀ u ∈ out, ∃ a, u = Value.ref a := fun u hu => e2 u (h2.perm.mem_iff.mp hu)
  obtain ⟨n, hn⟩ := hn
  have lo : out.length = its.length := h2.perm.length_eq
  refine ⟨.ref d, upd H d (.lst (out.map backV)), I.laid (t' := s.toks) kp hd ⟨?_, out, n, vals_back h3, hn⟩, rfl, q _ (out.map (kh s.heap)) d ?_ ?_ ⟨by rw [List.length_map, List.length_map], fun i y z hy hz => ?_⟩ (I.hok.fresh hd)⟩
  · rw [List.length_map, lo, ← rv.length]
    exact hz
  · rw [← hk]
    exact h2.perm.map _
  · refine List.pairwise_map.mpr (List.Pairwise.imp ?_ h1)
    intro x y hxy
    have := SrtO.lexB_no.mp hxy
    unfold leP
    omega
  · rw [List.getElem?_map] at hy hz
    obtain ⟨u, hu, rfl⟩ := Option.map_eq_some_iff.mp hy
    obtain ⟨u', hu', rfl⟩ := Option.map_eq_some_iff.mp hz
    rw [hu] at hu'
    cases hu'
    obtain ⟨_, t, rfl, k3⟩ := mem u (h2.perm.mem_iff.mp (List.mem_of_getElem? hu))
    exact ⟨t, rfl, k3⟩
end
open PySem L2
/-! the same over data -/
def prsD : List PyData → Option (List (Int × Int))
  | [] => some []
  | .tuple [.int i, .int j] :: r => (prsD r).map ((i, j) :: ·)
  | _ :: _ => none
def prD (p : Int × Int) : PyData := .tuple [.int p.1, .int p.2]
theorem prsD_some : ∀ {ds : List PyData} {ps : List (Int × Int)}, prsD ds = some ps → ds = ps.map prD
  | [], ps, h => by cases h; rfl
  | d :: r, ps, h => by
    unfold prsD at h
    split at h
    · rename_i heq; cases heq
    · rename_i i j r' heq
      cases heq
      obtain ⟨z, h1, h2⟩ := Option.map_eq_some_iff.mp h
      subst h2
      rw [List.map_cons, ← prsD_some h1]
      rfl
    · cases h
def lePb (p q : Int × Int) : Bool := decide (p.1 < q.1 ∨ (p.1 = q.1 ∧ p.2 ≤ q.2))
def sortP (ps : List (Int × Int)) : List (Int × Int) := ps.mergeSort lePb
theorem sortP_perm (ps : List (Int × Int)) : (sortP ps).Perm ps := List.mergeSort_perm ..
theorem sortP_pw (ps : List (Int × Int)) : (sortP ps).Pairwise leP := by
  have := List.pairwise_mergeSort (le := lePb) (fun a b c h1 h2 => by unfold lePb at *; simp only [decide_eq_true_eq] at *; omega) (fun a b => by unfold lePb; simp only [Bool.or_eq_true, decide_eq_true_eq]; omega) ps
  exact this.imp fun h => by unfold lePb at h; simpa [leP] using h
theorem sortP_uniq {a b : List (Int × Int)} (p : a.Perm b) (ha : a.Pairwise leP) (hb : b.Pairwise leP) : a = b := p.eq_of_pairwise (fun x y _ _ h1 h2 => by
  obtain ⟨x1, x2⟩ := x
  obtain ⟨y1, y2⟩ := y
  unfold leP at h1 h2
  simp only at h1 h2
  have e1 : x1 = y1 := by omega
  have e2 : x2 = y2 := by omega
  rw [e1, e2]) ha hb
section
variable {K : PySem.W.Frag} {E : XK}
theorem da_prs {H : Hp} {xs : List V} {ps : List (Int × Int)} (h : DaAll K H xs (ps.map prD)) : PrsV K H xs ps := by
  refine ⟨by rw [daAll_len h, List.length_map], fun i x p hx hp => ?_⟩
  obtain ⟨x', hx', d⟩ := daAll_get h (i := i) (d := prD p) (by rw [List.getElem?_map, hp]; rfl)
  rw [hx] at hx'
  cases hx'
  cases d with
  | tup q t =>
    cases t with
    | cons h1 t =>
      cases t with
      | cons h2 t =>
        cases t
        cases h1
        cases h2
        exact ⟨_, rfl, q⟩
theorem prsV_da {H : Hp} : ∀ {xs : List V} {ps : List (Int × Int)}, PrsV K H xs ps → DaAll K H xs (ps.map prD)
  | [], [], _ => .nil
  | [], _ :: _, h => by have := h.1; simp at this
  | _ :: _, [], h => by have := h.1; simp at this
  | x :: xs, p :: ps, h => by
    obtain ⟨t, rfl, q⟩ := h.2 0 x p rfl rfl
    exact .cons (.tup q (.cons (.int _) (.cons (.int _) .nil))) (prsV_da ⟨by have := h.1; simpa using this, fun i y z hy hz => h.2 (i + 1) y z (by simpa using hy) (by simpa using hz)⟩)
theorem PrsV.same {H H' : Hp} (s : Same H H') {xs : List V} {ps : List (Int × Int)} (h : PrsV K H xs ps) : PrsV K H' xs ps :=
  ⟨h.1, fun i x p hx hp => by obtain ⟨t, e, q⟩ := h.2 i x p hx hp; exact ⟨t, e, q.same s⟩⟩
/-! [..] * n -/
def repX (w : Wv) (r : R) : Option PyData :=
  match w, r with
  | .own xs, .dat (.int k) => (itds xs).bind fun ds => if -(2 ^ 62) ≤ k ∧ k < 2 ^ 62 ∧ ds.length * k.toNat ≤ 1000000 then some (.list (List.replicate k.toNat ds).flatten) else none
  | _, _ => none
def repW (f : M Wv) (g : M R) : M R := M.bind f fun w => M.bind g fun r => M.bind (lift (repX w r)) fun d => M.pure (.dat d)
theorem okE_repW {ta tb : TE} {f : M Wv} {g : M R} (oa : OkW K E ta f) (ob : OkE K E tb g) : OkE K E (tOp rRep ta tb) (Ov.repW f g) := by
  refine ⟨?_⟩
  intro B σ H env l rs rp h Q post
  refine oa.seq rp h post.exn fun w1 e1 v1 H1 l1 h1 r1 f1 q1 nd1 fr1 => ?_
  have n1 : ∀ b ∈ l1, ¬ un B l b := fun b z => rp.fresh (fr1 b z)
  have ex1 : ∀ C f d, rs = .ex C f d → Exn K E (un B l1) H1 l C f d := fun C f d e => by
    have := (post.exn C f d e).later f1
    exact this.wide
  refine ob.seq r1 h1 ex1 fun r e2 v2 H2 h2 r2 f2 q2 => ?_
  obtain ⟨d, h3, h4⟩ := lift_step h2
  cases h4
  unfold repX at h3
  split at h3
  · rename_i xs k
    obtain ⟨ds, e3, e4⟩ := Option.bind_eq_some_iff.mp h3
    split at e4
    · rename_i hc
      cases e4
      have ex := itds_eq e3
      subst ex
      obtain ⟨p, vs, b, rfl, el, hp, rp1⟩ := q1
      obtain ⟨rfl, da⟩ := rp1s_dats rp1
      subst el
      have np : p ∉ l := fun z => n1 p (List.mem_cons_self ..) (.inr z)
      have hp2 : H2 p = some (.lst vs) := f2 p _ np hp
      have q2 : Da K (off (un (un B [p]) l) H2) v2 (.int k) := q2
      cases q2
      refine ⟨p, k, vs, rfl, rfl, hp2, by omega, by omega, ?_, fun p' hp' => ?_⟩
      · rw [daAll_len da]
        exact Nat.le_trans hc.2.2 (by decide)
      · have rb : Rep K B σ H2 e2 l := r2.less fun b z => .inl z
        refine post _ _ (rb.same (same_new hp' _)) ((f1.trans f2).trans (Fr.of (same_new hp' _))) ?_
        refine (new_dp rb.tl hp' (da_rep (DaAll.same ?_ _ da) _)).1
        exact off_mono (fun b z n => absurd (z.elim (fun z => .inl (.inl z)) .inr) n) fun b o n e => f2 b o (fun z => n (.inr z)) e
    · cases e4
  · cases h3
end
section
variable {X : Cx} {K : PySem.W.Frag} (hK : X.K = K)
include hK
theorem k_sortPT : CallR X (.builtin "sorted") (rSortPT K) := by subst hK; exact cr_sortPT
end
theorem repW_x {env e1 e2 : En} {f : M Wv} {g : M R} {ds : List PyData} {k : Int} (h1 : f env = some (.ok (.own (dats ds)) e1)) (h2 : g e1 = some (.ok (.dat (.int k)) e2)) (h3 : -(2 ^ 62) ≤ k ∧ k < 2 ^ 62 ∧ ds.length * k.toNat ≤ 1000000) : repW f g env = some (.ok (.dat (.list (List.replicate k.toNat ds).flatten)) e2) := by
  unfold repW
  rw [v_bind, h1, v_ok, v_bind, h2, v_ok, v_bind]
  show cont (lift ((itds (dats ds)).bind fun ds => if -(2 ^ 62) ≤ k ∧ k < 2 ^ 62 ∧ ds.length * k.toNat ≤ 1000000 then some (PyData.list (List.replicate k.toNat ds).flatten) else none) e2) _ = _
  rw [itds_dats]
  show cont (lift (if -(2 ^ 62) ≤ k ∧ k < 2 ^ 62 ∧ ds.length * k.toNat ≤ 1000000 then some (PyData.list (List.replicate k.toNat ds).flatten) else none) e2) _ = _
  rw [if_pos h3]
  rfl
end Ov
set_option Elab.async false
set_option linter.all false
set_option maxRecDepth 100000
set_option maxHeartbeats 4000000
set_option Elab.async false
set_option linter.all false
set_option maxRecDepth 100000
set_option maxHeartbeats 4000000
namespace Ov
open PySem L2
section
variable {K : PySem.W.Frag} {E : XK} {bx : Bool}
/-! dicts of numbers whose values are numbers -/
def lookI : List (Int × Int) → Int → Option Int
  | [], _ => none
  | (j, v) :: r, k => if j = k then some v else lookI r k
theorem kvI_val (kvs : List (Int × Int)) (k : Int) : valV (kvI kvs) (Sum.inl k) = (lookI kvs k).map V.int := by
  induction kvs with
  | nil => rfl
  | cons x r ih =>
    obtain ⟨j, v⟩ := x
    by_cases e : j = k
    · rw [show lookI ((j, v) :: r) k = some v from if_pos e]
      exact valV_pos (p := ((Sum.inl j : L2.Key), V.int v)) (congrArg Sum.inl e)
    · rw [show lookI ((j, v) :: r) k = lookI r k from if_neg e]
      exact (valV_neg (p := ((Sum.inl j : L2.Key), V.int v)) (fun z => e (Sum.inl.inj z))).trans ih
def putI (kvs : List (Int × Int)) (k v : Int) : List (Int × Int) := if (kvs.any fun kv => decide (kv.1 = k)) = true then kvs.map (fun kv => if kv.1 = k then (kv.1, v) else kv) else kvs ++ [(k, v)]
theorem kvI_put (kvs : List (Int × Int)) (k v : Int) : putK (kvI kvs) (Sum.inl k) (.int v) = kvI (putI kvs k v) := by
  unfold putK putI
  have ha : ((kvI kvs).any fun kv => decide (kv.1 = (Sum.inl k : L2.Key))) = (kvs.any fun kv => decide (kv.1 = k)) := by
    unfold kvI
    rw [List.any_map]
    refine congrArg (List.any kvs) (funext fun x => ?_)
    show decide ((Sum.inl x.1 : L2.Key) = Sum.inl k) = decide (x.1 = k)
    by_cases e : x.1 = k
    · rw [e]; simp
    · rw [decide_eq_false e]; exact decide_eq_false fun z => e (Sum.inl.inj z)
  rw [ha]
  split
  · unfold kvI
    rw [List.map_map, List.map_map]
    refine List.map_congr_left fun x _ => ?_
    show (if (Sum.inl x.1 : L2.Key) = Sum.inl k then _ else _) = _
    by_cases e : x.1 = k
    · rw [if_pos (congrArg Sum.inl e)]
      show _ = ((Sum.inl (if x.1 = k then (x.1, v) else x).1 : L2.Key), V.int (if x.1 = k then (x.1, v) else x).2)
      rw [if_pos e]
    · rw [if_neg (fun z => e (Sum.inl.inj z))]
      show _ = ((Sum.inl (if x.1 = k then (x.1, v) else x).1 : L2.Key), V.int (if x.1 = k then (x.1, v) else x).2)
      rw [if_neg e]
  · unfold kvI
    rw [List.map_append]
    rfl
def dnewI : M Wv := M.pure (.dci [])
theorem OkW.dnewI : OkW K E tDNewK Ov.dnewI := by
  refine ⟨?_⟩
  intro B σ H env l rs rp h Q post
  cases h
  intro p hp
  refine post _ _ [p] (rp.grow (same_new hp _) (fun _ z => .inl z) (fun b z => z.imp id fun z => by rw [List.mem_singleton.mp z]; exact hp) fun b z => ?_) (Fr.of (same_new hp _)) ⟨p, rfl, rfl, upd_same⟩ (List.nodup_cons.mpr ⟨by simp, List.nodup_nil⟩) fun b z => by rw [List.mem_singleton.mp z]; exact hp
  by_cases e : b = p
  · subst e; exact ⟨_, upd_same, trivial⟩
  · rw [upd_ne e]; exact rp.tb b (z.resolve_right fun z => e (List.mem_singleton.mp z))
def dciD (i : Nat) : M (List (Int × Int)) := fun env =>
  match env[i]? with
  | some (some (.dci ks)) => some (.ok ks env)
  | _ => none
theorem dciD_step {α : Type} {i : Nat} {g : List (Int × Int) → M α} {env : En} {rs : Rs α} (h : (M.bind (dciD i) g) env = some rs) : ∃ ks, env[i]? = some (some (.dci ks)) ∧ g ks env = some rs := by
  have key : ∀ z, dciD i env = some z → ∃ ks, env[i]? = some (some (.dci ks)) ∧ z = .ok ks env := fun z hz => by
    unfold dciD at hz
    split at hz
    · rename_i ks hx
      cases hz
      exact ⟨ks, hx, rfl⟩
    · cases hz
  rcases bind_some h with ⟨a, e, h1, h2⟩ | ⟨C, f, d, h1, h2⟩
  · obtain ⟨ds, e1, e2⟩ := key _ h1
    cases e2
    exact ⟨_, e1, h2⟩
  · obtain ⟨ds, e1, e2⟩ := key _ h1
    cases e2
theorem Rep.dgetI {B : Addr → Prop} {σ : St} {H : Hp} {env : En} {l : List Addr} {i : Nat} {ks : List (Int × Int)} (r : Rep K B σ H env l) (hx : env[i]? = some (some (.dci ks))) :
    ∃ p, σ[i]? = some (some (.ref p)) ∧ H p = some (.dK (kvI ks)) ∧ p ∈ l ∧ ∀ ks', Rep K B σ (upd H p (.dK (kvI ks'))) (env.set i (some (.dci ks'))) l := by
  obtain ⟨s, a, lx, ly, q1, q2, ⟨v, rfl, p, rfl, rfl, q6⟩, q5⟩ := r.rp.focus hx
  have hp : p ∈ l := by rw [q2]; exact List.mem_append_right _ (List.mem_append_left _ (List.mem_cons_self ..))
  refine ⟨p, q1, q6, hp, fun ks' => ?_⟩
  have nd := r.nd
  rw [q2] at nd
  obtain ⟨n1, n2, n3⟩ := List.nodup_append.mp nd
  obtain ⟨n4, n5, n6⟩ := List.nodup_append.mp n2
  have sub : Same (off (un B l) H) (off (un B l) (upd H p (.dK (kvI ks')))) := off_mono (fun b z n => absurd z n) fun b o n e => by rw [upd_ne (fun z => n (.inr (by rw [z]; exact hp)))]; exact e
  refine ⟨?_, r.nd, r.out, fun b z => ?_⟩
  · have := q5 (H' := upd H p (.dK (kvI ks'))) (s' := some (.ref p)) (e' := some (.dci ks')) (a' := [p]) sub
      (fun q z => upd_ne fun e => n3 q z p (List.mem_append_left _ (List.mem_cons_self ..)) e) (fun q z => upd_ne fun e => n6 p (List.mem_cons_self ..) q z e.symm) ⟨_, rfl, p, rfl, rfl, upd_same⟩
    rw [set_same q1] at this
    rw [q2] at this ⊢
    exact this
  · obtain ⟨o, e, n⟩ := r.tb b z
    exact ⟨o, by rw [upd_ne (fun y => r.out p hp (by rw [← y]; exact z))]; exact e, n⟩
def dputI (i : Nat) (fk fv : M R) : M Fl := M.bind fv fun r0 => M.bind (lift (asI r0)) fun v => M.bind (dciD i) fun _ => M.bind fk fun r => M.bind (lift (asI r)) fun k => M.bind (dciD i) fun ks => M.bind (lift (chk (decide (ks.length < 1000)))) fun _ => M.bind (putM i (.dci (putI ks k v))) fun _ => M.pure .nx
theorem OkS.dputI {i : Nat} {tk tv : TE} {fk fv : M R} (o : OkE K E tk fk) (ov : OkE K E tv fv) : OkS K E bx (sDPut (tVar i) tk tv) (Ov.dputI i fk fv) := by
  refine ⟨?_⟩
  intro B σ H env l rs rp h D post
  refine ov.seq rp h post.exn fun a0 e0 v0 H0 h0 r0 f0 q0 => ?_
  obtain ⟨v, g2, h0⟩ := lift_step h0
  rw [asI_some g2] at q0
  cases q0
  obtain ⟨ks0, hx0, h0⟩ := dciD_step h0
  obtain ⟨p, s1, s2, s3, _⟩ := r0.dgetI hx0
  refine ⟨.ref p, s1, ?_⟩
  refine o.seq r0 h0 (exn_later post.exn f0) fun a e v' H1 h1 r1 f1 q1 => ?_
  obtain ⟨k, h2, h3⟩ := lift_step h1
  obtain ⟨ks, hx, h4⟩ := dciD_step h3
  obtain ⟨u, h4a, h4⟩ := lift_step h4
  have hn := of_decide_eq_true (chk_ok h4a)
  obtain ⟨_, h5⟩ := putM_step h4
  cases h5
  rw [asI_some h2] at q1
  cases q1
  obtain ⟨p', t1, t2, t3, t4⟩ := r1.dgetI hx
  rw [s1] at t1
  cases t1
  refine ⟨p, _, rfl, DPut.k (k := Sum.inl k) t2 ?_, ?_⟩
  · unfold kvI
    rw [List.length_map]
    exact small1000 (by omega)
  · rw [kvI_put]
    exact post σ _ l (t4 _) (Fr2.of ((f0.trans f1).trans (fr_upd t3))) fun _ => rfl
end
end Ov
set_option Elab.async false
set_option linter.all false
set_option maxRecDepth 100000
set_option maxHeartbeats 4000000
namespace Ov
open PySem L2
/-! a def that may raise beside its reading in which nothing is raised -/
theorem FnG.imp {P : Program} {w : World} {K : PySem.W.Frag} {mg : Str → Option Value} {base : Heap} {k : Nat} {f : Addr} {fd : FuncData} {ps : List Str} {sp sp' : Sp} (F : FnG P w K mg base k f fd ps sp) (h : ∀ vs H Q E, sp' vs H Q E → sp vs H Q E) : FnG P w K mg base k f fd ps sp' :=
  ⟨fun q => F.count (h _ _ _ _ q), fun hg hr he hb hv hs => F.go hg hr he hb hv (h _ _ _ _ hs)⟩
/-! the one reading goes as far as the other -/
def Le {α : Type} (x y : M α) : Prop := ∀ env v, x env = some v → y env = some v
section
variable {α β : Type} {env e e1 e2 : En} {C : Addr} {fl : Str} {d : PyData}
theorem Le.refl (x : M α) : Le x x := fun _ _ h => h
/-! an error on its way -/
theorem bind_go {x : M α} {f : α → M β} {a : α} {v : Option (Rs β)} (h : x env = some (.ok a e)) (g : f a e = v) : M.bind x f env = v := by
  unfold M.bind
  rw [h]
  exact g
end
end Ov
set_option Elab.async false
set_option linter.all false
set_option maxRecDepth 100000
set_option maxHeartbeats 4000000
namespace Ov
open PySem L2
/-! what is shown, by its size -/
def FL (L dep : Nat) (d : PyData) : Prop := d.hasDict = false ∧ d.depth ≤ dep ∧ d.showable = true ∧ d.shown.length ≤ L
theorem FL.int {i : Int} (h : -(10 ^ 30) ≤ i ∧ i ≤ 10 ^ 30) : FL 2000 1 (.int i) := leaf_fits (m := 0) (by decide) (show -(10 ^ 30 + ((0 : Nat) : Int)) ≤ i ∧ i ≤ 10 ^ 30 + ((0 : Nat) : Int) from ⟨by omega, by omega⟩)
theorem FL.none : FL 2000 1 .none := leaf_fits (m := 0) (by decide) trivial
theorem FL.mono {L L' dep dep' : Nat} {d : PyData} (h : FL L dep d) (e : L ≤ L') (e' : dep ≤ dep') : FL L' dep' d := ⟨h.1, Nat.le_trans h.2.1 e', h.2.2.1, Nat.le_trans h.2.2.2 e⟩
theorem FL.ints {l : List Int} (h : ∀ x ∈ l, -(10 ^ 30) ≤ x ∧ x ≤ 10 ^ 30) : ∀ e ∈ l.map PyData.int, FL 2000 1 e := fun e he => by
  obtain ⟨i, hi, rfl⟩ := List.mem_map.mp he
  exact .int (h i hi)
/-! which class an error is of -/
/-! loops that end in an error -/
end Ov
set_option Elab.async false
set_option linter.all false
set_option maxRecDepth 100000
set_option maxHeartbeats 4000000
set_option Elab.async false
set_option linter.all false
set_option maxRecDepth 100000
set_option maxHeartbeats 4000000
namespace Ov
open PySem L2
/-! lists of own lists -/
def it1W : Wv → Option It1
  | .dat d => some (.dat d)
  | .own xs => (itds xs).map .own
  | _ => none
def it1s : List Wv → Option (List It1)
  | [] => some []
  | w :: ws => (it1W w).bind fun x => (it1s ws).map (x :: ·)
def lstN (fv : M (List Wv)) : M Wv := M.bind fv fun ws => M.bind (lift (it1s ws)) fun xs => M.bind (lift (sz xs.length)) fun _ => M.pure (.own xs)
section
variable {K : PySem.W.Frag} {E : XK}
theorem rp1_of {H G : Hp} {v : V} {w : Wv} {x : It1} {l : List Addr} (h : RpW K H G v w l) (e : it1W w = some x) : Rp1 K H G v x l := by
  cases w with
  | dat d => cases e; exact h
  | own xs =>
    obtain ⟨p, vs, b, e1, e2, e3, e4⟩ := h
    obtain ⟨ds, i1, i2⟩ := Option.map_eq_some_iff.mp (show (itds xs).map It1.own = some x from e)
    subst i2
    rw [itds_eq i1] at e4
    obtain ⟨rfl, q⟩ := rp1s_dats e4
    exact ⟨p, vs, e1, e2, e3, q⟩
  | exc C f d => cases e
  | dct ks => cases e
  | dci kvs => cases e
  | dtk kvs => cases e
  | dts kvs => cases e
  | pin _ _ => cases e
  | dtn _ => cases e
  | nd _ => cases e
theorem rp1s_all {H G : Hp} : ∀ {vs : List V} {ws : List Wv} {xs : List It1} {l : List Addr}, RvAll K H G vs ws l → it1s ws = some xs → Rp1s K H G vs xs l
  | _, _, xs, _, .nil, e => by cases e; rfl
  | _, _, xs, _, .cons (w := w) (ws := ws) h t, e => by
    cases q : it1W w with
    | none => rw [it1s, q] at e; cases e
    | some x =>
      rw [it1s, q] at e
      obtain ⟨ys, e1, e2⟩ := Option.map_eq_some_iff.mp (show (it1s ws).map (x :: ·) = some xs from e)
      subst e2
      exact ⟨_, _, rfl, rp1_of h q, rp1s_all t e1⟩
theorem it1s_len : ∀ {ws : List Wv} {xs : List It1}, it1s ws = some xs → xs.length = ws.length
  | [], _, e => by cases e; rfl
  | w :: ws, xs, e => by
    cases q : it1W w with
    | none => rw [it1s, q] at e; cases e
    | some x =>
      rw [it1s, q] at e
      obtain ⟨ys, e1, e2⟩ := Option.map_eq_some_iff.mp (show (it1s ws).map (x :: ·) = some xs from e)
      subst e2
      rw [List.length_cons, List.length_cons, it1s_len e1]
theorem OkW.lstN {t : TA} {fv : M (List Wv)} (ov : OkV K E t fv) : OkW K E (tLst t) (lstN fv) := by
  refine ⟨?_⟩
  intro B σ H env l rs rp h Q post
  refine ov.seq rp h post.exn fun ws e vs H1 lw h1 r1 f1 q1 nd1 fr1 => ?_
  obtain ⟨xs, e1, h2⟩ := lift_step h1
  obtain ⟨u, e2, h3⟩ := lift_step h2
  cases h3
  have q2 := rp1s_all q1 e1
  refine ⟨by rw [q1.len, ← it1s_len e1]; exact sz_ok e2, fun p hp => ?_⟩
  have np : ¬ un (un B lw) l p := r1.fresh hp
  have s := same_new hp (.lst vs)
  refine post (.ref p) (upd H1 p (.lst vs)) (p :: lw) (r1.grow s (fun b z => z.imp id (List.mem_cons_of_mem _)) (fun b z => ?_) fun b z => ?_) (f1.trans (Fr.of s)) ⟨p, vs, lw, rfl, rfl, upd_same, ?_⟩ (List.nodup_cons.mpr ⟨fun z => np (.inl (.inr z)), nd1⟩) fun b z => ?_
  · rcases z with z | z
    · exact .inl (.inl z)
    · rcases List.mem_cons.mp z with rfl | z
      · exact .inr hp
      · exact .inl (.inr z)
  · rcases z with z | z
    · obtain ⟨o, e, n⟩ := r1.tb b (.inl z)
      exact ⟨o, s _ _ e, n⟩
    · rcases List.mem_cons.mp z with rfl | z
      · exact ⟨_, upd_same, trivial⟩
      · obtain ⟨o, e, n⟩ := r1.tb b (.inr z)
        exact ⟨o, s _ _ e, n⟩
  · refine q2.mv (off_mono (fun b z n => ?_) fun b o n e => s _ _ e) fun b z => ?_
    · rcases z with (z | z) | z
      · exact absurd (.inl (.inl z)) n
      · rcases List.mem_cons.mp z with rfl | z
        · exact hp
        · exact absurd (.inl (.inr z)) n
      · exact absurd (.inr z) n
    · refine upd_ne fun y => ?_
      subst y
      exact np (.inl (.inr z))
  · rcases List.mem_cons.mp z with rfl | z
    · cases q : H b with
      | none => rfl
      | some o =>
        have := f1 b o (fun y => np (.inr y)) q
        rw [hp] at this
        cases this
    · exact fr1 b z
/-! own lists lent to a call that gives back something plain -/
def vwnR (env : En) : R → Option PyData
  | .dat d => some d
  | .slot i => match env[i]? with
    | some (some (.own xs)) => some (.list (xs.map itD))
    | _ => none
  | .exc _ _ _ => none
def vwnRs (env : En) : List R → Option (List PyData)
  | [] => some []
  | r :: rs => (vwnR env r).bind fun d => (vwnRs env rs).map (d :: ·)
def vwsN (rs : List R) : M (List PyData) := fun env => (vwnRs env rs).map fun ds => .ok ds env
def atW : Wv → Option PyData
  | .dat d => if atomD d then some d else none
  | _ => none
def callV (F : List PyData → Option Wv) (fa : M (List R)) : M Wv := M.bind fa fun rs => M.bind (vwsN rs) fun ds => M.bind (lift ((F ds).bind atW)) fun d => M.pure (.dat d)
theorem da_atom {H G : Hp} {v : V} {d : PyData} (a : atomD d = true) (h : Da K H v d) : Da K G v d := by
  cases d with
  | none => cases h; exact .non
  | bool b => cases h; exact .bl _
  | int i => cases h; exact .int _
  | str s => cases h; exact .str _
  | list _ => cases a
  | tuple _ => cases a
  | dict _ => cases a
theorem off_wide {B : Addr → Prop} {l : List Addr} {H : Hp} : Same (off (un B l) H) (off B H) := off_mono (fun b z n => absurd (.inl z) n) fun b o n e => e
theorem vwn_da {B : Addr → Prop} {σ : St} {H : Hp} {env : En} {l : List Addr} (r1 : Rep K B σ H env l) {v : V} {r : R} {d : PyData} (q : RpR K (off (un B l) H) σ v r) (e : vwnR env r = some d) : Da K (off B H) v d := by
  cases r with
  | dat d' => cases e; exact Da.same off_wide _ q
  | exc C f d' => cases e
  | slot i =>
    unfold vwnR at e
    simp only at e
    split at e
    · rename_i xs hx
      cases e
      obtain ⟨s, a, lx, ly, q1, q2, ⟨v', rfl, p, vs, b, rfl, rfl, q6, q7⟩, _⟩ := r1.rp.focus hx
      have : some (some v) = some (some (V.ref p)) := (show σ[i]? = some (some v) from q).symm.trans q1
      cases this
      have nB : ∀ c ∈ p :: b, ¬ B c := fun c z => r1.out c (by rw [q2]; exact List.mem_append_right _ (List.mem_append_left _ z))
      exact .lst (SqL.of ((off_ne (nB p (List.mem_cons_self ..))).trans q6)) (rp1s_free off_wide (fun c z us h => (off_ne (nB c (List.mem_cons_of_mem _ z))).trans h) q7)
    · cases e
theorem vwns_da {B : Addr → Prop} {σ : St} {H : Hp} {env : En} {l : List Addr} (r1 : Rep K B σ H env l) : ∀ {vs : List V} {rs : List R} {ds : List PyData}, RpRs K (off (un B l) H) σ vs rs → vwnRs env rs = some ds → DaAll K (off B H) vs ds
  | [], [], ds, _, e => by cases e; exact .nil
  | v :: vs, r :: rs, ds, q, e => by
    cases z : vwnR env r with
    | none => rw [vwnRs, z] at e; cases e
    | some d =>
      rw [vwnRs, z] at e
      obtain ⟨es, e1, e2⟩ := Option.map_eq_some_iff.mp (show (vwnRs env rs).map (d :: ·) = some ds from e)
      subst e2
      exact .cons (vwn_da r1 q.1 z) (vwns_da r1 q.2 e1)
theorem vwsN_step {α : Type} {rs : List R} {g : List PyData → M α} {env : En} {z : Rs α} (h : (M.bind (vwsN rs) g) env = some z) : ∃ ds, vwnRs env rs = some ds ∧ g ds env = some z := by
  rcases bind_some h with ⟨a, e, h1, h2⟩ | ⟨C, f, d, h1, h2⟩
  · obtain ⟨ds, e1, e2⟩ := Option.map_eq_some_iff.mp (show (vwnRs env rs).map (fun ds => Rs.ok ds env) = _ from h1)
    cases e2
    exact ⟨_, e1, h2⟩
  · obtain ⟨ds, e1, e2⟩ := Option.map_eq_some_iff.mp (show (vwnRs env rs).map (fun ds => Rs.ok ds env) = _ from h1)
    cases e2
theorem callV_ok {B : Addr → Prop} {σ : St} {H H1 : Hp} {e : En} {l : List Addr} {vs : List V} {ds : List PyData} {F : List PyData → Option Wv} {d : PyData} {Q : VK} {E' : XK} (r1 : Rep K B σ H1 e l) (f1 : Fr l H H1) (da : DaAll K (off B H1) vs ds) (hw : (F ds).bind atW = some d)
    (post : PostW K E B σ H l (.ok (.dat d) e) Q) : spA K F vs H1 Q E' := by
  obtain ⟨w, h1, h2⟩ := Option.bind_eq_some_iff.mp hw
  have key : w = .dat d ∧ atomD d = true := by
    cases w with
    | dat d' =>
      unfold atW at h2
      simp only at h2
      split at h2
      · cases h2; exact ⟨rfl, by assumption⟩
      · cases h2
    | own _ => cases h2
    | exc _ _ _ => cases h2
    | dct _ => cases h2
    | dci _ => cases h2
    | dtk _ => cases h2
    | dts _ => cases h2
    | pin _ _ => cases h2
    | dtn _ => cases h2
    | nd _ => cases h2
  obtain ⟨rfl, at_⟩ := key
  refine ⟨B, ds, .dat d, da, r1.tb, h1, fun v H' lw s rw' nd fr => ?_⟩
  obtain ⟨rfl, dv⟩ := rw'
  exact post v H' [] (by rw [un_nil]; exact r1.same s) (f1.trans (Fr.of s)) ⟨rfl, da_atom at_ dv⟩ List.nodup_nil fun b z => by cases z
theorem OkW.callV {F : List PyData → Option Wv} {E' : XK} {t : TA} {fa : M (List R)} (oa : OkA K E t fa) : OkW K E (tCall (spA K F) [] E' t) (Ov.callV F fa) := by
  refine ⟨?_⟩
  intro B σ H env l rs rp h Q post
  refine oa.seq rp h post.exn fun a e vs H1 h1 r1 f1 q1 => ?_
  obtain ⟨ds, h2, h3⟩ := vwsN_step h1
  obtain ⟨d, h4, h5⟩ := lift_step h3
  cases h5
  rw [List.append_nil]
  exact callV_ok r1 f1 (vwns_da r1 q1 h2) h4 post
/-! x[k].append(v) -/
theorem Rp1s.focus : ∀ {H G : Hp} {vs : List V} {xs : List It1} {l : List Addr} {k : Nat} {x : It1}, Rp1s K H G vs xs l → xs[k]? = some x → ∃ v a lx ly, vs[k]? = some v ∧ l = lx ++ (a ++ ly) ∧ Rp1 K H G v x a ∧
    ∀ {H' G' : Hp} {x' : It1} {a' : List Addr}, Same G G' → (∀ q ∈ lx, H' q = H q) → (∀ q ∈ ly, H' q = H q) → Rp1 K H' G' v x' a' → Rp1s K H' G' vs (xs.set k x') (lx ++ (a' ++ ly))
  | H, G, [], [], l, k, x, h, q => by simp at q
  | H, G, v :: vs, x :: xs, l, 0, _, ⟨a, b, z, h1, h2⟩, q => by
    cases q
    exact ⟨v, a, [], b, rfl, z, h1, fun {H' G' x' a'} sg kx ky h' => ⟨a', b, rfl, h', h2.mv sg ky⟩⟩
  | H, G, v :: vs, x :: xs, l, k + 1, x0, ⟨a, b, z, h1, h2⟩, q => by
    obtain ⟨v0, a0, lx, ly, q1, q2, q3, q4⟩ := Rp1s.focus (k := k) (x := x0) h2 q
    refine ⟨v0, a0, a ++ lx, ly, q1, by rw [z, q2, List.append_assoc], q3, fun {H' G' x' a'} sg kx ky h' => ?_⟩
    refine ⟨a, lx ++ (a' ++ ly), by rw [List.append_assoc], h1.mv sg fun q y => kx q (List.mem_append_left _ y), q4 sg (fun q y => kx q (List.mem_append_right _ y)) ky h'⟩
theorem Rep.mutN {B : Addr → Prop} {σ : St} {H : Hp} {env : En} {l : List Addr} {i k : Nat} {xs : List It1} {ds : List PyData} (r : Rep K B σ H env l) (hx : env[i]? = some (some (.own xs))) (hk : xs[k]? = some (.own ds)) :
    ∃ p vs q us, σ[i]? = some (some (.ref p)) ∧ H p = some (.lst vs) ∧ vs[k]? = some (.ref q) ∧ q ∈ l ∧ H q = some (.lst us) ∧ DaAll K (off (un B l) H) us ds ∧
      ∀ {us' : List V} {ds' : List PyData}, DaAll K (off (un B l) H) us' ds' → Rep K B σ (upd H q (.lst us')) (env.set i (some (.own (xs.set k (.own ds'))))) l := by
  obtain ⟨s, a, lx, ly, q1, q2, ⟨v, rfl, p, vs, b, rfl, rfl, q6, q7⟩, q5⟩ := r.rp.focus hx
  obtain ⟨v, c, bx, by', k1, k2, ⟨q, us, rfl, rfl, k3, k4⟩, k5⟩ := q7.focus hk
  have ql : q ∈ l := by rw [q2, k2]; simp
  have nd := r.nd
  rw [q2, k2] at nd
  refine ⟨p, vs, q, us, q1, q6, k1, ql, k3, k4, fun {us' ds'} h' => ?_⟩
  have sub : Same (off (un B l) H) (off (un B l) (upd H q (.lst us'))) := off_mono (fun b z n => absurd z n) fun b o n e => by rw [upd_ne (fun z => n (.inr (by rw [z]; exact ql)))]; exact e
  have ne : ∀ z, z ∈ lx ∨ z = p ∨ z ∈ bx ∨ z ∈ by' ∨ z ∈ ly → z ≠ q := by
    intro z hz e
    subst e
    simp only [List.nodup_append, List.nodup_cons, List.mem_append, List.mem_cons, List.not_mem_nil, or_false] at nd
    grind
  refine ⟨?_, r.nd, r.out, fun b z => ?_⟩
  · have := q5 (H' := upd H q (.lst us')) (G' := off (un B l) (upd H q (.lst us'))) (s' := some (.ref p)) (e' := some (.own (xs.set k (.own ds')))) (a' := p :: (bx ++ ([q] ++ by'))) sub
      (fun z hz => upd_ne (ne z (.inl hz))) (fun z hz => upd_ne (ne z (.inr (.inr (.inr (.inr hz))))))
      ⟨_, rfl, p, vs, _, rfl, rfl, (upd_ne (ne p (.inr (.inl rfl)))).trans q6, k5 sub (fun z hz => upd_ne (ne z (.inr (.inr (.inl hz))))) (fun z hz => upd_ne (ne z (.inr (.inr (.inr (.inl hz)))))) ⟨q, us', rfl, rfl, upd_same, DaAll.same sub ds' h'⟩⟩
    rw [set_same q1] at this
    rw [← k2, ← q2] at this
    exact this
  · obtain ⟨o, e, n⟩ := r.tb b z
    exact ⟨o, by rw [upd_ne (fun y => r.out q ql (by rw [← y]; exact z))]; exact e, n⟩
def ownN (i k : Nat) : M (List PyData) := fun env =>
  match env[i]? with
  | some (some (.own xs)) => match xs[k]? with
    | some (.own ds) => some (.ok ds env)
    | _ => none
  | _ => none
theorem ownN_step {α : Type} {i k : Nat} {g : List PyData → M α} {env : En} {rs : Rs α} (h : (M.bind (ownN i k) g) env = some rs) : ∃ xs ds, env[i]? = some (some (.own xs)) ∧ xs[k]? = some (.own ds) ∧ g ds env = some rs := by
  have key : ∀ z, ownN i k env = some z → ∃ xs ds, env[i]? = some (some (.own xs)) ∧ xs[k]? = some (.own ds) ∧ z = .ok ds env := fun z hz => by
    unfold ownN at hz
    split at hz
    · rename_i xs hx
      split at hz
      · rename_i ds hd
        cases hz
        exact ⟨xs, ds, hx, hd, rfl⟩
      · cases hz
    · cases hz
  rcases bind_some h with ⟨a, e, h1, h2⟩ | ⟨C, f, d, h1, h2⟩
  · obtain ⟨xs, ds, e1, e2, e3⟩ := key _ h1
    cases e3
    exact ⟨_, _, e1, e2, h2⟩
  · obtain ⟨xs, ds, e1, e2, e3⟩ := key _ h1
    cases e3
def setN (i k : Nat) (ds : List PyData) : M Unit := fun env => match env[i]? with
  | some (some (.own xs)) => some (.ok () (env.set i (some (.own (xs.set k (.own ds))))))
  | _ => none
/-- with an argument that is a constant -/
def mthN (i k : Nat) (fo : List PyData → List PyData → Option (List PyData × PyData)) (as : List PyData) : M R := M.bind (ownN i k) fun ds => M.bind (lift (fo ds as)) fun r => M.bind (setN i k r.1) fun _ => M.pure (.dat r.2)
theorem atI_nat {α : Type} {xs : List α} {k : Nat} {v : α} (h : xs[k]? = some v) : L2.atI xs (k : Int) = some v := by
  have lt : k < xs.length := by
    by_cases z : k < xs.length
    · exact z
    · rw [List.getElem?_eq_none (by omega)] at h; cases h
  unfold L2.atI L2.ixN
  rw [if_pos (by omega), if_pos (by omega)]
  exact h
theorem OkE.mthN {i k : Nat} {u : V} {c : PyData} {r : V → List V → Hp → VK → Prop} {fo : List PyData → List PyData → Option (List PyData × PyData)} (o : MtOk K r fo) (hc : ∀ H : Hp, Da K H u c) : OkE K E (tBM K "list" r (tOp (rIx K) (tVar i) (fun _ H Q => Q (.int (k : Int)) H)) (tCons (fun _ H Q => Q u H) tNil)) (Ov.mthN i k fo [c]) := by
  refine ⟨?_⟩
  intro B σ H env l rs rp h Q post
  obtain ⟨xs, ds, hx, hk, h4⟩ := ownN_step h
  obtain ⟨⟨ds', d⟩, h5, h6⟩ := lift_step h4
  have h7 : (M.pure (.dat d) : M R) (env.set i (some (.own (xs.set k (.own ds'))))) = some rs := by
    have := h6
    unfold setN M.bind at this
    simp only [hx] at this
    exact this
  cases h7
  obtain ⟨p, vs0, q, us0, a1, a2, a3, a4, a5, a6, a7⟩ := rp.mutN hx hk
  refine ⟨.ref p, a1, .inl ⟨p, vs0, (k : Int), .ref q, rfl, rfl, SqL.of a2, atI_nat a3, .inl ⟨rfl, _, SqL.of a5⟩, ?_⟩⟩
  refine o a5 a6 (.cons (hc _) .nil) h5 fun v vs' d1 d2 => post v _ (a7 d1) (fr_upd a4) ?_
  refine Da.same (off_mono (fun b z n => absurd z n) fun b o n e => ?_) _ d2
  rw [upd_ne (fun z => n (.inr (by rw [z]; exact a4)))]
  exact e
end
section
variable {env e : En}
theorem lstN_x {fv : M (List Wv)} {ws : List Wv} {xs : List It1} (h : fv env = some (.ok ws e)) (h2 : it1s ws = some xs) (h3 : xs.length ≤ 1000000) : lstN fv env = some (.ok (.own xs) e) := by
  refine bind_go h (bind_go (show lift (it1s ws) e = some (.ok xs e) by rw [h2]; rfl) (bind_go (a := ()) (e := e) ?_ rfl))
  show lift (sz xs.length) e = _
  unfold sz
  rw [if_pos h3]
  rfl
theorem callV_x {F : List PyData → Option Wv} {fa : M (List R)} {rs : List R} {ds : List PyData} {d : PyData} (h : fa env = some (.ok rs e)) (h2 : vwnRs e rs = some ds) (h3 : F ds = some (.dat d)) (h4 : atomD d = true) : callV F fa env = some (.ok (.dat d) e) := by
  refine bind_go h (bind_go (show vwsN rs e = some (.ok ds e) by unfold vwsN; rw [h2]; rfl) (bind_go (a := d) (e := e) ?_ rfl))
  rw [h3]
  show lift (if atomD d then some d else none) e = _
  rw [if_pos h4]
  rfl
theorem mthN_x {i k : Nat} {fo : List PyData → List PyData → Option (List PyData × PyData)} {as ds : List PyData} {xs : List It1} {z : List PyData × PyData} (hx : env[i]? = some (some (.own xs))) (hk : xs[k]? = some (.own ds)) (h : fo ds as = some z) : mthN i k fo as env = some (.ok (.dat z.2) (env.set i (some (.own (xs.set k (.own z.1)))))) := by
  refine bind_go (a := ds) (e := env) ?_ (bind_go (a := z) (e := env) (by rw [h]; rfl) (bind_go (a := ()) (e := env.set i (some (.own (xs.set k (.own z.1))))) ?_ rfl))
  · unfold ownN
    simp only [hx, hk]
  · unfold setN
    simp only [hx]
end
theorem it1s_o {L : List PyData} {ws : List Wv} {xs : List It1} (h : it1s ws = some xs) : it1s (.own (dats L) :: ws) = some (.own L :: xs) := by
  rw [it1s, it1W, itds_dats, h]
  rfl
theorem vwn0 {e : En} : vwnRs e [] = some [] := rfl
theorem vwnD {e : En} {d : PyData} {rs : List R} {ds : List PyData} (h : vwnRs e rs = some ds) : vwnRs e (.dat d :: rs) = some (d :: ds) := by rw [vwnRs, vwnR, h]; rfl
theorem vwnN {e : En} {i : Nat} {xs : List It1} {L : List PyData} {rs : List R} {ds : List PyData} (h0 : e[i]? = some (some (.own xs))) (h1 : xs.map itD = L) (h : vwnRs e rs = some ds) : vwnRs e (.slot i :: rs) = some (.list L :: ds) := by
  rw [vwnRs, vwnR, h]
  simp only [h0, h1]
  rfl
end Ov
set_option Elab.async false
set_option linter.all false
set_option maxRecDepth 100000
set_option maxHeartbeats 4000000
set_option Elab.async false
set_option linter.all false
set_option maxRecDepth 100000
set_option maxHeartbeats 4000000
set_option Elab.async false
set_option linter.all false
set_option maxRecDepth 100000
set_option maxHeartbeats 4000000
set_option Elab.async false
set_option linter.all false
set_option maxRecDepth 100000
set_option maxHeartbeats 4000000
namespace Ov
open PySem L2
section
variable {K : PySem.W.Frag} {E : XK} {bx : Bool}
theorem OkWat.seq {α : Type} {σ : St} {ta : TE} {fa : M Wv} {g : Wv → M α} (oa : OkWat K E σ ta fa) {B : Addr → Prop} {H : Hp} {env : En} {l : List Addr} {rs : Rs α} (r : Rep K B σ H env l) (h : (M.bind fa g) env = some rs) {Q : VK}
    (hx : ∀ C f d, rs = .ex C f d → Exn K E B H l C f d) (hq : ∀ a e v H' lw, g a e = some rs → Rep K (un B lw) σ H' e l → Fr l H H' → RpW K H' (off (un (un B lw) l) H') v a lw → lw.Nodup → (∀ b ∈ lw, H b = none) → Q v H') : ta σ H Q := by
  rcases bind_some h with ⟨a, e, h1, h2⟩ | ⟨C, f, d, h1, h2⟩
  · exact oa.run r h1 (fun v H' lw r' fr q n1 n2 => hq a e v H' lw h2 r' fr q n1 n2)
  · exact oa.run r h1 (hx C f d h2)
end
end Ov
set_option Elab.async false
set_option linter.all false
set_option maxRecDepth 100000
set_option maxHeartbeats 4000000
set_option Elab.async false
set_option linter.all false
set_option maxRecDepth 100000
set_option maxHeartbeats 4000000
set_option Elab.async false
set_option linter.all false
set_option maxRecDepth 100000
set_option maxHeartbeats 4000000
namespace Ov
open PySem L2 PySem.Spec PyProof.Rows
/-! dict(zip(a, b)), each of them a list or a tuple -/
theorem SeB.ob {t : Bool} {h : Heap} {l : Addr} {its : Array Value} (x : SeB t h l its) : ∃ o, h.get? l = some o := by
  cases t with
  | true => obtain ⟨o, e, _⟩ := x; exact ⟨o, e⟩
  | false => obtain ⟨o, e, _⟩ := x; exact ⟨o, e⟩
theorem SeB.up {t : Bool} {h h' : Heap} {l : Addr} {its : Array Value} (x : SeB t h l its) (f : ∀ o, h.get? l = some o → h'.get? l = some o) : SeB t h' l its := by
  cases t with
  | true => obtain ⟨o, e, r⟩ := x; exact ⟨o, f _ e, r⟩
  | false => obtain ⟨o, e, r⟩ := x; exact ⟨o, f _ e, r⟩
/-! as data -/
end Ov
set_option Elab.async false
set_option linter.all false
set_option maxRecDepth 100000
set_option maxHeartbeats 4000000
set_option Elab.async false
set_option linter.all false
set_option maxRecDepth 100000
set_option maxHeartbeats 4000000
set_option Elab.async false
set_option linter.all false
set_option maxRecDepth 100000
set_option maxHeartbeats 4000000
namespace Ov
section
open PySem PySem.Spec PySem.Calls PyProof.Rows L2
/-! sorted of tuples of numbers: all of them with items, or all without -/
/-- sorted(xs), xs a list of tuples of numbers -/
def NsV (K : PySem.W.Frag) (H : Hp) (xs : List V) (nss : List (List Int)) : Prop := xs.length = nss.length ∧ ∀ (i : Nat) (x : V) (ns : List Int), xs[i]? = some x → nss[i]? = some ns → ∃ t, x = .ref t ∧ TP H t (ns.map V.int)
end
open PySem L2
/-! the same over data -/
section
variable {K : PySem.W.Frag} {E : XK}
theorem NsV.same {H H' : Hp} (s : Same H H') {xs : List V} {nss : List (List Int)} (h : NsV K H xs nss) : NsV K H' xs nss :=
  ⟨h.1, fun i x p hx hp => by obtain ⟨t, e, q⟩ := h.2 i x p hx hp; exact ⟨t, e, q.same s⟩⟩
end
end Ov
set_option Elab.async false
set_option linter.all false
set_option maxRecDepth 100000
set_option maxHeartbeats 4000000
set_option Elab.async false
set_option linter.all false
set_option maxRecDepth 100000
set_option maxHeartbeats 4000000
set_option Elab.async false
set_option linter.all false
set_option maxRecDepth 100000
set_option maxHeartbeats 4000000
namespace Ov
section
open PySem PySem.Spec L2
variable {K : PySem.W.Frag} {E : XK}
/-! x[k].append(y), k and y numbers in slots -/
theorem Rep.int {B : Addr → Prop} {σ : St} {H : Hp} {env : En} {l : List Addr} {j : Nat} {k : Int} (r : Rep K B σ H env l) (h : env[j]? = some (some (.dat (.int k)))) : σ[j]? = some (some (.int k)) := by
  obtain ⟨s, a, lx, ly, q1, q2, ⟨v, q3, q4⟩, _⟩ := r.rp.focus h
  subst q3
  have := q4.2
  cases this
  exact q1
/-! [[] for x in ..] -/
end
end Ov
set_option Elab.async false
set_option linter.all false
set_option maxRecDepth 100000
set_option maxHeartbeats 4000000
namespace Ov
section
open PySem PySem.Spec L2
variable {X : Cx} {K : PySem.W.Frag} (hK : X.K = K)
include hK
theorem k_bm0 {T id : String} {o : Expr} {to : TE} {name : Str} {apos cpos : Pos} {r : V → List V → Hp → VK → Prop} (pa : PlainAttrs T) (slot : Slot T name id) (hty : typeOf (.builtin id) = pure (.type "method_descriptor")) (hm : MtR X id r) (ho : PE X o to)
    (hbase : attributeBase o name X.env (eval o X.env) = eval o X.env := by rfl) (hline : (apos.endLine == cpos.line) = true := by rfl) :
    PE X (.Call (.Attribute o name apos) [] [] cpos) (tBM0 K T r to) := by subst hK; exact pe_bm0 pa slot hty hm ho hbase hline
end
end Ov
set_option Elab.async false
set_option linter.all false
set_option maxRecDepth 100000
set_option maxHeartbeats 4000000
set_option Elab.async false
set_option linter.all false
set_option maxRecDepth 100000
set_option maxHeartbeats 4000000
namespace L2
open PySem PySem.Spec PyProof.Rows
end L2
set_option Elab.async false
set_option linter.all false
set_option maxRecDepth 100000
set_option maxHeartbeats 4000000
namespace L2
open PySem PySem.Spec PyProof.Rows
/-! min of a list of pairs of numbers; the greatest value of a dict of tuples -/
end L2
set_option Elab.async false
set_option linter.all false
set_option maxRecDepth 100000
set_option maxHeartbeats 4000000
namespace L2
open PySem PySem.Spec PyProof.Rows
end L2
set_option Elab.async false
set_option linter.all false
set_option maxRecDepth 100000
set_option maxHeartbeats 4000000
set_option Elab.async false
set_option linter.all false
set_option maxRecDepth 100000
set_option maxHeartbeats 4000000
namespace Ov
open PySem L2
section
variable {K : PySem.W.Frag} {E : XK} {bx : Bool}
theorem Rep.updB {B : Addr → Prop} {σ : St} {H : Hp} {env : En} {l : List Addr} {p : Addr} {o : HO} (r : Rep K B σ H env l) (hp : B p) (n : NT o) : Rep K B σ (upd H p o) env l := by
  refine ⟨r.rp.mv ?_ fun q z => upd_ne fun e => r.out q z (by rw [e]; exact hp), r.nd, r.out, fun b z => ?_⟩
  · exact off_mono (fun b z n => absurd z n) fun b o n e => by rw [upd_ne (fun z => n (.inl (by rw [z]; exact hp)))]; exact e
  · by_cases e : b = p
    · subst e; exact ⟨_, upd_same, n⟩
    · rw [upd_ne e]; exact r.tb b z
/-! a dict as data -/
end
end Ov
set_option Elab.async false
set_option linter.all false
set_option maxRecDepth 100000
set_option maxHeartbeats 4000000
set_option Elab.async false
set_option linter.all false
set_option maxRecDepth 100000
set_option maxHeartbeats 4000000
set_option Elab.async false
set_option linter.all false
set_option maxRecDepth 100000
set_option maxHeartbeats 4000000
set_option Elab.async false
set_option linter.all false
set_option maxRecDepth 100000
set_option maxHeartbeats 4000000
set_option Elab.async false
set_option linter.all false
set_option maxRecDepth 100000
set_option maxHeartbeats 4000000
namespace Ov
open PySem L2 PySem.Spec PyProof.Rows
/-! a comprehension over zip(a, b) with one name as target: the zip keeps its first pair -/
structure Lq (X : Cx) (pins : List (Addr × Obj)) (σ : L2.St) (t u : Bool) (a b : Addr) (xs ys : List V) (z m n c d : Addr) (H0 : Hp) (i : Nat) (H : Hp) (s : Shared) : Prop where
  lz : Lz X pins σ t u a b xs ys z m n c d H0 i H s
  nt : ∃ x y, IsTupOf2 s.heap n x y
section
variable {X : Cx} {pins : List (Addr × Obj)} {σ : L2.St} {t u : Bool} {a b z m n c d : Addr} {xs ys : List V} {H0 H : Hp} {i : Nat} {s : Shared} {A : Around} {E : Value → Shared → Prop}
theorem Lq.obj (L : Lq X pins σ t u a b xs ys z m n c d H0 i H s) : ∀ e ∈ [z, m, n, c, d], ∃ o, s.heap.get? e = some o ∧ ∀ v, o.data ≠ .cell v := fun e he => by
  simp only [List.mem_cons, List.not_mem_nil, or_false] at he
  rcases he with rfl | rfl | rfl | rfl | rfl
  · rcases L.lz.zs with ⟨k, _⟩ | ⟨T, f, x, y, k, _⟩
    · exact ⟨_, k, fun v q => nomatch q⟩
    · exact ⟨_, k, fun v q => nomatch q⟩
  · exact ⟨_, L.lz.tm, fun v q => nomatch q⟩
  · obtain ⟨x, y, k⟩ := L.nt; exact ⟨_, k, fun v q => nomatch q⟩
  · obtain ⟨o, k, z⟩ := L.lz.i1.ob; exact ⟨o, k, z⟩
  · obtain ⟨o, k, z⟩ := L.lz.i2.ob; exact ⟨o, k, z⟩
theorem Lq.item {Q : Option Value → Shared → Prop} {x y : V} (L : Lq X pins σ t u a b xs ys z m n c d H0 i H s) (hA : A.handled = none) (D : ZipSep2 z m n c d [c, a] [d, b]) (na : a ≠ c) (nb : b ≠ d) (ex : xs[i]? = some x) (ey : ys[i]? = some y)
    (q : ∀ T s', H T = none → Lq X pins σ t u a b xs ys z m n c d H0 (i + 1) (upd H T (.tup [x, y])) s' → Q (some (.ref T)) s') : wpAny (model X.prog X.w) A (pyNext (.ref z)) Q E s := by
  obtain ⟨L, x9, y9, n9⟩ := L
  have ln : n < s.heap.objs.size := Heap.lt_size n9
  obtain ⟨is, rx, px⟩ := (L.fa.same L.base).read L.inv
  obtain ⟨js, ry, py⟩ := (L.fb.same L.base).read L.inv
  obtain ⟨v1, e1, r1⟩ := rx.get ex
  obtain ⟨v2, e2, r2⟩ := ry.get ey
  have b1 : i < is.toArray.size := by simpa using (List.getElem?_eq_some_iff.mp e1).1
  have b2 : i < js.toArray.size := by simpa using (List.getElem?_eq_some_iff.mp e2).1
  have fr : H s.heap.objs.size = none := L.inv.hok.fresh (Nat.le_refl _)
  have lt : ∀ e ∈ [z, m, n, c, d], e < s.heap.objs.size := fun e he => by
    rcases L.obj e he with rfl | ⟨o, k⟩
    · exact ln
    · exact Heap.lt_size k
  have fin : ∀ (w1 w2 : Value) (h' : Heap) (tk : Nat), is.toArray[i]? = some w1 → js.toArray[i]? = some w2 → Zs h' (upd H s.heap.objs.size (.tup [x, y])) z m n → ItB t h' c a (i + 1) → ItB u h' d b (i + 1) → IsTupOf2 h' s.heap.objs.size w1 w2 → (∃ x y, IsTupOf2 h' n x y) →
      (∀ e o, e ≠ z → e ≠ n → e ≠ c → e ≠ d → s.heap.get? e = some o → h'.get? e = some o) → Q (some (.ref s.heap.objs.size)) { s with heap := h', toks := tk } := fun w1 w2 h' tk g1 g2 z' s1 s2 nw n' hk => by
    have c1 : w1 = v1 := Option.some.inj (g1.symm.trans (by simpa using e1))
    have c2 : w2 = v2 := Option.some.inj (g2.symm.trans (by simpa using e2))
    subst c1 c2
    have ok : ObjOk X.prog X.w (upd H s.heap.objs.size (.tup [x, y])) h' s.heap.objs.size (.tup [x, y]) := ⟨by show 2 ≤ sizeLine; decide, [w1, w2], .cons r1 (.cons r2 .nil), ⟨_, nw, rfl, _, rfl⟩⟩
    have I1 : Inv X pins σ (upd H s.heap.objs.size (.tup [x, y])) { s with heap := h', toks := tk } := by
      refine L.inv.turnedNew (t' := tk) (ch := [z, m, n, c, d]) (fun e o he k => ?_) L.free (Nat.le_refl _) ok
      simp only [List.mem_cons, List.not_mem_nil, or_false, not_or] at he
      exact hk e o he.1 he.2.2.1 he.2.2.2.1 he.2.2.2.2 k
    refine q _ _ fr ⟨⟨I1, L.fa, L.fb, L.base.trans (same_new fr _), fun e he => ⟨?_, (L.free e he).2⟩, z', hk _ _ D.TIz D.TITO D.TIi1 D.TIi2 L.tm, s1, s2⟩, n'⟩
    rw [upd_ne (Nat.ne_of_lt (lt e he))]
    exact (L.free e he).1
  rcases L.zs with ⟨k, x0, y0, k0⟩ | ⟨T, f, x0, y0, k, k0⟩
  · refine wpAny_pyNext_zipD2_item D (drB t (A := A.in1) hA c a na is.toArray) (drB u (A := A.in1) hA d b nb js.toArray) k L.tm k0 ⟨L.i1, px⟩ ⟨L.i2, py⟩ b1 b2 ?_
    intro w1 w2 h' tk p1 p2 z' n' s1 s2 nw hsz hk
    exact fin w1 w2 h' tk p1 p2 (.inr ⟨s.heap.objs.size, false, x, y, z', upd_same⟩) s1.1 s2.1 nw ⟨_, _, n'⟩ hk
  · obtain ⟨oT, kT⟩ := tup_live L.inv k0
    refine zh_item D (drB t (A := A.in1) hA c a na is.toArray) (drB u (A := A.in1) hA d b nb js.toArray) k kT L.tm ⟨L.i1, px⟩ ⟨L.i2, py⟩ b1 b2 ?_
    intro w1 w2 h' tk p1 p2 z' s1 s2 nw hk
    refine fin w1 w2 h' tk p1 p2 (.inr ⟨T, true, x0, y0, z', ?_⟩) s1.1 s2.1 nw ⟨_, _, hk _ _ D.TOz D.Ti1 D.Ti2 n9⟩ fun e o q1 _ q3 q4 => hk e o q1 q3 q4
    rw [upd_ne (ne_of_none k0 fr)]
    exact k0
end
end Ov
set_option Elab.async false
set_option linter.all false
set_option maxRecDepth 100000
set_option maxHeartbeats 4000000
set_option Elab.async false
set_option linter.all false
set_option maxRecDepth 100000
set_option maxHeartbeats 4000000
set_option Elab.async false
set_option linter.all false
set_option maxRecDepth 100000
set_option maxHeartbeats 4000000
set_option Elab.async false
set_option linter.all false
set_option maxRecDepth 100000
set_option maxHeartbeats 4000000
set_option Elab.async false
set_option linter.all false
set_option maxRecDepth 100000
set_option maxHeartbeats 4000000
namespace Ov
open PySem L2
/-! values that the kernel works out -/
mutual
def eqP : PyData → PyData → Bool
  | .none, .none => true
  | .bool a, .bool b => a == b
  | .int a, .int b => decide (a = b)
  | .list a, .list b => eqPs a b
  | .tuple a, .tuple b => eqPs a b
  | _, _ => false
def eqPs : List PyData → List PyData → Bool
  | [], [] => true
  | a :: r, b :: s => eqP a b && eqPs r s
  | _, _ => false
end
mutual
theorem eqP_ok : ∀ (a b : PyData), eqP a b = true → a = b
  | .none, b, h => by cases b <;> first | rfl | (simp [eqP] at h)
  | .bool x, b, h => by cases b <;> first | (simp [eqP] at h; done) | (simp [eqP] at h; rw [h])
  | .int x, b, h => by cases b <;> first | (simp [eqP] at h; done) | (simp [eqP] at h; rw [h])
  | .str x, b, h => by cases b <;> simp [eqP] at h
  | .list x, b, h => by
    cases b with
    | list y => simp only [eqP] at h; rw [eqPs_ok x y h]
    | _ => simp [eqP] at h
  | .tuple x, b, h => by
    cases b with
    | tuple y => simp only [eqP] at h; rw [eqPs_ok x y h]
    | _ => simp [eqP] at h
  | .dict x, b, h => by cases b <;> simp [eqP] at h
theorem eqPs_ok : ∀ (a b : List PyData), eqPs a b = true → a = b
  | [], [], _ => rfl
  | [], b :: s, h => by simp [eqPs] at h
  | a :: r, [], h => by simp [eqPs] at h
  | a :: r, b :: s, h => by
    simp only [eqPs, Bool.and_eq_true] at h
    rw [eqP_ok a b h.1, eqPs_ok r s h.2]
end
def eqW (w : Option Wv) (d : PyData) : Bool :=
  match w with
  | some (.dat x) => eqP x d
  | _ => false
theorem kW {w : Option Wv} {d : PyData} (h : eqW w d = true) : w = some (.dat d) := by
  unfold eqW at h
  split at h
  · rw [eqP_ok _ _ h]
  · cases h
/-! sorting that the kernel can do -/
def insI (x : Int) : List Int → List Int
  | [] => [x]
  | y :: r => if x ≤ y then x :: y :: r else y :: insI x r
def srtI : List Int → List Int
  | [] => []
  | x :: r => insI x (srtI r)
theorem insI_perm (x : Int) : ∀ l : List Int, (insI x l).Perm (x :: l)
  | [] => .refl _
  | y :: r => by
    unfold insI
    split
    · exact .refl _
    · exact (List.Perm.cons y (insI_perm x r)).trans (.swap x y r)
theorem insI_pw (x : Int) : ∀ l : List Int, l.Pairwise (· ≤ ·) → (insI x l).Pairwise (· ≤ ·)
  | [], _ => by simp [insI]
  | y :: r, h => by
    unfold insI
    obtain ⟨h1, h2⟩ := List.pairwise_cons.mp h
    split
    · rename_i hx
      refine List.pairwise_cons.mpr ⟨fun z hz => ?_, h⟩
      rcases List.mem_cons.mp hz with rfl | hz
      · exact hx
      · exact Int.le_trans hx (h1 z hz)
    · rename_i hx
      refine List.pairwise_cons.mpr ⟨fun z hz => ?_, insI_pw x r h2⟩
      rcases List.mem_cons.mp ((insI_perm x r).mem_iff.mp hz) with rfl | hz
      · omega
      · exact h1 z hz
theorem srtI_eq : ∀ l : List Int, srtI l = sortI l := fun l => by
  have p : ∀ l : List Int, (srtI l).Perm l ∧ (srtI l).Pairwise (· ≤ ·) := fun l => by
    induction l with
    | nil => exact ⟨.refl _, .nil⟩
    | cons x r ih => exact ⟨(insI_perm x _).trans (ih.1.cons x), insI_pw x _ ih.2⟩
  exact sort_uniq ((p l).1.trans (sortI_perm l).symm) (p l).2 (sortI_pw l)
/-! the same for pairs -/
def insQ (x : Int × Int) : List (Int × Int) → List (Int × Int)
  | [] => [x]
  | y :: r => if x.1 < y.1 ∨ (x.1 = y.1 ∧ x.2 ≤ y.2) then x :: y :: r else y :: insQ x r
def srtQ : List (Int × Int) → List (Int × Int)
  | [] => []
  | x :: r => insQ x (srtQ r)
theorem insQ_perm (x : Int × Int) : ∀ l : List (Int × Int), (insQ x l).Perm (x :: l)
  | [] => .refl _
  | y :: r => by
    unfold insQ
    split
    · exact .refl _
    · exact (List.Perm.cons y (insQ_perm x r)).trans (.swap x y r)
theorem insQ_pw (x : Int × Int) : ∀ l : List (Int × Int), l.Pairwise leP → (insQ x l).Pairwise leP
  | [], _ => by simp [insQ]
  | y :: r, h => by
    unfold insQ
    obtain ⟨h1, h2⟩ := List.pairwise_cons.mp h
    split
    · rename_i hx
      refine List.pairwise_cons.mpr ⟨fun z hz => ?_, h⟩
      rcases List.mem_cons.mp hz with rfl | hz
      · exact hx
      · have := h1 z hz
        unfold leP at this ⊢
        omega
    · rename_i hx
      refine List.pairwise_cons.mpr ⟨fun z hz => ?_, insQ_pw x r h2⟩
      rcases List.mem_cons.mp ((insQ_perm x r).mem_iff.mp hz) with rfl | hz
      · unfold leP
        omega
      · exact h1 z hz
theorem srtQ_eq : ∀ l : List (Int × Int), srtQ l = sortP l := fun l => by
  have p : ∀ l : List (Int × Int), (srtQ l).Perm l ∧ (srtQ l).Pairwise leP := fun l => by
    induction l with
    | nil => exact ⟨.refl _, .nil⟩
    | cons x r ih => exact ⟨(insQ_perm x _).trans (ih.1.cons x), insQ_pw x _ ih.2⟩
  exact sortP_uniq ((p l).1.trans (sortP_perm l).symm) (p l).2 (sortP_pw l)
end Ov
set_option Elab.async false
set_option linter.all false
set_option maxRecDepth 100000
set_option maxHeartbeats 4000000
set_option Elab.async false
set_option linter.all false
set_option maxRecDepth 100000
set_option maxHeartbeats 4000000
namespace Ov
open PySem L2 PySem.Spec PyProof.Rows
/-! a set out of a list, whatever is known of it after i items: J i -/
section
variable {P : Program} {w : World} {A : Around} {E : Value → Shared → Prop} {s : Shared}
/-- what one more item does -/
def AddsJ (P : Program) (w : World) (A : Around) (S : Addr) (J : Nat → Heap → Prop) (n : Nat) (Pv : Nat → Value → Prop) : Prop :=
  ∀ (i : Nat) (v : Value) (s : Shared) (E : Value → Shared → Prop) (Q : Shared → Prop), i < n → Pv i v → J i s.heap → (∀ h' tk, s.toks ≤ tk → Heap.SameBut S s.heap h' → J (i + 1) h' → Q { s with heap := h', toks := tk }) → wpAny (model P w) A (holding [v] (setAdd S v)) (fun _ s' => Q s') E s
theorem set_loopJ {I S : Addr} {fp wr : List Addr} {G : Array GenState → Array GenState → Prop} {n : Nat} {Pv : Nat → Value → Prop} {St : Nat → Shared → Prop} {R : Result → Shared → Prop} {J : Nat → Heap → Prop} (W : WalksS P w A.in1 I fp wr G n Pv St) (hSf : S ∉ fp)
    (kp : ∀ i h h', J i h → (∀ b o, b ∉ wr → h.get? b = some o → h'.get? b = some o) → J i h') (ad : AddsJ P w A.in1 S J n Pv) :
    ∀ (k i : Nat) (s : Shared), n - i = k → i ≤ n → St i s → J i s.heap → (∀ s', Moved (S :: wr) G s s' → J n s'.heap → R (.ok (.ret .none)) s') → codeAny (model P w) A (.builtin "set.update.loop" ⟨[.ref S, .ref I], []⟩) R s := by
  have sub : ∀ b ∈ wr, b ∈ S :: wr := fun b hb => List.mem_cons_of_mem _ hb
  have mv : ∀ {i : Nat} {s s' : Shared}, Moved wr G s s' → J i s.heap → J i s'.heap := fun m j => kp _ _ _ j fun b o hb e => m.heap b o hb e
  intro k
  induction k with
  | zero =>
    intro i s h1 h2 st j hR
    obtain rfl : i = n := by omega
    exact codeAny_builtin F.entry_set_update_loop (by
      rw [Around.under_plainId F.plain_set_update_loop _]
      refine (show wpAny _ A.in1 (pyNext (.ref I) >>= _) _ _ s from wpAny_bind (W.done s _ _ st fun s' m => ?_))
      exact (show wpAny _ A.in1 (ret Value.none) _ _ s' from wpAny_pure (hR s' (m.mono sub) (mv m j))))
  | succ k ih =>
    intro i s h1 h2 st j hR
    have lt : i < n := by omega
    exact codeAny_builtin F.entry_set_update_loop (by
      rw [Around.under_plainId F.plain_set_update_loop _]
      refine (show wpAny _ A.in1 (pyNext (.ref I) >>= _) _ _ s from wpAny_bind (W.item i s _ _ lt st fun v s' hP st' m => ?_))
      refine (show wpAny _ A.in1 (holding [v] (setAdd S v) >>= _) _ _ s' from wpAny_bind (ad i v s' _ _ lt hP (mv m j) fun h' tk le sb j' => ?_))
      refine wpAny_pure ⟨plainId_quiet F.plain_set_update_loop _, ih (i + 1) _ (by omega) lt (W.frame _ s' _ _ st' le fun b hb o e => ?_) j' fun s'' m2 j2 => ?_⟩
      · exact (sb.2 b (fun h : b = S => hSf (h ▸ hb))).trans e
      · exact hR s'' (Moved.trans W.gtrans ((m.mono sub).then_heap le fun b o hb e => (sb.2 b (fun h : b = S => hb (h ▸ List.mem_cons_self))).trans e) m2) j2)
set_option maxRecDepth 100000 in
set_option maxHeartbeats 3200000 in
/-- set(xs) -/
theorem call_setJ {l : Addr} {items : Array Value} {J : Nat → Heap → Prop} {Q : Value → Shared → Prop} (hh : A.handled = none) (hl : s.heap.IsList l items) (hu : A.units + 3 < cLine)
    (kp : ∀ i h h', J i h → (∀ b o, b ≠ s.heap.objs.size + 1 → h.get? b = some o → h'.get? b = some o) → J i h')
    (j0 : ∀ h', (∀ b o, s.heap.get? b = some o → h'.get? b = some o) → h'.get? s.heap.objs.size = some { cls := .type "set", dict := none, data := .set #[] 0 (.fresh 0 0 (!w.params.followText "set-order")) } → J 0 h')
    (ad : ∀ A' : Around, A'.units < cLine → AddsJ P w A' s.heap.objs.size J items.size fun i v => items[i]? = some v)
    (h : ∀ (h' : Heap) (tk : Nat), J items.size h' → Q (.ref s.heap.objs.size) { s with heap := h', toks := tk }) :
    wpAny (model P w) A (call (.type "set") [.ref l]) Q E s := by
  obtain ⟨c, tl, hmro⟩ := F.called_set.mro
  have hmade := F.called_set.made
  have hsub := F.called_set.sub
  refine wpAny_call (codeAny_of_tree ?_)
  show wpAny _ _ (callAny (.type "set") _) _ _ _
  refine wpAny_pure ⟨Code.quiet_builtin _ (by decide +kernel), codeAny_builtin F.entry_type_call ?_⟩
  rw [Around.under_plain (weight_type_call_type "set" [.ref l] []) rfl]
  have h1 := F.called_set.notType
  have h2 := F.called_set.canCreate
  have hct := F.typeCall_set_1 (.ref l)
  repeat (any_goals (first | assumption | wp_step))

  refine codeAny_mono (code_set_led1 (.ref l) (E := E) (Q₁ := fun obj s₁ => obj = .ref s.heap.objs.size ∧ s₁ = { s with heap := s.heap.push { cls := .type "set", dict := none, data := .set #[] 0 (.fresh 0 0 (!w.params.followText "set-order")) } }) ⟨rfl, rfl⟩) fun r s₁ hr => ?_
  cases r with
  | error e => exact hr
  | ok fl =>
    cases fl with
    | ret obj =>
      obtain ⟨rfl, rfl⟩ := hr
      have hS : (s.heap.push { cls := .type "set", dict := none, data := .set #[] 0 (.fresh 0 0 (!w.params.followText "set-order")) }).get? s.heap.objs.size = some { cls := .type "set", dict := none, data := .set #[] 0 (.fresh 0 0 (!w.params.followText "set-order")) } := Heap.get?_push_size _ rfl
      have hT : Shared.TypeIs { s with heap := s.heap.push { cls := .type "set", dict := none, data := .set #[] 0 (.fresh 0 0 (!w.params.followText "set-order")) } } (.ref s.heap.objs.size) "set" := ⟨_, hS, rfl⟩
      have hli := F.called_set.init.lookup
      have hbi := F.called_set.init.bind (.ref s.heap.objs.size)
      repeat (any_goals (first | assumption | wp_step))

      refine codeAny_mono (codeAny_call_builtin (R := wants (fun r s₂ => r = .none ∧ ∃ h' tk, s₂ = { s with heap := h', toks := tk } ∧ J items.size h') E) F.called_set.init.plain F.entry_set_init (check_set_init_1 hT ?_)) fun r₂ s₂ hr₂ => ?_
      · obtain ⟨ol, hol, hcl, nl, hdl⟩ := hl
        obtain ⟨ocls, odict, odata, oslots⟩ := ol
        simp only at hcl hdl
        subst hcl; subst hdl
        have hol' : (s.heap.push { cls := .type "set", dict := none, data := .set #[] 0 (.fresh 0 0 (!w.params.followText "set-order")) }).get? l = some { cls := .type "list", dict := odict, data := .seq items nl, slots := oslots } := Heap.get?_push_of_some _ hol
        have hsls := F.sub_list_set
        have hslf := F.sub_list_frozenset
        have hne : (Value.type "list" == Value.type "dict") = false := by decide
        have hl1 : (s.heap.push { cls := .type "set", dict := none, data := .set #[] 0 (.fresh 0 0 (!w.params.followText "set-order")) }).IsList l items := ⟨_, hol', rfl, nl, rfl⟩
        unfold Builtin.«set.__init__» noKeywords Builtin.Frozenset.updateFrom
        generalize hPI : pyIter = PI
        wp_walk
        subst hPI

        refine wpAny_pyIter_list hl1 ?_
        refine wpAny_bind (wpAny_runValue ?_)
        have hlS : l < s.heap.objs.size := Heap.lt_size hol
        have hh3 : A.in1.in1.in1.handled = none := by simp [hh]
        have hz1 : (s.heap.push { cls := .type "set", dict := none, data := .set #[] 0 (.fresh 0 0 (!w.params.followText "set-order")) }).objs.size = s.heap.objs.size + 1 := Heap.size_push ..
        have hneI : l ≠ (s.heap.push { cls := .type "set", dict := none, data := .set #[] 0 (.fresh 0 0 (!w.params.followText "set-order")) }).objs.size := by
          rw [Heap.size_push]; exact Nat.ne_of_lt (Nat.lt_succ_of_lt hlS)
        have hSf : s.heap.objs.size ∉ [(s.heap.push { cls := .type "set", dict := none, data := .set #[] 0 (.fresh 0 0 (!w.params.followText "set-order")) }).objs.size, l] := by
          rw [Heap.size_push]; simp only [List.mem_cons, List.mem_singleton, List.not_mem_nil, or_false, not_or]
          exact ⟨Nat.ne_of_lt (Nat.lt_succ_self _), Nat.ne_of_gt hlS⟩
        refine set_loopJ (J := J) (Walks.list hh3 _ l hneI items).toS hSf (fun i h h' j k => kp i h h' j fun b o hb e => k b o (fun z => hb (by rw [List.mem_singleton.mp z, Heap.size_push])) e) (ad _ hu) (items.size - 0) 0 _ (by omega) (Nat.zero_le _)
          ⟨⟨_, Heap.get?_push_size _ rfl, rfl, rfl⟩, (hl1.push _)⟩ (j0 _ (fun b o e => Heap.get?_push_of_some _ (Heap.get?_push_of_some _ e)) (Heap.get?_push_of_some _ hS)) ?hR
        case hR =>
          intro s' hm j'
          obtain ⟨h', g2, d', tk', os'⟩ := s'
          have eg : g2 = s.gens := hm.gens
          have ed : d' = s.drawn := hm.drawn
          have eo : os' = s.os := hm.os
          subst eg; subst ed; subst eo
          show wpAny _ _ _ _ _ _
          refine wpAny_pure ?_
          exact (show wpAny _ _ (ret Value.none) _ _ _ from wpAny_pure ⟨rfl, h', tk', rfl, j'⟩)

      · cases r₂ with
        | error e => exact hr₂
        | ok fl₂ =>
          cases fl₂ with
          | ret r =>
            obtain ⟨rfl, h', tk, rfl, j'⟩ := hr₂
            repeat (any_goals (first | assumption | wp_step))
            exact h _ _ j'
          | _ => exact hr₂.elim
    | _ => exact hr.elim
/-! tuples, fewer than 63 different ones among them -/
end
end Ov
set_option Elab.async false
set_option linter.all false
set_option maxRecDepth 100000
set_option maxHeartbeats 4000000
set_option Elab.async false
set_option linter.all false
set_option maxRecDepth 100000
set_option maxHeartbeats 4000000
set_option Elab.async false
set_option linter.all false
set_option maxRecDepth 100000
set_option maxHeartbeats 4000000
set_option Elab.async false
set_option linter.all false
set_option maxRecDepth 100000
set_option maxHeartbeats 4000000
set_option Elab.async false
set_option linter.all false
set_option maxRecDepth 100000
set_option maxHeartbeats 4000000
set_option Elab.async false
set_option linter.all false
set_option maxRecDepth 100000
set_option maxHeartbeats 4000000
set_option Elab.async false
set_option linter.all false
set_option maxRecDepth 100000
set_option maxHeartbeats 4000000
set_option Elab.async false
set_option linter.all false
set_option maxRecDepth 100000
set_option maxHeartbeats 4000000
set_option Elab.async false
set_option linter.all false
set_option maxRecDepth 100000
set_option maxHeartbeats 4000000
set_option Elab.async false
set_option linter.all false
set_option maxRecDepth 100000
set_option maxHeartbeats 4000000
namespace L2
open PySem PySem.Spec PyProof.Rows
/-- the dict at p in H -/
def HN (H : Hp) (p : Addr) (kvs : List (NestedKey × Int)) : Prop := ∃ o xs, H p = some (objO p o) ∧ NOb p o xs ∧ NX H xs kvs ∧ (kvs.map (·.1)).Nodup
/-- what may come in its place -/
def HNput (H : Hp) (p : Addr) (kvs : List (NestedKey × Int)) (Q : Hp → Prop) : Prop := ∀ o xs, NOb p o xs → NX H xs kvs → (kvs.map (·.1)).Nodup → Q (upd H p (objO p o))
theorem objO_ne {p : Addr} {o : Obj} {xs : List V} : some (objO p o) ≠ some (.tup xs) := fun z => by
  have z' : some (HO.ext _) = some (HO.tup xs) := z
  cases z'
def tDNewN : TE := fun _ H Q => ∀ p o, H p = none → NOb p o [] → Q (.ref p) (upd H p (objO p o))
def tDispN (tk tv : TE) : TE := fun σ H Q => ∀ p, H p = none → tPairs [(tk, tv)] σ (upd H p (.dT [])) fun ps H2 => H2 p = some (.dT []) ∧ ∃ (b : Addr) (k : NestedKey) (i : Int), ps = [(.ref b, .int i)] ∧ Nk H2 (.ref b) k ∧ k.depth ≤ 8 ∧ HNput H2 p [(k, i)] (Q (.ref p))
def sDPutN (td ty tv : TE) : TS := fun D σ H => tv σ H fun v H1 => td σ H1 fun x H2 => ty σ H2 fun y H3 => ∃ p b kvs k i, x = .ref p ∧ y = .ref b ∧ v = .int i ∧ HN H3 p kvs ∧ Nk H3 (.ref b) k ∧ k.depth ≤ 8 ∧ kvs.length < 100000 ∧ HNput H3 p (putN kvs k i) (D.nx σ)
def tDGetN (td ty : TE) : TE := fun σ H Q => td σ H fun x H1 => ty σ H1 fun y H2 => ∃ p b kvs k i, x = .ref p ∧ y = .ref b ∧ HN H2 p kvs ∧ Nk H2 (.ref b) k ∧ k.depth ≤ 8 ∧ lookN kvs k = some i ∧ Q (.int i) H2
def tDGet2N (td ty tx : TE) : TE := fun σ H Q => td σ H fun x H1 => ∃ p kvs0, x = .ref p ∧ HN H1 p kvs0 ∧ ty σ H1 fun y H2 => tx σ H2 fun z H3 => ∃ b k i kvs, y = .ref b ∧ z = .int i ∧ HN H3 p kvs ∧ Nk H3 (.ref b) k ∧ k.depth ≤ 8 ∧ Q (.int ((lookN kvs k).getD i)) H3
def ItN (p : Addr) (o : Obj) (xs : List NE) (kvs : List (NestedKey × Int)) : It :=
  ⟨fun i H => (H p = some (objO p o) ∧ NX H xs kvs) ∧ i < kvs.length, fun i H x H' => ∃ T b kv, kvs[i]? = some kv ∧ x = .ref T ∧ Nk H (.ref b) kv.1 ∧ H T = none ∧ H' = upd H T (.tup [.ref b, .int kv.2]), fun i H => (H p = some (objO p o) ∧ NX H xs kvs) ∧ kvs.length ≤ i⟩
def iItemsN (td : TE) : TI := fun σ H R => td σ H fun x H1 => ∃ p o xs kvs, x = .ref p ∧ H1 p = some (objO p o) ∧ NOb p o xs ∧ NX H1 xs kvs ∧ (kvs.map (·.1)).Nodup ∧ R (ItN p o xs kvs) H1
section
variable {X : Cx} {pos pos' tpos apos cpos : Pos} {td ty tv tx tk : TE} {o i e f k v value : Expr}
theorem hn_dict {pins : List (Addr × Obj)} {σ : St} {H : Hp} {s : Shared} {p : Addr} {kvs : List (NestedKey × Int)} (I : Inv X pins σ H s) (h : HN H p kvs) : ∃ xs, s.heap.DictOfH (nestedKind X.prog X.w) p xs ∧ NX H xs kvs ∧ (p == sysModules) = false := by
  obtain ⟨o, xs, e, x, r, nd⟩ := h
  exact ⟨xs, n_dict I.hok e x r nd, r, x.1⟩
theorem nk_is {pins : List (Addr × Obj)} {σ : St} {H : Hp} {s : Shared} {b : Addr} {k : NestedKey} (I : Inv X pins σ H s) (h : Nk H (.ref b) k) (d : k.depth ≤ 8) : (nestedKind X.prog X.w).is s.heap k b := ⟨Nk.is I.hok k h rfl, d⟩
theorem pe_dnewN : PE X (.Dict [] [] pos) tDNewN := ⟨fun pins s σ H Q I h =>
  wpAny_Dict_empty ⟨.ref s.heap.objs.size, _, I.laid (a := s.heap.objs.size) (o := objO s.heap.objs.size { cls := .type "dict", data := .dict #[] }) (t' := s.toks) (fun _ _ q => Heap.get?_push_of_some _ q) (Nat.le_refl _) (objO_ok (Heap.get?_push_size _ rfl)), rfl,
    h _ _ (I.hok.fresh (Nat.le_refl _)) ⟨beq_eq_false_iff_ne.mpr (Ne.symm (Nat.ne_of_lt I.big)), ⟨rfl, rfl, rfl⟩, #[], 0, rfl, fun _ => rfl⟩⟩⟩
theorem pe_dgetN (hu : X.A.units + 65 < cLine) (ho : PE X o td) (hi : PE X i ty) (hs : NoSl i) : PE X (.Subscript o i pos) (tDGetN td ty) := by
  refine ⟨fun pins s σ H Q I h => ?_⟩
  refine subD_of PySem.F.slot_dict_getitem.lookup hs (thn (ho.run pins s σ H _ I h) fun u s1 ⟨x, H1, I1, rx, q1⟩ => thn (hi.run pins s1 σ H1 _ I1 q1) fun iv s2 ⟨y, H2, I2, ry, p, b, kvs, k, j, ex, ey, hn, nk, dk, lk, q2⟩ => ?_)
  subst ex ey
  obtain rfl : u = Value.ref p := rx
  obtain rfl : iv = Value.ref b := ry
  obtain ⟨xs, dd, r, sm⟩ := hn_dict I2 hn
  refine ⟨dd.typeIs, ?_⟩
  rcases r.look k with ⟨e1, _⟩ | ⟨v', b', t, e1, e2⟩
  · rw [e1] at lk; cases lk
  · rw [e1] at lk
    cases lk
    refine wpAny_getItem_heap (knd := nestedKind X.prog X.w) (show X.A.in1.units + 8 < cLine by simp [Around.in1]; omega) (nk_is I2 nk dk) dd e2 ?_
    exact ⟨V.int j, H2, I2.tok _, ⟨t, rfl⟩, q2⟩
theorem pe_dget2N (hu : X.A.units + 65 < cLine) (ho : PE X o td) (he : PE X e ty) (hf : PE X f tx) (m : M2 X o "get" apos e f cpos) : PE X (.Call (.Attribute o "get" apos) [e, f] [] cpos) (tDGet2N td ty tx) := by
  refine ⟨fun pins s σ H Q I h => ?_⟩
  refine wpAny_Call_method m.base m.few m.line PySem.F.plainAttrs_dict PySem.F.slot_dict_get PySem.F.type_dict_get (thn (ho.run pins s σ H _ I h) fun u s1 ⟨x, H1, I1, rx, p, kvs, ex, hn, q1⟩ => ?_)
  subst ex
  obtain rfl : u = Value.ref p := rx
  obtain ⟨xs, dd, r, sm⟩ := hn_dict I1 hn
  refine ⟨dd.typeIs, fun b q => ?_, ?_⟩
  · cases q
    obtain ⟨ob, _, _, h1, h2, _⟩ := dd
    exact ⟨ob, h1, h2.2.1⟩
  rw [m.trees]
  refine Calls.callWith_builtin rfl (Calls.evalArgs_plain (Calls.spliced_cons (thn (he.run pins s1 σ H1 _ I1 q1) fun iv s2 ⟨y, H2, I2, ry, q2⟩ =>
    Calls.spliced_cons (thn (hf.run pins s2 σ H2 _ I2 q2) fun fv s3 ⟨z, H3, I3, rz, b, k, j, kvs3, ey, ez, hn3, nk, dk, q3⟩ => Calls.spliced_nil ?_))))
  subst ey ez
  obtain rfl : iv = Value.ref b := ry
  obtain ⟨xs3, dd3, r3, sm3⟩ := hn_dict I3 hn3
  refine call_meetsIn PySem.F.slot_dict_get dd3.typeIs PySem.F.entry_dict_get (PySem.F.args_dict_get_3 _ _ _) (meetsH_dict_get_default (nestedKind X.prog X.w) p b sm3 fv) ⟨(show X.A.in1.units + 8 < cLine by simp [Around.in1]; omega), k, xs3, nk_is I3 nk dk, dd3, ?_⟩
  refine ⟨_, H3, I3.tok _, ?_, q3⟩
  rcases r3.look k with ⟨e1, e2⟩ | ⟨v', b', t, e1, e2⟩
  · rw [e1, e2]
    exact rz
  · rw [e1, e2]
    exact ⟨t, rfl⟩
theorem hn_put {pins : List (Addr × Obj)} {σ : St} {H : Hp} {s : Shared} {p : Addr} {h' : Heap} {tk : Nat} {kvs : List (NestedKey × Int)} {xs : List NE} {Q : Hp → Prop} (I : Inv X pins σ H s) (mu : Mut (H p)) (nt : ∀ ys, H p ≠ some (.tup ys)) (sm : (p == sysModules) = false) (dd : h'.DictOfH (nestedKind X.prog X.w) p xs) (hs : Heap.SameBut p s.heap h') (r : NX H xs kvs) (nd : (kvs.map (·.1)).Nodup)
    (q : HNput H p kvs Q) : ∃ H', Inv X pins σ H' { s with heap := h', toks := tk } ∧ Q H' := by
  obtain ⟨o, g, x⟩ := n_back sm dd r
  exact ⟨_, d_write (ob := objO p o) I mu hs ⟨o, g⟩ (objO_ok g), q o xs x r nd⟩
theorem ps_dputN (hu : X.A.units + 65 < cLine) (ho : PE X o td) (hi : PE X i ty) (hv : PE X value tv) (hs : swapsWith value (some (.Subscript o i pos')) pos.line X.env = pure false) :
    PS X (.Assign [.Subscript o i pos'] value pos) (sDPutN td ty tv) := by
  refine ⟨fun pins s σ H D I h => ?_⟩
  refine wpAny_Assign_Subscript (thn (hv.run pins s σ H _ I h) fun r s1 ⟨v, H1, I1, rv, q1⟩ => thn (ho.run pins s1 σ H1 _ I1 q1) fun u s2 ⟨x, H2, I2, rx, q2⟩ => thn (hi.run pins s2 σ H2 _ I2 q2) fun iv s3 ⟨y, H3, I3, ry, p, b, kvs, k, j, ex, ey, ev, hn, nk, dk, hl, q3⟩ => ?_) hs
  subst ex ey ev
  obtain rfl : u = Value.ref p := rx
  obtain rfl : iv = Value.ref b := ry
  obtain ⟨t, rfl⟩ := (show ∃ t, r = Value.int j t from rv)
  obtain ⟨oo, xs, eH, x, rr, nd⟩ := hn
  have dd := n_dict I3.hok eH x rr nd
  refine wpAny_setItem_heap (knd := nestedKind X.prog X.w) (show X.A.in1.units + 8 < cLine by simp [Around.in1]; omega) (nk_is I3 nk dk) dd (fun h' dd' hs' => ?_) (by rw [rr.len, sizeLine_eq]; omega)
  obtain ⟨H', I', q'⟩ := hn_put (tk := s3.toks + (nestedKind X.prog X.w).draws k) I3 (by rw [eH]; exact True.intro) (fun ys => by rw [eH]; exact objO_ne) x.1 dd' hs' (rr.put dk nk) (putN_nodup nd) q3
  exact ⟨σ, H', I', q'⟩
theorem pe_dispN (hu : X.A.units + 65 < cLine) (hk : PE X k tk) (hv : PE X v tv) : PE X (.Dict [some k] [v] pos) (tDispN tk tv) := by
  refine ⟨fun pins s σ H Q I q => ?_⟩
  have hn := I.hok.fresh (Nat.le_refl s.heap.objs.size)
  have I1 := I.laid (a := s.heap.objs.size) (o := .dT []) (h' := s.heap.push { cls := .type "dict", data := .dict #[] }) (t' := s.toks) (fun _ _ q => Heap.get?_push_of_some _ q) (Nat.le_refl _) (dt_empty s.heap I.big)
  have sm : (s.heap.objs.size == sysModules) = false := beq_eq_false_iff_ne.mpr (Ne.symm (Nat.ne_of_lt I.big))
  have lp := pairTrees_length [some k] [v] X.env pos rfl rfl
  rw [arm_eval_Dict, zip_pairTrees [some k] [v] X.env pos rfl rfl, dictDisplay_pairs (pairTrees [some k] [v] X.env pos) (fun e => by rw [e] at lp; cases lp) (by rw [lp]; show 1 < 17; decide)]
  refine wpAny_bind (wpAny_standAt (wpAny_bind (wpAny_subDictH (knd := nestedKind X.prog X.w) (Q := fun d s' => wpAny (model X.prog X.w) X.A (pure (Value.ref d)) (EP X pins σ Q) X.xe s') (show X.A.units + 8 < cLine by omega) (by rw [lp]; show 1 ≤ 15; decide) ?_)))
  refine thn ((pps_cons (pos := pos) hk hv pps_nil).run pins _ σ _ _ I1 (q _ hn)) fun ws s2 ⟨ps, H2, I2, rel, e, b, ks, y, ep, nk, dk, q2⟩ => ?_
  subst ep
  cases rel with
  | @cons _ ub _ us r0 rt =>
    cases rt
    obtain ⟨u1, u2⟩ := ub
    obtain ⟨r1, r2⟩ := r0
    cases (show u1 = Value.ref b from r1)
    obtain ⟨t, e2⟩ := (show ∃ t, u2 = Value.int y t from r2)
    subst e2
    obtain ⟨z, hd, xs0, r3, dd⟩ := dt_of I2.hok e
    cases r3
    have dd0 : s2.heap.DictOfH (nestedKind X.prog X.w) s.heap.objs.size [] := by
      obtain ⟨o, es, ep, hq, h2, h3, h4, _, _⟩ := dd
      exact ⟨o, es, ep, hq, h2, h3, h4, fun x hx => (by cases hx), List.nodup_nil⟩
    refine ⟨[(ks, b, Value.int y t)], ⟨rfl, rfl, nk_is I2 nk dk, trivial⟩, dd0, fun h' tk dd' hs => wpAny_pure ?_⟩
    obtain ⟨H', I', q'⟩ := hn_put (tk := tk) (kvs := [(ks, y)]) (xs := [(ks, b, Value.int y t)]) I2 (by rw [e]; exact True.intro) (fun ys => by rw [e]; intro z; cases z) sm dd' hs ⟨⟨rfl, dk, nk, t, rfl⟩, trivial⟩ (List.nodup_cons.mpr ⟨by simp, List.nodup_nil⟩) q2
    exact ⟨.ref s.heap.objs.size, H', I', rfl, q'⟩
end
end L2
set_option Elab.async false
set_option linter.all false
set_option maxRecDepth 100000
set_option maxHeartbeats 4000000
namespace L2
open PySem PySem.Spec PyProof.Rows
section
variable {P : Program} {w : World} {K : PySem.W.Frag} {p : Addr} {o : Obj} {es : Array DictEntry} {ep : Nat} {xs : List NE} {kvs : List (NestedKey × Int)}
theorem nob_at {H : Hp} {i : Nat} {kv : NestedKey × Int} (hx : NOb p o xs) (hod : o.data = .dict es ep) (r : NX H xs kvs) (h : kvs[i]? = some kv) (w : World) : ∃ (b : Addr) (t : Tok) (hi : i < es.size), es[i].key = .ref b ∧ es[i].val = Value.int kv.2 t ∧ Nk H (.ref b) kv.1 := by
  obtain ⟨_, _, es', ep', h1, h2⟩ := hx
  rw [hod] at h1
  cases h1
  obtain ⟨b, t, e1, e2⟩ := r.get h
  have e3 : es.toList[i]? = some (⟨kv.1.hash w, .ref b, Value.int kv.2 t⟩ : DictEntry) := by rw [h2 w, List.getElem?_map, e1]; rfl
  have hi : i < es.size := by
    have := (List.getElem?_eq_some_iff.mp e3).1
    simpa using this
  have e4 : es[i] = (⟨kv.1.hash w, .ref b, Value.int kv.2 t⟩ : DictEntry) := by
    have := (List.getElem?_eq_some_iff.mp e3).2
    simpa using this
  exact ⟨b, t, hi, by rw [e4], by rw [e4], e2⟩
theorem nob_len {H : Hp} (hx : NOb p o xs) (hod : o.data = .dict es ep) (r : NX H xs kvs) (w : World) : es.size = kvs.length := by
  obtain ⟨_, _, es', ep', h1, h2⟩ := hx
  rw [hod] at h1
  cases h1
  rw [← Array.length_toList, h2 w, List.length_map, r.len]
theorem turn_itemsN {elts : List Expr} {kk : Nat} {tpos : Pos} (it : Addr) (hx : NOb p o xs) (hod : o.data = .dict es ep) :
    Turn P w K (.Tuple elts kk tpos) (ItN p o xs kvs) [it] it (fun i h => ∃ ok ov, IsItemIter h it p i es.size ep ok ov) where
  mem := by simp
  obj := fun i h st b hb => by
    have e : b = it := by simpa using hb
    subst e
    obtain ⟨ok, ov, e⟩ := st
    exact ⟨_, e, fun v z => nomatch z⟩
  keep := fun i h h' st k => let ⟨ok, ov, e⟩ := st; ⟨ok, ov, k it (by simp) _ e⟩
  item := by
    intro X hP hw hK hc i pins s σ H E I hf st hg
    subst hP hw hK
    obtain ⟨⟨hd, r⟩, hi⟩ := hg
    obtain ⟨kv, hkv⟩ : ∃ kv, kvs[i]? = some kv := ⟨kvs[i], List.getElem?_eq_getElem hi⟩
    obtain ⟨b, t, hi2, k1, k2, nk⟩ := nob_at hx hod r hkv X.w
    obtain ⟨ok, ov, he⟩ := st
    have hlt : it < s.heap.objs.size := Heap.lt_size he
    refine DT.nextI he ⟨o, objO_get I.hok hd, hx.2.1, hod⟩ hi2 fun h' ho hT hz hk => ?_
    rw [k1, k2] at ho hT
    refine ⟨_, rfl, wpAny_letOwnedTupleGo_items (s := { s with heap := h' }) ho fun h'' he' sb => ?_⟩
    have hT2 : h''.get? s.heap.objs.size = some { cls := .type "tuple", data := .seq #[.ref b, .int kv.2 t] } := (sb.2 _ (Nat.ne_of_gt hlt)).trans hT
    have new : ObjOk X.prog X.w (upd H s.heap.objs.size (.tup [.ref b, .int kv.2])) h'' s.heap.objs.size (.tup [.ref b, .int kv.2]) :=
      ⟨by show 2 ≤ sizeLine; decide, [.ref b, .int kv.2 t], .cons (show Value.ref b = Value.ref b from rfl) (.cons ⟨t, rfl⟩ .nil), ⟨_, hT2, rfl, _, rfl⟩⟩
    have I1 : Inv X pins σ (upd H s.heap.objs.size (.tup [.ref b, .int kv.2])) { s with heap := h'' } :=
      I.turnedNew (t' := s.toks) (ch := [it]) (fun b ob hb e => (sb.2 b (by simpa using hb)).trans (hk b ob (by simpa using hb) e)) hf (Nat.le_refl _) new
    refine ⟨.ref s.heap.objs.size, _, I1, rfl, ⟨_, b, kv, hkv, rfl, nk, I.hok.fresh (Nat.le_refl _), rfl⟩, ⟨.ref b, .int kv.2 t, he'⟩, fun b hb => ?_⟩
    have e : b = it := by simpa using hb
    rw [e, upd_ne (Nat.ne_of_lt hlt)]
    exact (hf it (by simp)).1
  done := by
    intro X hP hw hK hc i pins s σ H E I hf st hg
    subst hP hw hK
    obtain ⟨⟨hd, r⟩, hi⟩ := hg
    obtain ⟨f0, f1, f2, f3, f4, f5⟩ := hf it (by simp)
    obtain ⟨ok, ov, he⟩ := st
    exact DT.endI (I.ok.hd hc) he ⟨o, objO_get I.hok hd, hx.2.1, hod⟩ (by rw [nob_len hx hod r X.w]; exact hi) fun h' eb => ⟨rfl, I.turned (t' := s.toks) (fun b ob hb e => eb b ob hb e) f0 f1 f3 f4 f5⟩
  self := fun A i s Q E st h => let ⟨_, _, e⟩ := st; PySem.W.kcp_self e h
end
section
variable {X : Cx} {e : Expr} {td : TE} {apos cpos : Pos}
theorem pi_itemsN {elts : List Expr} {kk : Nat} {tpos : Pos} (he : PE X e td) (hbase : attributeBase e "items" X.env (eval e X.env) = eval e X.env := by rfl) (hline : (apos.endLine == cpos.line) = true := by rfl) :
    PI X (.Tuple elts kk tpos) (.Call (.Attribute e "items" apos) [] [] cpos) (iItemsN td) := by
  refine ⟨fun pins s σ H R I h => ?_⟩
  refine wpAny_Call_method (T := "dict") (id := "dict.items") hbase rfl hline F.plainAttrs_dict F.slot_dict_items F.type_dict_items (thn (he.run pins s σ H _ I h) fun u s1 ⟨x, H1, I1, rx, p, o, xs, kvs, ex, hd, hx, r, nd, q⟩ => ?_)
  subst ex
  obtain rfl : u = Value.ref p := rx
  have dd := n_dict I1.hok hd hx r nd
  obtain ⟨hs, hex, es, ep, hod, hent⟩ := id hx
  have raw : DT.Raw s1.heap p es ep := ⟨o, objO_get I1.hok hd, hex, hod⟩
  have hsz : es.size = kvs.length := nob_len hx hod r X.w
  refine ⟨dd.typeIs, fun b q => ?_, ?_⟩
  · cases q
    obtain ⟨ob, _, _, h1, h2, _⟩ := dd
    exact ⟨ob, h1, h2.2.1⟩
  have I2 : Inv X pins σ H1 { s1 with heap := s1.heap.push { cls := .type "dict_items", data := .fields #[.ref p] } } := I1.kept (t' := s1.toks) fun b ob q => Heap.get?_push_of_some _ q
  have fin : wpAny (model X.prog X.w) X.A (pyIter (.ref s1.heap.objs.size)) (PIE X pins σ (.Tuple elts kk tpos) R) X.xe { s1 with heap := s1.heap.push { cls := .type "dict_items", data := .fields #[.ref p] } } := by
    refine DT.iterI (d := p) ⟨_, Heap.get?_push_size _ rfl, rfl, rfl⟩ (raw.push _) (pi_one (tk := s1.toks) I2 _ (turn_itemsN _ hx hod) ⟨.none, .none, ?_⟩ q)
    exact Heap.get?_push_size _ rfl
  show wpAny _ _ (callWith cpos (.builtin "dict.items") [.ref p] [] []) _ X.xe s1
  exact method_meetsIn F.slot_dict_items F.entry_dict_items rfl (PySem.evalArgs_none ⟨rfl, dd.typeIs, F.args_dict_items_1 _, _, DT.meetsItems (es := es) (ep := ep) hs, raw, fin⟩)
end
end L2
set_option Elab.async false
set_option linter.all false
set_option maxRecDepth 100000
set_option maxHeartbeats 4000000
namespace Ov
open PySem L2
/-! dicts whose keys are tuples of numbers and of such tuples -/
mutual
def nkD : PyData → Option NestedKey
  | .int i => some (.num i)
  | .tuple ds => (nkDs ds).map .tup
  | _ => none
def nkDs : List PyData → Option (List NestedKey)
  | [] => some []
  | d :: ds => (nkD d).bind fun k => (nkDs ds).map (k :: ·)
end
def asNK : R → Option NestedKey
  | .dat (.tuple ds) => (nkDs ds).bind fun ks => if (NestedKey.tup ks).depth ≤ 8 then some (.tup ks) else none
  | _ => none
section
variable {K : PySem.W.Frag} {E : XK} {bx : Bool}
mutual
theorem da_nk {H : Hp} : ∀ (d : PyData) {v : V} {k : NestedKey}, Da K H v d → nkD d = some k → Nk H v k
  | .int i, _, _, h, e => by cases h; cases e; exact .int i
  | .tuple ds, _, _, h, e => by
    obtain ⟨ks, e1, rfl⟩ := Option.map_eq_some_iff.mp (show (nkDs ds).map NestedKey.tup = _ from e)
    cases h with
    | tup t q => exact .tup t (da_nks ds q e1)
  | .none, _, _, _, e => by cases e
  | .bool _, _, _, _, e => by cases e
  | .str _, _, _, _, e => by cases e
  | .list _, _, _, _, e => by cases e
  | .dict _, _, _, _, e => by cases e
theorem da_nks {H : Hp} : ∀ (ds : List PyData) {vs : List V} {ks : List NestedKey}, DaAll K H vs ds → nkDs ds = some ks → NkAll H vs ks
  | [], _, _, h, e => by cases h; cases e; exact .nil
  | d :: ds, _, _, h, e => by
    obtain ⟨k, e1, e2⟩ := Option.bind_eq_some_iff.mp (show ((nkD d).bind fun k => (nkDs ds).map (k :: ·)) = _ from e)
    obtain ⟨ks, e3, rfl⟩ := Option.map_eq_some_iff.mp e2
    cases h with
    | cons a t => exact .cons (da_nk d a e1) (da_nks ds t e3)
end
mutual
theorem nk_da {H : Hp} : ∀ (k : NestedKey) {v : V}, Nk H v k → Da K H v k.data
  | .num i, _, h => by cases h; exact .int i
  | .tup ks, _, h => by cases h with | tup e t => exact .tup e (nks_da ks t)
  | .none, _, h => by cases h
  | .text _, _, h => by cases h
theorem nks_da {H : Hp} : ∀ (ks : List NestedKey) {vs : List V}, NkAll H vs ks → DaAll K H vs (NestedKey.datas ks)
  | [], _, h => by cases h; exact .nil
  | k :: ks, _, h => by cases h with | cons a t => exact .cons (nk_da k a) (nks_da ks t)
end
theorem key_nk {G : Hp} {σ : St} {v : V} {a : R} {k : NestedKey} (q : RpR K G σ v a) (h : asNK a = some k) : ∃ b, v = .ref b ∧ Nk G (.ref b) k ∧ k.depth ≤ 8 := by
  unfold asNK at h
  split at h
  · rename_i ds
    obtain ⟨ks, e1, e2⟩ := Option.bind_eq_some_iff.mp h
    split at e2
    · rename_i c
      cases e2
      cases (show Da K G v (.tuple ds) from q) with
      | tup t d => exact ⟨_, rfl, .tup t (da_nks ds d e1), c⟩
    · cases e2
  · cases h
theorem off_tupH {S : Addr → Prop} {H : Hp} (hS : ∀ b, S b → ∃ o, H b = some o ∧ NT o) : ∀ b xs, H b = some (.tup xs) → off S H b = some (.tup xs) := fun b xs e => by
  rw [off_ne (fun z => by obtain ⟨o, e1, n⟩ := hS b z; rw [e] at e1; cases e1; exact n)]
  exact e
theorem tup_off {S : Addr → Prop} {H : Hp} : ∀ b xs, off S H b = some (.tup xs) → H b = some (.tup xs) := fun b xs e => off_sub S H _ _ e
/-! the slot -/
def dtnD (i : Nat) : M (List (NestedKey × Int)) := fun env =>
  match env[i]? with
  | some (some (.dtn ks)) => some (.ok ks env)
  | _ => none
theorem dtnD_step {α : Type} {i : Nat} {g : List (NestedKey × Int) → M α} {env : En} {rs : Rs α} (h : (M.bind (dtnD i) g) env = some rs) : ∃ ks, env[i]? = some (some (.dtn ks)) ∧ g ks env = some rs := by
  have key : ∀ z, dtnD i env = some z → ∃ ks, env[i]? = some (some (.dtn ks)) ∧ z = .ok ks env := fun z hz => by
    unfold dtnD at hz
    split at hz
    · rename_i ks hx
      cases hz
      exact ⟨ks, hx, rfl⟩
    · cases hz
  rcases bind_some h with ⟨a, e, h1, h2⟩ | ⟨C, f, d, h1, h2⟩
  · obtain ⟨ds, e1, e2⟩ := key _ h1
    cases e2
    exact ⟨_, e1, h2⟩
  · obtain ⟨ds, e1, e2⟩ := key _ h1
    cases e2
theorem Rep.dgetN {B : Addr → Prop} {σ : St} {H : Hp} {env : En} {l : List Addr} {i : Nat} {ks : List (NestedKey × Int)} (r : Rep K B σ H env l) (hx : env[i]? = some (some (.dtn ks))) :
    ∃ p, σ[i]? = some (some (.ref p)) ∧ HN H p ks ∧ p ∈ l ∧ ∀ ks' o xs, NOb p o xs → NX H xs ks' → (ks'.map (·.1)).Nodup → Rep K B σ (upd H p (objO p o)) (env.set i (some (.dtn ks'))) l := by
  obtain ⟨s, a, lx, ly, q1, q2, ⟨v, rfl, p, o, xs, rfl, rfl, q6, q7, q8, q9⟩, q5⟩ := r.rp.focus hx
  have hp : p ∈ l := by rw [q2]; exact List.mem_append_right _ (List.mem_append_left _ (List.mem_cons_self ..))
  refine ⟨p, q1, ⟨o, xs, q6, q7, q8.keep fun b ys e => tup_off b ys e, q9⟩, hp, fun ks' o' xs' x' r' nd' => ?_⟩
  have nd := r.nd
  rw [q2] at nd
  obtain ⟨n1, n2, n3⟩ := List.nodup_append.mp nd
  obtain ⟨n4, n5, n6⟩ := List.nodup_append.mp n2
  have sub : Same (off (un B l) H) (off (un B l) (upd H p (objO p o'))) := off_mono (fun b z n => absurd z n) fun b o n e => by rw [upd_ne (fun z => n (.inr (by rw [z]; exact hp)))]; exact e
  have rk : NX (off (un B l) (upd H p (objO p o'))) xs' ks' := r'.keep fun b ys e => sub _ _ (off_tupH r.tl b ys e)
  refine ⟨?_, r.nd, r.out, fun b z => ?_⟩
  · have := q5 (H' := upd H p (objO p o')) (s' := some (.ref p)) (e' := some (.dtn ks')) (a' := [p]) sub
      (fun q z => upd_ne fun e => n3 q z p (List.mem_append_left _ (List.mem_cons_self ..)) e) (fun q z => upd_ne fun e => n6 p (List.mem_cons_self ..) q z e.symm) ⟨_, rfl, p, o', xs', rfl, rfl, upd_same, x', rk, nd'⟩
    rw [set_same q1] at this
    rw [q2] at this ⊢
    exact this
  · obtain ⟨o, e, n⟩ := r.tb b z
    exact ⟨o, by rw [upd_ne (fun y => r.out p hp (by rw [← y]; exact z))]; exact e, n⟩
/-- found[k] = v -/
def dputN (i : Nat) (fk fv : M R) : M Fl := M.bind fv fun r0 => M.bind (lift (asI r0)) fun v => M.bind (dtnD i) fun _ => M.bind fk fun r => M.bind (lift (asNK r)) fun k => M.bind (dtnD i) fun ks => M.bind (lift (chk (decide (ks.length < 100000)))) fun _ => M.bind (putM i (.dtn (putN ks k v))) fun _ => M.pure .nx
theorem OkS.dputN {i : Nat} {tk tv : TE} {fk fv : M R} (o : OkE K E tk fk) (ov : OkE K E tv fv) : OkS K E bx (sDPutN (tVar i) tk tv) (Ov.dputN i fk fv) := by
  refine ⟨?_⟩
  intro B σ H env l rs rp h D post
  refine ov.seq rp h post.exn fun a0 e0 v0 H0 h0 r0 f0 q0 => ?_
  obtain ⟨v, g2, h0⟩ := lift_step h0
  rw [asI_some g2] at q0
  cases q0
  obtain ⟨ks0, hx0, h0⟩ := dtnD_step h0
  obtain ⟨p, s1, s2, s3, _⟩ := r0.dgetN hx0
  refine ⟨.ref p, s1, ?_⟩
  refine o.seq r0 h0 (exn_later post.exn f0) fun a e v' H1 h1 r1 f1 q1 => ?_
  obtain ⟨k, h2, h3⟩ := lift_step h1
  obtain ⟨ks, hx, h4⟩ := dtnD_step h3
  obtain ⟨u, h4a, h4⟩ := lift_step h4
  have hn := of_decide_eq_true (chk_ok h4a)
  obtain ⟨_, h5⟩ := putM_step h4
  cases h5
  obtain ⟨b, rfl, hb, hd⟩ := key_nk q1 h2
  obtain ⟨p', t1, t2, t3, t4⟩ := r1.dgetN hx
  rw [s1] at t1
  cases t1
  refine ⟨p, b, ks, k, v, rfl, rfl, rfl, t2, Nk.keep tup_off k hb, hd, hn, fun o' xs' x' r' nd' => ?_⟩
  exact post σ _ l (t4 _ _ _ x' r' nd') (Fr2.of ((f0.trans f1).trans (fr_upd t3))) fun _ => rfl
/-- found.get(k, j) -/
def dget2N (i : Nat) (fk fv : M R) : M R := M.bind (dtnD i) fun _ => M.bind fk fun r => M.bind (lift (asNK r)) fun k => M.bind fv fun r0 => M.bind (lift (asI r0)) fun v => M.bind (dtnD i) fun ks => M.pure (.dat (.int ((lookN ks k).getD v)))
theorem OkE.dget2N {i : Nat} {tk tv : TE} {fk fv : M R} (o : OkE K E tk fk) (ov : OkE K E tv fv) : OkE K E (tDGet2N (tVar i) tk tv) (Ov.dget2N i fk fv) := by
  refine ⟨?_⟩
  intro B σ H env l rs rp h Q post
  obtain ⟨ks0, hx0, h0⟩ := dtnD_step h
  obtain ⟨p, s1, s2, s3, _⟩ := rp.dgetN hx0
  refine ⟨.ref p, s1, p, ks0, rfl, s2, ?_⟩
  refine o.seq rp h0 post.exn fun a e v' H1 h1 r1 f1 q1 => ?_
  obtain ⟨k, h2, h3⟩ := lift_step h1
  refine ov.seq r1 h3 (exn_later post.exn f1) fun a2 e2 v2 H2 h4 r2 f2 q2 => ?_
  obtain ⟨j, h5, h6⟩ := lift_step h4
  rw [asI_some h5] at q2
  cases q2
  obtain ⟨ks, hx, h7⟩ := dtnD_step h6
  cases h7
  obtain ⟨b, rfl, hb, hd⟩ := key_nk q1 h2
  obtain ⟨p', t1, t2, t3, t4⟩ := r2.dgetN hx
  rw [s1] at t1
  cases t1
  have hb2 : Nk H2 (.ref b) k := Nk.keep (fun c ys ec => by
    obtain ⟨nc, ec⟩ := off_at ec
    exact f2 c _ (fun z => nc (.inr z)) ec) k hb
  exact ⟨b, k, j, ks, rfl, rfl, t2, hb2, hd, post _ H2 r2 (f1.trans f2) (.int _)⟩
/-- {} -/
def dnewN : M Wv := M.pure (.dtn [])
theorem un_tup {B : Addr → Prop} {l : List Addr} {p : Addr} {H : Hp} {o : Obj} (hB : ∀ b, un B l b → ∃ o, H b = some o ∧ NT o) (hp : ∀ ys, H p ≠ some (.tup ys)) : ∀ b ys, H b = some (.tup ys) → off (un (un B [p]) l) (upd H p (objO p o)) b = some (.tup ys) := fun b ys e => by
  have nb : b ≠ p := fun z => hp ys (by rw [← z]; exact e)
  rw [off_ne (fun z => ?_), upd_ne nb]
  · exact e
  · rcases z with (z | z) | z
    · obtain ⟨o, e1, n⟩ := hB b (.inl z); rw [e] at e1; cases e1; exact n
    · exact nb (List.mem_singleton.mp z)
    · obtain ⟨o, e1, n⟩ := hB b (.inr z); rw [e] at e1; cases e1; exact n
theorem OkW.dnewN : OkW K E tDNewN Ov.dnewN := by
  refine ⟨?_⟩
  intro B σ H env l rs rp h Q post p o hp x
  cases h
  have r0 : Rep K (un B [p]) σ (upd H p (objO p o)) env l := rp.grow (same_new hp _) (fun _ z => .inl z) (fun b z => z.imp id fun z => by rw [List.mem_singleton.mp z]; exact hp) fun b z => by
    by_cases e : b = p
    · subst e; exact ⟨_, upd_same, trivial⟩
    · rw [upd_ne e]; exact rp.tb b (z.resolve_right fun z => e (List.mem_singleton.mp z))
  exact post _ _ [p] r0 (fun c oc nc ec => by rw [upd_ne (fun z => by rw [z, hp] at ec; cases ec)]; exact ec) ⟨p, o, [], rfl, rfl, upd_same, x, trivial, List.nodup_nil⟩ (List.nodup_cons.mpr ⟨by simp, List.nodup_nil⟩) fun b z => by rw [List.mem_singleton.mp z]; exact hp
/-- {k: v}, k nested -/
def dispN (fk fv : M R) : M Wv := fun env =>
  match fk env with
  | some (.ok r e) =>
    match fv e with
    | some (.ok s e2) =>
      match asNK r, asI s with
      | some k, some v => some (.ok (.dtn [(k, v)]) e2)
      | _, _ => none
    | _ => none
  | _ => none
theorem OkW.dispN {tk tv : TE} {fk fv : M R} (o : OkE K E tk fk) (ov : OkE K E tv fv) : OkW K E (tDispN tk tv) (Ov.dispN fk fv) := by
  refine ⟨?_⟩
  intro B σ H env l rs rp h Q post p hp
  unfold Ov.dispN at h
  split at h
  case h_2 => cases h
  rename_i r e h1
  split at h
  case h_2 => cases h
  rename_i s e2 h2
  split at h
  case h_2 => cases h
  rename_i k v hk hv
  cases h
  have r0 : Rep K (un B [p]) σ (upd H p (.dT [])) env l := rp.grow (same_new hp _) (fun _ z => .inl z) (fun b z => z.imp id fun z => by rw [List.mem_singleton.mp z]; exact hp) fun b z => by
    by_cases e : b = p
    · subst e; exact ⟨_, upd_same, trivial⟩
    · rw [upd_ne e]; exact rp.tb b (z.resolve_right fun z => e (List.mem_singleton.mp z))
  have pl : p ∉ l := fun z => rp.fresh hp (.inr z)
  refine o.run r0 h1 fun v1 H1 r1 f1 q1 => ?_
  obtain ⟨b, rfl, hb, hd⟩ := key_nk q1 hk
  refine ov.run r1 h2 fun v2 H2 r2 f2 q2 => ?_
  rw [asI_some hv] at q2
  cases q2
  have g1 : H1 p = some (.dT []) := f1 p _ pl upd_same
  have g2 : H2 p = some (.dT []) := f2 p _ pl g1
  have hb2 : Nk H2 (.ref b) k := Nk.keep (fun c ys ec => by
    obtain ⟨nc, ec⟩ := off_at ec
    exact f2 c _ (fun z => nc (.inr z)) ec) k hb
  refine ⟨g2, b, k, _, rfl, hb2, hd, fun o' xs' x' r' nd' => ?_⟩
  refine post _ _ [p] (r2.updB (.inr (List.mem_cons_self ..)) trivial) (fun c oc nc ec => ?_) ⟨p, o', xs', rfl, rfl, upd_same, x', ?_, nd'⟩ (List.nodup_cons.mpr ⟨by simp, List.nodup_nil⟩) fun c z => by rw [List.mem_singleton.mp z]; exact hp
  · have np : c ≠ p := fun z => by rw [z, hp] at ec; cases ec
    rw [upd_ne np]
    exact f2 c _ nc (f1 c _ nc (by rw [upd_ne np]; exact ec))
  · refine r'.keep (un_tup (fun c z => r2.tl c (z.imp .inl id)) fun ys => ?_)
    rw [g2]
    intro z
    cases z
end
end Ov
set_option Elab.async false
set_option linter.all false
set_option maxRecDepth 100000
set_option maxHeartbeats 4000000
namespace Ov
open PySem L2
section
variable {K : PySem.W.Frag} {E : XK} {bx : Bool}
/-- return found -/
def moveN (i : Nat) : M Fl := fun env =>
  match env[i]? with
  | some (some (.dtn xs)) => some (.ok (.rt (.dtn xs)) (env.set i none))
  | _ => none
theorem OkS.moveN (i : Nat) : OkS K E bx (tRet (tVar i)) (Ov.moveN i) := by
  refine ⟨?_⟩
  intro B σ H env l rs rp h D post
  unfold Ov.moveN at h
  split at h
  · rename_i xs hx
    cases h
    obtain ⟨s, a, lx, ly, q1, q2, ⟨v, q3, q4⟩, q5⟩ := rp.rp.focus hx
    subst q3
    have ev : un (un B a) (lx ++ ([] ++ ly)) = un B l := by
      rw [un_app, q2]
      funext b
      refine propext ⟨fun z => z.imp id fun z => ?_, fun z => z.imp id fun z => ?_⟩
      · rcases List.mem_append.mp z with z | z
        · exact List.mem_append_right _ (List.mem_append_left _ z)
        · rcases List.mem_append.mp z with z | z
          · exact List.mem_append_left _ z
          · exact List.mem_append_right _ (List.mem_append_right _ (by simpa using z))
      · rcases List.mem_append.mp z with z | z
        · exact List.mem_append_right _ (List.mem_append_left _ z)
        · rcases List.mem_append.mp z with z | z
          · exact List.mem_append_left _ z
          · exact List.mem_append_right _ (List.mem_append_right _ (by simpa using z))
    have nd := rp.nd
    rw [q2] at nd
    obtain ⟨n1, n2, n3⟩ := List.nodup_append.mp nd
    obtain ⟨n4, n5, n6⟩ := List.nodup_append.mp n2
    have e : σ.set i (some v) = σ := by
      apply List.ext_getElem?
      intro j
      by_cases z : i = j
      · subst z; rw [List.getElem?_set_self (List.getElem?_eq_some_iff.mp q1).1, q1]
      · rw [List.getElem?_set_ne z]
    have r' : Rep K (un B a) σ H (env.set i none) (lx ++ ([] ++ ly)) := by
      refine ⟨?_, ?_, ?_, ?_⟩
      · rw [ev]
        have := q5 (H' := H) (G' := off (un B l) H) (s' := some v) (e' := none) (a' := []) (fun _ _ z => z) (fun _ _ => rfl) (fun _ _ => rfl) rfl
        rw [e] at this
        exact this
      · rw [List.nil_append]
        exact List.nodup_append.mpr ⟨n1, n5, fun x hx y hy => n3 x hx y (List.mem_append_right _ hy)⟩
      · intro b z y
        rw [List.nil_append] at z
        rcases y with y | y
        · refine rp.out b ?_ y
          rw [q2]
          exact (List.mem_append.mp z).elim (List.mem_append_left _) fun z => List.mem_append_right _ (List.mem_append_right _ z)
        · rcases List.mem_append.mp z with z | z
          · exact n3 b z b (List.mem_append_left _ y) rfl
          · exact n6 b y b z rfl
      · intro b z
        refine rp.tl b (z.imp id fun z => ?_)
        rw [q2]
        exact List.mem_append_right _ (List.mem_append_left _ z)
    refine ⟨v, q1, post v σ H (lx ++ ([] ++ ly)) a r' ⟨Fr.refl _ _, fun b z => .inl ?_⟩ (fun _ => rfl) (by rw [ev]; exact q4) n4 fun b z => ⟨fun y => ?_, fun y => ?_⟩⟩
    · rw [q2]
      rcases List.mem_append.mp z with z | z
      · rw [List.nil_append] at z
        exact (List.mem_append.mp z).elim (List.mem_append_left _) fun z => List.mem_append_right _ (List.mem_append_right _ z)
      · exact List.mem_append_right _ (List.mem_append_left _ z)
    · rw [List.nil_append] at y
      rcases List.mem_append.mp y with y | y
      · exact n3 b y b (List.mem_append_left _ z) rfl
      · exact n6 b z b y rfl
    · exact rp.out b (by rw [q2]; exact List.mem_append_right _ (List.mem_append_left _ z)) y
  · cases h
/-- the dict of slot i is only read from here on -/
def frzN (i : Nat) (f : M Fl) : M Fl := fun env =>
  match f env with
  | some (.ok .nx e) =>
    match e[i]? with
    | some (some (.dtn ks)) => some (.ok .nx (e.set i (some (.nd ks))))
    | _ => none
  | _ => none
theorem OkS.frzN {i : Nat} {t : TS} {f : M Fl} (o : OkS K E bx t f) : OkS K E bx t (Ov.frzN i f) := by
  refine ⟨?_⟩
  intro B σ H env l rs rp h D post
  unfold Ov.frzN at h
  split at h
  case h_2 => cases h
  rename_i e h1
  split at h
  case h_2 => cases h
  rename_i ks hx
  cases h
  refine o.run rp h1 (fun σ' H' l' r' f' b' => ?_)
  obtain ⟨s, a, lx, ly, q1, q2, ⟨v, q3, p, ob, xs, e1, e2, e3, e4, e5, e6⟩, q5⟩ := r'.rp.focus hx
  subst q3 e1 e2
  have nd := r'.nd
  rw [q2] at nd
  obtain ⟨n1, n2, n3⟩ := List.nodup_append.mp nd
  obtain ⟨n4, n5, n6⟩ := List.nodup_append.mp n2
  have lsub : ∀ b, b ∈ lx ++ ([] ++ ly) → b ∈ l' := fun b z => by
    rw [q2]
    rw [List.nil_append] at z
    exact (List.mem_append.mp z).elim (List.mem_append_left _) fun z => List.mem_append_right _ (List.mem_append_right _ z)
  have hp : p ∈ l' := by rw [q2]; exact List.mem_append_right _ (List.mem_append_left _ (List.mem_cons_self ..))
  have np : ¬ un B (lx ++ ([] ++ ly)) p := fun z => by
    rcases z with z | z
    · exact r'.out p hp z
    · rw [List.nil_append] at z
      rcases List.mem_append.mp z with z | z
      · exact n3 p z p (List.mem_append_left _ (List.mem_cons_self ..)) rfl
      · exact n6 p (List.mem_cons_self ..) p z rfl
  have sub : Same (off (un B l') H') (off (un B (lx ++ ([] ++ ly))) H') := off_mono (fun b z n => absurd (z.imp id (lsub b)) n) fun b o n e => e
  have ee : σ'.set i (some (.ref p)) = σ' := by
    apply List.ext_getElem?
    intro j
    by_cases z : i = j
    · subst z; rw [List.getElem?_set_self (List.getElem?_eq_some_iff.mp q1).1, q1]
    · rw [List.getElem?_set_ne z]
  refine post σ' H' (lx ++ ([] ++ ly)) ⟨?_, ?_, fun b z => r'.out b (lsub b z), r'.tb⟩ ⟨f'.fr, fun b z => f'.sub b (lsub b z)⟩ b'
  · have := q5 (H' := H') (G' := off (un B (lx ++ ([] ++ ly))) H') (s' := some (.ref p)) (e' := some (.nd ks)) (a' := []) sub (fun _ _ => rfl) (fun _ _ => rfl) ⟨_, rfl, rfl, p, rfl, ob, xs, by rw [off_ne np]; exact e3, e4, e5.keep fun b ys z => sub _ _ z, e6⟩
    rw [ee] at this
    exact this
  · rw [List.nil_append]
    exact List.nodup_append.mpr ⟨n1, n5, fun x hx y hy => n3 x hx y (List.mem_append_right _ hy)⟩
/-! reading -/
def ndD (i : Nat) : M (List (NestedKey × Int)) := fun env =>
  match env[i]? with
  | some (some (.nd ks)) => some (.ok ks env)
  | _ => none
theorem ndD_step {α : Type} {i : Nat} {g : List (NestedKey × Int) → M α} {env : En} {rs : Rs α} (h : (M.bind (ndD i) g) env = some rs) : ∃ ks, env[i]? = some (some (.nd ks)) ∧ g ks env = some rs := by
  have key : ∀ z, ndD i env = some z → ∃ ks, env[i]? = some (some (.nd ks)) ∧ z = .ok ks env := fun z hz => by
    unfold ndD at hz
    split at hz
    · rename_i ks hx
      cases hz
      exact ⟨ks, hx, rfl⟩
    · cases hz
  rcases bind_some h with ⟨a, e, h1, h2⟩ | ⟨C, f, d, h1, h2⟩
  · obtain ⟨ds, e1, e2⟩ := key _ h1
    cases e2
    exact ⟨_, e1, h2⟩
  · obtain ⟨ds, e1, e2⟩ := key _ h1
    cases e2
theorem Rep.ndR {B : Addr → Prop} {σ : St} {H : Hp} {env : En} {l : List Addr} {i : Nat} {ks : List (NestedKey × Int)} (r : Rep K B σ H env l) (hx : env[i]? = some (some (.nd ks))) : ∃ p, σ[i]? = some (some (.ref p)) ∧ NdR (off (un B l) H) p ks := by
  obtain ⟨s, a, lx, ly, q1, q2, ⟨v, rfl, rfl, p, rfl, q6⟩, q5⟩ := r.rp.focus hx
  exact ⟨p, q1, q6⟩
def itN (kv : NestedKey × Int) : PyData := .tuple [kv.1.data, .int kv.2]
def itemsN (i : Nat) : M (List PyData) := M.bind (ndD i) fun ks => M.pure (ks.map itN)
theorem OkI.itemsN {i : Nat} : OkI K E (iItemsN (tVar i)) (Ov.itemsN i) := by
  refine ⟨?_⟩
  intro B σ H env l rs rp h R post
  obtain ⟨ks, hx, h2⟩ := ndD_step h
  cases h2
  obtain ⟨p, s1, o, xs, q1, q2, q3, q4⟩ := rp.ndR hx
  obtain ⟨np, hp⟩ := off_at q1
  have q3' : NX H xs ks := q3.keep tup_off
  refine ⟨.ref p, s1, p, o, xs, ks, rfl, hp, q2, q3', q4, ?_⟩
  refine post _ H (fun H => H p = some (objO p o) ∧ NX H xs ks) (fun i H x H' => ∃ T b kv, ks[i]? = some kv ∧ x = .ref T ∧ Nk H (.ref b) kv.1 ∧ H T = none ∧ H' = upd H T (.tup [.ref b, .int kv.2])) rp (Fr.refl _ _) ?_ (fun H2 f => ⟨f p _ (fun z => np (.inr z)) hp, q3.keep fun b ys e => ?_⟩) ?_
  · rw [List.length_map]
    exact ⟨fun i H hi g => ⟨g, hi⟩, fun H g => ⟨g, Nat.le_refl _⟩, fun i H x H' _ _ y => y⟩
  · obtain ⟨nb, e⟩ := off_at e
    exact f b _ (fun z => nb (.inr z)) e
  · rintro i' x H2 H3 d S fr ⟨T, b, kv, k1, rfl, nk, hT, rfl⟩ hd hs hS
    rw [List.getElem?_map, k1] at hd
    cases hd
    exact pair_da (B := B) (l := l) (H1 := H) hS hT rfl (nk_da kv.1 (Nk.keep (off_tupH hS) kv.1 nk)) (.int _)
/-- d[k] -/
def dgN (i : Nat) (fk : M R) : M R := M.bind (ndD i) fun _ => M.bind fk fun r => M.bind (lift (asNK r)) fun k => M.bind (ndD i) fun ks => M.bind (lift (lookN ks k)) fun v => M.pure (.dat (.int v))
theorem OkE.dgN {i : Nat} {tk : TE} {fk : M R} (o : OkE K E tk fk) : OkE K E (tDGetN (tVar i) tk) (Ov.dgN i fk) := by
  refine ⟨?_⟩
  intro B σ H env l rs rp h Q post
  obtain ⟨ks0, hx0, h0⟩ := ndD_step h
  obtain ⟨p, s1, _⟩ := rp.ndR hx0
  refine ⟨.ref p, s1, ?_⟩
  refine o.seq rp h0 post.exn fun a e v' H1 h1 r1 f1 q1 => ?_
  obtain ⟨k, h2, h3⟩ := lift_step h1
  obtain ⟨ks, hx, h4⟩ := ndD_step h3
  obtain ⟨v, h5, h6⟩ := lift_step h4
  cases h6
  obtain ⟨b, rfl, hb, hd⟩ := key_nk q1 h2
  obtain ⟨p', t1, o', xs, g1, g2, g3, g4⟩ := r1.ndR hx
  rw [s1] at t1
  cases t1
  exact ⟨p, b, ks, k, v, rfl, rfl, ⟨o', xs, (off_at g1).2, g2, g3.keep tup_off, g4⟩, Nk.keep tup_off k hb, hd, h5, post _ H1 r1 f1 (.int v)⟩
/-! defs whose one parameter is such a dict -/
def spN (K : PySem.W.Frag) (F : List (NestedKey × Int) → Option Wv) : Sp := fun vs H Q _ => ∃ B p kvs w, vs = [.ref p] ∧ NdR (off B H) p kvs ∧ (∀ b, B b → ∃ o, H b = some o ∧ NT o) ∧ F kvs = some w ∧
  ∀ v H' lw, Same H H' → RpW K H' (off (un B lw) H') v w lw → lw.Nodup → (∀ b ∈ lw, H b = none) → Q v H'
def runN (n : Nat) (fb : M Fl) (kvs : List (NestedKey × Int)) : Option Wv :=
  match fb (some (.nd kvs) :: List.replicate (n - 1) none) with
  | some (.ok .nx _) => some (.dat .none)
  | some (.ok (.rt w) _) => some w
  | _ => none
theorem finN {t : TS} {fb : M Fl} {N : List Str} {vs : List V} {Q : VK} {E : XK} (o : OkS K L2.E0 false t fb) (h : spN K (runN N.length fb) vs H Q E) : t { nx := fun _ H' => Q .non H', rt := Q } (L2.start N vs) H := by
  obtain ⟨B, p, kvs, w, rfl, hd, hB, hf, q⟩ := h
  have rp : Rep K B (L2.start N [.ref p]) H (some (.nd kvs) :: List.replicate (N.length - 1) none) [] := by
    refine ⟨?_, List.nodup_nil, fun _ z => (by cases z), hB⟩
    rw [un_nil]
    unfold L2.start
    exact ⟨[], [], rfl, ⟨_, rfl, rfl, p, rfl, hd⟩, rpe_none _⟩
  unfold runN at hf
  cases hz : fb (some (.nd kvs) :: List.replicate (N.length - 1) none) with
  | none => rw [hz] at hf; cases hf
  | some z =>
    rw [hz] at hf
    cases z with
    | ex C f d => cases hf
    | ok fl e =>
      cases fl with
      | bk => cases hf
      | ct => cases hf
      | nx =>
        cases hf
        refine o.run rp hz fun σ' H' l' r' f' _ => q .non H' [] (fun b o e => f'.fr b o (fun z => by cases z) e) ⟨rfl, .non⟩ List.nodup_nil fun _ z => by cases z
      | rt w' =>
        cases hf
        refine o.run rp hz fun v σ' H' l' lw r' f' _ rw' nd hl => q v H' lw (fun b o e => f'.fr b o (fun z => by cases z) e) ?_ nd fun b z => ?_
        · exact rw'.mv (off_mono (fun b z n => absurd (.inl z) n) fun b o n e => e) fun _ _ => rfl
        · exact (f'.sub b (List.mem_append_right _ z)).resolve_left fun z => by cases z
theorem lenN {n : Nat} {fb : M Fl} {vs : List V} {H : Hp} {Q : VK} {E : XK} (h : spN K (runN n fb) vs H Q E) : vs.length = 1 := by
  obtain ⟨B, p, kvs, w, rfl, _⟩ := h
  rfl
/-- f(lots) -/
def callN (i : Nat) (F : List (NestedKey × Int) → Option Wv) : M Wv := M.bind (ndD i) fun ks => lift (F ks)
theorem OkW.callN {i : Nat} {F : List (NestedKey × Int) → Option Wv} {E' : XK} : OkW K E (tCall (spN K F) [] E' (tCons (tVar i) tNil)) (Ov.callN i F) := by
  refine ⟨?_⟩
  intro B σ H env l rs r1 h Q post
  obtain ⟨ks, hx, h2⟩ := ndD_step h
  obtain ⟨w, h4, h5⟩ := lift_some h2
  subst h5
  obtain ⟨p, s1, hd⟩ := r1.ndR hx
  refine ⟨.ref p, s1, un B l, p, ks, w, rfl, hd, r1.tl, h4, fun v H' lw s rw' nd fr => ?_⟩
  have hl : ∀ b ∈ lw, ¬ un B l b := fun b z => r1.fresh (fr b z)
  refine post v H' lw (r1.grow s (fun _ z => .inl z) (fun b z => z.imp id (fr b)) fun b z => ?_) (Fr.of s) (rw'.mv (off_mono (fun b z n => absurd (z.elim (fun z => z.elim (fun z => .inl (.inl z)) .inr) fun z => .inl (.inr z)) n) fun b o n e => e) fun _ _ => rfl) nd fr
  rcases z with z | z
  · obtain ⟨o, e, n⟩ := r1.tb b z
    exact ⟨o, s _ _ e, n⟩
  · exact rw'.trk b z
end
end Ov
set_option Elab.async false
set_option linter.all false
set_option maxRecDepth 100000
set_option maxHeartbeats 4000000
namespace L2
open PySem PySem.Spec PyProof.Rows
/-! sorted(d.items()), d a dict of numbers with numbers as values -/
def dkI' (kvs : List (Int × Int)) : List (Key × V) := kvs.map fun kv => (Sum.inl kv.1, V.int kv.2)
def viewO' (p d : Addr) : HO := .ext fun h => h.IsItemsView p d
theorem viewO'_ok {P : Program} {w : World} {H : Hp} {h : Heap} {p d : Addr} (e : h.get? p = some { cls := .type "dict_items", data := .fields #[.ref d] }) : ObjOk P w H h p (viewO' p d) :=
  ⟨⟨_, e, rfl, rfl⟩, ⟨_, e⟩, fun h1 h2 x k => let ⟨o, ho, r⟩ := x; ⟨o, k o ho, r⟩⟩
def rItemsI : V → List V → Hp → VK → Prop := fun x xs H Q => ∃ (a : Addr) (kvs : List (Int × Int)), x = .ref a ∧ xs = [] ∧ H a = some (.dK (dkI' kvs)) ∧ ∀ p, H p = none → Q (.ref p) (upd H p (viewO' p a))
def leP' (p q : Int × Int) : Prop := p.1 < q.1 ∨ (p.1 = q.1 ∧ p.2 ≤ q.2)
def rSortItI : List V → Hp → VK → Prop := fun vs H Q => ∃ (p a : Addr) (kvs : List (Int × Int)), vs = [.ref p] ∧ H p = some (viewO' p a) ∧ H a = some (.dK (dkI' kvs)) ∧ kvs.length < 64 ∧ (∀ kv ∈ kvs, 0 ≤ kv.1 ∧ kv.1 < 1000000000 ∧ 0 ≤ kv.2 ∧ kv.2 < 1000000000) ∧
  ∀ (H' : Hp) (l : Addr) (bs : List Addr) (qs : List (Int × Int)), (∀ b o, H b = some o → H' b = some o) → qs.Perm kvs → qs.Pairwise leP' → H l = none → H' l = some (.lst (bs.map V.ref)) → bs.length = qs.length →
    (∀ (i : Nat) (b : Addr) (q : Int × Int), bs[i]? = some b → qs[i]? = some q → H' b = some (.tup [.int q.1, .int q.2])) → Q (.ref l) H'
section
variable {X : Cx}
theorem ent_int {P : Program} {w : World} {h : Heap} {a : Addr} {kvs : List (Int × Int)} {vs : List (Key × Value)} (dd : h.DictOf (mixKind P w) a vs) (rel : KV (dkI' kvs) vs) :
    ∃ es ep, DT.Raw h a es ep ∧ es.size = kvs.length ∧ ∀ (j : Nat) (kv : Int × Int), kvs[j]? = some kv → ∃ e t u, es[j]? = some e ∧ e.key = Value.int kv.1 t ∧ e.val = Value.int kv.2 u := by
  obtain ⟨o, es, ep, h1, h2, h3, _, h5, _⟩ := dd
  refine ⟨es, ep, ⟨o, h1, h2, h3⟩, ?_, ?_⟩
  · have l1 : (dkI' kvs).length = vs.length := Paired.length rel
    have l2 : es.toList.length = vs.length := by
      have : ∀ {l : List DictEntry} {m : List (Key × Value)}, Pairs (mixKind P w) l m → l.length = m.length := by
        intro l m q
        induction q with
        | nil => rfl
        | cons _ _ _ ih => rw [List.length_cons, List.length_cons, ih]
      exact this h5
    unfold dkI' at l1
    rw [List.length_map] at l1
    rw [← Array.length_toList]
    omega
  · have key : ∀ {l : List DictEntry} {m : List (Key × Value)} {ks : List (Int × Int)}, Pairs (mixKind P w) l m → KV (dkI' ks) m → ∀ (j : Nat) (kv : Int × Int), ks[j]? = some kv → ∃ e t u, l[j]? = some e ∧ e.key = Value.int kv.1 t ∧ e.val = Value.int kv.2 u := by
      intro l m ks q
      induction q generalizing ks with
      | nil =>
        intro r j kv hk
        cases ks with
        | nil => simp at hk
        | cons x r' => cases r
      | @cons e kv0 es' kvs' q1 q2 q3 ih =>
        intro r j kv hk
        cases ks with
        | nil => cases r
        | cons x r' =>
          obtain ⟨x1, x2⟩ := x
          cases r with
          | cons c1 c2 =>
            cases j with
            | zero =>
              cases hk
              obtain ⟨d1, d2⟩ := c1
              have d1' : kv0.1 = Sum.inl x1 := d1.symm
              have q1' : keyIs kv0.1 e.key = true := q1
              rw [d1'] at q1'
              obtain ⟨t, ht⟩ := (show ∃ t, e.key = Value.int x1 t from relV_key (k := Sum.inl x1) q1')
              obtain ⟨u, hu⟩ := (show ∃ t, kv0.2 = Value.int x2 t from d2)
              exact ⟨e, t, u, rfl, ht, q2.trans hu⟩
            | succ j =>
              obtain ⟨e', t, u, z1, z2, z3⟩ := ih c2 j kv (by simpa using hk)
              exact ⟨e', t, u, by simpa using z1, z2, z3⟩
    intro j kv hk
    obtain ⟨e, t, u, z1, z2, z3⟩ := key h5 rel j kv hk
    exact ⟨e, t, u, by rw [← Array.getElem?_toList]; exact z1, z2, z3⟩
theorem mt_itemsI : MtR X "dict.items" rItemsI := by
  intro pins s σ H x xs v us Q I rx rxs h
  obtain ⟨a, kvs, rfl, rfl, ha, q⟩ := h
  cases rx
  cases rxs
  obtain ⟨z, hd, vs, rel, dd⟩ := dk_of I.hok ha
  obtain ⟨es, ep, raw, _⟩ := ent_int dd rel
  refine DT.callItems (es := es) (ep := ep) hd raw ?_
  exact ⟨.ref s.heap.objs.size, upd H s.heap.objs.size (viewO' s.heap.objs.size a), I.laid (t' := s.toks) (fun b u e => Heap.get?_push_of_some _ e) (Nat.le_refl _) (viewO'_ok (Heap.get?_push_size _ rfl)), rfl, q _ (I.hok.fresh (Nat.le_refl _))⟩
def prOf (ns : List Int) : Int × Int := match ns with
  | [a, b] => (a, b)
  | _ => (0, 0)
theorem code_le {a b c d : Int} (h1 : 0 ≤ a ∧ a < 1000000000 ∧ 0 ≤ b ∧ b < 1000000000) (h2 : 0 ≤ c ∧ c < 1000000000 ∧ 0 ≤ d ∧ d < 1000000000) (h : TS.code 1000000000 [a, b] ≤ TS.code 1000000000 [c, d]) : leP' (a, b) (c, d) := by
  have e1 : TS.code 1000000000 [a, b] = a * 1000000000 + b := by simp [TS.code]
  have e2 : TS.code 1000000000 [c, d] = c * 1000000000 + d := by simp [TS.code]
  rw [e1, e2] at h
  show a < c ∨ (a = c ∧ b ≤ d)
  omega
theorem intsare_two {a b : Int} {t u : Tok} : IntsAre (#[Value.int a t, Value.int b u] : Array Value).toList [a, b] := .cons _ _ (.cons _ _ .nil)
theorem cr_sortItI (hc : X.calm = true) : CallR X (.builtin "sorted") rSortItI := by
  intro pins s σ H xs us Q I r h
  obtain ⟨p, a, kvs, rfl, hp, ha, h64, hb, q⟩ := h
  obtain rfl := Vals.ref1 r
  have view : s.heap.IsItemsView p a := (show ObjOk X.prog X.w H s.heap p (viewO' p a) from I.hok p _ hp).1
  obtain ⟨z, hd, vs, rel, dd⟩ := dk_of I.hok ha
  obtain ⟨es, ep, raw, hsz, ent⟩ := ent_int dd rel
  refine DT.sortedI (es := es) (ep := ep) (I.ok.hd hc) view raw (by rw [sizeLine_eq]; omega) fun h' tk as hk hlt hl hG => ?_
  have lak : as.length = kvs.length := by omega
  have nd : as.Nodup := List.Pairwise.imp (fun h => Nat.ne_of_lt h) hG.rise
  have hob : (h'.push { cls := .type "list", data := .seq (as.map Value.ref).toArray }).get? h'.objs.size = some (seqObj "list" (as.map Value.ref).toArray 0) := Heap.get?_push_size _ rfl
  have ne0 : ∀ b o, h'.get? b = some o → b ≠ h'.objs.size := fun b o e => Nat.ne_of_lt (Heap.lt_size e)
  have ka : ∀ b o, h'.get? b = some o → (h'.push { cls := .type "list", data := .seq (as.map Value.ref).toArray }).get? b = some o := fun b o e => Heap.get?_push_of_some _ e
  generalize h'.push { cls := .type "list", data := .seq (as.map Value.ref).toArray } = h2 at hob ka ⊢
  have pr : ∀ (j : Nat) (b : Addr) (kv : Int × Int), as[j]? = some b → kvs[j]? = some kv → TS.TupInts h2 (.ref b) [kv.1, kv.2] ∧ ∃ t u, h2.get? b = some { cls := .type "tuple", data := .seq #[Value.int kv.1 t, Value.int kv.2 u] } := by
    intro j b kv hj hk2
    obtain ⟨e, he, hg⟩ := hG.pairs j b hj
    obtain ⟨e', t, u, he', k1, k2⟩ := ent j kv hk2
    rw [he] at he'
    cases he'
    rw [k1, k2] at hg
    exact ⟨⟨b, #[Value.int kv.1 t, Value.int kv.2 u], rfl, ⟨_, ka _ _ hg, rfl, 0, rfl⟩, intsare_two⟩, t, u, ka _ _ hg⟩
  have at_ : ∀ b ∈ as, ∃ (j : Nat) (kv : Int × Int), as[j]? = some b ∧ kvs[j]? = some kv ∧ kv ∈ kvs := by
    intro b hb'
    obtain ⟨j, hj⟩ := List.mem_iff_getElem?.mp hb'
    have hj' : j < kvs.length := by rw [← lak]; exact (List.getElem?_eq_some_iff.mp hj).1
    exact ⟨j, kvs[j], hj, List.getElem?_eq_getElem hj', List.getElem_mem hj'⟩
  have tok : TS.TupsOk h2 2 1000000000 (as.map Value.ref) := fun v hv => by
    obtain ⟨b, hb', rfl⟩ := List.mem_map.mp hv
    obtain ⟨j, kv, j1, j2, j3⟩ := at_ b hb'
    refine ⟨[kv.1, kv.2], (pr j b kv j1 j2).1, rfl, fun m hm => ?_⟩
    have := hb kv j3
    rcases List.mem_cons.mp hm with rfl | hm
    · omega
    · cases List.mem_singleton.mp hm; omega
  refine TS.call_sort_tups (s := { s with heap := h2, toks := tk }) hob (by rw [List.length_map]; omega) (by decide) tok fun out o1 o2 => ?_
  obtain ⟨bs, pz, ez⟩ := perm_lift Value.ref o1 as rfl
  have kF : ∀ b o, b ≠ h'.objs.size → h2.get? b = some o → (sortedHeap h2 h'.objs.size (as.map Value.ref) out).get? b = some o := fun b o hb e => (PyProof.Rows.sortedHeap_old hb (Heap.lt_size e)).trans e
  have kS : ∀ b o, s.heap.get? b = some o → (sortedHeap h2 h'.objs.size (as.map Value.ref) out).get? b = some o := fun b o e => kF b o (ne0 _ _ (hk b o e)) (ka b o (hk b o e))
  obtain ⟨eF, heF⟩ := PyProof.Rows.sortedHeap_at (vs := as.map Value.ref) (out := out) hob
  have hn0 : H h'.objs.size = none := I.hok.fresh (Nat.le_of_lt hlt)
  have blen : bs.length = kvs.length := pz.length_eq.trans lak
  have rv : Vals (bs.map V.ref) out.toList := by
    rw [← ez]
    exact vals_maps V.ref Value.ref bs fun _ _ => rfl
  have I2 : Inv X pins σ (upd H h'.objs.size (.lst (bs.map V.ref))) { s with heap := sortedHeap h2 h'.objs.size (as.map Value.ref) out, toks := tk } :=
    (I.kept (t' := tk) kS).take (h' := sortedHeap h2 h'.objs.size (as.map Value.ref) out) (t' := tk) (fun b ob _ e => e) (I.fpOk (Nat.le_of_lt hlt) hn0) ⟨by rw [List.length_map, sizeLine_eq]; omega, out.toList, eF, rv, heF⟩
  let f : Addr → Int × Int := fun b => prOf (TS.intsOf h2 (.ref b))
  have fa : ∀ (j : Nat) (b : Addr) (kv : Int × Int), as[j]? = some b → kvs[j]? = some kv → f b = kv := fun j b kv h1 h3 => by
    show prOf (TS.intsOf h2 (.ref b)) = kv
    rw [(pr j b kv h1 h3).1.ints]
    rfl
  have fm : as.map f = kvs := by
    apply List.ext_getElem?
    intro j
    rw [List.getElem?_map]
    cases e1 : as[j]? with
    | none => rw [List.getElem?_eq_none (by have := List.getElem?_eq_none_iff.mp e1; omega)]; rfl
    | some b =>
      have hj' : j < kvs.length := by rw [← lak]; exact (List.getElem?_eq_some_iff.mp e1).1
      rw [List.getElem?_eq_getElem hj']
      exact congrArg some (fa j b _ e1 (List.getElem?_eq_getElem hj'))
  obtain ⟨H2, I3, g, qt⟩ := DX.takeT (P := fun b vs => vs = [.int (f b).1, .int (f b).2]) I as _ I2 nd fun b hb' => by
    obtain ⟨j, kv, j1, j2, j3⟩ := at_ b hb'
    obtain ⟨_, t, u, hg⟩ := pr j b kv j1 j2
    have hbl : s.heap.objs.size ≤ b := Nat.le_of_lt (hG.above b hb')
    have nb : b ≠ h'.objs.size := by
      obtain ⟨e, he, hg'⟩ := hG.pairs j b j1
      exact ne0 _ _ hg'
    refine ⟨hbl, ?_, [.int (f b).1, .int (f b).2], rfl, fun H3 => ⟨(by rw [sizeLine_eq]; show 2 ≤ 16777216; omega), [Value.int kv.1 t, Value.int kv.2 u], ?_, ⟨_, kF _ _ nb hg, rfl, 0, rfl⟩⟩⟩
    · rw [upd_ne nb]
      exact I.hok.fresh hbl
    · rw [fa j b kv j1 j2]
      exact .cons ⟨t, rfl⟩ (.cons ⟨u, rfl⟩ .nil)
  have gr : ∀ b o, H b = some o → H2 b = some o := fun b o e => g b o (by rw [upd_ne (ne_of_none e hn0)]; exact e)
  refine ⟨.ref h'.objs.size, H2, I3, rfl, q H2 h'.objs.size bs (bs.map f) gr (by rw [← fm]; exact pz.map f) ?_ hn0 (g _ _ upd_same) (by rw [List.length_map]) fun i b q' h1 h3 => ?_⟩
  · rw [← ez] at o2
    rw [List.pairwise_map] at o2
    rw [List.pairwise_map]
    refine List.Pairwise.imp_of_mem (fun {x y} hx hy h => ?_) o2
    obtain ⟨j, kv, j1, j2, j3⟩ := at_ x (pz.mem_iff.mp hx)
    obtain ⟨j', kv', j1', j2', j3'⟩ := at_ y (pz.mem_iff.mp hy)
    rw [fa j x kv j1 j2, fa j' y kv' j1' j2']
    have h' : TS.code 1000000000 (TS.intsOf h2 (.ref x)) ≤ TS.code 1000000000 (TS.intsOf h2 (.ref y)) := h
    rw [(pr j x kv j1 j2).1.ints, (pr j' y kv' j1' j2').1.ints] at h'
    exact code_le (hb kv j3) (hb kv' j3') h'
  · rw [List.getElem?_map, h1] at h3
    cases h3
    obtain ⟨vs', e1, e2⟩ := qt b (pz.mem_iff.mp (List.mem_of_getElem? h1))
    rw [e2, e1]
end
end L2
set_option Elab.async false
set_option linter.all false
set_option maxRecDepth 100000
set_option maxHeartbeats 4000000
namespace Ov
section
open PySem PySem.Spec L2
variable {X : Cx} {K : PySem.W.Frag} (hK : X.K = K)
theorem k_sortItI (hc : X.calm = true) : CallR X (.builtin "sorted") rSortItI := cr_sortItI hc
end
open PySem L2
section
variable {K : PySem.W.Frag} {E : XK} {bx : Bool}
/-- met.get(k, j), met an own dict of numbers -/
def dget2I (i : Nat) (fk fv : M R) : M R := M.bind (dciD i) fun _ => M.bind fk fun r => M.bind (lift (asI r)) fun k => M.bind fv fun r0 => M.bind (lift (asI r0)) fun v => M.bind (dciD i) fun ks => M.pure (.dat (.int ((lookI ks k).getD v)))
theorem OkE.dget2I {i : Nat} {tk tv : TE} {fk fv : M R} (o : OkE K E tk fk) (ov : OkE K E tv fv) : OkE K E (tDGet2 (tVar i) tk tv) (Ov.dget2I i fk fv) := by
  refine ⟨?_⟩
  intro B σ H env l rs rp h Q post
  obtain ⟨ks0, hx0, h0⟩ := dciD_step h
  obtain ⟨p, s1, s2, s3, _⟩ := rp.dgetI hx0
  refine ⟨.ref p, s1, p, rfl, .inl ⟨_, .inl s2⟩, ?_⟩
  refine o.seq rp h0 post.exn fun a e v' H1 h1 r1 f1 q1 => ?_
  obtain ⟨k, h2, h3⟩ := lift_step h1
  rw [asI_some h2] at q1
  cases q1
  refine ov.seq r1 h3 (exn_later post.exn f1) fun a2 e2 v2 H2 h4 r2 f2 q2 => ?_
  obtain ⟨j, h5, h6⟩ := lift_step h4
  rw [asI_some h5] at q2
  cases q2
  obtain ⟨ks, hx, h7⟩ := dciD_step h6
  cases h7
  obtain ⟨p', t1, t2, t3, t4⟩ := r2.dgetI hx
  rw [s1] at t1
  cases t1
  have g := DGet.k (k := Sum.inl k) t2
  refine ⟨_, g, ?_⟩
  have e : (valV (kvI ks) (Sum.inl k)).getD (V.int j) = V.int ((lookI ks k).getD j) := by
    rw [kvI_val]
    cases lookI ks k <;> rfl
  rw [e]
  exact post _ H2 r2 (f1.trans f2) (.int _)
/-- sorted(met.items()) -/
def okItI (kvs : List (Int × Int)) : Bool := decide (kvs.length < 64) && kvs.all fun kv => decide (0 ≤ kv.1 ∧ kv.1 < 1000000000 ∧ 0 ≤ kv.2 ∧ kv.2 < 1000000000)
def srtItI (i : Nat) : M R := M.bind (dciD i) fun ks => M.bind (lift (chk (okItI ks))) fun _ => M.pure (.dat (.list ((srtQ ks).map prD)))
theorem OkE.srtItI {i : Nat} : OkE K E (tCB rSortItI (tCons (tBM0 K "dict" rItemsI (tVar i)) tNil)) (Ov.srtItI i) := by
  refine ⟨?_⟩
  intro B σ H env l rs rp h Q post
  obtain ⟨ks, hx, h1⟩ := dciD_step h
  obtain ⟨u, h2, h3⟩ := lift_step h1
  cases h3
  have ok := chk_ok h2
  unfold okItI at ok
  rw [Bool.and_eq_true] at ok
  have o1 := of_decide_eq_true ok.1
  have o2 : ∀ kv ∈ ks, 0 ≤ kv.1 ∧ kv.1 < 1000000000 ∧ 0 ≤ kv.2 ∧ kv.2 < 1000000000 := fun kv hkv => of_decide_eq_true (List.all_eq_true.mp ok.2 kv hkv)
  obtain ⟨p, s1, s2, s3, _⟩ := rp.dgetI hx
  refine ⟨.ref p, s1, ⟨?_, p, ks, rfl, rfl, s2, fun q hq => ?_⟩⟩
  · exact .inr (.inr (.inl ⟨rfl, .inl ⟨_, s2⟩⟩))
  · refine ⟨q, p, ks, rfl, upd_same, by rw [upd_ne (ne_of_none s2 hq)]; exact s2, o1, o2, fun H' lr bs qs kp pm pw hn hl bl at_ => ?_⟩
    have e : qs = sortP ks := sortP_uniq (pm.trans (sortP_perm ks).symm) pw (sortP_pw ks)
    subst e
    have sm : Same H H' := fun b o e => kp b o (by rw [upd_ne (ne_of_none e hq)]; exact e)
    have r2 := rp.same sm
    have nl : H lr = none := by
      cases e : H lr with
      | none => rfl
      | some o =>
        have : upd H q (viewO' q p) lr = some o := by rw [upd_ne (ne_of_none e hq)]; exact e
        rw [hn] at this
        cases this
    have da : DaAll K (off (Ov.un B l) H') (bs.map V.ref) ((sortP ks).map prD) := by
      refine prsV_da ⟨by rw [List.length_map]; exact bl, fun i y z hy hz => ?_⟩
      rw [List.getElem?_map] at hy
      obtain ⟨b, hb, rfl⟩ := Option.map_eq_some_iff.mp hy
      exact ⟨b, rfl, off_tupH r2.tl b _ (at_ i b z hb hz)⟩
    exact post _ H' r2 (Fr.of sm) (by rw [show srtQ ks = sortP ks from srtQ_eq ks]; exact .lst (SqL.of (by rw [off_ne (rp.fresh nl)]; exact hl)) da)
end
end Ov
set_option Elab.async false
set_option linter.all false
set_option maxRecDepth 100000
set_option maxHeartbeats 4000000
namespace L2
open PySem PySem.Spec PyProof.Rows
/-! more of dicts with nested keys: their values in order, a walk over the keys, len; sets out of lists of numbers -/
section
variable {prog : Program} {w : World} {r d : Addr} {ob : Obj} {es : Array DictEntry} {ep : Nat}
theorem src_vals (hdd : ob.data = .dict es ep) : PySem.W.KdlSrc prog w "dict_values" r d es.size (fun i v => ∃ en : DictEntry, es[i]? = some en ∧ v = en.val) (fun h => h.get? r = some (DSub.viewOb "dict_values" d) ∧ h.get? d = some ob) where
  type := fun _ z => ⟨_, z.1, rfl⟩
  there := fun _ z => ⟨Heap.lt_size z.1, Heap.lt_size z.2⟩
  keep := fun _ _ z k => ⟨k r (.inl rfl) _ z.1, k d (.inr rfl) _ z.2⟩
  notList := by decide
  notTuple := by decide
  hint := fun _ _ s _ z q => PySem.W.kdl_hint_values (s := s) ⟨_, z.1, rfl⟩ q
  iter := fun _ s hh z => ⟨_, _, fun _ _ q => DSub.iter_vals (a := d) z.1 z.2 hdd q, DSub.walksVal (a := d) hh (Nat.ne_of_lt (Heap.lt_size z.2)) hdd (fun i en e => ⟨en, e, rfl⟩), ⟨Heap.get?_push_size _ rfl, Heap.get?_push_of_some _ z.2⟩⟩
end
/-- sorted(x.values()) -/
def rSortVN : V → Hp → VK → Prop := fun x H Q => ∃ (a : Addr) (kvs : List (NestedKey × Int)), x = V.ref a ∧ HN H a kvs ∧ kvs.length < 64 ∧ ∀ (ns : List Int) (p : Addr), ns.Perm (kvs.map (·.2)) → ns.Pairwise (· ≤ ·) → H p = none → Q (.ref p) (upd H p (.lst (ns.map V.int)))
section
variable {X : Cx} {o : Expr} {p pos apos mpos : Pos} {td : TE}
theorem pe_sortVN (hc : X.calm = true) (hg : Gl X "sorted") (hm : X.mg "sorted" = none) (hd : PE X o td) (hbase : attributeBase o "values" X.env (eval o X.env) = eval o X.env := by rfl) (hline : (apos.endLine == mpos.line) = true := by rfl)
    (hse : starEach [Expr.Call (.Attribute o "values" apos) [] [] mpos] X.env = [(false, eval (Expr.Call (.Attribute o "values" apos) [] [] mpos) X.env)] := by rfl) :
    PE X (.Call (.Name "sorted" p) [.Call (.Attribute o "values" apos) [] [] mpos] [] pos) (tUn rSortVN td) := by
  refine ⟨fun pins s σ H Q I h => wpAny_Call_Name_kw (ld_blt I hg hm (u := .builtin "sorted") (by first | rfl | decide +kernel) ?_ (by first | decide +kernel | decide) (by first | decide +kernel | decide))⟩
  rw [hse]
  refine PySem.callWith_builtin1 (wpAny_Call_method0_late hbase hline (thn (hd.run pins s σ H _ I h) fun v s1 ⟨x, H1, I1, r1, a, kvs, ex, hn, h64, q⟩ => ?_))
  subst ex
  obtain rfl : v = Value.ref a := r1
  obtain ⟨ob, xs, e, no, r, nd⟩ := hn
  have ho : s1.heap.get? a = some ob := objO_get I1.hok e
  obtain ⟨hsys, hx, es, ep, hdat, hes⟩ := id no
  have hsz : es.size = kvs.length := nob_len no hdat r X.w
  refine ⟨"dict", "dict.values", F.plainAttrs_dict, F.slot_dict_values, F.type_dict_values, ⟨ob, ho, hx.1⟩, fun b e => by cases e; exact ⟨ob, ho, hx.2.1⟩, Calls.callWith_builtin rfl (PySem.evalArgs_none ?_)⟩
  refine call_meetsIn F.slot_dict_values ⟨ob, ho, hx.1⟩ F.entry_dict_values (F.args_dict_values_1 _) (meets_dict_values_raw a hsys) ⟨⟨es, ep, ob, ho, hx, hdat⟩, ?_⟩
  have ho1 : (s1.heap.push (DSub.viewOb "dict_values" a)).get? a = some ob := Heap.get?_push_of_some _ ho
  refine Calls.call_function_entry kind_sorted plain_sorted entry_sorted (args_sorted1 _) ?_
  unfold Builtin.«sorted»
  refine wpAny_bind (m := checkCount "sorted" 1 1 _) (wpAny_pure (wpAny_bind (PySem.W.kdu_collect (src_vals hdat) (I1.ok.hd hc) ⟨Heap.get?_push_size _ rfl, ho1⟩ (by rw [hsz, sizeLine_eq]; omega) fun h2 tk acc k2 it => ?_)))
  have hval : ∀ (j : Nat) (v : Value), acc.toList[j]? = some v → ∃ kv t, kvs[j]? = some kv ∧ v = Value.int kv.2 t := fun j v hj => by
    obtain ⟨en, h1, rfl⟩ := it.2 j v (by rw [← Array.getElem?_toList]; exact hj)
    have hj2 : j < kvs.length := by rw [← hsz]; exact (Array.getElem?_eq_some_iff.mp h1).1
    obtain ⟨b, t, hi, _, e2, _⟩ := nob_at no hdat r (List.getElem?_eq_getElem hj2) X.w
    have e3 : en = es[j] := (Option.some.inj (h1.symm.trans (Array.getElem?_eq_getElem hi)))
    exact ⟨kvs[j], t, List.getElem?_eq_getElem hj2, by rw [e3]; exact e2⟩
  have al : acc.toList.length = kvs.length := by rw [Array.length_toList, it.1]; exact hsz
  have hI : IntsAre acc.toList (kvs.map (·.2)) := by
    clear h2 tk k2 it q
    generalize acc.toList = vs at hval al
    clear hsz nd r no e
    induction kvs generalizing vs with
    | nil => rw [List.length_eq_zero_iff.mp al]; exact .nil
    | cons kv kvs ih =>
      cases vs with
      | nil => simp at al
      | cons u vs =>
        obtain ⟨kv', t, e1, e2⟩ := hval 0 u rfl
        cases e1
        subst e2
        exact .cons _ _ (ih (by rw [List.length_cons] at h64; omega) vs (fun j v hj => hval (j + 1) v hj) (by simpa using al))
  refine wpAny_bind (wpAny_newList ?_ (by rw [al, sizeLine_eq]; omega))
  have hoL : (h2.push (seqObj "list" acc.toList.toArray 0)).get? h2.objs.size = some (seqObj "list" acc.toList.toArray 0) := Heap.get?_push_size _ rfl
  refine wpAny_bind (wpAny_holding (wpAny_call_entry slot_list_sort ⟨_, hoL, rfl⟩ entry_list_sort (list_sort_tree (s := { s1 with heap := h2.push (seqObj "list" acc.toList.toArray 0), toks := tk }) hoL hI (by rw [al]; exact h64) fun out ns' a1 a2 a3 => ⟨_, rfl, ?_⟩) (args_list_sort _)))
  obtain ⟨c, hcc⟩ := sortedHeap_at (vs := acc.toList) (out := out) hoL
  refine wpAny_pure ⟨_, rfl, ?_⟩
  have lt1 : s1.heap.objs.size < h2.objs.size := Heap.lt_size (k2 _ _ (Heap.get?_push_size _ rfl))
  have kp : ∀ b u, s1.heap.get? b = some u → (sortedHeap (h2.push (seqObj "list" acc.toList.toArray 0)) h2.objs.size acc.toList out).get? b = some u := fun b u e => by
    have q1 := k2 b u (Heap.get?_push_of_some _ e)
    have hlt := Heap.lt_size q1
    rw [sortedHeap_old (Nat.ne_of_lt hlt) (by rw [Heap.size_push]; exact Nat.lt_succ_of_lt hlt)]
    exact Heap.get?_push_of_some _ q1
  have rv : Vals (ns'.map V.int) out.toList := by
    generalize out.toList = us at a1
    clear a2 a3 hcc kp
    induction a1 with
    | nil => exact .nil
    | cons i t _ ih => exact .cons ⟨t, rfl⟩ ih
  have len : ns'.length ≤ sizeLine := by rw [a2.length_eq, List.length_map, sizeLine_eq]; omega
  refine ⟨.ref h2.objs.size, upd H1 h2.objs.size (.lst (ns'.map V.int)), I1.laid (t' := tk) kp (Nat.le_of_lt lt1) ⟨by rw [List.length_map]; exact len, out.toList, c, rv, by rw [Array.toArray_toList]; exact hcc⟩, rfl, q ns' _ a2 a3 (I1.hok.fresh (Nat.le_of_lt lt1))⟩
/-- the walk over the keys -/
def ItNk (p : Addr) (o : Obj) (xs : List NE) (kvs : List (NestedKey × Int)) : It :=
  ⟨fun i H => (H p = some (objO p o) ∧ NX H xs kvs) ∧ i < kvs.length, fun i H x H' => H' = H ∧ ∃ b kv, kvs[i]? = some kv ∧ x = .ref b ∧ Nk H (.ref b) kv.1, fun i H => (H p = some (objO p o) ∧ NX H xs kvs) ∧ kvs.length ≤ i⟩
def iKeysN (td : TE) : TI := fun σ H R => td σ H fun x H1 => ∃ p o xs kvs, x = .ref p ∧ H1 p = some (objO p o) ∧ NOb p o xs ∧ NX H1 xs kvs ∧ (kvs.map (·.1)).Nodup ∧ R (ItNk p o xs kvs) H1
theorem turn_keysN {P : Program} {w : World} {K : PySem.W.Frag} {tg : Expr} {p : Addr} {o : Obj} {es : Array DictEntry} {ep : Nat} {xs : List NE} {kvs : List (NestedKey × Int)} (it : Addr) (hx : NOb p o xs) (hod : o.data = .dict es ep) :
    Turn P w K tg (ItNk p o xs kvs) [it] it (fun i h => h.IsKeyIter it p i es.size ep) where
  mem := by simp
  obj := fun i h st b hb => by
    obtain ⟨oi, e, c, dd⟩ := st
    rw [show b = it by simpa using hb]
    exact ⟨oi, e, fun v z => by rw [dd] at z; cases z⟩
  keep := fun i h h' st k => st.at fun oi e => k it (by simp) oi e
  item := by
    intro X hP hw hK hc i pins s σ H E I hf st hg
    subst hP hw hK
    obtain ⟨⟨hd, r⟩, hi⟩ := hg
    obtain ⟨f0, f1, f2, f3, f4, f5⟩ := hf it (by simp)
    obtain ⟨b, t, hi2, k1, _, nk⟩ := nob_at hx hod r (List.getElem?_eq_getElem hi) X.w
    refine next_key_item st (objO_get I.hok hd) hod rfl (Array.getElem?_eq_getElem hi2) fun h' st' sb => ?_
    have I1 : Inv X pins σ H { s with heap := h' } := I.turned (t' := s.toks) (fun b ob hb e => (sb.2 b hb).trans e) f0 f1 f3 f4 f5
    obtain ⟨oi, e, c, dd⟩ := id st'
    exact ⟨_, rfl, go_of (s := { s with heap := h' }) e c dd (by decide) ⟨.ref b, H, I1, k1, ⟨rfl, b, _, List.getElem?_eq_getElem hi, rfl, nk⟩, st', fun b hb => (hf b hb).1⟩⟩
  done := by
    intro X hP hw hK hc i pins s σ H E I hf st hg
    subst hP hw hK
    obtain ⟨⟨hd, r⟩, hi⟩ := hg
    obtain ⟨f0, f1, f2, f3, f4, f5⟩ := hf it (by simp)
    exact next_key_end (I.ok.hd hc) st (objO_get I.hok hd) hod rfl (by rw [nob_len hx hod r X.w]; exact hi) fun h' eb => ⟨rfl, I.turned (t' := s.toks) (fun b ob hb e => eb b ob hb e) f0 f1 f3 f4 f5⟩
  self := fun A i s Q E st h => wpAny_pyIter_keyiter st h
theorem pi_keysN {tg e : Expr} {td : TE} (he : PE X e td) : PI X tg e (iKeysN td) := by
  refine ⟨fun pins s σ H R I h => thn (he.run pins s σ H _ I h) fun v s1 ⟨x, H1, I1, rx, p, o, xs, kvs, ex, hd, hx, r, nd, q⟩ => ?_⟩
  subst ex
  obtain rfl : v = Value.ref p := rx
  obtain ⟨hs, hex, es, ep, hod, _⟩ := id hx
  refine iter_keys hs (objO_get I1.hok hd) hex hod (pi_one (tk := s1.toks) I1 _ (turn_keysN _ hx hod) ⟨_, Heap.get?_push_size _ rfl, rfl, rfl⟩ q)
/-- len -/
def rLenN : List V → Hp → VK → Prop := fun xs H Q => ∃ (p : Addr) (kvs : List (NestedKey × Int)), xs = [.ref p] ∧ HN H p kvs ∧ kvs.length < 1000000 ∧ Q (.int ((kvs.length : Nat) : Int)) H
theorem cr_lenN : CallR X (.builtin "len") rLenN := by
  intro pins s σ H xs us Q I r h
  obtain ⟨p, kvs, rfl, hp, hl, q⟩ := h
  rw [Vals.ref1 r]
  obtain ⟨xs, dd, rr, sm⟩ := hn_dict I hp
  refine call_len_dictH (knd := nestedKind X.prog X.w) sm dd (by rw [rr.len]; omega) ?_
  exact ⟨.int _, H, I.tok _, ⟨_, by rw [rr.len]⟩, q⟩
/-! a set out of a list of numbers -/
def rSetI (K : PySem.W.Frag) (w : World) : List V → Hp → VK → Prop := fun xs H Q => ∃ (l : Addr) (ns : List Int), xs = [V.ref l] ∧ SqL K H l (ns.map V.int) ∧ ns.length < 1000 ∧
  ∀ a S n, H a = none → (∀ k, S k = true ↔ k ∈ ns) → n ≤ ns.length → Q (.ref a) (upd H a (SetO w a S n))
theorem adds_ints {P : Program} {w : World} {ns : List Int} {items : Array Value} {S0 : Addr} (hit : IntsAre items.toList ns) (hl : ns.length < 1000) (A : Around) (hu : A.units < cLine) :
    Ov.AddsJ P w A S0 (fun i h => ∃ S n, SetR w h S0 S n ∧ (∀ k, S k = true ↔ k ∈ ns.take i) ∧ n ≤ i) items.size fun i v => items[i]? = some v := by
  rintro i v s E Q hi hv ⟨S, n, R, hS, hn⟩ q
  have hil : items.size = ns.length := by
    have := hit.length
    rwa [Array.length_toList] at this
  have hk : ns[i]? = some (ns[i]'(by omega)) := List.getElem?_eq_getElem _
  generalize ns[i]'(by omega) = k at hk
  obtain ⟨t, rfl⟩ : ∃ t, v = Value.int k t := by
    obtain ⟨t, e⟩ := hit.int_at i v (by rw [Array.getElem?_toList]; exact hv)
    exact ⟨t, by rw [e, List.getD_eq_getElem?_getD, hk]; rfl⟩
  refine wpAny_holding ?_
  unfold setAdd
  refine wpAny_holding (wpAny_bind (wpAny_pyHash_int ?_))
  refine setR_add_hashed (S := S) (n := n) (k := k) (tk := t) R (by unfold scanBound; omega) ?_
  intro h' sb R'
  refine q h' _ (by first | exact Nat.le_refl _ | exact Nat.le_succ _ | exact Nat.le_add_right _ _) sb ⟨_, _, R', fun j => ?_, by split <;> omega⟩
  rw [List.take_succ, hk, Bool.or_eq_true, hS j, List.mem_append, decide_eq_true_eq]
  simp
theorem cr_setI (hc : X.calm = true) (hu : X.A.units + 64 < cLine) : CallR X (.type "set") (rSetI X.K X.w) := by
  intro pins s σ H xs us Q I r h
  obtain ⟨l, ns, rfl, hl, h1000, q⟩ := h
  rw [Vals.ref1 r]
  obtain ⟨its, rv, pl, hz⟩ := I.list hl
  have hn : H s.heap.objs.size = none := I.hok.fresh (Nat.le_refl _)
  have hit : IntsAre its.toArray.toList ns := by simpa using intsAre_of rv
  have isz : its.toArray.size = ns.length := by
    have := hit.length
    rwa [Array.length_toList] at this
  have hI0 : ∀ b o, s.heap.get? b = some o → b ≠ s.heap.objs.size + 1 := fun b o e z => absurd (Heap.lt_size e) (by rw [z]; exact Nat.not_lt.mpr (Nat.le_succ _))
  refine Ov.call_setJ (P := X.prog) (w := X.w) (J := fun i h => (∀ b o, s.heap.get? b = some o → h.get? b = some o) ∧ ∃ S n, SetR X.w h s.heap.objs.size S n ∧ (∀ k, S k = true ↔ k ∈ ns.take i) ∧ n ≤ i) (I.ok.hd hc) pl.isList (by omega) ?_ ?_ (fun A' hA i v s' E Q hi hv ⟨kp, j⟩ qq => ?_) ?_
  · rintro i h h' ⟨k, S, n, R, g⟩ kk
    exact ⟨fun b o e => kk b o (hI0 b o e) (k b o e), S, n, R.at fun o e => kk _ o (by omega) e, g⟩
  · exact fun h' k e => ⟨k, fun _ => false, 0, (by
      have := setR_fresh (h := s.heap) X.w
      exact this.at fun o eo => by
        rw [Heap.get?_push_size _ rfl] at eo
        cases eo
        exact e), fun k => by simp, Nat.le_refl _⟩
  · have hS0 : s.heap.get? s.heap.objs.size = none := by
      cases z : s.heap.get? s.heap.objs.size with
      | none => rfl
      | some o => exact absurd (Heap.lt_size z) (Nat.lt_irrefl _)
    exact adds_ints hit h1000 A' hA i v s' E Q hi hv j fun h' tk le sb j' => qq h' tk le sb ⟨fun b o e => (sb.2 b fun z => by rw [z, hS0] at e; cases e).trans (kp b o e), j'⟩
  · rintro h' tk ⟨k, S, n, R, g, gn⟩
    rw [isz] at g gn
    rw [List.take_length] at g
    exact ⟨.ref s.heap.objs.size, upd H s.heap.objs.size (SetO X.w s.heap.objs.size S n), I.laid (t' := tk) k (Nat.le_refl _) (setO_new R), rfl, q _ S n hn g gn⟩
end
end L2
set_option Elab.async false
set_option linter.all false
set_option maxRecDepth 100000
set_option maxHeartbeats 4000000
namespace Ov
open PySem L2
/-! dicts of nested keys: len, the values in order, a walk over the keys, another name; sorted(set(numbers)); l.count(number) -/
def insU1 (x : Int) : List Int → List Int
  | [] => [x]
  | y :: r => if x < y then x :: y :: r else if x = y then y :: r else y :: insU1 x r
def ssI (ns : List Int) : List Int := ns.foldr insU1 []
theorem insU1_mem {p x : Int} : ∀ {l : List Int}, x ∈ insU1 p l ↔ x = p ∨ x ∈ l
  | [] => by simp [insU1]
  | q :: r => by
    unfold insU1
    split
    · simp
    · split
      · rename_i h; subst h; simp
      · rw [List.mem_cons, insU1_mem (l := r), List.mem_cons]
        exact ⟨fun z => z.elim (fun z => .inr (.inl z)) fun z => z.elim .inl fun z => .inr (.inr z), fun z => z.elim (fun z => .inr (.inl z)) fun z => z.elim .inl fun z => .inr (.inr z)⟩
theorem insU1_pw {p : Int} : ∀ {l : List Int}, l.Pairwise (· < ·) → (insU1 p l).Pairwise (· < ·)
  | [], _ => List.pairwise_singleton _ _
  | q :: r, h => by
    have ⟨h1, h2⟩ := List.pairwise_cons.mp h
    unfold insU1
    split
    · rename_i c
      exact List.pairwise_cons.mpr ⟨fun y hy => by
        rcases List.mem_cons.mp hy with rfl | hy
        · exact c
        · have := h1 y hy; omega, h⟩
    · split
      · exact h
      · exact List.pairwise_cons.mpr ⟨fun y hy => by
          rcases insU1_mem.mp hy with rfl | hy
          · omega
          · exact h1 y hy, insU1_pw h2⟩
theorem ssI_mem {x : Int} : ∀ {ns : List Int}, x ∈ ssI ns ↔ x ∈ ns
  | [] => Iff.rfl
  | p :: r => by
    show x ∈ insU1 p (ssI r) ↔ _
    rw [insU1_mem, ssI_mem (ns := r), List.mem_cons]
theorem ssI_pw : ∀ ns : List Int, (ssI ns).Pairwise (· < ·)
  | [] => .nil
  | p :: r => insU1_pw (ssI_pw r)
theorem lt_uniq {a b : List Int} (ha : a.Pairwise (· < ·)) (hb : b.Pairwise (· < ·)) (h : ∀ x, x ∈ a ↔ x ∈ b) : a = b :=
  sort_uniq ((List.perm_ext_iff_of_nodup (ha.imp fun h => by omega) (hb.imp fun h => by omega)).mpr h) (ha.imp fun h => by omega) (hb.imp fun h => by omega)
section
variable {K : PySem.W.Frag} {E : XK} {bx : Bool}
theorem new_list {B : Addr → Prop} {σ : St} {H : Hp} {env : En} {l : List Addr} {p : Addr} {ns : List Int} (rp : Rep K B σ H env l) (hp : H p = none) : Da K (off (un B l) (upd H p (.lst (ns.map V.int)))) (.ref p) (.list (ns.map .int)) :=
  .lst (.inl (.inl (by rw [off_ne (rp.fresh hp)]; exact upd_same))) (da_ints _)
/-- len(found) -/
def lenNd (i : Nat) : M R := M.bind (dtnD i) fun f => M.bind (lift (chk (decide (f.length < 1000000)))) fun _ => M.pure (.dat (.int ((f.length : Nat) : Int)))
theorem OkE.lenNd {i : Nat} : OkE K E (tCB rLenN (tCons (tVar i) tNil)) (Ov.lenNd i) := by
  refine ⟨?_⟩
  intro B σ H env l rs rp h Q post
  obtain ⟨ks, hx, h1⟩ := dtnD_step h
  obtain ⟨u, h2, h3⟩ := lift_step h1
  cases h3
  obtain ⟨p, s1, s2, _⟩ := rp.dgetN hx
  exact ⟨.ref p, s1, p, ks, rfl, s2, of_decide_eq_true (chk_ok h2), post _ H rp (Fr.refl _ _) (.int _)⟩
/-- sorted(found.values()) -/
def srtVN (i : Nat) : M R := M.bind (dtnD i) fun ks => M.bind (lift (chk (decide (ks.length < 64)))) fun _ => M.pure (.dat (.list ((srtI (ks.map (·.2))).map .int)))
theorem OkE.srtVN {i : Nat} : OkE K E (tUn rSortVN (tVar i)) (Ov.srtVN i) := by
  refine ⟨?_⟩
  intro B σ H env l rs rp h Q post
  obtain ⟨ks, hx, h1⟩ := dtnD_step h
  obtain ⟨u, h2, h3⟩ := lift_step h1
  cases h3
  obtain ⟨p, s1, s2, _⟩ := rp.dgetN hx
  refine ⟨.ref p, s1, p, ks, rfl, s2, of_decide_eq_true (chk_ok h2), fun ns q pm pw hq => ?_⟩
  have e : ns = srtI (ks.map (·.2)) := by rw [srtI_eq]; exact sort_uniq (pm.trans (sortI_perm _).symm) pw (sortI_pw _)
  subst e
  have sm := same_new hq (.lst ((srtI (ks.map (·.2))).map V.int))
  exact post _ _ (rp.same sm) (Fr.of sm) (new_list rp hq)
/-- for k in d -/
def keysN (i : Nat) : M (List PyData) := M.bind (ndD i) fun ks => M.pure (ks.map fun kv => kv.1.data)
theorem OkI.keysN {i : Nat} : OkI K E (iKeysN (tVar i)) (Ov.keysN i) := by
  refine ⟨?_⟩
  intro B σ H env l rs rp h R post
  obtain ⟨ks, hx, h2⟩ := ndD_step h
  cases h2
  obtain ⟨p, s1, o, xs, q1, q2, q3, q4⟩ := rp.ndR hx
  obtain ⟨np, hp⟩ := off_at q1
  have q3' : NX H xs ks := q3.keep tup_off
  refine ⟨.ref p, s1, p, o, xs, ks, rfl, hp, q2, q3', q4, ?_⟩
  refine post _ H (fun H => H p = some (objO p o) ∧ NX H xs ks) (fun i H x H' => H' = H ∧ ∃ b kv, ks[i]? = some kv ∧ x = .ref b ∧ Nk H (.ref b) kv.1) rp (Fr.refl _ _) ?_ (fun H2 f => ⟨f p _ (fun z => np (.inr z)) hp, q3.keep fun b ys e => ?_⟩) ?_
  · rw [List.length_map]
    exact ⟨fun i H hi g => ⟨g, hi⟩, fun H g => ⟨g, Nat.le_refl _⟩, fun i H x H' _ _ y => y⟩
  · obtain ⟨nb, e⟩ := off_at e
    exact f b _ (fun z => nb (.inr z)) e
  · rintro i' x H2 H3 d S fr ⟨rfl, b, kv, k1, rfl, nk⟩ hd hs hS
    rw [List.getElem?_map, k1] at hd
    cases hd
    refine ⟨same_refl _, ?_⟩
    exact nk_da kv.1 (Nk.keep (off_tupH hS) kv.1 nk)
/-! another name for it -/
theorem Rep.toNd {B : Addr → Prop} {σ : St} {H : Hp} {env : En} {l : List Addr} {i : Nat} {ks : List (NestedKey × Int)} (r' : Rep K B σ H env l) (hx : env[i]? = some (some (.dtn ks))) : ∃ l', Rep K B σ H (env.set i (some (.nd ks))) l' ∧ ∀ b ∈ l', b ∈ l := by
  obtain ⟨s, a, lx, ly, q1, q2, ⟨v, q3, p, ob, xs, e1, e2, e3, e4, e5, e6⟩, q5⟩ := r'.rp.focus hx
  subst q3 e1 e2
  have nd := r'.nd
  rw [q2] at nd
  obtain ⟨n1, n2, n3⟩ := List.nodup_append.mp nd
  obtain ⟨n4, n5, n6⟩ := List.nodup_append.mp n2
  have lsub : ∀ b, b ∈ lx ++ ([] ++ ly) → b ∈ l := fun b z => by
    rw [q2]
    rw [List.nil_append] at z
    exact (List.mem_append.mp z).elim (List.mem_append_left _) fun z => List.mem_append_right _ (List.mem_append_right _ z)
  have hp : p ∈ l := by rw [q2]; exact List.mem_append_right _ (List.mem_append_left _ (List.mem_cons_self ..))
  have np : ¬ un B (lx ++ ([] ++ ly)) p := fun z => by
    rcases z with z | z
    · exact r'.out p hp z
    · rw [List.nil_append] at z
      rcases List.mem_append.mp z with z | z
      · exact n3 p z p (List.mem_append_left _ (List.mem_cons_self ..)) rfl
      · exact n6 p (List.mem_cons_self ..) p z rfl
  have sub : Same (off (un B l) H) (off (un B (lx ++ ([] ++ ly))) H) := off_mono (fun b z n => absurd (z.imp id (lsub b)) n) fun b o n e => e
  have ee : σ.set i (some (.ref p)) = σ := by
    apply List.ext_getElem?
    intro j
    by_cases z : i = j
    · subst z; rw [List.getElem?_set_self (List.getElem?_eq_some_iff.mp q1).1, q1]
    · rw [List.getElem?_set_ne z]
  refine ⟨lx ++ ([] ++ ly), ⟨?_, ?_, fun b z => r'.out b (lsub b z), r'.tb⟩, lsub⟩
  · have := q5 (H' := H) (G' := off (un B (lx ++ ([] ++ ly))) H) (s' := some (.ref p)) (e' := some (.nd ks)) (a' := []) sub (fun _ _ => rfl) (fun _ _ => rfl) ⟨_, rfl, rfl, p, rfl, ob, xs, by rw [off_ne np]; exact e3, e4, e5.keep fun b ys z => sub _ _ z, e6⟩
    rw [ee] at this
    exact this
  · rw [List.nil_append]
    exact List.nodup_append.mpr ⟨n1, n5, fun x hx y hy => n3 x hx y (List.mem_append_right _ hy)⟩
/-- the own dict of slot i is only read from here on, if it is one -/
def preN (i : Nat) (f : M Fl) : M Fl := fun env =>
  match env[i]? with
  | some (some (.dtn ks)) => f (env.set i (some (.nd ks)))
  | some (some (.nd _)) => f env
  | _ => none
theorem OkS.preN {i : Nat} {t : TS} {f : M Fl} (o : OkS K E bx t f) : OkS K E bx t (Ov.preN i f) := by
  refine ⟨?_⟩
  intro B σ H env l rs rp h D post
  unfold Ov.preN at h
  split at h
  · rename_i ks hx
    obtain ⟨l', r', sub⟩ := rp.toNd hx
    exact o.run r' h (post.later ⟨Fr.refl _ _, fun b z => .inl (sub b z)⟩ fun _ => rfl)
  · exact o.run rp h post
  · cases h
def cpNd (i : Nat) : M Wv := M.bind (ndD i) fun ks => M.pure (.nd ks)
theorem OkW.cpNd {i : Nat} : OkW K E (tVar i) (Ov.cpNd i) := by
  refine ⟨?_⟩
  intro B σ H env l rs rp h Q post
  obtain ⟨ks, hx, h2⟩ := ndD_step h
  cases h2
  obtain ⟨p, s1, hd⟩ := rp.ndR hx
  refine ⟨.ref p, s1, post _ H [] (by rw [un_nil]; exact rp) (Fr.refl _ _) ⟨rfl, p, rfl, ?_⟩ List.nodup_nil fun _ z => by cases z⟩
  rw [un_nil]
  exact hd
/-! sorted(set(xs)) -/
def sortSetI (as : List PyData) : Option PyData :=
  match as with
  | [.list ds] => (intsD ds).bind fun ns => if ns.length < 64 then some (.list ((ssI ns).map .int)) else none
  | _ => none
theorem OkE.sortSetI {w : World} {t : TA} {fa : M (List R)} (oa : OkA K E t fa) : OkE K E (tCB (rSortedSet w) (tCons (tCB (rSetI K w) t) tNil)) (Ov.cb Ov.sortSetI fa) := by
  refine ⟨?_⟩
  intro B σ H env l rs rp h Q post
  refine oa.seq rp h post.exn fun a e vs H1 h1 r1 f1 q1 => ?_
  obtain ⟨ds, h2, hw⟩ := vws_ok r1 q1 h1
  obtain ⟨d, h5, h6⟩ := lift_step h2
  cases h6
  unfold Ov.sortSetI at h5
  split at h5
  case h_2 => cases h5
  rename_i es
  obtain ⟨ns, e1, e2⟩ := Option.bind_eq_some_iff.mp h5
  split at e2
  case isFalse => cases e2
  rename_i hc
  cases e2
  obtain ⟨x, rfl, wx⟩ := vwAll1 hw
  obtain ⟨p, xs, rfl, hl, hd⟩ := vw_list wx
  rw [ints_da hd e1] at hl
  refine ⟨p, ns, rfl, rd_sq hl, by omega, fun s S n hs hS hn => ⟨s, S, n, rfl, upd_same, by omega, fun ms q pw hm _ hq => ?_⟩⟩
  have e : ms = ssI ns := lt_uniq pw (ssI_pw ns) fun x => (hm x).trans ((hS x).trans ssI_mem.symm)
  subst e
  have sm1 := same_new hs (SetO w s S n)
  have r2 := r1.same sm1
  have sm2 := same_new hq (.lst ((ssI ns).map V.int))
  exact post _ _ (r2.same sm2) (f1.trans ((Fr.of sm1).trans (Fr.of sm2))) (new_list r2 hq)
/-! sorted(pairs) as a list of its own -/
def srtPs (ds : List PyData) : Option (List PyData) :=
  match ds with
  | [.list es] => (prsD es).map fun ps => (srtQ ps).map prD
  | _ => none
def sortPO (fa : M (List R)) : M Wv := M.bind fa fun a => M.bind (vws a) fun ds => M.bind (lift (srtPs ds)) fun es => M.pure (.own (dats es))
theorem OkW.sortPO {t : TA} {fa : M (List R)} (oa : OkA K E t fa) : OkW K E (tCB (rSortPT K) t) (Ov.sortPO fa) := by
  refine ⟨?_⟩
  intro B σ H env l rs rp h Q post
  refine oa.seq rp h post.exn fun a e vs H1 h1 r1 f1 q1 => ?_
  obtain ⟨ds, h2, hw⟩ := vws_ok r1 q1 h1
  obtain ⟨es, h5, h6⟩ := lift_step h2
  cases h6
  unfold srtPs at h5
  split at h5
  · obtain ⟨ps, e1, rfl⟩ := Option.map_eq_some_iff.mp h5
    obtain ⟨x, rfl, wx⟩ := vwAll1 hw
    obtain ⟨p, vs, rfl, hl, hd⟩ := vw_list wx
    have e3 := prsD_some e1
    subst e3
    refine ⟨p, vs, ps, rfl, rd_sq hl, (da_prs hd).same (off_sub _ _), fun ys qs q pm pw py hq => ?_⟩
    have e : qs = srtQ ps := by rw [srtQ_eq]; exact sortP_uniq (pm.trans (sortP_perm ps).symm) pw (sortP_pw ps)
    subst e
    obtain ⟨n1, n2⟩ := new_own r1 hq (ds := (srtQ ps).map prD) (prsV_da ⟨py.1, fun i y z hy hz => by
      obtain ⟨t, e, k⟩ := py.2 i y z hy hz
      exact ⟨t, e, off_P r1.tl k⟩⟩)
    exact post _ _ [q] n1 (f1.trans (Fr.of (same_new hq _))) n2 (List.nodup_cons.mpr ⟨by simp, List.nodup_nil⟩) (fresh_back r1 f1 hq)
  · cases h5
/-! l.count(k) -/
def cntID (as : List PyData) : Option PyData :=
  match as with
  | [.list ds, .int k] => (intsD ds).map fun ns => .int ((ns.count k : Nat) : Int)
  | _ => none
theorem ok_cntI : CbOk K (fun vs H Q => ∃ x xs, vs = x :: xs ∧ rCntI K x xs H Q) cntID := by
  intro S H xs as d hS w e Q q
  unfold cntID at e
  split at e
  · rename_i ds b
    obtain ⟨bs, e1, rfl⟩ := Option.map_eq_some_iff.mp e
    cases w with
    | cons w1 w2 =>
      cases w2 with
      | cons w2 w3 =>
        cases w3
        obtain ⟨p, vs, rfl, hs, hd⟩ := vw_list w1
        have ev := ints_da hd e1
        subst ev
        cases w2.da
        exact ⟨_, _, rfl, p, bs, b, rfl, rfl, rd_sq hs, q _ _ (same_refl _) (.int _)⟩
  · cases e
end
section
variable {X : Cx} {K : PySem.W.Frag} (hK : X.K = K)
include hK
theorem k_cntI : MtR X "list.count" (rCntI K) := by subst hK; exact mt_lcount
theorem k_setI (hc : X.calm = true) (hu : X.A.units + 64 < cLine) : CallR X (.type "set") (rSetI K X.w) := by subst hK; exact cr_setI hc hu
end
end Ov
set_option Elab.async false
set_option linter.all false
set_option maxRecDepth 100000
set_option maxHeartbeats 4000000
namespace L2
open PySem PySem.Spec PyProof.Rows
/-! the sum of a tuple of numbers -/
def rSumT (K : PySem.W.Frag) : List V → Hp → VK → Prop := fun vs H Q => ∃ (a : Addr) (ns : List Int), vs = [V.ref a] ∧ SqT K H a (ns.map V.int) ∧ Q (.int ns.sum) H
theorem cr_sumT {X : Cx} (hc : X.calm = true) : CallR X (.builtin "sum") (rSumT X.K) := by
  intro pins s σ H vs us Q I r h
  obtain ⟨a, ns, rfl, hs, q⟩ := h
  obtain ⟨its, rv, pl, _⟩ := I.tuple hs
  rw [Vals.ref1 r]
  have hi : IntsAre its.toArray.toList ns := by simpa using intsAre_of rv
  obtain ⟨xs, e⟩ := hi.allInts.items
  have e : its.toArray = intItems xs := e
  have hn : numsOf (intItems xs).toList = ns := by rw [← e]; exact hi.numsOf
  rw [nums_intItems] at hn
  obtain ⟨o, h1, h2, h3⟩ := pl
  rw [e] at h3
  refine PySem.W.ktm_sumG (I.ok.hd hc) ⟨o, h1, h2, h3⟩ fun h' tk t' hk => ?_
  rw [preSum_eq, List.take_of_length_le (by simp), hn]
  exact ⟨.int _, H, I.kept hk, ⟨_, rfl⟩, q⟩
end L2
namespace Ov
open PySem L2
def sumTD (as : List PyData) : Option PyData :=
  match as with
  | [.tuple ds] => (intsD ds).map fun bs => .int bs.sum
  | _ => none
section
variable {K : PySem.W.Frag}
theorem ok_sumT : CbOk K (rSumT K) sumTD := by
  intro S H xs as d hS w e Q q
  unfold sumTD at e
  split at e
  · rename_i ds
    obtain ⟨ns, e1, rfl⟩ := Option.map_eq_some_iff.mp e
    obtain ⟨x, rfl, wx⟩ := vwAll1 w
    obtain ⟨p, vs, rfl, h2, h3⟩ := vw_tupP wx
    rw [ints_da h3 e1] at h2
    exact ⟨p, ns, rfl, h2.off.sq, q _ _ (same_refl _) (.int _)⟩
  · cases e
end
section
variable {X : Cx} {K : PySem.W.Frag} (hK : X.K = K)
include hK
theorem k_sumT (hc : X.calm = true) : CallR X (.builtin "sum") (rSumT K) := by subst hK; exact cr_sumT hc
end
end Ov
set_option Elab.async false
set_option linter.all false
set_option maxRecDepth 100000
set_option maxHeartbeats 4000000
namespace Ov
open PySem L2
def top (i : Nat) : Stmt := PySem.Challenge.pw_overlooks_k23_numbers_of_lots.main.body.getD i (.Pass ⟨0, 0, 0, 0⟩)
abbrev S_first_intervals : Stmt := top 1
abbrev N_first_intervals : List Str := ["many", "index"]
abbrev P_first_intervals : List Str := ["many"]
theorem sc_first_intervals : FnScope N_first_intervals P_first_intervals (defScope S_first_intervals) := ⟨rfl, rfl, rfl, by decide +kernel, rfl, by decide +kernel, by decide +kernel⟩
abbrev S_run_size : Stmt := top 2
abbrev N_run_size : List Str := ["interval", "first", "last"]
abbrev P_run_size : List Str := ["interval"]
theorem sc_run_size : FnScope N_run_size P_run_size (defScope S_run_size) := ⟨rfl, rfl, rfl, by decide +kernel, rfl, by decide +kernel, by decide +kernel⟩
abbrev S_run_index : Stmt := top 3
abbrev N_run_index : List Str := ["intervals", "code", "first", "last"]
abbrev P_run_index : List Str := ["intervals", "code"]
theorem sc_run_index : FnScope N_run_index P_run_index (defScope S_run_index) := ⟨rfl, rfl, rfl, by decide +kernel, rfl, by decide +kernel, by decide +kernel⟩
abbrev S_next_intervals : Stmt := top 4
abbrev N_next_intervals : List Str := ["intervals", "code", "at", "left", "right", "united", "above", "first", "last"]
abbrev P_next_intervals : List Str := ["intervals", "code"]
theorem sc_next_intervals : FnScope N_next_intervals P_next_intervals (defScope S_next_intervals) := ⟨rfl, rfl, rfl, by decide +kernel, rfl, by decide +kernel, by decide +kernel⟩
abbrev S_count_lots : Stmt := top 6
abbrev N_count_lots : List Str := ["many", "fewer", "total", "people"]
abbrev P_count_lots : List Str := ["many"]
theorem sc_count_lots : FnScope N_count_lots P_count_lots (defScope S_count_lots) := ⟨rfl, rfl, rfl, by decide +kernel, rfl, by decide +kernel, by decide +kernel⟩
abbrev S_lot_sizes : Stmt := top 7
abbrev N_lot_sizes : List Str := ["many", "lots", "person", "intervals", "size", "count"]
abbrev P_lot_sizes : List Str := ["many"]
theorem sc_lot_sizes : FnScope N_lot_sizes P_lot_sizes (defScope S_lot_sizes) := ⟨rfl, rfl, rfl, by decide +kernel, rfl, by decide +kernel, by decide +kernel⟩
abbrev S_lots_after : Stmt := top 8
abbrev N_lots_after : List Str := ["lots", "found", "intervals", "size", "count", "interval", "after", "key"]
abbrev P_lots_after : List Str := ["lots"]
theorem sc_lots_after : FnScope N_lots_after P_lots_after (defScope S_lots_after) := ⟨rfl, rfl, rfl, by decide +kernel, rfl, by decide +kernel, by decide +kernel⟩
abbrev S_cell_at : Stmt := top 10
abbrev N_cell_at : List Str := ["_law_script", "_law_k"]
abbrev P_cell_at : List Str := ["_law_script", "_law_k"]
theorem sc_cell_at : FnScope N_cell_at P_cell_at (defScope S_cell_at) := ⟨rfl, rfl, rfl, by decide +kernel, rfl, by decide +kernel, by decide +kernel⟩
abbrev S_box : Stmt := top 11
abbrev N_box : List Str := ["_law_script", "_law_k", "_law_core"]
abbrev P_box : List Str := ["_law_script", "_law_k"]
theorem sc_box : FnScope N_box P_box (defScope S_box) := ⟨rfl, rfl, rfl, by decide +kernel, rfl, by decide +kernel, by decide +kernel⟩
abbrev S_take : Stmt := top 12
abbrev N_take : List Str := ["_law_box_here", "_law_below", "_law_found", "_law_once", "_law_twice"]
abbrev P_take : List Str := ["_law_box_here", "_law_below"]
theorem sc_take : FnScope N_take P_take (defScope S_take) := ⟨rfl, rfl, rfl, by decide +kernel, rfl, by decide +kernel, by decide +kernel⟩
abbrev S_same : Stmt := top 13
abbrev N_same : List Str := ["_law_found", "_law_due", "_law_a", "_law_b"]
abbrev P_same : List Str := ["_law_found", "_law_due"]
theorem sc_same : FnScope N_same P_same (defScope S_same) := ⟨rfl, rfl, rfl, by decide +kernel, rfl, by decide +kernel, by decide +kernel⟩
abbrev S_marks : Stmt := top 14
abbrev N_marks : List Str := ["_law_crowd", "_law_found", "_law_soul", "_law_rest", "_law_its"]
abbrev P_marks : List Str := ["_law_crowd"]
theorem sc_marks : FnScope N_marks P_marks (defScope S_marks) := ⟨rfl, rfl, rfl, by decide +kernel, rfl, by decide +kernel, by decide +kernel⟩
abbrev S_intervals : Stmt := top 15
abbrev N_intervals : List Str := ["_law_joined", "_law_count", "_law_found", "_law_first", "_law_at"]
abbrev P_intervals : List Str := ["_law_joined", "_law_count"]
theorem sc_intervals : FnScope N_intervals P_intervals (defScope S_intervals) := ⟨rfl, rfl, rfl, by decide +kernel, rfl, by decide +kernel, by decide +kernel⟩
abbrev S_run_lists : Stmt := top 16
abbrev N_run_lists : List Str := ["_law_crowd", "_law_joined", "_law_found", "_law_k", "_law_mark", "_law_low", "_law_high", "_law_before", "_law_after", "_law_width"]
abbrev P_run_lists : List Str := ["_law_crowd"]
theorem sc_run_lists : FnScope N_run_lists P_run_lists (defScope S_run_lists) := ⟨rfl, rfl, rfl, by decide +kernel, rfl, by decide +kernel, by decide +kernel⟩
abbrev S_runs : Stmt := top 17
abbrev N_runs : List Str := ["_law_crowd", "_law_found", "_law_some", "_law_mark", "_law_span_so"]
abbrev P_runs : List Str := ["_law_crowd"]
theorem sc_runs : FnScope N_runs P_runs (defScope S_runs) := ⟨rfl, rfl, rfl, by decide +kernel, rfl, by decide +kernel, by decide +kernel⟩
abbrev S_orders : Stmt := top 18
abbrev N_orders : List Str := ["_law_souls", "_law_found", "_law_turn", "_law_longer", "_law_some", "_law_soul"]
abbrev P_orders : List Str := ["_law_souls"]
theorem sc_orders : FnScope N_orders P_orders (defScope S_orders) := ⟨rfl, rfl, rfl, by decide +kernel, rfl, by decide +kernel, by decide +kernel⟩
abbrev S_widths : Stmt := top 19
abbrev N_widths : List Str := ["_law_widths_here", "_law_at", "_law_low", "_law_high", "_law_united"]
abbrev P_widths : List Str := ["_law_widths_here", "_law_at"]
theorem sc_widths : FnScope N_widths P_widths (defScope S_widths) := ⟨rfl, rfl, rfl, by decide +kernel, rfl, by decide +kernel, by decide +kernel⟩
abbrev S_walked : Stmt := top 20
abbrev N_walked : List Str := ["_law_count", "_law_layer", "_law_turn", "_law_later", "_law_widths_here", "_law_size", "_law_at", "_law_width", "_law_key_so", "_law_found"]
abbrev P_walked : List Str := ["_law_count"]
theorem sc_walked : FnScope N_walked P_walked (defScope S_walked) := ⟨rfl, rfl, rfl, by decide +kernel, rfl, by decide +kernel, by decide +kernel⟩
abbrev S_right : Stmt := top 21
abbrev N_right : List Str := ["_law_box_here", "_law_count", "_law_lots", "_law_crowd", "_law_key_so", "_law_sizes", "_law_due", "_law_size", "_law_told", "_law_some", "_law_k", "_law_wide", "_law_lots_so"]
abbrev P_right : List Str := ["_law_box_here"]
theorem sc_right : FnScope N_right P_right (defScope S_right) := ⟨rfl, rfl, rfl, by decide +kernel, rfl, by decide +kernel, by decide +kernel⟩
abbrev S_law : Stmt := top 22
abbrev N_law : List Str := ["_law_script", "_law_k"]
abbrev P_law : List Str := ["_law_script"]
theorem sc_law : FnScope N_law P_law (defScope S_law) := ⟨rfl, rfl, rfl, by decide +kernel, rfl, by decide +kernel, by decide +kernel⟩
def s_cell_at_0 : M Fl :=
    (ifS (tb1 (op2 ltD (get 1) (cb lenD (acons (get 0) anil)))) (retS (pl (op2 ixD (get 0) (get 1)))) nxt)
def s_cell_at_1 : M Fl :=
    (retS (pl (con (.int 0))))
def f_cell_at : M Fl :=
    (thenS s_cell_at_0 s_cell_at_1)
def F_cell_at : List PyData → Option Wv := runA 2 2 f_cell_at
section
variable {P : Program} {w : World} {K : PySem.W.Frag} {mg : Str → Option Value} {base : Heap} {f : Addr} {fd : FuncData}
theorem dk_cell_at (F : Fun K "_law_cell_at" "_law_cell_at" S_cell_at f fd)  (B : Blt mg) : FnOk P w K mg base CX0 1 f fd P_cell_at (spA K F_cell_at) := by
  refine F.ok sc_cell_at (fun vs H Q E h => lenA h) (fun cdv A outer s H vs Q E hr h => ⟨_, (Evl.pss_cut (ps_if (pt_cmpR op_lt (pv 1) (pe_callB (k_len (K := K) rfl) rfl B.len PySem.boot_len (pa_cons (pv 0) pa_nil)) (nomark _)) (pss_one (ps_ret (pe_ix (k_ix (K := K) rfl) (pv 0) (pv 1) (fun _ _ => rfl)))) pss_nil)
      (pss_one (ps_ret pe_int))), ?_⟩)
  exact finA (N := N_cell_at) (by unfold f_cell_at s_cell_at_1 s_cell_at_0; exact (OkS.cut (OkS.ife (OkT.test (OkE.op ok_lt (OkE.var 1) (OkE.cb ok_len (OkA.cons (OkE.var 0) OkA.nil)))) (OkS.ret (OkE.w (OkE.op ok_ix (OkE.var 0) (OkE.var 1)))) OkS.nil)
      (OkS.ret (OkE.w (OkE.con fun _ => .int _))))) h
end
def s_box_0 : M Fl :=
    (setS 2 (pl (fz (callA F_cell_at (acons (get 0) (acons (get 1) anil))))))
def s_box_1 : M Fl :=
    (retS (lstW (acons (op2 mulD (cb absD (acons (get 2) anil)) (cb intD (acons (op2 geD (cb absD (acons (get 2) anil)) (op2 powD (con (.int 10)) (con (.int 18)))) anil))) (acons (op2 addD (op2 addD (op2 modD (get 2) (con (.int 2305843009213693951))) (op2 mulD (con (.int 39373)) (get 1))) (con (.int 29))) (acons (con (.int 0)) anil)))))
def f_box : M Fl :=
    (thenS s_box_0 s_box_1)
def F_box : List PyData → Option Wv := runA 2 3 f_box
section
variable {P : Program} {w : World} {K : PySem.W.Frag} {mg : Str → Option Value} {base : Heap} {f : Addr} {fd : FuncData}
theorem dk_box (F : Fun K "_law_box" "_law_box" S_box f fd) {g_cell_at : Addr} {d_cell_at : FuncData} (G_cell_at : FnOk P w K mg base CX0 1 g_cell_at d_cell_at P_cell_at (spA K F_cell_at)) (b_cell_at : Binds K d_cell_at P_cell_at []) (k_cell_at : PySem.W.keepIn K (.ref g_cell_at) = true) (m_cell_at : mg "_law_cell_at" = some (.ref g_cell_at)) (B : Blt mg) : FnOk P w K mg base CX0 2 f fd P_box (spA K F_box) := by
  refine F.ok sc_box (fun vs H Q E h => lenA h) (fun cdv A outer s H vs Q E hr h => ⟨_, (Evl.pss_cut (ps_set (i := 2) sc_box.nd rfl (by first | exact Or.inl rfl | exact Or.inr rfl) (pe_call G_cell_at (hr.mono (by decide)) rfl m_cell_at k_cell_at b_cell_at .nil pass0 (pa_cons (pv 0) (pa_cons (pv 1) pa_nil))))
      (pss_one (ps_ret (pe_lst (pa_cons (pe_op op_mul (pe_callB call_abs rfl B.abs (by decide +kernel) (pa_cons (pv 2) pa_nil)) (pe_callTy call_int1 rfl B.int (by decide +kernel) (pa_cons (pe_cmpR op_ge (pe_callB call_abs rfl B.abs (by decide +kernel) (pa_cons (pv 2) pa_nil)) (pe_op op_pow pe_int pe_int) (nomark _)) pa_nil))) (pa_cons (pe_op op_add (pe_op op_add (pe_op op_mod (pv 2) pe_int) (pe_op op_mul pe_int (pv 1))) pe_int) (pa_cons pe_int pa_nil))))))), ?_⟩)
  exact finA (N := N_box) (by unfold f_box s_box_1 s_box_0; exact (OkS.cut (OkS.set (fun z => by cases z) (OkE.w (OkW.e (OkW.call (OkA.cons (OkE.var 0) (OkA.cons (OkE.var 1) OkA.nil))))))
      (OkS.ret (OkW.lst (OkA.cons (OkE.op ok_mul (OkE.cb ok_abs (OkA.cons (OkE.var 2) OkA.nil)) (OkE.cb ok_int (OkA.cons (OkE.op ok_ge (OkE.cb ok_abs (OkA.cons (OkE.var 2) OkA.nil)) (OkE.op ok_pow (OkE.con fun _ => .int _) (OkE.con fun _ => .int _))) OkA.nil))) (OkA.cons (OkE.op ok_add (OkE.op ok_add (OkE.op ok_mod (OkE.var 2) (OkE.con fun _ => .int _)) (OkE.op ok_mul (OkE.con fun _ => .int _) (OkE.var 1))) (OkE.con fun _ => .int _)) (OkA.cons (OkE.con fun _ => .int _) OkA.nil))))))) h
end
def f_take (rec : List PyData → List PyData → Option (Wv × List PyData)) : M Fl :=
    (thenS (ifS (tb1 (op2 gtD (op2 ixD (get 0) (con (.int 0))) (con (.int 0)))) (thenS (setS 2 (pl (op2 modD (op2 ixD (get 0) (con (.int 0))) (get 1))))
    (thenS (setIx 0 (op2 divD (op2 ixD (get 0) (con (.int 0))) (get 1)) (con (.int 0)))
    (retS (pl (get 2))))) nxt)
    (thenS (ifS (tb1 (op2 gtD (get 1) (op2 powD (con (.int 10)) (con (.int 7))))) (retS (pl (op2 modD (op2 addD (fz (callB 0 rec (acons (op2 powD (con (.int 10)) (con (.int 7))) anil))) (op2 mulD (op2 powD (con (.int 10)) (con (.int 7))) (fz (callB 0 rec (acons (op2 addD (op2 divD (get 1) (op2 powD (con (.int 10)) (con (.int 7)))) (con (.int 1))) anil))))) (get 1)))) nxt)
    (thenS (setIx 0 (op2 addD (op2 ixD (get 0) (con (.int 2))) (con (.int 1))) (con (.int 2)))
    (thenS (setS 3 (pl (op2 modD (op2 mulD (op2 addD (op2 ixD (get 0) (con (.int 1))) (op2 mulD (con (.int 48271)) (op2 ixD (get 0) (con (.int 2))))) (op2 addD (con (.int 39373)) (op2 ixD (get 0) (con (.int 2))))) (con (.int 2147483647)))))
    (thenS (setS 4 (pl (op2 modD (op2 mulD (op2 addD (op2 addD (get 3) (op2 ixD (get 0) (con (.int 2)))) (op2 divD (op2 ixD (get 0) (con (.int 1))) (con (.int 1000003)))) (op2 addD (op2 modD (get 3) (con (.int 40009))) (con (.int 7)))) (con (.int 2147483629)))))
    (retS (pl (op2 modD (op2 divD (op2 modD (op2 addD (op2 mulD (get 4) (con (.int 48271))) (get 3)) (con (.int 2147483587))) (con (.int 64))) (get 1)))))))))
def F_take : Nat → List PyData → List PyData → Option (Wv × List PyData)
  | 0 => fun _ _ => none
  | n + 1 => runB 2 5 (f_take (F_take n))
section
variable {P : Program} {w : World} {K : PySem.W.Frag} {mg : Str → Option Value} {base : Heap} {f : Addr} {fd : FuncData}
theorem dk_take (F : Fun K "_law_take" "_law_take" S_take f fd)  (b : Binds K fd P_take []) (m : mg "_law_take" = some (.ref f)) (B : Blt mg) : ∀ n, FnOk P w K mg base CX0 (0 + n) f fd P_take (spB K (F_take n))
  | 0 => ⟨fun vs H Q E h => (vacB h).elim, fun A outer s H args us vs Q E hr he hb hv h => (vacB h).elim⟩
  | n + 1 => by
    have G := dk_take F  b m B n
    refine F.ok sc_take (fun vs H Q E h => lenB h) (fun cdv A outer s H vs Q E hr h => ⟨_, (Evl.pss_cut (ps_if (pt_cmpR op_gt (pe_ix (k_ix (K := K) rfl) (pv 0) pe_int (fun _ _ => rfl)) pe_int (nomark _)) (Evl.pss_cut (ps_set (i := 2) sc_take.nd rfl (by first | exact Or.inl rfl | exact Or.inr rfl) (pe_op op_mod (pe_ix (k_ix (K := K) rfl) (pv 0) pe_int (fun _ _ => rfl)) (pv 1)))
      (Evl.pss_cut (ps_asg (pe_op op_fdiv (pe_ix (k_ix (K := K) rfl) (pv 0) pe_int (fun _ _ => rfl)) (pv 1)) (pg_sub (pv 0) pe_int set_list))
      (pss_one (ps_ret (pv 2))))) pss_nil)
      (Evl.pss_cut (ps_if (pt_cmpR op_gt (pv 1) (pe_op op_pow pe_int pe_int) (nomark _)) (pss_one (ps_ret (pe_op op_mod (pe_op op_add (pe_call G hr rfl m F.kp b .nil pass0 (pa_cons (pv 0) (pa_cons (pe_op op_pow pe_int pe_int) pa_nil))) (pe_op op_mul (pe_op op_pow pe_int pe_int) (pe_call G hr rfl m F.kp b .nil pass0 (pa_cons (pv 0) (pa_cons (pe_op op_add (pe_op op_fdiv (pv 1) (pe_op op_pow pe_int pe_int)) pe_int) pa_nil))))) (pv 1)))) pss_nil)
      (Evl.pss_cut (ps_asg (pe_op op_add (pe_ix (k_ix (K := K) rfl) (pv 0) pe_int (fun _ _ => rfl)) pe_int) (pg_sub (pv 0) pe_int set_list))
      (Evl.pss_cut (ps_set (i := 3) sc_take.nd rfl (by first | exact Or.inl rfl | exact Or.inr rfl) (pe_op op_mod (pe_op op_mul (pe_op op_add (pe_ix (k_ix (K := K) rfl) (pv 0) pe_int (fun _ _ => rfl)) (pe_op op_mul pe_int (pe_ix (k_ix (K := K) rfl) (pv 0) pe_int (fun _ _ => rfl)))) (pe_op op_add pe_int (pe_ix (k_ix (K := K) rfl) (pv 0) pe_int (fun _ _ => rfl)))) pe_int))
      (Evl.pss_cut (ps_set (i := 4) sc_take.nd rfl (by first | exact Or.inl rfl | exact Or.inr rfl) (pe_op op_mod (pe_op op_mul (pe_op op_add (pe_op op_add (pv 3) (pe_ix (k_ix (K := K) rfl) (pv 0) pe_int (fun _ _ => rfl))) (pe_op op_fdiv (pe_ix (k_ix (K := K) rfl) (pv 0) pe_int (fun _ _ => rfl)) pe_int)) (pe_op op_add (pe_op op_mod (pv 3) pe_int) pe_int)) pe_int))
      (pss_one (ps_ret (pe_op op_mod (pe_op op_fdiv (pe_op op_mod (pe_op op_add (pe_op op_mul (pv 4) pe_int) (pv 3)) pe_int) pe_int) (pv 1))))))))), ?_⟩)
    exact finB (N := N_take) (by unfold f_take; exact (OkS.cut (OkS.ife (OkT.test (OkE.op ok_gt (OkE.op ok_ix (OkE.var 0) (OkE.con fun _ => .int _)) (OkE.con fun _ => .int _))) (OkS.cut (OkS.set (fun _ => by decide) (OkE.w (OkE.op ok_mod (OkE.op ok_ix (OkE.var 0) (OkE.con fun _ => .int _)) (OkE.var 1))))
      (OkS.cut (OkS.setIx (OkE.op ok_div (OkE.op ok_ix (OkE.var 0) (OkE.con fun _ => .int _)) (OkE.var 1)) (OkE.con fun _ => .int _))
      (OkS.ret (OkE.w (OkE.var 2))))) OkS.nil)
      (OkS.cut (OkS.ife (OkT.test (OkE.op ok_gt (OkE.var 1) (OkE.op ok_pow (OkE.con fun _ => .int _) (OkE.con fun _ => .int _)))) (OkS.ret (OkE.w (OkE.op ok_mod (OkE.op ok_add (OkW.e (OkW.callB (OkA.cons (OkE.op ok_pow (OkE.con fun _ => .int _) (OkE.con fun _ => .int _)) OkA.nil))) (OkE.op ok_mul (OkE.op ok_pow (OkE.con fun _ => .int _) (OkE.con fun _ => .int _)) (OkW.e (OkW.callB (OkA.cons (OkE.op ok_add (OkE.op ok_div (OkE.var 1) (OkE.op ok_pow (OkE.con fun _ => .int _) (OkE.con fun _ => .int _))) (OkE.con fun _ => .int _)) OkA.nil))))) (OkE.var 1)))) OkS.nil)
      (OkS.cut (OkS.setIx (OkE.op ok_add (OkE.op ok_ix (OkE.var 0) (OkE.con fun _ => .int _)) (OkE.con fun _ => .int _)) (OkE.con fun _ => .int _))
      (OkS.cut (OkS.set (fun _ => by decide) (OkE.w (OkE.op ok_mod (OkE.op ok_mul (OkE.op ok_add (OkE.op ok_ix (OkE.var 0) (OkE.con fun _ => .int _)) (OkE.op ok_mul (OkE.con fun _ => .int _) (OkE.op ok_ix (OkE.var 0) (OkE.con fun _ => .int _)))) (OkE.op ok_add (OkE.con fun _ => .int _) (OkE.op ok_ix (OkE.var 0) (OkE.con fun _ => .int _)))) (OkE.con fun _ => .int _))))
      (OkS.cut (OkS.set (fun _ => by decide) (OkE.w (OkE.op ok_mod (OkE.op ok_mul (OkE.op ok_add (OkE.op ok_add (OkE.var 3) (OkE.op ok_ix (OkE.var 0) (OkE.con fun _ => .int _))) (OkE.op ok_div (OkE.op ok_ix (OkE.var 0) (OkE.con fun _ => .int _)) (OkE.con fun _ => .int _))) (OkE.op ok_add (OkE.op ok_mod (OkE.var 3) (OkE.con fun _ => .int _)) (OkE.con fun _ => .int _))) (OkE.con fun _ => .int _))))
      (OkS.ret (OkE.w (OkE.op ok_mod (OkE.op ok_div (OkE.op ok_mod (OkE.op ok_add (OkE.op ok_mul (OkE.var 4) (OkE.con fun _ => .int _)) (OkE.var 3)) (OkE.con fun _ => .int _)) (OkE.con fun _ => .int _)) (OkE.var 1)))))))))) h
end
def f_same (rec : List PyData → Option Wv) : M Fl :=
    (thenS (ifS (tb1 (isiE2 "list" "tuple" (get 1))) (thenS (ifS (orT (tb1 (op2 (eqA true) (isiE "list" (get 0)) (isiE "list" (get 1)))) (tb1 (op2 (eqA true) (isiE "tuple" (get 0)) (isiE "tuple" (get 1))))) (retS (pl (con (.bool false)))) nxt)
    (retS (pl (andV (op2 (eqA false) (cb lenD (acons (get 0) anil)) (cb lenD (acons (get 1) anil))) (cb allD (acons (fz (lcW (argI zipD (acons (get 0) (acons (get 1) anil))) (gT (gsC (gN 2) (gsC (gN 3) gsN))) yesT (fz (callA rec (acons (get 2) (acons (get 3) anil)))) [2, 3])) anil)))))) nxt)
    (thenS (ifS (orT (tb1 (isNE false (get 1))) (tb1 (isiE2 "bool" "str" (get 1)))) (retS (pl (andV (op2 (eqvD false) (get 0) (get 1)) (andV (op2 (eqA false) (isiE "bool" (get 0)) (isiE "bool" (get 1))) (op2 (eqA false) (isNE false (get 0)) (isNE false (get 1))))))) nxt)
    (retS (pl (andV (isiE "int" (get 0)) (andV (notV (isiE "bool" (get 0))) (op2 (eqvD false) (get 0) (get 1))))))))
def F_same : Nat → List PyData → Option Wv
  | 0 => fun _ => none
  | n + 1 => runA 2 4 (f_same (F_same n))
section
variable {P : Program} {w : World} {K : PySem.W.Frag} {mg : Str → Option Value} {base : Heap} {f : Addr} {fd : FuncData}
theorem dk_same (F : Fun K "_law_same" "_law_same" S_same f fd)  (b : Binds K fd P_same []) (m : mg "_law_same" = some (.ref f)) (B : Blt mg) : ∀ n, FnOk P w K mg base CX0 (0 + n) f fd P_same (spA K (F_same n))
  | 0 => ⟨fun vs H Q E h => (vacA h).elim, fun A outer s H args us vs Q E hr he hb hv h => (vacA h).elim⟩
  | n + 1 => by
    have G := dk_same F  b m B n
    refine F.ok sc_same (fun vs H Q E h => lenA h) (fun cdv A outer s H vs Q E hr h => ⟨_, (Evl.pss_cut (ps_if (pt_val (pe_callB (k_isiT (K := K) rfl) rfl B.isinstance (by decide +kernel) (pa_cons (pv 1) (pa_cons (pe_tup (pa_cons (pe_bltn (v := .ty "list") rfl B.list (by decide +kernel) rfl) (pa_cons (pe_bltn (v := .ty "tuple") rfl B.tuple (by decide +kernel) rfl) pa_nil))) pa_nil)))) (Evl.pss_cut (ps_if (PW.pt (pw_or (pt_cmpR op_ne (pe_callB (k_isi (K := K) rfl) rfl B.isinstance (by decide +kernel) (pa_cons (pv 0) (pa_cons (pe_bltn (v := .ty "list") rfl B.list (by decide +kernel) rfl) pa_nil))) (pe_callB (k_isi (K := K) rfl) rfl B.isinstance (by decide +kernel) (pa_cons (pv 1) (pa_cons (pe_bltn (v := .ty "list") rfl B.list (by decide +kernel) rfl) pa_nil))) (nomark _)) (pw_or1 (pt_cmpR op_ne (pe_callB (k_isi (K := K) rfl) rfl B.isinstance (by decide +kernel) (pa_cons (pv 0) (pa_cons (pe_bltn (v := .ty "tuple") rfl B.tuple (by decide +kernel) rfl) pa_nil))) (pe_callB (k_isi (K := K) rfl) rfl B.isinstance (by decide +kernel) (pa_cons (pv 1) (pa_cons (pe_bltn (v := .ty "tuple") rfl B.tuple (by decide +kernel) rfl) pa_nil))) (nomark _))))) (pss_one (ps_ret pe_bl)) pss_nil)
      (pss_one (ps_ret (pe_and (pe_cmpR op_eq (pe_callB (k_len (K := K) rfl) rfl B.len PySem.boot_len (pa_cons (pv 0) pa_nil)) (pe_callB (k_len (K := K) rfl) rfl B.len PySem.boot_len (pa_cons (pv 1) pa_nil)) (nomark _)) (pe_one (pe_callB (k_all (K := K) rfl rfl) rfl B.all (by decide +kernel) (pa_cons (pe_lc (own := [("_law_a", 2), ("_law_b", 3)]) (g := (gTup K 2 (gCons (gName 2) (gCons (gName 3) gNil)))) rfl sc_same.nd (k_zipA (K := K) rfl rfl B.zip (pa_cons (pv 0) (pa_cons (pv 1) pa_nil))) (blkOk_by (own := [("_law_a", 2), ("_law_b", 3)]) (N := ["_law_found", "_law_due", "_law_a", "_law_b"]) (sc := defScope S_same) (by decide +kernel)) (fun _ _ _ _ _ => by exact (pg_tup rfl (pgs_cons (pg_name (i := 2) sc_same.nd rfl (by first | exact Or.inl rfl | exact Or.inr rfl)) (pgs_cons (pg_name (i := 3) sc_same.nd rfl (by first | exact Or.inl rfl | exact Or.inr rfl)) pgs_nil)))) (fun _ _ _ _ _ => pts_nil) (fun _ _ _ _ _ => (pe_call G hr rfl m F.kp b .nil pass0 (pa_cons (pv 2) (pa_cons (pv 3) pa_nil))))) pa_nil))))))) pss_nil)
      (Evl.pss_cut (ps_if (PW.pt (pw_or (pt_cmpR op_isN (pv 1) pe_non (nomark _)) (pw_or1 (pt_val (pe_callB (k_isiT (K := K) rfl) rfl B.isinstance (by decide +kernel) (pa_cons (pv 1) (pa_cons (pe_tup (pa_cons (pe_bltn (v := .ty "bool") rfl B.bool (by decide +kernel) rfl) (pa_cons (pe_bltn (v := .ty "str") rfl B.str (by decide +kernel) rfl) pa_nil))) pa_nil))))))) (pss_one (ps_ret (pe_and (pe_cmpR (k_eqD (K := K) rfl hr.units) (pv 0) (pv 1) (nomark _)) (pe_and (pe_cmpR op_eq (pe_callB (k_isi (K := K) rfl) rfl B.isinstance (by decide +kernel) (pa_cons (pv 0) (pa_cons (pe_bltn (v := .ty "bool") rfl B.bool (by decide +kernel) rfl) pa_nil))) (pe_callB (k_isi (K := K) rfl) rfl B.isinstance (by decide +kernel) (pa_cons (pv 1) (pa_cons (pe_bltn (v := .ty "bool") rfl B.bool (by decide +kernel) rfl) pa_nil))) (nomark _)) (pe_one (pe_cmpR op_eq (pe_cmpR op_isN (pv 0) pe_non (nomark _)) (pe_cmpR op_isN (pv 1) pe_non (nomark _)) (nomark _))))))) pss_nil)
      (pss_one (ps_ret (pe_and (pe_callB (k_isi (K := K) rfl) rfl B.isinstance (by decide +kernel) (pa_cons (pv 0) (pa_cons (pe_bltn (v := .ty "int") rfl B.int (by decide +kernel) rfl) pa_nil))) (pe_and (pe_not (pe_callB (k_isi (K := K) rfl) rfl B.isinstance (by decide +kernel) (pa_cons (pv 0) (pa_cons (pe_bltn (v := .ty "bool") rfl B.bool (by decide +kernel) rfl) pa_nil)))) (pe_one (pe_cmpR (k_eqD (K := K) rfl hr.units) (pv 0) (pv 1) (nomark _))))))))), ?_⟩)
    exact finA (N := N_same) (by unfold f_same; exact (OkS.cut (OkS.ife (OkT.val (OkE.isi2 (OkE.var 1))) (OkS.cut (OkS.ife (OkT.or (OkT.test (OkE.op ok_ne (OkE.isi (OkE.var 0)) (OkE.isi (OkE.var 1)))) (OkT.test (OkE.op ok_ne (OkE.isi (OkE.var 0)) (OkE.isi (OkE.var 1))))) (OkS.ret (OkE.w (OkE.con fun _ => .bl _))) OkS.nil)
      (OkS.ret (OkE.w (OkE.and (OkE.op ok_eq (OkE.cb ok_len (OkA.cons (OkE.var 0) OkA.nil)) (OkE.cb ok_len (OkA.cons (OkE.var 1) OkA.nil))) (OkE.cb ok_all (OkA.cons (OkW.e (OkW.lc (vs := [2, 3]) (OkI.zipA (OkA.cons (OkE.var 0) (OkA.cons (OkE.var 1) OkA.nil))) (OkG.tup (OkGs.cons (OkG.name 2) (OkGs.cons (OkG.name 3) OkGs.nil))) (by decide) OkT.yes (OkW.e (OkW.call (OkA.cons (OkE.var 2) (OkA.cons (OkE.var 3) OkA.nil)))))) OkA.nil)))))) OkS.nil)
      (OkS.cut (OkS.ife (OkT.or (OkT.test (OkE.isN (OkE.var 1))) (OkT.val (OkE.isi2 (OkE.var 1)))) (OkS.ret (OkE.w (OkE.and (OkE.op ok_eqD (OkE.var 0) (OkE.var 1)) (OkE.and (OkE.op ok_eq (OkE.isi (OkE.var 0)) (OkE.isi (OkE.var 1))) (OkE.op ok_eq (OkE.isN (OkE.var 0)) (OkE.isN (OkE.var 1))))))) OkS.nil)
      (OkS.ret (OkE.w (OkE.and (OkE.isi (OkE.var 0)) (OkE.and (OkE.not (OkE.isi (OkE.var 0))) (OkE.op ok_eqD (OkE.var 0) (OkE.var 1))))))))) h
end
def f_first_intervals : M Fl :=
    (retS (pl (fz (lcW (argI rngD (acons (get 0) anil)) (gN 1) yesT (tupD (acons (get 1) (acons (get 1) anil))) [1]))))
def F_first_intervals : List PyData → Option Wv := runA 1 2 f_first_intervals
section
variable {P : Program} {w : World} {K : PySem.W.Frag} {mg : Str → Option Value} {base : Heap} {f : Addr} {fd : FuncData}
theorem dk_first_intervals (F : Fun K "first_intervals" "first_intervals" S_first_intervals f fd)  (B : Blt mg) : FnOk P w K mg base CX0 1 f fd P_first_intervals (spA K F_first_intervals) := by
  refine F.ok sc_first_intervals (fun vs H Q E h => lenA h) (fun cdv A outer s H vs Q E hr h => ⟨_, (pss_one (ps_ret (pe_lc (own := [("index", 1)]) (g := (gName 1)) rfl sc_first_intervals.nd (pi_range1 rfl B.range (pa_cons (pv 0) pa_nil)) (blkOk_by (own := [("index", 1)]) (N := ["many", "index"]) (sc := defScope S_first_intervals) (by decide +kernel)) (fun _ _ _ _ _ => by exact (pg_name (i := 1) sc_first_intervals.nd rfl (by first | exact Or.inl rfl | exact Or.inr rfl))) (fun _ _ _ _ _ => pts_nil) (fun _ _ _ _ _ => (pe_tup (pa_cons (pv 1) (pa_cons (pv 1) pa_nil))))))), ?_⟩)
  exact finA (N := N_first_intervals) (by unfold f_first_intervals; exact (OkS.ret (OkE.w (OkW.e (OkW.lc (vs := [1]) (OkI.range1 (OkA.cons (OkE.var 0) OkA.nil)) (OkG.name 1) (by decide) OkT.yes (OkE.tup (OkA.cons (OkE.var 1) (OkA.cons (OkE.var 1) OkA.nil)))))))) h
end
def s_run_size_0 : M Fl :=
    (unS (gT (gsC (gN 1) (gsC (gN 2) gsN))) (get 0))
def s_run_size_1 : M Fl :=
    (retS (pl (op2 addD (op2 subD (get 2) (get 1)) (con (.int 1)))))
def f_run_size : M Fl :=
    (thenS s_run_size_0 s_run_size_1)
def F_run_size : List PyData → Option Wv := runA 1 3 f_run_size
section
variable {P : Program} {w : World} {K : PySem.W.Frag} {mg : Str → Option Value} {base : Heap} {f : Addr} {fd : FuncData}
theorem dk_run_size (F : Fun K "run_size" "run_size" S_run_size f fd)  (B : Blt mg) : FnOk P w K mg base CX0 1 f fd P_run_size (spA K F_run_size) := by
  refine F.ok sc_run_size (fun vs H Q E h => lenA h) (fun cdv A outer s H vs Q E hr h => ⟨_, (Evl.pss_cut (ps_asg (pv 0) (pg_tup rfl (pgs_cons (pg_name (i := 1) sc_run_size.nd rfl (by first | exact Or.inl rfl | exact Or.inr rfl)) (pgs_cons (pg_name (i := 2) sc_run_size.nd rfl (by first | exact Or.inl rfl | exact Or.inr rfl)) pgs_nil))))
      (pss_one (ps_ret (pe_op op_add (pe_op op_sub (pv 2) (pv 1)) pe_int)))), ?_⟩)
  exact finA (N := N_run_size) (by unfold f_run_size s_run_size_1 s_run_size_0; exact (OkS.cut (OkS.unpack (OkG.tup (OkGs.cons (OkG.name 1) (OkGs.cons (OkG.name 2) OkGs.nil))) (fun z => by cases z) (OkE.var 0))
      (OkS.ret (OkE.w (OkE.op ok_add (OkE.op ok_sub (OkE.var 2) (OkE.var 1)) (OkE.con fun _ => .int _)))))) h
end
def f_run_index : M Fl :=
    (retS (pl (cb lenD (acons (fz (lcW (seqI (get 0)) (gT (gsC (gN 2) (gsC (gN 3) gsN))) (tb1 (op2 ltD (get 3) (get 1))) (get 3) [2, 3])) anil))))
def F_run_index : List PyData → Option Wv := runA 2 4 f_run_index
section
variable {P : Program} {w : World} {K : PySem.W.Frag} {mg : Str → Option Value} {base : Heap} {f : Addr} {fd : FuncData}
theorem dk_run_index (F : Fun K "run_index" "run_index" S_run_index f fd)  (B : Blt mg) : FnOk P w K mg base CX0 1 f fd P_run_index (spA K F_run_index) := by
  refine F.ok sc_run_index (fun vs H Q E h => lenA h) (fun cdv A outer s H vs Q E hr h => ⟨_, (pss_one (ps_ret (pe_callB (k_len (K := K) rfl) rfl B.len PySem.boot_len (pa_cons (pe_lc (own := [("first", 2), ("last", 3)]) (g := (gTup K 2 (gCons (gName 2) (gCons (gName 3) gNil)))) rfl sc_run_index.nd (k_seq (K := K) rfl (pv 0)) (blkOk_by (own := [("first", 2), ("last", 3)]) (N := ["intervals", "code", "first", "last"]) (sc := defScope S_run_index) (by decide +kernel)) (fun _ _ _ _ _ => by exact (pg_tup rfl (pgs_cons (pg_name (i := 2) sc_run_index.nd rfl (by first | exact Or.inl rfl | exact Or.inr rfl)) (pgs_cons (pg_name (i := 3) sc_run_index.nd rfl (by first | exact Or.inl rfl | exact Or.inr rfl)) pgs_nil)))) (fun _ _ _ _ _ => (pts_one (pt_cmpR op_lt (pv 3) (pv 1) (nomark _)))) (fun _ _ _ _ _ => (pv 3))) pa_nil)))), ?_⟩)
  exact finA (N := N_run_index) (by unfold f_run_index; exact (OkS.ret (OkE.w (OkE.cb ok_len (OkA.cons (OkW.e (OkW.lc (vs := [2, 3]) (OkI.seq (OkE.var 0)) (OkG.tup (OkGs.cons (OkG.name 2) (OkGs.cons (OkG.name 3) OkGs.nil))) (by decide) (OkT.test (OkE.op ok_lt (OkE.var 3) (OkE.var 1))) (OkE.var 3))) OkA.nil))))) h
end
def s_next_intervals_0 : M Fl :=
    (setS 2 (pl (fz (callA F_run_index (acons (get 0) (acons (get 1) anil))))))
def s_next_intervals_1 : M Fl :=
    (setS 3 (pl (cb maxD (acons (op2 subD (get 2) (con (.int 1))) (acons (con (.int 0)) anil)))))
def s_next_intervals_2 : M Fl :=
    (setS 4 (pl (cb minD (acons (op2 addD (get 2) (con (.int 1))) (acons (op2 subD (cb lenD (acons (get 0) anil)) (con (.int 1))) anil)))))
def s_next_intervals_3 : M Fl :=
    (setS 5 (pl (tupD (acons (op2 ixD (op2 ixD (get 0) (get 3)) (con (.int 0))) (acons (op2 subD (op2 ixD (op2 ixD (get 0) (get 4)) (con (.int 1))) (con (.int 1))) anil)))))
def s_next_intervals_4 : M Fl :=
    (setS 6 (pl (fz (lcW (seqI (slD (get 0) (poS (op2 addD (get 4) (con (.int 1)))) poN)) (gT (gsC (gN 7) (gsC (gN 8) gsN))) yesT (tupD (acons (op2 subD (get 7) (con (.int 1))) (acons (op2 subD (get 8) (con (.int 1))) anil))) [7, 8]))))
def s_next_intervals_5 : M Fl :=
    (retS (pl (op2 catD (op2 catD (slD (get 0) poN (poS (get 3))) (lstD (acons (get 5) anil))) (get 6))))
def f_next_intervals : M Fl :=
    (thenS s_next_intervals_0 (thenS s_next_intervals_1 (thenS s_next_intervals_2 (thenS s_next_intervals_3 (thenS s_next_intervals_4 s_next_intervals_5)))))
def F_next_intervals : List PyData → Option Wv := runA 2 9 f_next_intervals
section
variable {P : Program} {w : World} {K : PySem.W.Frag} {mg : Str → Option Value} {base : Heap} {f : Addr} {fd : FuncData}
theorem dk_next_intervals (F : Fun K "next_intervals" "next_intervals" S_next_intervals f fd) {g_run_index : Addr} {d_run_index : FuncData} (G_run_index : FnOk P w K mg base CX0 1 g_run_index d_run_index P_run_index (spA K F_run_index)) (b_run_index : Binds K d_run_index P_run_index []) (k_run_index : PySem.W.keepIn K (.ref g_run_index) = true) (m_run_index : mg "run_index" = some (.ref g_run_index)) (B : Blt mg) : FnOk P w K mg base CX0 2 f fd P_next_intervals (spA K F_next_intervals) := by
  refine F.ok sc_next_intervals (fun vs H Q E h => lenA h) (fun cdv A outer s H vs Q E hr h => ⟨_, (Evl.pss_cut (ps_set (i := 2) sc_next_intervals.nd rfl (by first | exact Or.inl rfl | exact Or.inr rfl) (pe_call G_run_index (hr.mono (by decide)) rfl m_run_index k_run_index b_run_index .nil pass0 (pa_cons (pv 0) (pa_cons (pv 1) pa_nil))))
      (Evl.pss_cut (ps_set (i := 3) sc_next_intervals.nd rfl (by first | exact Or.inl rfl | exact Or.inr rfl) (pe_callB (call_max2 rfl) rfl B.max (by decide +kernel) (pa_cons (pe_op op_sub (pv 2) pe_int) (pa_cons pe_int pa_nil))))
      (Evl.pss_cut (ps_set (i := 4) sc_next_intervals.nd rfl (by first | exact Or.inl rfl | exact Or.inr rfl) (pe_callB (call_min2 rfl) rfl B.min (by decide +kernel) (pa_cons (pe_op op_add (pv 2) pe_int) (pa_cons (pe_op op_sub (pe_callB (k_len (K := K) rfl) rfl B.len PySem.boot_len (pa_cons (pv 0) pa_nil)) pe_int) pa_nil))))
      (Evl.pss_cut (ps_set (i := 5) sc_next_intervals.nd rfl (by first | exact Or.inl rfl | exact Or.inr rfl) (pe_tup (pa_cons (pe_ix (k_ix (K := K) rfl) (pe_ix (k_ix (K := K) rfl) (pv 0) (pv 3) (fun _ _ => rfl)) pe_int (fun _ _ => rfl)) (pa_cons (pe_op op_sub (pe_ix (k_ix (K := K) rfl) (pe_ix (k_ix (K := K) rfl) (pv 0) (pv 4) (fun _ _ => rfl)) pe_int (fun _ _ => rfl)) pe_int) pa_nil))))
      (Evl.pss_cut (by first | exact (ps_setLc (i := 6) (own := [("first", 7), ("last", 8)]) (g := (gTup K 2 (gCons (gName 7) (gCons (gName 8) gNil)))) rfl sc_next_intervals.nd rfl rfl (sw_true rfl rfl rfl (by decide +kernel)) (k_seq (K := K) rfl (pe_slice (k_cut (K := K) rfl) (pv 0) (po_some (pe_op op_add (pv 4) pe_int)) po_none)) (blkOk_by (own := [("first", 7), ("last", 8)]) (N := ["intervals", "code", "at", "left", "right", "united", "above", "first", "last"]) (sc := defScope S_next_intervals) (by decide +kernel)) (fun _ _ _ _ _ => by exact (pg_tup rfl (pgs_cons (pg_name (i := 7) sc_next_intervals.nd rfl (by first | exact Or.inl rfl | exact Or.inr rfl)) (pgs_cons (pg_name (i := 8) sc_next_intervals.nd rfl (by first | exact Or.inl rfl | exact Or.inr rfl)) pgs_nil)))) (fun _ _ _ _ _ => pts_nil) (fun _ _ _ _ _ => (pe_tup (pa_cons (pe_op op_sub (pv 7) pe_int) (pa_cons (pe_op op_sub (pv 8) pe_int) pa_nil))))) | exact (ps_set (i := 6) sc_next_intervals.nd rfl (by first | exact Or.inl rfl | exact Or.inr rfl) (pe_lc (own := [("first", 7), ("last", 8)]) (g := (gTup K 2 (gCons (gName 7) (gCons (gName 8) gNil)))) rfl sc_next_intervals.nd (k_seq (K := K) rfl (pe_slice (k_cut (K := K) rfl) (pv 0) (po_some (pe_op op_add (pv 4) pe_int)) po_none)) (blkOk_by (own := [("first", 7), ("last", 8)]) (N := ["intervals", "code", "at", "left", "right", "united", "above", "first", "last"]) (sc := defScope S_next_intervals) (by decide +kernel)) (fun _ _ _ _ _ => by exact (pg_tup rfl (pgs_cons (pg_name (i := 7) sc_next_intervals.nd rfl (by first | exact Or.inl rfl | exact Or.inr rfl)) (pgs_cons (pg_name (i := 8) sc_next_intervals.nd rfl (by first | exact Or.inl rfl | exact Or.inr rfl)) pgs_nil)))) (fun _ _ _ _ _ => pts_nil) (fun _ _ _ _ _ => (pe_tup (pa_cons (pe_op op_sub (pv 7) pe_int) (pa_cons (pe_op op_sub (pv 8) pe_int) pa_nil)))))))
      (pss_one (ps_ret (pe_op op_catL (pe_op op_catL (pe_slice (k_cut (K := K) rfl) (pv 0) po_none (po_some (pv 3))) (pe_lst (pa_cons (pv 5) pa_nil))) (pv 6))))))))), ?_⟩)
  exact finA (N := N_next_intervals) (by unfold f_next_intervals s_next_intervals_5 s_next_intervals_4 s_next_intervals_3 s_next_intervals_2 s_next_intervals_1 s_next_intervals_0; exact (OkS.cut (OkS.set (fun z => by cases z) (OkE.w (OkW.e (OkW.call (OkA.cons (OkE.var 0) (OkA.cons (OkE.var 1) OkA.nil))))))
      (OkS.cut (OkS.set (fun z => by cases z) (OkE.w (OkE.cb ok_max (OkA.cons (OkE.op ok_sub (OkE.var 2) (OkE.con fun _ => .int _)) (OkA.cons (OkE.con fun _ => .int _) OkA.nil)))))
      (OkS.cut (OkS.set (fun z => by cases z) (OkE.w (OkE.cb ok_min (OkA.cons (OkE.op ok_add (OkE.var 2) (OkE.con fun _ => .int _)) (OkA.cons (OkE.op ok_sub (OkE.cb ok_len (OkA.cons (OkE.var 0) OkA.nil)) (OkE.con fun _ => .int _)) OkA.nil)))))
      (OkS.cut (OkS.set (fun z => by cases z) (OkE.w (OkE.tup (OkA.cons (OkE.op ok_ix (OkE.op ok_ix (OkE.var 0) (OkE.var 3)) (OkE.con fun _ => .int _)) (OkA.cons (OkE.op ok_sub (OkE.op ok_ix (OkE.op ok_ix (OkE.var 0) (OkE.var 4)) (OkE.con fun _ => .int _)) (OkE.con fun _ => .int _)) OkA.nil)))))
      (OkS.cut (OkS.set (fun z => by cases z) (OkE.w (OkW.e (OkW.lc (vs := [7, 8]) (OkI.seq (OkE.sl (OkE.var 0) (OkP.some (OkE.op ok_add (OkE.var 4) (OkE.con fun _ => .int _))) OkP.none)) (OkG.tup (OkGs.cons (OkG.name 7) (OkGs.cons (OkG.name 8) OkGs.nil))) (by decide) OkT.yes (OkE.tup (OkA.cons (OkE.op ok_sub (OkE.var 7) (OkE.con fun _ => .int _)) (OkA.cons (OkE.op ok_sub (OkE.var 8) (OkE.con fun _ => .int _)) OkA.nil)))))))
      (OkS.ret (OkE.w (OkE.op ok_catL (OkE.op ok_catL (OkE.sl (OkE.var 0) OkP.none (OkP.some (OkE.var 3))) (OkE.lst (OkA.cons (OkE.var 5) OkA.nil))) (OkE.var 6)))))))))) h
end
def s_count_lots_0 : M Fl :=
    (unS (gT (gsC (gN 1) (gsC (gN 2) gsN))) (tupD (acons (con (.int 1)) (acons (con (.int 1)) anil))))
def b_count_lots_1 : M Fl :=
    (parS 1 2 (pl (get 2)) (pl (op2 addD (op2 mulD (con (.int 2)) (get 2)) (op2 mulD (op2 subD (get 3) (con (.int 2))) (get 1)))))
def s_count_lots_1 : M Fl :=
    (forS (argI rngD2 (acons (con (.int 2)) (acons (op2 addD (get 0) (con (.int 1))) anil))) (gN 3) b_count_lots_1)
def s_count_lots_2 : M Fl :=
    (retS (pl (get 2)))
def f_count_lots : M Fl :=
    (thenS s_count_lots_0 (thenS s_count_lots_1 s_count_lots_2))
def F_count_lots : List PyData → Option Wv := runA 1 4 f_count_lots
section
variable {P : Program} {w : World} {K : PySem.W.Frag} {mg : Str → Option Value} {base : Heap} {f : Addr} {fd : FuncData}
theorem dk_count_lots (F : Fun K "count_lots" "count_lots" S_count_lots f fd)  (B : Blt mg) : FnOk P w K mg base CX0 1 f fd P_count_lots (spA K F_count_lots) := by
  refine F.ok sc_count_lots (fun vs H Q E h => lenA h) (fun cdv A outer s H vs Q E hr h => ⟨_, (Evl.pss_cut (ps_asg (pe_tup (pa_cons pe_int (pa_cons pe_int pa_nil))) (pg_tup rfl (pgs_cons (pg_name (i := 1) sc_count_lots.nd rfl (by first | exact Or.inl rfl | exact Or.inr rfl)) (pgs_cons (pg_name (i := 2) sc_count_lots.nd rfl (by first | exact Or.inl rfl | exact Or.inr rfl)) pgs_nil))))
      (Evl.pss_cut (ps_for PassesOwn.never rfl (pi_range2 rfl B.range (pa_cons pe_int (pa_cons (pe_op op_add (pv 0) pe_int) pa_nil))) (pg_name (i := 3) sc_count_lots.nd rfl (by first | exact Or.inl rfl | exact Or.inr rfl))
      (pss_one (ps_par (i := 1) (j := 2) rfl sc_count_lots.nd rfl rfl (by decide) rfl rfl (pa_cons (pv 2) (pa_cons (pe_op op_add (pe_op op_mul pe_int (pv 2)) (pe_op op_mul (pe_op op_sub (pv 3) pe_int) (pv 1))) pa_nil)) rfl)))
      (pss_one (ps_ret (pv 2))))), ?_⟩)
  exact finA (N := N_count_lots) (by unfold f_count_lots s_count_lots_2 s_count_lots_1 b_count_lots_1 s_count_lots_0; exact (OkS.cut (OkS.unpack (OkG.tup (OkGs.cons (OkG.name 1) (OkGs.cons (OkG.name 2) OkGs.nil))) (fun z => by cases z) (OkE.tup (OkA.cons (OkE.con fun _ => .int _) (OkA.cons (OkE.con fun _ => .int _) OkA.nil))))
      (OkS.cut (OkS.for (OkI.range2 (OkA.cons (OkE.con fun _ => .int _) (OkA.cons (OkE.op ok_add (OkE.var 0) (OkE.con fun _ => .int _)) OkA.nil))) (OkG.name 3) (fun z => by cases z) (OkS.par (fun z => by cases z) (OkE.w (OkE.var 2)) (OkE.w (OkE.op ok_add (OkE.op ok_mul (OkE.con fun _ => .int _) (OkE.var 2)) (OkE.op ok_mul (OkE.op ok_sub (OkE.var 3) (OkE.con fun _ => .int _)) (OkE.var 1))))))
      (OkS.ret (OkE.w (OkE.var 2)))))) h
end
def s_lots_after_0 : M Fl :=
    (setS 1 dnewN)
def b_lots_after_1 : M Fl :=
    (forS (seqI (get 2)) (gN 5) (thenS (setS 6 (pl (fz (callA F_next_intervals (acons (cb listD (acons (get 2) anil)) (acons (op2 ixD (get 5) (con (.int 0))) anil))))))
    (thenS (setS 7 (pl (tupD (acons (cb tupleD (acons (get 6) anil)) (acons (op2 mulD (get 3) (fz (callA F_run_size (acons (get 5) anil)))) anil)))))
    (dputN 1 (get 7) (op2 addD (dget2N 1 (get 7) (con (.int 0))) (get 4))))))
def s_lots_after_1 : M Fl :=
    (forS (itemsN 0) (gT (gsC (gT (gsC (gN 2) (gsC (gN 3) gsN))) (gsC (gN 4) gsN))) b_lots_after_1)
def s_lots_after_2 : M Fl :=
    (moveN 1)
def f_lots_after : M Fl :=
    (thenS s_lots_after_0 (thenS s_lots_after_1 s_lots_after_2))
def F_lots_after : List (PySem.NestedKey × Int) → Option Wv := runN 8 f_lots_after
section
variable {P : Program} {w : World} {K : PySem.W.Frag} {mg : Str → Option Value} {base : Heap} {f : Addr} {fd : FuncData}
theorem dk_lots_after (F : Fun K "lots_after" "lots_after" S_lots_after f fd) {g_next_intervals : Addr} {d_next_intervals : FuncData} (G_next_intervals : FnOk P w K mg base CX0 2 g_next_intervals d_next_intervals P_next_intervals (spA K F_next_intervals)) (b_next_intervals : Binds K d_next_intervals P_next_intervals []) (k_next_intervals : PySem.W.keepIn K (.ref g_next_intervals) = true) (m_next_intervals : mg "next_intervals" = some (.ref g_next_intervals)) {g_run_size : Addr} {d_run_size : FuncData} (G_run_size : FnOk P w K mg base CX0 1 g_run_size d_run_size P_run_size (spA K F_run_size)) (b_run_size : Binds K d_run_size P_run_size []) (k_run_size : PySem.W.keepIn K (.ref g_run_size) = true) (m_run_size : mg "run_size" = some (.ref g_run_size)) (B : Blt mg) : FnOk P w K mg base CX0 3 f fd P_lots_after (spN K F_lots_after) := by
  refine F.ok sc_lots_after (fun vs H Q E h => lenN h) (fun cdv A outer s H vs Q E hr h => ⟨_, (Evl.pss_cut (ps_set (i := 1) sc_lots_after.nd rfl (by first | exact Or.inl rfl | exact Or.inr rfl) pe_dnewN)
      (Evl.pss_cut (ps_for PassesOwn.never rfl (pi_itemsN (pv 0)) (pg_tup rfl (pgs_cons (pg_tup rfl (pgs_cons (pg_name (i := 2) sc_lots_after.nd rfl (by first | exact Or.inl rfl | exact Or.inr rfl)) (pgs_cons (pg_name (i := 3) sc_lots_after.nd rfl (by first | exact Or.inl rfl | exact Or.inr rfl)) pgs_nil))) (pgs_cons (pg_name (i := 4) sc_lots_after.nd rfl (by first | exact Or.inl rfl | exact Or.inr rfl)) pgs_nil)))
      (pss_one (ps_for PassesOwn.never rfl (k_seq (K := K) rfl (pv 2)) (pg_name (i := 5) sc_lots_after.nd rfl (by first | exact Or.inl rfl | exact Or.inr rfl))
      (Evl.pss_cut (ps_set (i := 6) sc_lots_after.nd rfl (by first | exact Or.inl rfl | exact Or.inr rfl) (pe_call G_next_intervals (hr.mono (by decide)) rfl m_next_intervals k_next_intervals b_next_intervals .nil pass0 (pa_cons (pe_callTy (k_list (K := K) rfl) rfl B.list (by decide +kernel) (pa_cons (pv 2) pa_nil)) (pa_cons (pe_ix (k_ix (K := K) rfl) (pv 5) pe_int (fun _ _ => rfl)) pa_nil))))
      (Evl.pss_cut (ps_set (i := 7) sc_lots_after.nd rfl (by first | exact Or.inl rfl | exact Or.inr rfl) (pe_tup (pa_cons (pe_callTy (k_tup (K := K) rfl) rfl B.tuple (by decide +kernel) (pa_cons (pv 6) pa_nil)) (pa_cons (pe_op op_mul (pv 3) (pe_call G_run_size (hr.mono (by decide)) rfl m_run_size k_run_size b_run_size .nil pass0 (pa_cons (pv 5) pa_nil))) pa_nil))))
      (pss_one (ps_dputN (units65 hr) (pv 1) (pv 7) (pe_op op_add (pe_dget2N (units65 hr) (pv 1) (pv 7) pe_int ⟨rfl, rfl, rfl, rfl⟩) (pv 4)) rfl)))))))
      (pss_one (ps_ret (pv 1))))), ?_⟩)
  exact finN (N := N_lots_after) (by unfold f_lots_after s_lots_after_2 s_lots_after_1 b_lots_after_1 s_lots_after_0; exact (OkS.cut (OkS.set (fun z => by cases z) OkW.dnewN)
      (OkS.cut (OkS.for (OkI.itemsN (i := 0)) (OkG.tup (OkGs.cons (OkG.tup (OkGs.cons (OkG.name 2) (OkGs.cons (OkG.name 3) OkGs.nil))) (OkGs.cons (OkG.name 4) OkGs.nil))) (fun z => by cases z) (OkS.for (OkI.seq (OkE.var 2)) (OkG.name 5) (fun z => by cases z) (OkS.cut (OkS.set (fun z => by cases z) (OkE.w (OkW.e (OkW.call (OkA.cons (OkE.cb ok_list (OkA.cons (OkE.var 2) OkA.nil)) (OkA.cons (OkE.op ok_ix (OkE.var 5) (OkE.con fun _ => .int _)) OkA.nil))))))
      (OkS.cut (OkS.set (fun z => by cases z) (OkE.w (OkE.tup (OkA.cons (OkE.cb ok_tuple (OkA.cons (OkE.var 6) OkA.nil)) (OkA.cons (OkE.op ok_mul (OkE.var 3) (OkW.e (OkW.call (OkA.cons (OkE.var 5) OkA.nil)))) OkA.nil)))))
      (OkS.dputN (OkE.var 7) (OkE.op ok_add (OkE.dget2N (i := 1) (OkE.var 7) (OkE.con fun _ => .int _)) (OkE.var 4)))))))
      (OkS.moveN 1)))) h
end
def s_lot_sizes_0 : M Fl :=
    (frzN 1 (setS 1 (dispN (tupD (acons (cb tupleD (acons (fz (callA F_first_intervals (acons (get 0) anil))) anil)) (acons (con (.int 1)) anil))) (con (.int 1)))))
def b_lot_sizes_1 : M Fl :=
    (frzN 1 (setS 1 (callN 1 F_lots_after)))
def s_lot_sizes_1 : M Fl :=
    (forS (argI rngD (acons (get 0) anil)) (gN 2) b_lot_sizes_1)
def s_lot_sizes_2 : M Fl :=
    (retS (sortPO (acons (fz (lcW (itemsN 1) (gT (gsC (gT (gsC (gN 3) (gsC (gN 4) gsN))) (gsC (gN 5) gsN))) yesT (tupD (acons (get 4) (acons (get 5) anil))) [5, 3, 4])) anil)))
def f_lot_sizes : M Fl :=
    (thenS s_lot_sizes_0 (thenS s_lot_sizes_1 s_lot_sizes_2))
def F_lot_sizes : List PyData → Option Wv := runA 1 6 f_lot_sizes
section
variable {P : Program} {w : World} {K : PySem.W.Frag} {mg : Str → Option Value} {base : Heap} {f : Addr} {fd : FuncData}
theorem dk_lot_sizes (F : Fun K "lot_sizes" "lot_sizes" S_lot_sizes f fd) {g_first_intervals : Addr} {d_first_intervals : FuncData} (G_first_intervals : FnOk P w K mg base CX0 1 g_first_intervals d_first_intervals P_first_intervals (spA K F_first_intervals)) (b_first_intervals : Binds K d_first_intervals P_first_intervals []) (k_first_intervals : PySem.W.keepIn K (.ref g_first_intervals) = true) (m_first_intervals : mg "first_intervals" = some (.ref g_first_intervals)) {g_lots_after : Addr} {d_lots_after : FuncData} (G_lots_after : FnOk P w K mg base CX0 3 g_lots_after d_lots_after P_lots_after (spN K F_lots_after)) (b_lots_after : Binds K d_lots_after P_lots_after []) (k_lots_after : PySem.W.keepIn K (.ref g_lots_after) = true) (m_lots_after : mg "lots_after" = some (.ref g_lots_after)) (B : Blt mg) : FnOk P w K mg base CX0 4 f fd P_lot_sizes (spA K F_lot_sizes) := by
  refine F.ok sc_lot_sizes (fun vs H Q E h => lenA h) (fun cdv A outer s H vs Q E hr h => ⟨_, (Evl.pss_cut (ps_set (i := 1) sc_lot_sizes.nd rfl (by first | exact Or.inl rfl | exact Or.inr rfl) (pe_dispN (units65 hr) (pe_tup (pa_cons (pe_callTy (k_tup (K := K) rfl) rfl B.tuple (by decide +kernel) (pa_cons (pe_call G_first_intervals (hr.mono (by decide)) rfl m_first_intervals k_first_intervals b_first_intervals .nil pass0 (pa_cons (pv 0) pa_nil)) pa_nil)) (pa_cons pe_int pa_nil))) pe_int))
      (Evl.pss_cut (ps_for PassesOwn.never rfl (pi_range1 rfl B.range (pa_cons (pv 0) pa_nil)) (pg_name (i := 2) sc_lot_sizes.nd rfl (by first | exact Or.inl rfl | exact Or.inr rfl))
      (pss_one (ps_set (i := 1) sc_lot_sizes.nd rfl (by first | exact Or.inl rfl | exact Or.inr rfl) (pe_call G_lots_after (hr.mono (by decide)) rfl m_lots_after k_lots_after b_lots_after .nil pass0 (pa_cons (pv 1) pa_nil)))))
      (pss_one (ps_ret (pe_callB (k_sortPT (K := K) rfl) rfl B.sorted (by decide +kernel) (pa_cons (pe_lc (own := [("count", 5), ("intervals", 3), ("size", 4)]) (g := (gTup K 2 (gCons (gTup K 2 (gCons (gName 3) (gCons (gName 4) gNil))) (gCons (gName 5) gNil)))) rfl sc_lot_sizes.nd (pi_itemsN (pv 1)) (blkOk_by (own := [("count", 5), ("intervals", 3), ("size", 4)]) (N := ["many", "lots", "person", "intervals", "size", "count"]) (sc := defScope S_lot_sizes) (by decide +kernel)) (fun _ _ _ _ _ => by exact (pg_tup rfl (pgs_cons (pg_tup rfl (pgs_cons (pg_name (i := 3) sc_lot_sizes.nd rfl (by first | exact Or.inl rfl | exact Or.inr rfl)) (pgs_cons (pg_name (i := 4) sc_lot_sizes.nd rfl (by first | exact Or.inl rfl | exact Or.inr rfl)) pgs_nil))) (pgs_cons (pg_name (i := 5) sc_lot_sizes.nd rfl (by first | exact Or.inl rfl | exact Or.inr rfl)) pgs_nil)))) (fun _ _ _ _ _ => pts_nil) (fun _ _ _ _ _ => (pe_tup (pa_cons (pv 4) (pa_cons (pv 5) pa_nil))))) pa_nil)))))), ?_⟩)
  exact finA (N := N_lot_sizes) (by unfold f_lot_sizes s_lot_sizes_2 s_lot_sizes_1 b_lot_sizes_1 s_lot_sizes_0; exact (OkS.cut (OkS.frzN (OkS.set (fun z => by cases z) (OkW.dispN (OkE.tup (OkA.cons (OkE.cb ok_tuple (OkA.cons (OkW.e (OkW.call (OkA.cons (OkE.var 0) OkA.nil))) OkA.nil)) (OkA.cons (OkE.con fun _ => .int _) OkA.nil))) (OkE.con fun _ => .int _))))
      (OkS.cut (OkS.for (OkI.range1 (OkA.cons (OkE.var 0) OkA.nil)) (OkG.name 2) (fun z => by cases z) (OkS.frzN (OkS.set (fun z => by cases z) (OkW.callN (i := 1)))))
      (OkS.ret (OkW.sortPO (OkA.cons (OkW.e (OkW.lc (vs := [5, 3, 4]) (OkI.itemsN (i := 1)) (OkG.tup (OkGs.cons (OkG.tup (OkGs.cons (OkG.name 3) (OkGs.cons (OkG.name 4) OkGs.nil))) (OkGs.cons (OkG.name 5) OkGs.nil))) (by decide) OkT.yes (OkE.tup (OkA.cons (OkE.var 4) (OkA.cons (OkE.var 5) OkA.nil))))) OkA.nil)))))) h
end
def s_marks_0 : M Fl :=
    (setS 1 (lstW anil))
def b_marks_1 : M Fl :=
    (thenS (setS 3 (pl (fz (lcW (seqI (get 0)) (gN 4) (tb1 (op2 geD (get 4) (get 2))) (get 4) [4]))))
    (exprS (mthE 1 appD (acons (rmE idxD (get 3) (acons (get 2) anil)) anil))))
def s_marks_1 : M Fl :=
    (forS (seqI (cb sortD (acons (get 0) anil))) (gN 2) b_marks_1)
def s_marks_2 : M Fl :=
    (retS (pl (cb tupleD (acons (get 1) anil))))
def f_marks : M Fl :=
    (thenS s_marks_0 (thenS s_marks_1 s_marks_2))
def F_marks : List PyData → Option Wv := runA 1 5 f_marks
section
variable {P : Program} {w : World} {K : PySem.W.Frag} {mg : Str → Option Value} {base : Heap} {f : Addr} {fd : FuncData}
theorem dk_marks (F : Fun K "_law_marks" "_law_marks" S_marks f fd)  (B : Blt mg) : FnOk P w K mg base CX0 1 f fd P_marks (spA K F_marks) := by
  refine F.ok sc_marks (fun vs H Q E h => lenA h) (fun cdv A outer s H vs Q E hr h => ⟨_, (Evl.pss_cut (ps_set (i := 1) sc_marks.nd rfl (by first | exact Or.inl rfl | exact Or.inr rfl) (pe_lst pa_nil))
      (Evl.pss_cut (ps_for PassesOwn.never rfl (k_seq (K := K) rfl (pe_callB (k_sorted (K := K) rfl) rfl B.sorted (by decide +kernel) (pa_cons (pv 0) pa_nil))) (pg_name (i := 2) sc_marks.nd rfl (by first | exact Or.inl rfl | exact Or.inr rfl))
      (Evl.pss_cut (by first | exact (ps_setLc (i := 3) (own := [("_law_its", 4)]) (g := (gName 4)) rfl sc_marks.nd rfl rfl (sw_true rfl rfl rfl (by decide +kernel)) (k_seq (K := K) rfl (pv 0)) (blkOk_by (own := [("_law_its", 4)]) (N := ["_law_crowd", "_law_found", "_law_soul", "_law_rest", "_law_its"]) (sc := defScope S_marks) (by decide +kernel)) (fun _ _ _ _ _ => by exact (pg_name (i := 4) sc_marks.nd rfl (by first | exact Or.inl rfl | exact Or.inr rfl))) (fun _ _ _ _ _ => (pts_one (pt_cmpR op_ge (pv 4) (pv 2) (nomark _)))) (fun _ _ _ _ _ => (pv 4))) | exact (ps_set (i := 3) sc_marks.nd rfl (by first | exact Or.inl rfl | exact Or.inr rfl) (pe_lc (own := [("_law_its", 4)]) (g := (gName 4)) rfl sc_marks.nd (k_seq (K := K) rfl (pv 0)) (blkOk_by (own := [("_law_its", 4)]) (N := ["_law_crowd", "_law_found", "_law_soul", "_law_rest", "_law_its"]) (sc := defScope S_marks) (by decide +kernel)) (fun _ _ _ _ _ => by exact (pg_name (i := 4) sc_marks.nd rfl (by first | exact Or.inl rfl | exact Or.inr rfl))) (fun _ _ _ _ _ => (pts_one (pt_cmpR op_ge (pv 4) (pv 2) (nomark _)))) (fun _ _ _ _ _ => (pv 4)))))
      (pss_one (ps_expr (k_bm (K := K) rfl PySem.F.plainAttrs_list PySem.F.slot_list_append PySem.F.type_list_append mt_append (pv 1) (pa_cons (k_bm (K := K) rfl PySem.F.plainAttrs_list PySem.F.slot_list_index PySem.F.type_list_index (k_index (K := K) rfl (units65 hr)) (pv 3) (pa_cons (pv 2) pa_nil)) pa_nil))))))
      (pss_one (ps_ret (pe_callTy (k_tup (K := K) rfl) rfl B.tuple (by decide +kernel) (pa_cons (pv 1) pa_nil)))))), ?_⟩)
  exact finA (N := N_marks) (by unfold f_marks s_marks_2 s_marks_1 b_marks_1 s_marks_0; exact (OkS.cut (OkS.set (fun z => by cases z) (OkW.lst OkA.nil))
      (OkS.cut (OkS.for (OkI.seq (OkE.cb ok_sort (OkA.cons (OkE.var 0) OkA.nil))) (OkG.name 2) (fun z => by cases z) (OkS.cut (OkS.set (fun z => by cases z) (OkE.w (OkW.e (OkW.lc (vs := [4]) (OkI.seq (OkE.var 0)) (OkG.name 4) (by decide) (OkT.test (OkE.op ok_ge (OkE.var 4) (OkE.var 2))) (OkE.var 4)))))
      (OkS.expr (OkE.mth ok_app (OkA.cons (OkE.rm ok_idx (OkE.var 3) (OkA.cons (OkE.var 2) OkA.nil)) OkA.nil)))))
      (OkS.ret (OkE.w (OkE.cb ok_tuple (OkA.cons (OkE.var 1) OkA.nil))))))) h
end
def s_intervals_0 : M Fl :=
    (parS 2 3 (lstW anil) (pl (con (.int 0))))
def b_intervals_1 : M Fl :=
    (ifS (orT (tb1 (op2 (eqA false) (get 4) (op2 subD (get 1) (con (.int 1))))) (notT (tb1 (op2 ixD (get 0) (get 4))))) (thenS (exprS (mthE 2 appD (acons (tupD (acons (get 3) (acons (get 4) anil))) anil)))
    (setS 3 (pl (op2 addD (get 4) (con (.int 1)))))) nxt)
def s_intervals_1 : M Fl :=
    (forS (argI rngD (acons (get 1) anil)) (gN 4) b_intervals_1)
def s_intervals_2 : M Fl :=
    (moveS 2)
def f_intervals : M Fl :=
    (thenS s_intervals_0 (thenS s_intervals_1 s_intervals_2))
def F_intervals : List PyData → Option Wv := runA 2 5 f_intervals
section
variable {P : Program} {w : World} {K : PySem.W.Frag} {mg : Str → Option Value} {base : Heap} {f : Addr} {fd : FuncData}
theorem dk_intervals (F : Fun K "_law_intervals" "_law_intervals" S_intervals f fd)  (B : Blt mg) : FnOk P w K mg base CX0 1 f fd P_intervals (spA K F_intervals) := by
  refine F.ok sc_intervals (fun vs H Q E h => lenA h) (fun cdv A outer s H vs Q E hr h => ⟨_, (Evl.pss_cut (ps_par (i := 2) (j := 3) rfl sc_intervals.nd rfl rfl (by decide) rfl rfl (pa_cons (pe_lst pa_nil) (pa_cons pe_int pa_nil)) rfl)
      (Evl.pss_cut (ps_for PassesOwn.never rfl (pi_range1 rfl B.range (pa_cons (pv 1) pa_nil)) (pg_name (i := 4) sc_intervals.nd rfl (by first | exact Or.inl rfl | exact Or.inr rfl))
      (pss_one (ps_if (PW.pt (pw_or (pt_cmpR op_eq (pv 4) (pe_op op_sub (pv 1) pe_int) (nomark _)) (pw_or1 (pt_not (pt_val (pe_ix (k_ix (K := K) rfl) (pv 0) (pv 4) (fun _ _ => rfl))))))) (Evl.pss_cut (ps_expr (k_bm (K := K) rfl PySem.F.plainAttrs_list PySem.F.slot_list_append PySem.F.type_list_append mt_append (pv 2) (pa_cons (pe_tup (pa_cons (pv 3) (pa_cons (pv 4) pa_nil))) pa_nil)))
      (pss_one (ps_set (i := 3) sc_intervals.nd rfl (by first | exact Or.inl rfl | exact Or.inr rfl) (pe_op op_add (pv 4) pe_int)))) pss_nil)))
      (pss_one (ps_ret (pv 2))))), ?_⟩)
  exact finA (N := N_intervals) (by unfold f_intervals s_intervals_2 s_intervals_1 b_intervals_1 s_intervals_0; exact (OkS.cut (OkS.par (fun z => by cases z) (OkW.lst OkA.nil) (OkE.w (OkE.con fun _ => .int _)))
      (OkS.cut (OkS.for (OkI.range1 (OkA.cons (OkE.var 1) OkA.nil)) (OkG.name 4) (fun z => by cases z) (OkS.ife (OkT.or (OkT.test (OkE.op ok_eq (OkE.var 4) (OkE.op ok_sub (OkE.var 1) (OkE.con fun _ => .int _)))) (OkT.not (OkT.val (OkE.op ok_ix (OkE.var 0) (OkE.var 4))))) (OkS.cut (OkS.expr (OkE.mth ok_app (OkA.cons (OkE.tup (OkA.cons (OkE.var 3) (OkA.cons (OkE.var 4) OkA.nil))) OkA.nil)))
      (OkS.set (fun z => by cases z) (OkE.w (OkE.op ok_add (OkE.var 4) (OkE.con fun _ => .int _))))) OkS.nil))
      (OkS.move 2)))) h
end
def s_run_lists_0 : M Fl :=
    (parS 1 2 (pl (repW (lstW (acons (con (.bool false)) anil)) (cb maxD (acons (con (.int 0)) (acons (op2 subD (cb lenD (acons (get 0) anil)) (con (.int 1))) anil))))) (lstW anil))
def b_run_lists_1 : M Fl :=
    (thenS (exprS (mthE 2 appD (acons (fz (callA F_intervals (acons (get 1) (acons (op2 subD (cb lenD (acons (get 0) anil)) (get 3)) anil)))) anil)))
    (thenS (setS 5 (pl (get 4)))
    (thenS (whileM (andT (tb1 (op2 gtD (get 5) (con (.int 0)))) (tb1 (op2 ixD (get 1) (op2 subD (get 5) (con (.int 1)))))) (setS 5 (pl (op2 subD (get 5) (con (.int 1))))) 100)
    (thenS (setS 6 (pl (get 4)))
    (thenS (whileM (andT (tb1 (op2 ltD (get 6) (cb lenD (acons (get 1) anil)))) (tb1 (op2 ixD (get 1) (get 6)))) (setS 6 (pl (op2 addD (get 6) (con (.int 1))))) 100)
    (thenS (parS 7 8 (pl (slD (get 1) poN (poS (cb maxD (acons (con (.int 0)) (acons (op2 subD (get 5) (con (.int 1))) anil)))))) (pl (slD (get 1) (poS (op2 addD (get 6) (con (.int 1)))) poN)))
    (thenS (setS 9 (pl (op2 subD (cb minD (acons (get 6) (acons (op2 subD (op2 subD (cb lenD (acons (get 0) anil)) (get 3)) (con (.int 2))) anil))) (cb maxD (acons (con (.int 0)) (acons (op2 subD (get 5) (con (.int 1))) anil))))))
    (setS 1 (pl (op2 catD (op2 catD (get 7) (repW (lstW (acons (con (.bool true)) anil)) (cb maxD (acons (con (.int 0)) (acons (get 9) anil))))) (get 8)))))))))))
def s_run_lists_1 : M Fl :=
    (forS (argI enumD (acons (fz (callA F_marks (acons (get 0) anil))) anil)) (gT (gsC (gN 3) (gsC (gN 4) gsN))) b_run_lists_1)
def s_run_lists_2 : M Fl :=
    (moveS 2)
def f_run_lists : M Fl :=
    (thenS s_run_lists_0 (thenS s_run_lists_1 s_run_lists_2))
def F_run_lists : List PyData → Option Wv := runA 1 10 f_run_lists
section
variable {P : Program} {w : World} {K : PySem.W.Frag} {mg : Str → Option Value} {base : Heap} {f : Addr} {fd : FuncData}
theorem dk_run_lists (F : Fun K "_law_run_lists" "_law_run_lists" S_run_lists f fd) {g_marks : Addr} {d_marks : FuncData} (G_marks : FnOk P w K mg base CX0 1 g_marks d_marks P_marks (spA K F_marks)) (b_marks : Binds K d_marks P_marks []) (k_marks : PySem.W.keepIn K (.ref g_marks) = true) (m_marks : mg "_law_marks" = some (.ref g_marks)) {g_intervals : Addr} {d_intervals : FuncData} (G_intervals : FnOk P w K mg base CX0 1 g_intervals d_intervals P_intervals (spA K F_intervals)) (b_intervals : Binds K d_intervals P_intervals []) (k_intervals : PySem.W.keepIn K (.ref g_intervals) = true) (m_intervals : mg "_law_intervals" = some (.ref g_intervals)) (B : Blt mg) : FnOk P w K mg base CX0 2 f fd P_run_lists (spA K F_run_lists) := by
  refine F.ok sc_run_lists (fun vs H Q E h => lenA h) (fun cdv A outer s H vs Q E hr h => ⟨_, (Evl.pss_cut (ps_par (i := 1) (j := 2) rfl sc_run_lists.nd rfl rfl (by decide) rfl rfl (pa_cons (pe_op op_rep (pe_lst (pa_cons pe_bl pa_nil)) (pe_callB (call_max2 rfl) rfl B.max (by decide +kernel) (pa_cons pe_int (pa_cons (pe_op op_sub (pe_callB (k_len (K := K) rfl) rfl B.len PySem.boot_len (pa_cons (pv 0) pa_nil)) pe_int) pa_nil)))) (pa_cons (pe_lst pa_nil) pa_nil)) rfl)
      (Evl.pss_cut (ps_for PassesOwn.never rfl (k_enW (K := K) rfl rfl B.enumerate (pa_cons (pe_call G_marks (hr.mono (by decide)) rfl m_marks k_marks b_marks .nil pass0 (pa_cons (pv 0) pa_nil)) pa_nil)) (pg_tup rfl (pgs_cons (pg_name (i := 3) sc_run_lists.nd rfl (by first | exact Or.inl rfl | exact Or.inr rfl)) (pgs_cons (pg_name (i := 4) sc_run_lists.nd rfl (by first | exact Or.inl rfl | exact Or.inr rfl)) pgs_nil)))
      (Evl.pss_cut (ps_expr (k_bm (K := K) rfl PySem.F.plainAttrs_list PySem.F.slot_list_append PySem.F.type_list_append mt_append (pv 2) (pa_cons (pe_call G_intervals (hr.mono (by decide)) rfl m_intervals k_intervals b_intervals .nil pass0 (pa_cons (pv 1) (pa_cons (pe_op op_sub (pe_callB (k_len (K := K) rfl) rfl B.len PySem.boot_len (pa_cons (pv 0) pa_nil)) (pv 3)) pa_nil))) pa_nil)))
      (Evl.pss_cut (ps_set (i := 5) sc_run_lists.nd rfl (by first | exact Or.inl rfl | exact Or.inr rfl) (pv 4))
      (Evl.pss_cut (ps_while PassesOwn.never (PW.pt (pw_and (pt_cmpR op_gt (pv 5) pe_int (nomark _)) (pw_and1 (pt_val (pe_ix (k_ix (K := K) rfl) (pv 1) (pe_op op_sub (pv 5) pe_int) (fun _ _ => rfl))))))
      (pss_one (ps_set (i := 5) sc_run_lists.nd rfl (by first | exact Or.inl rfl | exact Or.inr rfl) (pe_op op_sub (pv 5) pe_int))))
      (Evl.pss_cut (ps_set (i := 6) sc_run_lists.nd rfl (by first | exact Or.inl rfl | exact Or.inr rfl) (pv 4))
      (Evl.pss_cut (ps_while PassesOwn.never (PW.pt (pw_and (pt_cmpR op_lt (pv 6) (pe_callB (k_len (K := K) rfl) rfl B.len PySem.boot_len (pa_cons (pv 1) pa_nil)) (nomark _)) (pw_and1 (pt_val (pe_ix (k_ix (K := K) rfl) (pv 1) (pv 6) (fun _ _ => rfl))))))
      (pss_one (ps_set (i := 6) sc_run_lists.nd rfl (by first | exact Or.inl rfl | exact Or.inr rfl) (pe_op op_add (pv 6) pe_int))))
      (Evl.pss_cut (ps_par (i := 7) (j := 8) rfl sc_run_lists.nd rfl rfl (by decide) rfl rfl (pa_cons (pe_slice (k_cut (K := K) rfl) (pv 1) po_none (po_some (pe_callB (call_max2 rfl) rfl B.max (by decide +kernel) (pa_cons pe_int (pa_cons (pe_op op_sub (pv 5) pe_int) pa_nil))))) (pa_cons (pe_slice (k_cut (K := K) rfl) (pv 1) (po_some (pe_op op_add (pv 6) pe_int)) po_none) pa_nil)) rfl)
      (Evl.pss_cut (ps_set (i := 9) sc_run_lists.nd rfl (by first | exact Or.inl rfl | exact Or.inr rfl) (pe_op op_sub (pe_callB (call_min2 rfl) rfl B.min (by decide +kernel) (pa_cons (pv 6) (pa_cons (pe_op op_sub (pe_op op_sub (pe_callB (k_len (K := K) rfl) rfl B.len PySem.boot_len (pa_cons (pv 0) pa_nil)) (pv 3)) pe_int) pa_nil))) (pe_callB (call_max2 rfl) rfl B.max (by decide +kernel) (pa_cons pe_int (pa_cons (pe_op op_sub (pv 5) pe_int) pa_nil)))))
      (pss_one (ps_set (i := 1) sc_run_lists.nd rfl (by first | exact Or.inl rfl | exact Or.inr rfl) (pe_op op_catL (pe_op op_catL (pv 7) (pe_op op_rep (pe_lst (pa_cons pe_bl pa_nil)) (pe_callB (call_max2 rfl) rfl B.max (by decide +kernel) (pa_cons pe_int (pa_cons (pv 9) pa_nil))))) (pv 8))))))))))))
      (pss_one (ps_ret (pv 2))))), ?_⟩)
  exact finA (N := N_run_lists) (by unfold f_run_lists s_run_lists_2 s_run_lists_1 b_run_lists_1 s_run_lists_0; exact (OkS.cut (OkS.par (fun z => by cases z) (OkE.w (okE_repW (OkW.lst (OkA.cons (OkE.con fun _ => .bl _) OkA.nil)) (OkE.cb ok_max (OkA.cons (OkE.con fun _ => .int _) (OkA.cons (OkE.op ok_sub (OkE.cb ok_len (OkA.cons (OkE.var 0) OkA.nil)) (OkE.con fun _ => .int _)) OkA.nil))))) (OkW.lst OkA.nil))
      (OkS.cut (OkS.for (OkI.enum (OkA.cons (OkW.e (OkW.call (OkA.cons (OkE.var 0) OkA.nil))) OkA.nil)) (OkG.tup (OkGs.cons (OkG.name 3) (OkGs.cons (OkG.name 4) OkGs.nil))) (fun z => by cases z) (OkS.cut (OkS.expr (OkE.mth ok_app (OkA.cons (OkW.e (OkW.call (OkA.cons (OkE.var 1) (OkA.cons (OkE.op ok_sub (OkE.cb ok_len (OkA.cons (OkE.var 0) OkA.nil)) (OkE.var 3)) OkA.nil)))) OkA.nil)))
      (OkS.cut (OkS.set (fun z => by cases z) (OkE.w (OkE.var 4)))
      (OkS.cut (OkS.while 100 (OkT.and (OkT.test (OkE.op ok_gt (OkE.var 5) (OkE.con fun _ => .int _))) (OkT.val (OkE.op ok_ix (OkE.var 1) (OkE.op ok_sub (OkE.var 5) (OkE.con fun _ => .int _))))) (OkS.set (fun z => by cases z) (OkE.w (OkE.op ok_sub (OkE.var 5) (OkE.con fun _ => .int _)))))
      (OkS.cut (OkS.set (fun z => by cases z) (OkE.w (OkE.var 4)))
      (OkS.cut (OkS.while 100 (OkT.and (OkT.test (OkE.op ok_lt (OkE.var 6) (OkE.cb ok_len (OkA.cons (OkE.var 1) OkA.nil)))) (OkT.val (OkE.op ok_ix (OkE.var 1) (OkE.var 6)))) (OkS.set (fun z => by cases z) (OkE.w (OkE.op ok_add (OkE.var 6) (OkE.con fun _ => .int _)))))
      (OkS.cut (OkS.par (fun z => by cases z) (OkE.w (OkE.sl (OkE.var 1) OkP.none (OkP.some (OkE.cb ok_max (OkA.cons (OkE.con fun _ => .int _) (OkA.cons (OkE.op ok_sub (OkE.var 5) (OkE.con fun _ => .int _)) OkA.nil)))))) (OkE.w (OkE.sl (OkE.var 1) (OkP.some (OkE.op ok_add (OkE.var 6) (OkE.con fun _ => .int _))) OkP.none)))
      (OkS.cut (OkS.set (fun z => by cases z) (OkE.w (OkE.op ok_sub (OkE.cb ok_min (OkA.cons (OkE.var 6) (OkA.cons (OkE.op ok_sub (OkE.op ok_sub (OkE.cb ok_len (OkA.cons (OkE.var 0) OkA.nil)) (OkE.var 3)) (OkE.con fun _ => .int _)) OkA.nil))) (OkE.cb ok_max (OkA.cons (OkE.con fun _ => .int _) (OkA.cons (OkE.op ok_sub (OkE.var 5) (OkE.con fun _ => .int _)) OkA.nil))))))
      (OkS.set (fun z => by cases z) (OkE.w (OkE.op ok_catL (OkE.op ok_catL (OkE.var 7) (okE_repW (OkW.lst (OkA.cons (OkE.con fun _ => .bl _) OkA.nil)) (OkE.cb ok_max (OkA.cons (OkE.con fun _ => .int _) (OkA.cons (OkE.var 9) OkA.nil))))) (OkE.var 8))))))))))))
      (OkS.move 2)))) h
end
def s_runs_0 : M Fl :=
    (setS 1 (lstW anil))
def b_runs_1 : M Fl :=
    (exprS (mthE 1 appD (acons (op2 ixD (fz (lcW (seqI (get 2)) (gN 4) (tb1 (chainE leD leD (op2 ixD (get 4) (con (.int 0))) (get 3) (op2 ixD (get 4) (con (.int 1))))) (get 4) [4])) (con (.int 0))) anil)))
def s_runs_1 : M Fl :=
    (forS (argI zipM (acons (fz (callA F_run_lists (acons (get 0) anil))) (acons (fz (callA F_marks (acons (get 0) anil))) anil))) (gT (gsC (gN 2) (gsC (gN 3) gsN))) b_runs_1)
def s_runs_2 : M Fl :=
    (retS (pl (cb tupleD (acons (get 1) anil))))
def f_runs : M Fl :=
    (thenS s_runs_0 (thenS s_runs_1 s_runs_2))
def F_runs : List PyData → Option Wv := runA 1 5 f_runs
section
variable {P : Program} {w : World} {K : PySem.W.Frag} {mg : Str → Option Value} {base : Heap} {f : Addr} {fd : FuncData}
theorem dk_runs (F : Fun K "_law_runs" "_law_runs" S_runs f fd) {g_run_lists : Addr} {d_run_lists : FuncData} (G_run_lists : FnOk P w K mg base CX0 2 g_run_lists d_run_lists P_run_lists (spA K F_run_lists)) (b_run_lists : Binds K d_run_lists P_run_lists []) (k_run_lists : PySem.W.keepIn K (.ref g_run_lists) = true) (m_run_lists : mg "_law_run_lists" = some (.ref g_run_lists)) {g_marks : Addr} {d_marks : FuncData} (G_marks : FnOk P w K mg base CX0 1 g_marks d_marks P_marks (spA K F_marks)) (b_marks : Binds K d_marks P_marks []) (k_marks : PySem.W.keepIn K (.ref g_marks) = true) (m_marks : mg "_law_marks" = some (.ref g_marks)) (B : Blt mg) : FnOk P w K mg base CX0 3 f fd P_runs (spA K F_runs) := by
  refine F.ok sc_runs (fun vs H Q E h => lenA h) (fun cdv A outer s H vs Q E hr h => ⟨_, (Evl.pss_cut (ps_set (i := 1) sc_runs.nd rfl (by first | exact Or.inl rfl | exact Or.inr rfl) (pe_lst pa_nil))
      (Evl.pss_cut (ps_for PassesOwn.never rfl (k_zipB (K := K) rfl rfl B.zip (pa_cons (pe_call G_run_lists (hr.mono (by decide)) rfl m_run_lists k_run_lists b_run_lists .nil pass0 (pa_cons (pv 0) pa_nil)) (pa_cons (pe_call G_marks (hr.mono (by decide)) rfl m_marks k_marks b_marks .nil pass0 (pa_cons (pv 0) pa_nil)) pa_nil))) (pg_tup rfl (pgs_cons (pg_name (i := 2) sc_runs.nd rfl (by first | exact Or.inl rfl | exact Or.inr rfl)) (pgs_cons (pg_name (i := 3) sc_runs.nd rfl (by first | exact Or.inl rfl | exact Or.inr rfl)) pgs_nil)))
      (pss_one (ps_expr (k_bm (K := K) rfl PySem.F.plainAttrs_list PySem.F.slot_list_append PySem.F.type_list_append mt_append (pv 1) (pa_cons (pe_ix (k_ix (K := K) rfl) (pe_lc (own := [("_law_span_so", 4)]) (g := (gName 4)) rfl sc_runs.nd (k_seq (K := K) rfl (pv 2)) (blkOk_by (own := [("_law_span_so", 4)]) (N := ["_law_crowd", "_law_found", "_law_some", "_law_mark", "_law_span_so"]) (sc := defScope S_runs) (by decide +kernel)) (fun _ _ _ _ _ => by exact (pg_name (i := 4) sc_runs.nd rfl (by first | exact Or.inl rfl | exact Or.inr rfl))) (fun _ _ _ _ _ => (pts_one (pt_chain op_le op_le (pe_ix (k_ix (K := K) rfl) (pv 4) pe_int (fun _ _ => rfl)) (pv 3) (pe_ix (k_ix (K := K) rfl) (pv 4) pe_int (fun _ _ => rfl))))) (fun _ _ _ _ _ => (pv 4))) pe_int (fun _ _ => rfl)) pa_nil)))))
      (pss_one (ps_ret (pe_callTy (k_tup (K := K) rfl) rfl B.tuple (by decide +kernel) (pa_cons (pv 1) pa_nil)))))), ?_⟩)
  exact finA (N := N_runs) (by unfold f_runs s_runs_2 s_runs_1 b_runs_1 s_runs_0; exact (OkS.cut (OkS.set (fun z => by cases z) (OkW.lst OkA.nil))
      (OkS.cut (OkS.for (OkI.zipB (OkA.cons (OkW.e (OkW.call (OkA.cons (OkE.var 0) OkA.nil))) (OkA.cons (OkW.e (OkW.call (OkA.cons (OkE.var 0) OkA.nil))) OkA.nil))) (OkG.tup (OkGs.cons (OkG.name 2) (OkGs.cons (OkG.name 3) OkGs.nil))) (fun z => by cases z) (OkS.expr (OkE.mth ok_app (OkA.cons (OkE.op ok_ix (OkW.e (OkW.lc (vs := [4]) (OkI.seq (OkE.var 2)) (OkG.name 4) (by decide) (OkT.test (OkE.chain ok_le ok_le (OkE.op ok_ix (OkE.var 4) (OkE.con fun _ => .int _)) (OkE.var 3) (OkE.op ok_ix (OkE.var 4) (OkE.con fun _ => .int _)))) (OkE.var 4))) (OkE.con fun _ => .int _)) OkA.nil))))
      (OkS.ret (OkE.w (OkE.cb ok_tuple (OkA.cons (OkE.var 1) OkA.nil))))))) h
end
def s_orders_0 : M Fl :=
    (setS 1 (pl (lstD (acons (tupD anil) anil))))
def b_orders_1 : M Fl :=
    (thenS (setS 3 (pl (lstD anil)))
    (thenS (forS (seqI (get 1)) (gN 4) (setS 3 (pl (op2 catD (get 3) (fz (lcW (seqI (get 0)) (gN 5) (tb1 (op2 (inF true) (get 5) (get 4))) (op2 catT (get 4) (tupD (acons (get 5) anil))) [5]))))))
    (setS 1 (pl (get 3)))))
def s_orders_1 : M Fl :=
    (forS (argI rngD (acons (cb lenD (acons (get 0) anil)) anil)) (gN 2) b_orders_1)
def s_orders_2 : M Fl :=
    (retS (pl (get 1)))
def f_orders : M Fl :=
    (thenS s_orders_0 (thenS s_orders_1 s_orders_2))
def F_orders : List PyData → Option Wv := runA 1 6 f_orders
section
variable {P : Program} {w : World} {K : PySem.W.Frag} {mg : Str → Option Value} {base : Heap} {f : Addr} {fd : FuncData}
theorem dk_orders (F : Fun K "_law_orders" "_law_orders" S_orders f fd)  (B : Blt mg) : FnOk P w K mg base CX0 1 f fd P_orders (spA K F_orders) := by
  refine F.ok sc_orders (fun vs H Q E h => lenA h) (fun cdv A outer s H vs Q E hr h => ⟨_, (Evl.pss_cut (ps_set (i := 1) sc_orders.nd rfl (by first | exact Or.inl rfl | exact Or.inr rfl) (pe_lst (pa_cons (pe_tup pa_nil) pa_nil)))
      (Evl.pss_cut (ps_for PassesOwn.never rfl (pi_range1 rfl B.range (pa_cons (pe_callB (k_len (K := K) rfl) rfl B.len PySem.boot_len (pa_cons (pv 0) pa_nil)) pa_nil)) (pg_name (i := 2) sc_orders.nd rfl (by first | exact Or.inl rfl | exact Or.inr rfl))
      (Evl.pss_cut (ps_set (i := 3) sc_orders.nd rfl (by first | exact Or.inl rfl | exact Or.inr rfl) (pe_lst pa_nil))
      (Evl.pss_cut (ps_for PassesOwn.never rfl (k_seq (K := K) rfl (pv 1)) (pg_name (i := 4) sc_orders.nd rfl (by first | exact Or.inl rfl | exact Or.inr rfl))
      (pss_one (ps_set (i := 3) sc_orders.nd rfl (by first | exact Or.inl rfl | exact Or.inr rfl) (pe_op op_catL (pv 3) (pe_lc (own := [("_law_soul", 5)]) (g := (gName 5)) rfl sc_orders.nd (k_seq (K := K) rfl (pv 0)) (blkOk_by (own := [("_law_soul", 5)]) (N := ["_law_souls", "_law_found", "_law_turn", "_law_longer", "_law_some", "_law_soul"]) (sc := defScope S_orders) (by decide +kernel)) (fun _ _ _ _ _ => by exact (pg_name (i := 5) sc_orders.nd rfl (by first | exact Or.inl rfl | exact Or.inr rfl))) (fun _ _ _ _ _ => (pts_one (pt_cmpR (k_notin (K := K) rfl) (pv 5) (pv 4) (by rfl)))) (fun _ _ _ _ _ => (pe_op (k_catW (K := K) rfl) (pv 4) (pe_tup (pa_cons (pv 5) pa_nil)))))))))
      (pss_one (ps_set (i := 1) sc_orders.nd rfl (by first | exact Or.inl rfl | exact Or.inr rfl) (pv 3))))))
      (pss_one (ps_ret (pv 1))))), ?_⟩)
  exact finA (N := N_orders) (by unfold f_orders s_orders_2 s_orders_1 b_orders_1 s_orders_0; exact (OkS.cut (OkS.set (fun z => by cases z) (OkE.w (OkE.lst (OkA.cons (OkE.tup OkA.nil) OkA.nil))))
      (OkS.cut (OkS.for (OkI.range1 (OkA.cons (OkE.cb ok_len (OkA.cons (OkE.var 0) OkA.nil)) OkA.nil)) (OkG.name 2) (fun z => by cases z) (OkS.cut (OkS.set (fun z => by cases z) (OkE.w (OkE.lst OkA.nil)))
      (OkS.cut (OkS.for (OkI.seq (OkE.var 1)) (OkG.name 4) (fun z => by cases z) (OkS.set (fun z => by cases z) (OkE.w (OkE.op ok_catL (OkE.var 3) (OkW.e (OkW.lc (vs := [5]) (OkI.seq (OkE.var 0)) (OkG.name 5) (by decide) (OkT.test (OkE.op ok_inF (OkE.var 5) (OkE.var 4))) (OkE.op ok_catT (OkE.var 4) (OkE.tup (OkA.cons (OkE.var 5) OkA.nil)))))))))
      (OkS.set (fun z => by cases z) (OkE.w (OkE.var 3))))))
      (OkS.ret (OkE.w (OkE.var 1)))))) h
end
def s_widths_0 : M Fl :=
    (parS 2 3 (pl (cb maxD (acons (con (.int 0)) (acons (op2 subD (get 1) (con (.int 1))) anil)))) (pl (cb minD (acons (op2 subD (cb lenD (acons (get 0) anil)) (con (.int 1))) (acons (op2 addD (get 1) (con (.int 1))) anil)))))
def s_widths_1 : M Fl :=
    (setS 4 (pl (op2 subD (cb sumTD (acons (slD (get 0) (poS (get 2)) (poS (op2 addD (get 3) (con (.int 1))))) anil)) (con (.int 1)))))
def s_widths_2 : M Fl :=
    (retS (pl (op2 catT (op2 catT (slD (get 0) poN (poS (get 2))) (op2 repD (tupD (acons (get 4) anil)) (cb intD (acons (op2 gtD (get 4) (con (.int 0))) anil)))) (slD (get 0) (poS (op2 addD (get 3) (con (.int 1)))) poN))))
def f_widths : M Fl :=
    (thenS s_widths_0 (thenS s_widths_1 s_widths_2))
def F_widths : List PyData → Option Wv := runA 2 5 f_widths
section
variable {P : Program} {w : World} {K : PySem.W.Frag} {mg : Str → Option Value} {base : Heap} {f : Addr} {fd : FuncData}
theorem dk_widths (F : Fun K "_law_widths" "_law_widths" S_widths f fd)  (B : Blt mg) : FnOk P w K mg base CX0 1 f fd P_widths (spA K F_widths) := by
  refine F.ok sc_widths (fun vs H Q E h => lenA h) (fun cdv A outer s H vs Q E hr h => ⟨_, (Evl.pss_cut (ps_par (i := 2) (j := 3) rfl sc_widths.nd rfl rfl (by decide) rfl rfl (pa_cons (pe_callB (call_max2 rfl) rfl B.max (by decide +kernel) (pa_cons pe_int (pa_cons (pe_op op_sub (pv 1) pe_int) pa_nil))) (pa_cons (pe_callB (call_min2 rfl) rfl B.min (by decide +kernel) (pa_cons (pe_op op_sub (pe_callB (k_len (K := K) rfl) rfl B.len PySem.boot_len (pa_cons (pv 0) pa_nil)) pe_int) (pa_cons (pe_op op_add (pv 1) pe_int) pa_nil))) pa_nil)) rfl)
      (Evl.pss_cut (ps_set (i := 4) sc_widths.nd rfl (by first | exact Or.inl rfl | exact Or.inr rfl) (pe_op op_sub (pe_callB (k_sumT (K := K) rfl rfl) rfl B.sum (by decide +kernel) (pa_cons (pe_slice (k_cut (K := K) rfl) (pv 0) (po_some (pv 2)) (po_some (pe_op op_add (pv 3) pe_int))) pa_nil)) pe_int))
      (pss_one (ps_ret (pe_op (k_catW (K := K) rfl) (pe_op (k_catW (K := K) rfl) (pe_slice (k_cut (K := K) rfl) (pv 0) po_none (po_some (pv 2))) (pe_op (k_rep (K := K) rfl) (pe_tup (pa_cons (pv 4) pa_nil)) (pe_callTy call_int1 rfl B.int (by decide +kernel) (pa_cons (pe_cmpR op_gt (pv 4) pe_int (nomark _)) pa_nil)))) (pe_slice (k_cut (K := K) rfl) (pv 0) (po_some (pe_op op_add (pv 3) pe_int)) po_none)))))), ?_⟩)
  exact finA (N := N_widths) (by unfold f_widths s_widths_2 s_widths_1 s_widths_0; exact (OkS.cut (OkS.par (fun z => by cases z) (OkE.w (OkE.cb ok_max (OkA.cons (OkE.con fun _ => .int _) (OkA.cons (OkE.op ok_sub (OkE.var 1) (OkE.con fun _ => .int _)) OkA.nil)))) (OkE.w (OkE.cb ok_min (OkA.cons (OkE.op ok_sub (OkE.cb ok_len (OkA.cons (OkE.var 0) OkA.nil)) (OkE.con fun _ => .int _)) (OkA.cons (OkE.op ok_add (OkE.var 1) (OkE.con fun _ => .int _)) OkA.nil)))))
      (OkS.cut (OkS.set (fun z => by cases z) (OkE.w (OkE.op ok_sub (OkE.cb ok_sumT (OkA.cons (OkE.sl (OkE.var 0) (OkP.some (OkE.var 2)) (OkP.some (OkE.op ok_add (OkE.var 3) (OkE.con fun _ => .int _)))) OkA.nil)) (OkE.con fun _ => .int _))))
      (OkS.ret (OkE.w (OkE.op ok_catT (OkE.op ok_catT (OkE.sl (OkE.var 0) OkP.none (OkP.some (OkE.var 2))) (OkE.op ok_rep (OkE.tup (OkA.cons (OkE.var 4) OkA.nil)) (OkE.cb ok_int (OkA.cons (OkE.op ok_gt (OkE.var 4) (OkE.con fun _ => .int _)) OkA.nil)))) (OkE.sl (OkE.var 0) (OkP.some (OkE.op ok_add (OkE.var 3) (OkE.con fun _ => .int _))) OkP.none))))))) h
end
def s_walked_0 : M Fl :=
    (frzN 1 (setS 1 (dispN (tupD (acons (op2 repD (tupD (acons (con (.int 1)) anil)) (get 0)) (acons (con (.int 1)) anil))) (con (.int 1)))))
def b_walked_1 : M Fl :=
    (thenS (setS 3 dnewN)
    (thenS (forS (keysN 1) (gT (gsC (gN 4) (gsC (gN 5) gsN))) (forS (argI enumD (acons (get 4) anil)) (gT (gsC (gN 6) (gsC (gN 7) gsN))) (thenS (setS 8 (pl (tupD (acons (fz (callA F_widths (acons (get 4) (acons (get 6) anil)))) (acons (op2 mulD (get 5) (get 7)) anil)))))
    (dputN 3 (get 8) (op2 addD (dget2N 3 (get 8) (con (.int 0))) (dgN 1 (tupD (acons (get 4) (acons (get 5) anil)))))))))
    (preN 3 (setS 1 (cpNd 3)))))
def s_walked_1 : M Fl :=
    (forS (argI rngD (acons (get 0) anil)) (gN 2) b_walked_1)
def s_walked_2 : M Fl :=
    (setS 9 dnewI)
def b_walked_3 : M Fl :=
    (dputI 9 (get 5) (op2 addD (dget2I 9 (get 5) (con (.int 0))) (dgN 1 (tupD (acons (get 4) (acons (get 5) anil))))))
def s_walked_3 : M Fl :=
    (forS (keysN 1) (gT (gsC (gN 4) (gsC (gN 5) gsN))) b_walked_3)
def s_walked_4 : M Fl :=
    (retS (pl (srtItI 9)))
def f_walked : M Fl :=
    (thenS s_walked_0 (thenS s_walked_1 (thenS s_walked_2 (thenS s_walked_3 s_walked_4))))
def F_walked : List PyData → Option Wv := runA 1 10 f_walked
section
variable {P : Program} {w : World} {K : PySem.W.Frag} {mg : Str → Option Value} {base : Heap} {f : Addr} {fd : FuncData}
theorem dk_walked (F : Fun K "_law_walked" "_law_walked" S_walked f fd) {g_widths : Addr} {d_widths : FuncData} (G_widths : FnOk P w K mg base CX0 1 g_widths d_widths P_widths (spA K F_widths)) (b_widths : Binds K d_widths P_widths []) (k_widths : PySem.W.keepIn K (.ref g_widths) = true) (m_widths : mg "_law_widths" = some (.ref g_widths)) (B : Blt mg) : FnOk P w K mg base CX0 2 f fd P_walked (spA K F_walked) := by
  refine F.ok sc_walked (fun vs H Q E h => lenA h) (fun cdv A outer s H vs Q E hr h => ⟨_, (Evl.pss_cut (ps_set (i := 1) sc_walked.nd rfl (by first | exact Or.inl rfl | exact Or.inr rfl) (pe_dispN (units65 hr) (pe_tup (pa_cons (pe_op (k_rep (K := K) rfl) (pe_tup (pa_cons pe_int pa_nil)) (pv 0)) (pa_cons pe_int pa_nil))) pe_int))
      (Evl.pss_cut (ps_for PassesOwn.never rfl (pi_range1 rfl B.range (pa_cons (pv 0) pa_nil)) (pg_name (i := 2) sc_walked.nd rfl (by first | exact Or.inl rfl | exact Or.inr rfl))
      (Evl.pss_cut (ps_set (i := 3) sc_walked.nd rfl (by first | exact Or.inl rfl | exact Or.inr rfl) pe_dnewN)
      (Evl.pss_cut (ps_for PassesOwn.never rfl (pi_keysN (pv 1)) (pg_tup rfl (pgs_cons (pg_name (i := 4) sc_walked.nd rfl (by first | exact Or.inl rfl | exact Or.inr rfl)) (pgs_cons (pg_name (i := 5) sc_walked.nd rfl (by first | exact Or.inl rfl | exact Or.inr rfl)) pgs_nil)))
      (pss_one (ps_for PassesOwn.never rfl (k_enW (K := K) rfl rfl B.enumerate (pa_cons (pv 4) pa_nil)) (pg_tup rfl (pgs_cons (pg_name (i := 6) sc_walked.nd rfl (by first | exact Or.inl rfl | exact Or.inr rfl)) (pgs_cons (pg_name (i := 7) sc_walked.nd rfl (by first | exact Or.inl rfl | exact Or.inr rfl)) pgs_nil)))
      (Evl.pss_cut (ps_set (i := 8) sc_walked.nd rfl (by first | exact Or.inl rfl | exact Or.inr rfl) (pe_tup (pa_cons (pe_call G_widths (hr.mono (by decide)) rfl m_widths k_widths b_widths .nil pass0 (pa_cons (pv 4) (pa_cons (pv 6) pa_nil))) (pa_cons (pe_op op_mul (pv 5) (pv 7)) pa_nil))))
      (pss_one (ps_dputN (units65 hr) (pv 3) (pv 8) (pe_op op_add (pe_dget2N (units65 hr) (pv 3) (pv 8) pe_int ⟨rfl, rfl, rfl, rfl⟩) (pe_dgetN (units65 hr) (pv 1) (pe_tup (pa_cons (pv 4) (pa_cons (pv 5) pa_nil))) (fun _ _ => rfl))) rfl))))))
      (pss_one (ps_set (i := 1) sc_walked.nd rfl (by first | exact Or.inl rfl | exact Or.inr rfl) (pv 3))))))
      (Evl.pss_cut (ps_set (i := 9) sc_walked.nd rfl (by first | exact Or.inl rfl | exact Or.inr rfl) pe_dnewK)
      (Evl.pss_cut (ps_for PassesOwn.never rfl (pi_keysN (pv 1)) (pg_tup rfl (pgs_cons (pg_name (i := 4) sc_walked.nd rfl (by first | exact Or.inl rfl | exact Or.inr rfl)) (pgs_cons (pg_name (i := 5) sc_walked.nd rfl (by first | exact Or.inl rfl | exact Or.inr rfl)) pgs_nil)))
      (pss_one (ps_dput (hu_of hr) (pv 9) (pv 5) (pe_op op_add (pe_dget2 (hu_of hr) (pv 9) (pv 5) pe_int ⟨rfl, rfl, rfl, rfl⟩) (pe_dgetN (units65 hr) (pv 1) (pe_tup (pa_cons (pv 4) (pa_cons (pv 5) pa_nil))) (fun _ _ => rfl))) rfl)))
      (pss_one (ps_ret (pe_callB (k_sortItI rfl) rfl B.sorted (by decide +kernel) (pa_cons (k_bm0 (K := K) rfl PySem.F.plainAttrs_dict PySem.F.slot_dict_items PySem.F.type_dict_items mt_itemsI (pv 9)) pa_nil)))))))), ?_⟩)
  exact finA (N := N_walked) (by unfold f_walked s_walked_4 s_walked_3 b_walked_3 s_walked_2 s_walked_1 b_walked_1 s_walked_0; exact (OkS.cut (OkS.frzN (OkS.set (fun z => by cases z) (OkW.dispN (OkE.tup (OkA.cons (OkE.op ok_rep (OkE.tup (OkA.cons (OkE.con fun _ => .int _) OkA.nil)) (OkE.var 0)) (OkA.cons (OkE.con fun _ => .int _) OkA.nil))) (OkE.con fun _ => .int _))))
      (OkS.cut (OkS.for (OkI.range1 (OkA.cons (OkE.var 0) OkA.nil)) (OkG.name 2) (fun z => by cases z) (OkS.cut (OkS.set (fun z => by cases z) OkW.dnewN)
      (OkS.cut (OkS.for (OkI.keysN (i := 1)) (OkG.tup (OkGs.cons (OkG.name 4) (OkGs.cons (OkG.name 5) OkGs.nil))) (fun z => by cases z) (OkS.for (OkI.enum (OkA.cons (OkE.var 4) OkA.nil)) (OkG.tup (OkGs.cons (OkG.name 6) (OkGs.cons (OkG.name 7) OkGs.nil))) (fun z => by cases z) (OkS.cut (OkS.set (fun z => by cases z) (OkE.w (OkE.tup (OkA.cons (OkW.e (OkW.call (OkA.cons (OkE.var 4) (OkA.cons (OkE.var 6) OkA.nil)))) (OkA.cons (OkE.op ok_mul (OkE.var 5) (OkE.var 7)) OkA.nil)))))
      (OkS.dputN (OkE.var 8) (OkE.op ok_add (OkE.dget2N (i := 3) (OkE.var 8) (OkE.con fun _ => .int _)) (OkE.dgN (i := 1) (OkE.tup (OkA.cons (OkE.var 4) (OkA.cons (OkE.var 5) OkA.nil)))))))))
      (OkS.preN (i := 3) (OkS.set (fun z => by cases z) (OkW.cpNd (i := 3)))))))
      (OkS.cut (OkS.set (fun z => by cases z) OkW.dnewI)
      (OkS.cut (OkS.for (OkI.keysN (i := 1)) (OkG.tup (OkGs.cons (OkG.name 4) (OkGs.cons (OkG.name 5) OkGs.nil))) (fun z => by cases z) (OkS.dputI (OkE.var 5) (OkE.op ok_add (OkE.dget2I (i := 9) (OkE.var 5) (OkE.con fun _ => .int _)) (OkE.dgN (i := 1) (OkE.tup (OkA.cons (OkE.var 4) (OkA.cons (OkE.var 5) OkA.nil)))))))
      (OkS.ret (OkE.w (OkE.srtItI (i := 9))))))))) h
end
def s_right_0 : M Fl :=
    (setS 1 (pl (fz (callB 0 (F_take 2) (acons (con (.int 6)) anil)))))
def s_right_1 : M Fl :=
    (setS 2 dnewN)
def b_right_2 : M Fl :=
    (thenS (setS 4 (pl (fz (callA F_runs (acons (get 3) anil)))))
    (dputN 2 (get 4) (op2 addD (dget2N 2 (get 4) (con (.int 0))) (con (.int 1)))))
def s_right_2 : M Fl :=
    (forS (seqI (fz (callA F_orders (acons (lrE (rg2 (con (.int 1)) (op2 addD (get 1) (con (.int 1))))) anil)))) (gN 3) b_right_2)
def s_right_3 : M Fl :=
    (setS 5 (pl (srtVN 2)))
def s_right_4 : M Fl :=
    (setS 6 (pl (fz (lcW (seqI (cb sortSetI (acons (get 5) anil))) (gN 7) yesT (tupD (acons (get 7) (acons (rmE cntID (get 5) (acons (get 7) anil)) anil))) [7]))))
def s_right_5 : M Fl :=
    (setS 8 (lstN (wcons (callA F_lot_sizes (acons (get 1) anil)) (wcons (callA (fun ds => if ds.length = 1 then F_lot_sizes ([0].map fun i => ds.getD i .none) else none) (acons (get 1) anil)) wnil))))
def s_right_6 : M Fl :=
    (ifS (orT (notT (tb1 (fz (callA (F_same 5) (acons (lstD (acons (fz (callA F_count_lots (acons (get 1) anil))) (acons (fz (callA (fun ds => if ds.length = 1 then F_count_lots ([0].map fun i => ds.getD i .none) else none) (acons (get 1) anil))) anil))) (acons (repW (lstW (acons (lenNd 2) anil)) (con (.int 2))) anil)))))) (notT (tb1 (fz (callV (F_same 5) (acons (get 8) (acons (lstD (acons (get 6) (acons (get 6) anil))) anil))))))) (retS (pl (con (.bool false)))) nxt)
def s_right_7 : M Fl :=
    (exprS (mthN 8 0 appD [.str "more"]))
def s_right_8 : M Fl :=
    (ifS (notT (tb1 (fz (callA (F_same 5) (acons (fz (callA F_lot_sizes (acons (get 1) anil))) (acons (get 6) anil)))))) (retS (pl (con (.bool false)))) nxt)
def s_right_9 : M Fl :=
    (setS 9 (pl (fz (lcW (argI rngD (acons (con (.int 17)) anil)) (gN 10) yesT (fz (callA F_count_lots (acons (get 10) anil))) [10]))))
def s_right_10 : M Fl :=
    (ifS (tb1 (op2 (eqvD true) (slD (get 9) poN (poS (con (.int 2)))) (lstD (acons (con (.int 1)) (acons (con (.int 1)) anil))))) (retS (pl (con (.bool false)))) nxt)
def b_right_11 : M Fl :=
    (ifS (tb1 (op2 (eqA true) (op2 ixD (get 9) (get 10)) (op2 addD (op2 mulD (con (.int 2)) (op2 ixD (get 9) (op2 subD (get 10) (con (.int 1))))) (op2 mulD (op2 subD (get 10) (con (.int 2))) (op2 ixD (get 9) (op2 subD (get 10) (con (.int 2)))))))) (retS (pl (con (.bool false)))) nxt)
def s_right_11 : M Fl :=
    (forS (argI rngD2 (acons (con (.int 2)) (acons (con (.int 17)) anil))) (gN 10) b_right_11)
def s_right_12 : M Fl :=
    (setS 11 (pl (fz (callB 0 (F_take 2) (acons (con (.int 9)) anil)))))
def s_right_13 : M Fl :=
    (setS 6 (pl (fz (callA F_walked (acons (get 11) anil)))))
def s_right_14 : M Fl :=
    (retS (pl (andV (fz (callA (F_same 5) (acons (fz (callA F_lot_sizes (acons (get 11) anil))) (acons (get 6) anil)))) (op2 (eqA false) (cb sumD (acons (fz (lcW (seqI (get 6)) (gT (gsC (gN 7) (gsC (gN 12) gsN))) yesT (get 12) [7, 12])) anil)) (op2 ixD (get 9) (get 11))))))
def f_right : M Fl :=
    (thenS s_right_0 (thenS s_right_1 (thenS s_right_2 (thenS s_right_3 (thenS s_right_4 (thenS s_right_5 (thenS s_right_6 (thenS s_right_7 (thenS s_right_8 (thenS s_right_9 (thenS s_right_10 (thenS s_right_11 (thenS s_right_12 (thenS s_right_13 s_right_14))))))))))))))
def F_right : List PyData → List PyData → Option (Wv × List PyData) := runB 1 13 f_right
section
variable {P : Program} {w : World} {K : PySem.W.Frag} {mg : Str → Option Value} {base : Heap} {f : Addr} {fd : FuncData}
theorem dk_right (F : Fun K "_law_right" "_law_right" S_right f fd) {g_take : Addr} {d_take : FuncData} (G_take : FnOk P w K mg base CX0 2 g_take d_take P_take (spB K (F_take 2))) (b_take : Binds K d_take P_take []) (k_take : PySem.W.keepIn K (.ref g_take) = true) (m_take : mg "_law_take" = some (.ref g_take)) {g_orders : Addr} {d_orders : FuncData} (G_orders : FnOk P w K mg base CX0 1 g_orders d_orders P_orders (spA K F_orders)) (b_orders : Binds K d_orders P_orders []) (k_orders : PySem.W.keepIn K (.ref g_orders) = true) (m_orders : mg "_law_orders" = some (.ref g_orders)) {g_runs : Addr} {d_runs : FuncData} (G_runs : FnOk P w K mg base CX0 3 g_runs d_runs P_runs (spA K F_runs)) (b_runs : Binds K d_runs P_runs []) (k_runs : PySem.W.keepIn K (.ref g_runs) = true) (m_runs : mg "_law_runs" = some (.ref g_runs)) {g_lot_sizes : Addr} {d_lot_sizes : FuncData} (G_lot_sizes : FnOk P w K mg base CX0 4 g_lot_sizes d_lot_sizes P_lot_sizes (spA K F_lot_sizes)) (b_lot_sizes : Binds K d_lot_sizes P_lot_sizes []) (k_lot_sizes : PySem.W.keepIn K (.ref g_lot_sizes) = true) (m_lot_sizes : mg "lot_sizes" = some (.ref g_lot_sizes)) (q_lot_sizes_0 : KBn K d_lot_sizes P_lot_sizes 0 ["many"] (fun _ ws => [0].map fun i => ws.getD i .none) (fun _ zs => [0].map fun i => zs.getD i .non)) {g_count_lots : Addr} {d_count_lots : FuncData} (G_count_lots : FnOk P w K mg base CX0 1 g_count_lots d_count_lots P_count_lots (spA K F_count_lots)) (b_count_lots : Binds K d_count_lots P_count_lots []) (k_count_lots : PySem.W.keepIn K (.ref g_count_lots) = true) (m_count_lots : mg "count_lots" = some (.ref g_count_lots)) (q_count_lots_0 : KBn K d_count_lots P_count_lots 0 ["many"] (fun _ ws => [0].map fun i => ws.getD i .none) (fun _ zs => [0].map fun i => zs.getD i .non)) {g_same : Addr} {d_same : FuncData} (G_same : FnOk P w K mg base CX0 5 g_same d_same P_same (spA K (F_same 5))) (b_same : Binds K d_same P_same []) (k_same : PySem.W.keepIn K (.ref g_same) = true) (m_same : mg "_law_same" = some (.ref g_same)) {g_walked : Addr} {d_walked : FuncData} (G_walked : FnOk P w K mg base CX0 2 g_walked d_walked P_walked (spA K F_walked)) (b_walked : Binds K d_walked P_walked []) (k_walked : PySem.W.keepIn K (.ref g_walked) = true) (m_walked : mg "_law_walked" = some (.ref g_walked)) (B : Blt mg) : FnOk P w K mg base CX0 6 f fd P_right (spB K F_right) := by
  refine F.ok sc_right (fun vs H Q E h => lenB h) (fun cdv A outer s H vs Q E hr h => ⟨_, (Evl.pss_cut (ps_set (i := 1) sc_right.nd rfl (by first | exact Or.inl rfl | exact Or.inr rfl) (pe_call G_take (hr.mono (by decide)) rfl m_take k_take b_take .nil pass0 (pa_cons (pv 0) (pa_cons pe_int pa_nil))))
      (Evl.pss_cut (ps_set (i := 2) sc_right.nd rfl (by first | exact Or.inl rfl | exact Or.inr rfl) pe_dnewN)
      (Evl.pss_cut (ps_for PassesOwn.never rfl (k_seq (K := K) rfl (pe_call G_orders (hr.mono (by decide)) rfl m_orders k_orders b_orders .nil pass0 (pa_cons (pe_listRg rfl rfl B.list (prg_2 rfl B.range pe_int (pe_op op_add (pv 1) pe_int))) pa_nil))) (pg_name (i := 3) sc_right.nd rfl (by first | exact Or.inl rfl | exact Or.inr rfl))
      (Evl.pss_cut (ps_set (i := 4) sc_right.nd rfl (by first | exact Or.inl rfl | exact Or.inr rfl) (pe_call G_runs (hr.mono (by decide)) rfl m_runs k_runs b_runs .nil pass0 (pa_cons (pv 3) pa_nil)))
      (pss_one (ps_dputN (units65 hr) (pv 2) (pv 4) (pe_op op_add (pe_dget2N (units65 hr) (pv 2) (pv 4) pe_int ⟨rfl, rfl, rfl, rfl⟩) pe_int) rfl))))
      (Evl.pss_cut (ps_set (i := 5) sc_right.nd rfl (by first | exact Or.inl rfl | exact Or.inr rfl) (pe_sortVN rfl rfl B.sorted (pv 2)))
      (Evl.pss_cut (by first | exact (ps_setLc (i := 6) (own := [("_law_size", 7)]) (g := (gName 7)) rfl sc_right.nd rfl rfl (sw_true rfl rfl rfl (by decide +kernel)) (k_seq (K := K) rfl (pe_callB (cr_sortedSet rfl) rfl B.sorted (by decide +kernel) (pa_cons (pe_callTy (k_setI (K := K) rfl rfl hr.units) rfl B.set (by decide +kernel) (pa_cons (pv 5) pa_nil)) pa_nil))) (blkOk_by (own := [("_law_size", 7)]) (N := ["_law_box_here", "_law_count", "_law_lots", "_law_crowd", "_law_key_so", "_law_sizes", "_law_due", "_law_size", "_law_told", "_law_some", "_law_k", "_law_wide", "_law_lots_so"]) (sc := defScope S_right) (by decide +kernel)) (fun _ _ _ _ _ => by exact (pg_name (i := 7) sc_right.nd rfl (by first | exact Or.inl rfl | exact Or.inr rfl))) (fun _ _ _ _ _ => pts_nil) (fun _ _ _ _ _ => (pe_tup (pa_cons (pv 7) (pa_cons (k_bm (K := K) rfl PySem.F.plainAttrs_list PySem.F.slot_list_count PySem.F.type_list_count (k_cntI (K := K) rfl) (pv 5) (pa_cons (pv 7) pa_nil)) pa_nil))))) | exact (ps_set (i := 6) sc_right.nd rfl (by first | exact Or.inl rfl | exact Or.inr rfl) (pe_lc (own := [("_law_size", 7)]) (g := (gName 7)) rfl sc_right.nd (k_seq (K := K) rfl (pe_callB (cr_sortedSet rfl) rfl B.sorted (by decide +kernel) (pa_cons (pe_callTy (k_setI (K := K) rfl rfl hr.units) rfl B.set (by decide +kernel) (pa_cons (pv 5) pa_nil)) pa_nil))) (blkOk_by (own := [("_law_size", 7)]) (N := ["_law_box_here", "_law_count", "_law_lots", "_law_crowd", "_law_key_so", "_law_sizes", "_law_due", "_law_size", "_law_told", "_law_some", "_law_k", "_law_wide", "_law_lots_so"]) (sc := defScope S_right) (by decide +kernel)) (fun _ _ _ _ _ => by exact (pg_name (i := 7) sc_right.nd rfl (by first | exact Or.inl rfl | exact Or.inr rfl))) (fun _ _ _ _ _ => pts_nil) (fun _ _ _ _ _ => (pe_tup (pa_cons (pv 7) (pa_cons (k_bm (K := K) rfl PySem.F.plainAttrs_list PySem.F.slot_list_count PySem.F.type_list_count (k_cntI (K := K) rfl) (pv 5) (pa_cons (pv 7) pa_nil)) pa_nil)))))))
      (Evl.pss_cut (ps_set (i := 8) sc_right.nd rfl (by first | exact Or.inl rfl | exact Or.inr rfl) (pe_lst (pa_cons (pe_call G_lot_sizes (hr.mono (by decide)) rfl m_lot_sizes k_lot_sizes b_lot_sizes .nil pass0 (pa_cons (pv 1) pa_nil)) (pa_cons (pe_callK0 G_lot_sizes (hr.mono (by decide)) rfl m_lot_sizes k_lot_sizes q_lot_sizes_0 pass0 (pk_cons (pv 1) pk_nil)) pa_nil))))
      (Evl.pss_cut (ps_if (PW.pt (pw_or (pt_not (pt_val (pe_call G_same (hr.mono (by decide)) rfl m_same k_same b_same .nil pass0 (pa_cons (pe_lst (pa_cons (pe_call G_count_lots (hr.mono (by decide)) rfl m_count_lots k_count_lots b_count_lots .nil pass0 (pa_cons (pv 1) pa_nil)) (pa_cons (pe_callK0 G_count_lots (hr.mono (by decide)) rfl m_count_lots k_count_lots q_count_lots_0 pass0 (pk_cons (pv 1) pk_nil)) pa_nil))) (pa_cons (pe_op op_rep (pe_lst (pa_cons (pe_callB cr_lenN rfl B.len PySem.boot_len (pa_cons (pv 2) pa_nil)) pa_nil)) pe_int) pa_nil))))) (pw_or1 (pt_not (pt_val (pe_call G_same (hr.mono (by decide)) rfl m_same k_same b_same .nil pass0 (pa_cons (pv 8) (pa_cons (pe_lst (pa_cons (pv 6) (pa_cons (pv 6) pa_nil))) pa_nil)))))))) (pss_one (ps_ret pe_bl)) pss_nil)
      (Evl.pss_cut (ps_expr (k_bm (K := K) rfl PySem.F.plainAttrs_list PySem.F.slot_list_append PySem.F.type_list_append mt_append (pe_ix (k_ix (K := K) rfl) (pv 8) pe_int (fun _ _ => rfl)) (pa_cons pe_str pa_nil)))
      (Evl.pss_cut (ps_if (pt_not (pt_val (pe_call G_same (hr.mono (by decide)) rfl m_same k_same b_same .nil pass0 (pa_cons (pe_call G_lot_sizes (hr.mono (by decide)) rfl m_lot_sizes k_lot_sizes b_lot_sizes .nil pass0 (pa_cons (pv 1) pa_nil)) (pa_cons (pv 6) pa_nil))))) (pss_one (ps_ret pe_bl)) pss_nil)
      (Evl.pss_cut (by first | exact (ps_setLc (i := 9) (own := [("_law_k", 10)]) (g := (gName 10)) rfl sc_right.nd rfl rfl (sw_true rfl rfl rfl (by decide +kernel)) (pi_range1 rfl B.range (pa_cons pe_int pa_nil)) (blkOk_by (own := [("_law_k", 10)]) (N := ["_law_box_here", "_law_count", "_law_lots", "_law_crowd", "_law_key_so", "_law_sizes", "_law_due", "_law_size", "_law_told", "_law_some", "_law_k", "_law_wide", "_law_lots_so"]) (sc := defScope S_right) (by decide +kernel)) (fun _ _ _ _ _ => by exact (pg_name (i := 10) sc_right.nd rfl (by first | exact Or.inl rfl | exact Or.inr rfl))) (fun _ _ _ _ _ => pts_nil) (fun _ _ _ _ _ => (pe_call G_count_lots (hr.mono (by decide)) rfl m_count_lots k_count_lots b_count_lots .nil pass0 (pa_cons (pv 10) pa_nil)))) | exact (ps_set (i := 9) sc_right.nd rfl (by first | exact Or.inl rfl | exact Or.inr rfl) (pe_lc (own := [("_law_k", 10)]) (g := (gName 10)) rfl sc_right.nd (pi_range1 rfl B.range (pa_cons pe_int pa_nil)) (blkOk_by (own := [("_law_k", 10)]) (N := ["_law_box_here", "_law_count", "_law_lots", "_law_crowd", "_law_key_so", "_law_sizes", "_law_due", "_law_size", "_law_told", "_law_some", "_law_k", "_law_wide", "_law_lots_so"]) (sc := defScope S_right) (by decide +kernel)) (fun _ _ _ _ _ => by exact (pg_name (i := 10) sc_right.nd rfl (by first | exact Or.inl rfl | exact Or.inr rfl))) (fun _ _ _ _ _ => pts_nil) (fun _ _ _ _ _ => (pe_call G_count_lots (hr.mono (by decide)) rfl m_count_lots k_count_lots b_count_lots .nil pass0 (pa_cons (pv 10) pa_nil))))))
      (Evl.pss_cut (ps_if (pt_cmpR (k_neD (K := K) rfl hr.units) (pe_slice (k_cut (K := K) rfl) (pv 9) po_none (po_some pe_int)) (pe_lst (pa_cons pe_int (pa_cons pe_int pa_nil))) (nomark _)) (pss_one (ps_ret pe_bl)) pss_nil)
      (Evl.pss_cut (ps_for PassesOwn.never rfl (pi_range2 rfl B.range (pa_cons pe_int (pa_cons pe_int pa_nil))) (pg_name (i := 10) sc_right.nd rfl (by first | exact Or.inl rfl | exact Or.inr rfl))
      (pss_one (ps_if (pt_cmpR op_ne (pe_ix (k_ix (K := K) rfl) (pv 9) (pv 10) (fun _ _ => rfl)) (pe_op op_add (pe_op op_mul pe_int (pe_ix (k_ix (K := K) rfl) (pv 9) (pe_op op_sub (pv 10) pe_int) (fun _ _ => rfl))) (pe_op op_mul (pe_op op_sub (pv 10) pe_int) (pe_ix (k_ix (K := K) rfl) (pv 9) (pe_op op_sub (pv 10) pe_int) (fun _ _ => rfl)))) (nomark _)) (pss_one (ps_ret pe_bl)) pss_nil)))
      (Evl.pss_cut (ps_set (i := 11) sc_right.nd rfl (by first | exact Or.inl rfl | exact Or.inr rfl) (pe_call G_take (hr.mono (by decide)) rfl m_take k_take b_take .nil pass0 (pa_cons (pv 0) (pa_cons pe_int pa_nil))))
      (Evl.pss_cut (ps_set (i := 6) sc_right.nd rfl (by first | exact Or.inl rfl | exact Or.inr rfl) (pe_call G_walked (hr.mono (by decide)) rfl m_walked k_walked b_walked .nil pass0 (pa_cons (pv 11) pa_nil)))
      (pss_one (ps_ret (pe_and (pe_call G_same (hr.mono (by decide)) rfl m_same k_same b_same .nil pass0 (pa_cons (pe_call G_lot_sizes (hr.mono (by decide)) rfl m_lot_sizes k_lot_sizes b_lot_sizes .nil pass0 (pa_cons (pv 11) pa_nil)) (pa_cons (pv 6) pa_nil))) (pe_one (pe_cmpR op_eq (pe_callB (k_sum (K := K) rfl rfl) rfl B.sum (by decide +kernel) (pa_cons (pe_lc (own := [("_law_size", 7), ("_law_lots_so", 12)]) (g := (gTup K 2 (gCons (gName 7) (gCons (gName 12) gNil)))) rfl sc_right.nd (k_seq (K := K) rfl (pv 6)) (blkOk_by (own := [("_law_size", 7), ("_law_lots_so", 12)]) (N := ["_law_box_here", "_law_count", "_law_lots", "_law_crowd", "_law_key_so", "_law_sizes", "_law_due", "_law_size", "_law_told", "_law_some", "_law_k", "_law_wide", "_law_lots_so"]) (sc := defScope S_right) (by decide +kernel)) (fun _ _ _ _ _ => by exact (pg_tup rfl (pgs_cons (pg_name (i := 7) sc_right.nd rfl (by first | exact Or.inl rfl | exact Or.inr rfl)) (pgs_cons (pg_name (i := 12) sc_right.nd rfl (by first | exact Or.inl rfl | exact Or.inr rfl)) pgs_nil)))) (fun _ _ _ _ _ => pts_nil) (fun _ _ _ _ _ => (pv 12))) pa_nil)) (pe_ix (k_ix (K := K) rfl) (pv 9) (pv 11) (fun _ _ => rfl)) (nomark _)))))))))))))))))))), ?_⟩)
  exact finB (N := N_right) (by unfold f_right s_right_14 s_right_13 s_right_12 s_right_11 b_right_11 s_right_10 s_right_9 s_right_8 s_right_7 s_right_6 s_right_5 s_right_4 s_right_3 s_right_2 b_right_2 s_right_1 s_right_0; exact (OkS.cut (OkS.set (fun _ => by decide) (OkE.w (OkW.e (OkW.callB (OkA.cons (OkE.con fun _ => .int _) OkA.nil)))))
      (OkS.cut (OkS.set (fun _ => by decide) OkW.dnewN)
      (OkS.cut (OkS.for (OkI.seq (OkW.e (OkW.call (OkA.cons (OkE.lstRg2 (OkE.con fun _ => .int _) (OkE.op ok_add (OkE.var 1) (OkE.con fun _ => .int _))) OkA.nil)))) (OkG.name 3) (fun _ => by decide) (OkS.cut (OkS.set (fun _ => by decide) (OkE.w (OkW.e (OkW.call (OkA.cons (OkE.var 3) OkA.nil)))))
      (OkS.dputN (OkE.var 4) (OkE.op ok_add (OkE.dget2N (i := 2) (OkE.var 4) (OkE.con fun _ => .int _)) (OkE.con fun _ => .int _)))))
      (OkS.cut (OkS.set (fun _ => by decide) (OkE.w (OkE.srtVN (i := 2))))
      (OkS.cut (OkS.set (fun _ => by decide) (OkE.w (OkW.e (OkW.lc (vs := [7]) (OkI.seq (OkE.sortSetI (OkA.cons (OkE.var 5) OkA.nil))) (OkG.name 7) (by decide) OkT.yes (OkE.tup (OkA.cons (OkE.var 7) (OkA.cons (OkE.rm ok_cntI (OkE.var 5) (OkA.cons (OkE.var 7) OkA.nil)) OkA.nil)))))))
      (OkS.cut (OkS.set (fun _ => by decide) (OkW.lstN (OkV.cons (OkW.call (OkA.cons (OkE.var 1) OkA.nil)) (OkV.cons (OkW.callK (n := 1) (gD := fun ds => [0].map fun i => ds.getD i .none) (kw_da (by decide)) (OkA.cons (OkE.var 1) OkA.nil)) OkV.nil))))
      (OkS.cut (OkS.ife (OkT.or (OkT.not (OkT.val (OkW.e (OkW.call (OkA.cons (OkE.lst (OkA.cons (OkW.e (OkW.call (OkA.cons (OkE.var 1) OkA.nil))) (OkA.cons (OkW.e (OkW.callK (n := 1) (gD := fun ds => [0].map fun i => ds.getD i .none) (kw_da (by decide)) (OkA.cons (OkE.var 1) OkA.nil))) OkA.nil))) (OkA.cons (okE_repW (OkW.lst (OkA.cons (OkE.lenNd (i := 2)) OkA.nil)) (OkE.con fun _ => .int _)) OkA.nil)))))) (OkT.not (OkT.val (OkW.e (OkW.callV (OkA.cons (OkE.var 8) (OkA.cons (OkE.lst (OkA.cons (OkE.var 6) (OkA.cons (OkE.var 6) OkA.nil))) OkA.nil))))))) (OkS.ret (OkE.w (OkE.con fun _ => .bl _))) OkS.nil)
      (OkS.cut (OkS.expr (OkE.mthN (i := 8) (k := 0) ok_app fun _ => .str _))
      (OkS.cut (OkS.ife (OkT.not (OkT.val (OkW.e (OkW.call (OkA.cons (OkW.e (OkW.call (OkA.cons (OkE.var 1) OkA.nil))) (OkA.cons (OkE.var 6) OkA.nil)))))) (OkS.ret (OkE.w (OkE.con fun _ => .bl _))) OkS.nil)
      (OkS.cut (OkS.set (fun _ => by decide) (OkE.w (OkW.e (OkW.lc (vs := [10]) (OkI.range1 (OkA.cons (OkE.con fun _ => .int _) OkA.nil)) (OkG.name 10) (by decide) OkT.yes (OkW.e (OkW.call (OkA.cons (OkE.var 10) OkA.nil)))))))
      (OkS.cut (OkS.ife (OkT.test (OkE.op ok_neD (OkE.sl (OkE.var 9) OkP.none (OkP.some (OkE.con fun _ => .int _))) (OkE.lst (OkA.cons (OkE.con fun _ => .int _) (OkA.cons (OkE.con fun _ => .int _) OkA.nil))))) (OkS.ret (OkE.w (OkE.con fun _ => .bl _))) OkS.nil)
      (OkS.cut (OkS.for (OkI.range2 (OkA.cons (OkE.con fun _ => .int _) (OkA.cons (OkE.con fun _ => .int _) OkA.nil))) (OkG.name 10) (fun _ => by decide) (OkS.ife (OkT.test (OkE.op ok_ne (OkE.op ok_ix (OkE.var 9) (OkE.var 10)) (OkE.op ok_add (OkE.op ok_mul (OkE.con fun _ => .int _) (OkE.op ok_ix (OkE.var 9) (OkE.op ok_sub (OkE.var 10) (OkE.con fun _ => .int _)))) (OkE.op ok_mul (OkE.op ok_sub (OkE.var 10) (OkE.con fun _ => .int _)) (OkE.op ok_ix (OkE.var 9) (OkE.op ok_sub (OkE.var 10) (OkE.con fun _ => .int _))))))) (OkS.ret (OkE.w (OkE.con fun _ => .bl _))) OkS.nil))
      (OkS.cut (OkS.set (fun _ => by decide) (OkE.w (OkW.e (OkW.callB (OkA.cons (OkE.con fun _ => .int _) OkA.nil)))))
      (OkS.cut (OkS.set (fun _ => by decide) (OkE.w (OkW.e (OkW.call (OkA.cons (OkE.var 11) OkA.nil)))))
      (OkS.ret (OkE.w (OkE.and (OkW.e (OkW.call (OkA.cons (OkW.e (OkW.call (OkA.cons (OkE.var 11) OkA.nil))) (OkA.cons (OkE.var 6) OkA.nil)))) (OkE.op ok_eq (OkE.cb ok_sum (OkA.cons (OkW.e (OkW.lc (vs := [7, 12]) (OkI.seq (OkE.var 6)) (OkG.tup (OkGs.cons (OkG.name 7) (OkGs.cons (OkG.name 12) OkGs.nil))) (by decide) OkT.yes (OkE.var 12))) OkA.nil)) (OkE.op ok_ix (OkE.var 9) (OkE.var 11))))))))))))))))))))) h
end
def f_law : M Fl :=
    (retS (pl (cb allD (acons (fz (lcW (argI rngD (acons (op2 addD (con (.int 1)) (cb minD (acons (con (.int 3)) (acons (cb lenD (acons (get 0) anil)) anil)))) anil)) (gN 1) yesT (fz (callBt F_right (callA F_box (acons (get 0) (acons (get 1) anil))))) [1])) anil))))
def F_law : List PyData → Option Wv := runA 1 2 f_law
section
variable {P : Program} {w : World} {K : PySem.W.Frag} {mg : Str → Option Value} {base : Heap} {f : Addr} {fd : FuncData}
theorem dk_law (F : Fun K "law" "law" S_law f fd) {g_box : Addr} {d_box : FuncData} (G_box : FnOk P w K mg base CX0 2 g_box d_box P_box (spA K F_box)) (b_box : Binds K d_box P_box []) (k_box : PySem.W.keepIn K (.ref g_box) = true) (m_box : mg "_law_box" = some (.ref g_box)) {g_right : Addr} {d_right : FuncData} (G_right : FnOk P w K mg base CX0 6 g_right d_right P_right (spB K F_right)) (b_right : Binds K d_right P_right []) (k_right : PySem.W.keepIn K (.ref g_right) = true) (m_right : mg "_law_right" = some (.ref g_right)) (B : Blt mg) : FnG P w K mg base 7 f fd P_law (spA K F_law) := by
  refine Ov.Fun.okG F sc_law (fun vs H Q E h => lenA h) (fun cdv A outer s H vs Q E hG hr h => ⟨_, (pss_one (ps_ret (pe_callB (k_all (K := K) rfl rfl) rfl B.all (by decide +kernel) (pa_cons (pe_lc (own := [("_law_k", 1)]) (g := (gName 1)) rfl sc_law.nd (pi_range1 rfl B.range (pa_cons (pe_op op_add pe_int (pe_callB (call_min2 rfl) rfl B.min (by decide +kernel) (pa_cons pe_int (pa_cons (pe_callB (k_len (K := K) rfl) rfl B.len PySem.boot_len (pa_cons (pv 0) pa_nil)) pa_nil)))) pa_nil)) (blkOk_by (own := [("_law_k", 1)]) (N := ["_law_script", "_law_k"]) (sc := defScope S_law) (by decide +kernel)) (fun _ _ _ _ _ => by exact (pg_name (i := 1) sc_law.nd rfl (by first | exact Or.inl rfl | exact Or.inr rfl))) (fun _ _ _ _ _ => pts_nil) (fun _ _ _ _ _ => (pe_call G_right (hr.mono (by decide)) rfl m_right k_right b_right .nil pass0 (pa_cons (pe_call G_box (hr.mono (by decide)) rfl m_box k_box b_box .nil pass0 (pa_cons (pv 0) (pa_cons (pv 1) pa_nil))) pa_nil)))) pa_nil)))), ?_⟩)
  exact finA (N := N_law) (by unfold f_law; exact (OkS.ret (OkE.w (OkE.cb ok_all (OkA.cons (OkW.e (OkW.lc (vs := [1]) (OkI.range1 (OkA.cons (OkE.op ok_add (OkE.con fun _ => .int _) (OkE.cb ok_min (OkA.cons (OkE.con fun _ => .int _) (OkA.cons (OkE.cb ok_len (OkA.cons (OkE.var 0) OkA.nil)) OkA.nil)))) OkA.nil)) (OkG.name 1) (by decide) OkT.yes (OkW.e (OkW.callBt (OkW.call (OkA.cons (OkE.var 0) (OkA.cons (OkE.var 1) OkA.nil))))))) OkA.nil))))) h
end
end Ov
set_option Elab.async false
set_option linter.all false
set_option maxRecDepth 100000
set_option maxHeartbeats 4000000
namespace Ov
open PySem L2
def Bok (n : Int) (bs : List PyData) : Prop := ∃ b0 b1 b2 : Int, bs = [.int b0, .int b1, .int b2] ∧ 0 ≤ b0 ∧ 0 ≤ b1 ∧ b1 < 2 ^ 62 ∧ 0 ≤ b2 ∧ b2 ≤ n
theorem Bok.mono {n m : Int} {bs : List PyData} (h : Bok n bs) (e : n ≤ m) : Bok m bs := by
  obtain ⟨b0, b1, b2, rfl, p0, p1, p1', p2, p2'⟩ := h
  exact ⟨_, _, _, rfl, p0, p1, p1', p2, by omega⟩
theorem pMod_ok {i j : Int} (h : 0 < j) : pMod i j = true := decide_eq_true h
theorem pDiv_ok {i j : Int} (h : 0 < j) (h2 : j < 1073741824) : pDiv i j = true := decide_eq_true ⟨h, h2⟩
theorem pMul_r {i j : Int} (h : -(2 ^ 64) < j) (h2 : j < 2 ^ 64) : pMul i j = true := by
  unfold pMul
  rw [decide_eq_true (p := -(2 ^ 64) < j ∧ j < 2 ^ 64) ⟨h, h2⟩, Bool.or_true]
def tkV (b1 b2 below : Int) : Int := ((((((b1 + 48271 * (b2 + 1)) * (39373 + (b2 + 1))) % 2147483647 + (b2 + 1) + b1 / 1000003) * ((((b1 + 48271 * (b2 + 1)) * (39373 + (b2 + 1))) % 2147483647) % 40009 + 7)) % 2147483629 * 48271 + ((b1 + 48271 * (b2 + 1)) * (39373 + (b2 + 1))) % 2147483647) % 2147483587 / 64) % below
theorem take_small {n : Int} {bs : List PyData} {k : Nat} (h : Bok n bs) (hn : n ≤ 10 ^ 12) {below : Int} (h1 : 1 ≤ below) (h2 : below ≤ 10 ^ 7) : ∃ r bs', F_take (k + 1) bs [.int below] = some (.dat (.int r), bs') ∧ 0 ≤ r ∧ r < below ∧ Bok (n + 1) bs' := by
  obtain ⟨b0, b1, b2, rfl, p0, p1, p1', p2, p2'⟩ := h
  by_cases c0 : 0 < b0
  · refine ⟨b0 % below, [.int (b0 / below), .int b1, .int b2], runB_eq rfl ?_, Int.emod_nonneg _ (by omega), Int.emod_lt_of_pos _ (by omega), _, _, _, rfl, Int.ediv_nonneg p0 (by omega), p1, p1', p2, by omega⟩
    unfold f_take
    simp [env0, v_bind, v_ok, v_none, v_pure, v_lift, v_liftN, v_con, v_get, v_gkd, v_gko, v_gkc, v_vwd, v_vws, v_ok1, v_ownD, v_dctD, v_dk1, v_setOwn, v_putM, v_op2, v_op1, v_anil, v_acons, v_vws0, v_vwsC, v_cb, v_tupD, v_lstD, v_lstW, v_listW, v_dds0, v_ddsC, v_asB, v_tb1, v_andT, v_orT, v_notT, v_andV, v_orV, v_notV, v_ofB, v_ifE, v_pl, v_toW, v_fz, v_ofWd, v_ofWo, v_nxt, v_thenS, v_exprS, v_retS, v_retN, v_ifS, v_setS, v_parS, v_setIx, v_asD, v_asI, v_mthE, v_callA, v_callB, v_forS, v_argI, v_seqI, v_slD, v_poN, v_poS, v_isiE, v_isiE2, v_isNE, v_dnew, v_dinT, v_dputS, v_sortDct, v_rgE, v_rg2, v_unS, v_catW, v_chainE, v_add, v_sub, v_lt, v_le, v_gt, v_ge, v_eqI, v_eqB, v_eqS, v_ixL, v_ixT, v_lenL, v_lenT, v_abs, v_intI, v_intB, v_min, v_max, v_chk, c0, atI, ixN, v_mod, v_div, pMod_ok (show 0 < below by omega), pDiv_ok (show 0 < below by omega) (show below < 1073741824 by omega)]
  · have z : b0 = 0 := by omega
    have c1 : ¬ (10 : Int) ^ 7 < below := by omega
    have hp : pPow 10 7 = true := by decide
    refine ⟨tkV b1 b2 below, [.int 0, .int b1, .int (b2 + 1)], runB_eq rfl ?_, ?_, ?_, _, _, _, rfl, Int.le_refl _, p1, p1', by omega, by omega⟩
    · unfold f_take
      have q1 : pMul 48271 (b2 + 1) = true := by unfold pMul; simp
      have q2 : pMul (b1 + 48271 * (b2 + 1)) (39373 + (b2 + 1)) = true := pMul_r (by omega) (by omega)
      have q3 : ∀ x y : Int, pMul x (y % 40009 + 7) = true := fun x y => pMul_r (by omega) (by omega)
      have q4 : ∀ x : Int, pMul x 48271 = true := fun x => pMul_r (by decide) (by decide)
      have m1 : ∀ x : Int, pMod x 2147483647 = true := fun x => pMod_ok (by decide)
      have m2 : ∀ x : Int, pMod x 2147483629 = true := fun x => pMod_ok (by decide)
      have m3 : ∀ x : Int, pMod x 2147483587 = true := fun x => pMod_ok (by decide)
      have m4 : ∀ x : Int, pMod x 40009 = true := fun x => pMod_ok (by decide)
      have m5 : ∀ x : Int, pMod x below = true := fun x => pMod_ok (by omega)
      have d1 : ∀ x : Int, pDiv x 1000003 = true := fun x => pDiv_ok (by decide) (by decide)
      have d2 : ∀ x : Int, pDiv x 64 = true := fun x => pDiv_ok (by decide) (by decide)
      have c1' : ¬ (10000000 : Int) < below := by omega
      unfold tkV
      simp [env0, v_bind, v_ok, v_none, v_pure, v_lift, v_liftN, v_con, v_get, v_gkd, v_gko, v_gkc, v_vwd, v_vws, v_ok1, v_ownD, v_dctD, v_dk1, v_setOwn, v_putM, v_op2, v_op1, v_anil, v_acons, v_vws0, v_vwsC, v_cb, v_tupD, v_lstD, v_lstW, v_listW, v_dds0, v_ddsC, v_asB, v_tb1, v_andT, v_orT, v_notT, v_andV, v_orV, v_notV, v_ofB, v_ifE, v_pl, v_toW, v_fz, v_ofWd, v_ofWo, v_nxt, v_thenS, v_exprS, v_retS, v_retN, v_ifS, v_setS, v_parS, v_setIx, v_asD, v_asI, v_mthE, v_callA, v_callB, v_forS, v_argI, v_seqI, v_slD, v_poN, v_poS, v_isiE, v_isiE2, v_isNE, v_dnew, v_dinT, v_dputS, v_sortDct, v_rgE, v_rg2, v_unS, v_catW, v_chainE, v_add, v_sub, v_lt, v_le, v_gt, v_ge, v_eqI, v_eqB, v_eqS, v_ixL, v_ixT, v_lenL, v_lenT, v_abs, v_intI, v_intB, v_min, v_max, v_chk, z, c1, c1', atI, ixN, v_mod, v_div, v_mul, v_pow, hp, q1, q2, q3, q4, m1, m2, m3, m4, m5, d1, d2]
    · exact Int.emod_nonneg _ (by omega)
    · exact Int.emod_lt_of_pos _ (by omega)
theorem take_any {n : Int} {bs : List PyData} {k : Nat} (h : Bok n bs) (hn : n ≤ 10 ^ 11) {below : Int} (h1 : 1 ≤ below) (h2 : below < 1073741824) : ∃ r bs', F_take (k + 2) bs [.int below] = some (.dat (.int r), bs') ∧ 0 ≤ r ∧ r < below ∧ Bok (n + 2) bs' := by
  by_cases c : below ≤ 10 ^ 7
  · obtain ⟨r, bs', e, a, b, w⟩ := take_small (k := k + 1) h (by omega) h1 c
    exact ⟨r, bs', e, a, b, w.mono (by omega)⟩
  · by_cases c0 : ∃ b0 r, bs = .int b0 :: r ∧ 0 < b0
    · obtain ⟨b0, b1, b2, rfl, p0, p1, p1', p2, p2'⟩ := h
      obtain ⟨_, _, e, c0⟩ := c0
      cases e
      refine ⟨b0 % below, [.int (b0 / below), .int b1, .int b2], runB_eq rfl ?_, Int.emod_nonneg _ (by omega), Int.emod_lt_of_pos _ (by omega), _, _, _, rfl, Int.ediv_nonneg p0 (by omega), p1, p1', p2, by omega⟩
      unfold f_take
      simp [env0, v_bind, v_ok, v_none, v_pure, v_lift, v_liftN, v_con, v_get, v_gkd, v_gko, v_gkc, v_vwd, v_vws, v_ok1, v_ownD, v_dctD, v_dk1, v_setOwn, v_putM, v_op2, v_op1, v_anil, v_acons, v_vws0, v_vwsC, v_cb, v_tupD, v_lstD, v_lstW, v_listW, v_dds0, v_ddsC, v_asB, v_tb1, v_andT, v_orT, v_notT, v_andV, v_orV, v_notV, v_ofB, v_ifE, v_pl, v_toW, v_fz, v_ofWd, v_ofWo, v_nxt, v_thenS, v_exprS, v_retS, v_retN, v_ifS, v_setS, v_parS, v_setIx, v_asD, v_asI, v_mthE, v_callA, v_callB, v_forS, v_argI, v_seqI, v_slD, v_poN, v_poS, v_isiE, v_isiE2, v_isNE, v_dnew, v_dinT, v_dputS, v_sortDct, v_rgE, v_rg2, v_unS, v_catW, v_chainE, v_add, v_sub, v_lt, v_le, v_gt, v_ge, v_eqI, v_eqB, v_eqS, v_ixL, v_ixT, v_lenL, v_lenT, v_abs, v_intI, v_intB, v_min, v_max, v_chk, c0, atI, ixN, v_mod, v_div, pMod_ok (show 0 < below by omega), pDiv_ok (show 0 < below by omega) (show below < 1073741824 by omega)]
    · have h' := h
      obtain ⟨b0, b1, b2, rfl, p0, p1, p1', p2, p2'⟩ := h
      have z : ¬ 0 < b0 := fun z => c0 ⟨b0, _, rfl, z⟩
      obtain ⟨r1, bs1, e1, a1, w1, k1⟩ := take_small (k := k) h' (by omega) (below := 10 ^ 7) (by decide) (Int.le_refl _)
      obtain ⟨r2, bs2, e2, a2, w2, k2⟩ := take_small (k := k) k1 (by omega) (below := below / 10 ^ 7 + 1) (by omega) (by omega)
      refine ⟨(r1 + 10 ^ 7 * r2) % below, bs2, runB_eq rfl ?_, Int.emod_nonneg _ (by omega), Int.emod_lt_of_pos _ (by omega), k2.mono (by omega)⟩
      unfold f_take
      have hp : pPow 10 7 = true := by decide
      have c1 : (10000000 : Int) < below := by omega
      have e1' : F_take (k + 1) [.int b0, .int b1, .int b2] [.int 10000000] = some (.dat (.int r1), bs1) := e1
      have e2' : F_take (k + 1) bs1 [.int (below / 10000000 + 1)] = some (.dat (.int r2), bs2) := e2
      have m5 : ∀ x : Int, pMod x below = true := fun x => pMod_ok (by omega)
      have d1 : ∀ x : Int, pDiv x 10000000 = true := fun x => pDiv_ok (by decide) (by decide)
      have q1 : ∀ x : Int, pMul 10000000 x = true := fun x => by unfold pMul; simp
      simp [env0, v_bind, v_ok, v_none, v_pure, v_lift, v_liftN, v_con, v_get, v_gkd, v_gko, v_gkc, v_vwd, v_vws, v_ok1, v_ownD, v_dctD, v_dk1, v_setOwn, v_putM, v_op2, v_op1, v_anil, v_acons, v_vws0, v_vwsC, v_cb, v_tupD, v_lstD, v_lstW, v_listW, v_dds0, v_ddsC, v_asB, v_tb1, v_andT, v_orT, v_notT, v_andV, v_orV, v_notV, v_ofB, v_ifE, v_pl, v_toW, v_fz, v_ofWd, v_ofWo, v_nxt, v_thenS, v_exprS, v_retS, v_retN, v_ifS, v_setS, v_parS, v_setIx, v_asD, v_asI, v_mthE, v_callA, v_callB, v_forS, v_argI, v_seqI, v_slD, v_poN, v_poS, v_isiE, v_isiE2, v_isNE, v_dnew, v_dinT, v_dputS, v_sortDct, v_rgE, v_rg2, v_unS, v_catW, v_chainE, v_add, v_sub, v_lt, v_le, v_gt, v_ge, v_eqI, v_eqB, v_eqS, v_ixL, v_ixT, v_lenL, v_lenT, v_abs, v_intI, v_intB, v_min, v_max, v_chk, z, c1, atI, ixN, v_mod, v_div, v_mul, v_pow, hp, e1', e2', m5, d1, q1]
theorem cell_ok {ns : List Int} {k : Int} (hk : 0 ≤ k) : ∃ c, F_cell_at [.list (ns.map .int), .int k] = some (.dat (.int c)) := by
  by_cases c : k < ns.length
  · have hr : k.toNat < ns.length := by omega
    refine ⟨ns[k.toNat], runA_eq rfl ?_⟩
    unfold f_cell_at s_cell_at_0 s_cell_at_1
    have ea : atI (ns.map PyData.int) k = some (.int ns[k.toNat]) := by
      unfold atI ixN
      rw [if_pos hk, List.length_map, if_pos c]
      simp [hr]
    simp [env0, v_bind, v_ok, v_none, v_pure, v_lift, v_liftN, v_con, v_get, v_gkd, v_gko, v_gkc, v_vwd, v_vws, v_ok1, v_ownD, v_dctD, v_dk1, v_setOwn, v_putM, v_op2, v_op1, v_anil, v_acons, v_vws0, v_vwsC, v_cb, v_tupD, v_lstD, v_lstW, v_listW, v_dds0, v_ddsC, v_asB, v_tb1, v_andT, v_orT, v_notT, v_andV, v_orV, v_notV, v_ofB, v_ifE, v_pl, v_toW, v_fz, v_ofWd, v_ofWo, v_nxt, v_thenS, v_exprS, v_retS, v_retN, v_ifS, v_setS, v_parS, v_setIx, v_asD, v_asI, v_mthE, v_callA, v_callB, v_forS, v_argI, v_seqI, v_slD, v_poN, v_poS, v_isiE, v_isiE2, v_isNE, v_dnew, v_dinT, v_dputS, v_sortDct, v_rgE, v_rg2, v_unS, v_catW, v_chainE, v_add, v_sub, v_lt, v_le, v_gt, v_ge, v_eqI, v_eqB, v_eqS, v_ixL, v_ixT, v_lenL, v_lenT, v_abs, v_intI, v_intB, v_min, v_max, v_chk, ea, c]
  · refine ⟨0, runA_eq rfl ?_⟩
    unfold f_cell_at s_cell_at_0 s_cell_at_1
    simp [env0, v_bind, v_ok, v_none, v_pure, v_lift, v_liftN, v_con, v_get, v_gkd, v_gko, v_gkc, v_vwd, v_vws, v_ok1, v_ownD, v_dctD, v_dk1, v_setOwn, v_putM, v_op2, v_op1, v_anil, v_acons, v_vws0, v_vwsC, v_cb, v_tupD, v_lstD, v_lstW, v_listW, v_dds0, v_ddsC, v_asB, v_tb1, v_andT, v_orT, v_notT, v_andV, v_orV, v_notV, v_ofB, v_ifE, v_pl, v_toW, v_fz, v_ofWd, v_ofWo, v_nxt, v_thenS, v_exprS, v_retS, v_retN, v_ifS, v_setS, v_parS, v_setIx, v_asD, v_asI, v_mthE, v_callA, v_callB, v_forS, v_argI, v_seqI, v_slD, v_poN, v_poS, v_isiE, v_isiE2, v_isNE, v_dnew, v_dinT, v_dputS, v_sortDct, v_rgE, v_rg2, v_unS, v_catW, v_chainE, v_add, v_sub, v_lt, v_le, v_gt, v_ge, v_eqI, v_eqB, v_eqS, v_ixL, v_ixT, v_lenL, v_lenT, v_abs, v_intI, v_intB, v_min, v_max, v_chk, c]
theorem box_ok {ns : List Int} {k : Int} (hk : 0 ≤ k) (hk2 : k ≤ 3) : ∃ bs, F_box [.list (ns.map .int), .int k] = some (.own (dats bs)) ∧ Bok 0 bs := by
  obtain ⟨c, hc⟩ := cell_ok (ns := ns) hk
  refine ⟨[.int ((if c < 0 then -c else c) * (if (10 : Int) ^ 18 ≤ (if c < 0 then -c else c) then 1 else 0)), .int (c % 2305843009213693951 + 39373 * k + 29), .int 0], runA_eq rfl ?_, _, _, _, rfl, ?_, ?_, ?_, Int.le_refl _, Int.le_refl _⟩
  · unfold f_box s_box_0 s_box_1
    have q1 : ∀ (x : Int) (b : Prop) [Decidable b], pMul x (if b then 1 else 0) = true := fun x b _ => by
      by_cases z : b
      · rw [if_pos z]; exact pMul_r (by decide) (by decide)
      · rw [if_neg z]; exact pMul_r (by decide) (by decide)
    have q2 : pMul 39373 k = true := pMul_r (by omega) (by omega)
    have hp : pPow 10 18 = true := by decide
    have m1 : ∀ x : Int, pMod x 2305843009213693951 = true := fun x => pMod_ok (by decide)
    simp [env0, v_bind, v_ok, v_none, v_pure, v_lift, v_liftN, v_con, v_get, v_gkd, v_gko, v_gkc, v_vwd, v_vws, v_ok1, v_ownD, v_dctD, v_dk1, v_setOwn, v_putM, v_op2, v_op1, v_anil, v_acons, v_vws0, v_vwsC, v_cb, v_tupD, v_lstD, v_lstW, v_listW, v_dds0, v_ddsC, v_asB, v_tb1, v_andT, v_orT, v_notT, v_andV, v_orV, v_notV, v_ofB, v_ifE, v_pl, v_toW, v_fz, v_ofWd, v_ofWo, v_nxt, v_thenS, v_exprS, v_retS, v_retN, v_ifS, v_setS, v_parS, v_setIx, v_asD, v_asI, v_mthE, v_callA, v_callB, v_forS, v_argI, v_seqI, v_slD, v_poN, v_poS, v_isiE, v_isiE2, v_isNE, v_dnew, v_dinT, v_dputS, v_sortDct, v_rgE, v_rg2, v_unS, v_catW, v_chainE, v_add, v_sub, v_lt, v_le, v_gt, v_ge, v_eqI, v_eqB, v_eqS, v_ixL, v_ixT, v_lenL, v_lenT, v_abs, v_intI, v_intB, v_min, v_max, v_chk, hc, v_mul, q1, q2, v_pow, hp, v_mod, m1, sz]
  · have : (0 : Int) ≤ if c < 0 then -c else c := by split <;> omega
    exact Int.mul_nonneg this (by split <;> omega)
  · omega
  · omega
end Ov
set_option Elab.async false
set_option linter.all false
set_option maxRecDepth 100000
set_option maxHeartbeats 4000000
set_option Elab.async false
set_option linter.all false
set_option maxRecDepth 100000
set_option maxHeartbeats 4000000
namespace Ov
open PySem L2
def isS : PyData → Bool
  | .str _ => true
  | _ => false
theorem v_kI (d : PyData) : kitD "int" d = some (isI d || isB d) := kit_int d
theorem v_kB (d : PyData) : kitD "bool" d = some (isB d) := kit_bool d
theorem v_kT (d : PyData) : kitD "tuple" d = some (isT d) := kit_tuple d
theorem v_kL (d : PyData) : kitD "list" d = some (isL d) := kit_list d
theorem v_kS : ∀ d : PyData, kitD "str" d = some (isS d)
  | .none => (by decide +kernel : kitB "NoneType" "str" = some false)
  | .bool _ => (by decide +kernel : kitB "bool" "str" = some false)
  | .int _ => (by decide +kernel : kitB "int" "str" = some false)
  | .str _ => (by decide +kernel : kitB "str" "str" = some true)
  | .list _ => (by decide +kernel : kitB "list" "str" = some false)
  | .tuple _ => (by decide +kernel : kitB "tuple" "str" = some false)
  | .dict _ => (by decide +kernel : kitB "dict" "str" = some false)
theorem bools_of (ds : List PyData) (g : PyData → Bool) : boolsD (ds.map fun d => .bool (g d)) = some (ds.map g) := by
  have := boolsD_map (ds.map g)
  rw [List.map_map] at this
  exact this
/-! the same data, twice -/
def okS : Nat → PyData → Prop
  | 0, _ => False
  | n + 1, d => (atomD d = true ∧ shp d = true) ∨ ∃ ds : List PyData, (d = .list ds ∨ d = .tuple ds) ∧ ds.length < 1000 ∧ ∀ x ∈ ds, okS n x
theorem eqv_atom {d : PyData} (h : atomD d = true) : PyData.eqv d d = true := by
  cases d with
  | none => rfl
  | bool b => simp [PyData.eqv]
  | int i => simp [PyData.eqv]
  | str s => simp [PyData.eqv]
  | list _ => cases h
  | tuple _ => cases h
  | dict _ => cases h
theorem pair_self : ∀ ds : List PyData, pairUp ds ds = ds.map fun x => .tuple [x, x]
  | [] => rfl
  | d :: r => by
    show .tuple [d, d] :: pairUp r r = _
    rw [pair_self r]
    rfl
theorem same_ok : ∀ {n : Nat} {d : PyData}, okS n d → F_same n [d, d] = some (.dat (.bool true)) := by
  intro n
  induction n with
  | zero => intro d h; exact h.elim
  | succ n ih =>
    intro d h
    refine runA_eq rfl ?_
    unfold f_same
    rcases h with ⟨ha, hs⟩ | ⟨ds, hd, hl, hx⟩
    · have eq : eqvD false d d = some (.bool true) := by
        unfold eqvD
        rw [hs, eqv_atom ha]
        rfl
      cases d with
      | none => simp [env0, v_bind, v_ok, v_none, v_pure, v_lift, v_liftN, v_con, v_get, v_gkd, v_gko, v_gkc, v_vwd, v_vws, v_ok1, v_ownD, v_dctD, v_dk1, v_setOwn, v_putM, v_op2, v_op1, v_anil, v_acons, v_vws0, v_vwsC, v_cb, v_tupD, v_lstD, v_lstW, v_listW, v_dds0, v_ddsC, v_asB, v_tb1, v_andT, v_orT, v_notT, v_andV, v_orV, v_notV, v_ofB, v_ifE, v_pl, v_toW, v_fz, v_ofWd, v_ofWo, v_nxt, v_thenS, v_exprS, v_retS, v_retN, v_ifS, v_setS, v_parS, v_setIx, v_asD, v_asI, v_mthE, v_callA, v_callB, v_forS, v_argI, v_seqI, v_slD, v_poN, v_poS, v_isiE, v_isiE2, v_isNE, v_dnew, v_dinT, v_dputS, v_sortDct, v_rgE, v_rg2, v_unS, v_catW, v_chainE, v_add, v_sub, v_lt, v_le, v_gt, v_ge, v_eqI, v_eqB, v_eqS, v_ixL, v_ixT, v_lenL, v_lenT, v_abs, v_intI, v_intB, v_min, v_max, v_chk, v_kI, v_kB, v_kT, v_kL, v_kS, isI, isB, isT, isL, isS, eq, isNR]
      | bool b => simp [env0, v_bind, v_ok, v_none, v_pure, v_lift, v_liftN, v_con, v_get, v_gkd, v_gko, v_gkc, v_vwd, v_vws, v_ok1, v_ownD, v_dctD, v_dk1, v_setOwn, v_putM, v_op2, v_op1, v_anil, v_acons, v_vws0, v_vwsC, v_cb, v_tupD, v_lstD, v_lstW, v_listW, v_dds0, v_ddsC, v_asB, v_tb1, v_andT, v_orT, v_notT, v_andV, v_orV, v_notV, v_ofB, v_ifE, v_pl, v_toW, v_fz, v_ofWd, v_ofWo, v_nxt, v_thenS, v_exprS, v_retS, v_retN, v_ifS, v_setS, v_parS, v_setIx, v_asD, v_asI, v_mthE, v_callA, v_callB, v_forS, v_argI, v_seqI, v_slD, v_poN, v_poS, v_isiE, v_isiE2, v_isNE, v_dnew, v_dinT, v_dputS, v_sortDct, v_rgE, v_rg2, v_unS, v_catW, v_chainE, v_add, v_sub, v_lt, v_le, v_gt, v_ge, v_eqI, v_eqB, v_eqS, v_ixL, v_ixT, v_lenL, v_lenT, v_abs, v_intI, v_intB, v_min, v_max, v_chk, v_kI, v_kB, v_kT, v_kL, v_kS, isI, isB, isT, isL, isS, eq, isNR]
      | int i => simp [env0, v_bind, v_ok, v_none, v_pure, v_lift, v_liftN, v_con, v_get, v_gkd, v_gko, v_gkc, v_vwd, v_vws, v_ok1, v_ownD, v_dctD, v_dk1, v_setOwn, v_putM, v_op2, v_op1, v_anil, v_acons, v_vws0, v_vwsC, v_cb, v_tupD, v_lstD, v_lstW, v_listW, v_dds0, v_ddsC, v_asB, v_tb1, v_andT, v_orT, v_notT, v_andV, v_orV, v_notV, v_ofB, v_ifE, v_pl, v_toW, v_fz, v_ofWd, v_ofWo, v_nxt, v_thenS, v_exprS, v_retS, v_retN, v_ifS, v_setS, v_parS, v_setIx, v_asD, v_asI, v_mthE, v_callA, v_callB, v_forS, v_argI, v_seqI, v_slD, v_poN, v_poS, v_isiE, v_isiE2, v_isNE, v_dnew, v_dinT, v_dputS, v_sortDct, v_rgE, v_rg2, v_unS, v_catW, v_chainE, v_add, v_sub, v_lt, v_le, v_gt, v_ge, v_eqI, v_eqB, v_eqS, v_ixL, v_ixT, v_lenL, v_lenT, v_abs, v_intI, v_intB, v_min, v_max, v_chk, v_kI, v_kB, v_kT, v_kL, v_kS, isI, isB, isT, isL, isS, eq, isNR]
      | str s => simp [env0, v_bind, v_ok, v_none, v_pure, v_lift, v_liftN, v_con, v_get, v_gkd, v_gko, v_gkc, v_vwd, v_vws, v_ok1, v_ownD, v_dctD, v_dk1, v_setOwn, v_putM, v_op2, v_op1, v_anil, v_acons, v_vws0, v_vwsC, v_cb, v_tupD, v_lstD, v_lstW, v_listW, v_dds0, v_ddsC, v_asB, v_tb1, v_andT, v_orT, v_notT, v_andV, v_orV, v_notV, v_ofB, v_ifE, v_pl, v_toW, v_fz, v_ofWd, v_ofWo, v_nxt, v_thenS, v_exprS, v_retS, v_retN, v_ifS, v_setS, v_parS, v_setIx, v_asD, v_asI, v_mthE, v_callA, v_callB, v_forS, v_argI, v_seqI, v_slD, v_poN, v_poS, v_isiE, v_isiE2, v_isNE, v_dnew, v_dinT, v_dputS, v_sortDct, v_rgE, v_rg2, v_unS, v_catW, v_chainE, v_add, v_sub, v_lt, v_le, v_gt, v_ge, v_eqI, v_eqB, v_eqS, v_ixL, v_ixT, v_lenL, v_lenT, v_abs, v_intI, v_intB, v_min, v_max, v_chk, v_kI, v_kB, v_kT, v_kL, v_kS, isI, isB, isT, isL, isS, eq, isNR]
      | list _ => cases ha
      | tuple _ => cases ha
      | dict _ => cases ha
    · have cm : ∀ d : PyData, zipD [d, d] = some (pairUp ds ds) → lcW (argI zipD (acons (get 0) (acons (get 1) anil))) (gT (gsC (gN 2) (gsC (gN 3) gsN))) yesT (fz (callA (F_same n) (acons (get 2) (acons (get 3) anil)))) [2, 3] [some (.dat d), some (.dat d), none, none] =
          some (.ok (.own (dats (ds.map fun _ => .bool true))) [some (.dat d), some (.dat d), none, none]) := fun d hz => by
        refine lc_eq (ds := pairUp ds ds) (e := [some (.dat d), some (.dat d), none, none]) (e2 := [some (.dat d), some (.dat d), none, none]) ?_ rfl rfl ?_
        · simp [v_bind, v_ok, v_none, v_pure, v_lift, v_liftN, v_con, v_get, v_gkd, v_gko, v_gkc, v_vwd, v_vws, v_ok1, v_ownD, v_dctD, v_dk1, v_setOwn, v_putM, v_op2, v_op1, v_anil, v_acons, v_vws0, v_vwsC, v_cb, v_tupD, v_lstD, v_lstW, v_listW, v_dds0, v_ddsC, v_asB, v_tb1, v_andT, v_orT, v_notT, v_andV, v_orV, v_notV, v_ofB, v_ifE, v_pl, v_toW, v_fz, v_ofWd, v_ofWo, v_nxt, v_thenS, v_exprS, v_retS, v_retN, v_ifS, v_setS, v_parS, v_setIx, v_asD, v_asI, v_mthE, v_callA, v_callB, v_forS, v_argI, v_seqI, v_slD, v_poN, v_poS, v_isiE, v_isiE2, v_isNE, v_dnew, v_dinT, v_dputS, v_sortDct, v_rgE, v_rg2, v_unS, v_catW, v_chainE, v_add, v_sub, v_lt, v_le, v_gt, v_ge, v_eqI, v_eqB, v_eqS, v_ixL, v_ixT, v_lenL, v_lenT, v_abs, v_intI, v_intB, v_min, v_max, v_chk, hz]
        · rw [pair_self]
          have := comp_map (env := [some (.dat d), some (.dat d), none, none]) (p := gT (gsC (gN 2) (gsC (gN 3) gsN))) (ft := yesT) (fe := fz (callA (F_same n) (acons (get 2) (acons (get 3) anil)))) (vs := [2, 3]) (fun _ => .bool true) (ds.map fun x => .tuple [x, x]) [] (by simp; omega) fun x hx' => ?_
          · simpa [Function.comp_def] using this
          · obtain ⟨y, hy, rfl⟩ := List.mem_map.mp hx'
            exact ⟨[some (.dat d), some (.dat d), some (.dat y), some (.dat y)], rfl, rfl, by simp [v_bind, v_ok, v_none, v_pure, v_lift, v_liftN, v_con, v_get, v_gkd, v_gko, v_gkc, v_vwd, v_vws, v_ok1, v_ownD, v_dctD, v_dk1, v_setOwn, v_putM, v_op2, v_op1, v_anil, v_acons, v_vws0, v_vwsC, v_cb, v_tupD, v_lstD, v_lstW, v_listW, v_dds0, v_ddsC, v_asB, v_tb1, v_andT, v_orT, v_notT, v_andV, v_orV, v_notV, v_ofB, v_ifE, v_pl, v_toW, v_fz, v_ofWd, v_ofWo, v_nxt, v_thenS, v_exprS, v_retS, v_retN, v_ifS, v_setS, v_parS, v_setIx, v_asD, v_asI, v_mthE, v_callA, v_callB, v_forS, v_argI, v_seqI, v_slD, v_poN, v_poS, v_isiE, v_isiE2, v_isNE, v_dnew, v_dinT, v_dputS, v_sortDct, v_rgE, v_rg2, v_unS, v_catW, v_chainE, v_add, v_sub, v_lt, v_le, v_gt, v_ge, v_eqI, v_eqB, v_eqS, v_ixL, v_ixT, v_lenL, v_lenT, v_abs, v_intI, v_intB, v_min, v_max, v_chk, ih (hx y hy)], rfl, rfl⟩
      have ea : allD [.list (ds.map fun _ => .bool true)] = some (.bool true) := by
        show (boolsD _).map _ = _
        rw [bools_of ds fun _ => true]
        simp
      rcases hd with rfl | rfl
      · simp [env0, v_bind, v_ok, v_none, v_pure, v_lift, v_liftN, v_con, v_get, v_gkd, v_gko, v_gkc, v_vwd, v_vws, v_ok1, v_ownD, v_dctD, v_dk1, v_setOwn, v_putM, v_op2, v_op1, v_anil, v_acons, v_vws0, v_vwsC, v_cb, v_tupD, v_lstD, v_lstW, v_listW, v_dds0, v_ddsC, v_asB, v_tb1, v_andT, v_orT, v_notT, v_andV, v_orV, v_notV, v_ofB, v_ifE, v_pl, v_toW, v_fz, v_ofWd, v_ofWo, v_nxt, v_thenS, v_exprS, v_retS, v_retN, v_ifS, v_setS, v_parS, v_setIx, v_asD, v_asI, v_mthE, v_callA, v_callB, v_forS, v_argI, v_seqI, v_slD, v_poN, v_poS, v_isiE, v_isiE2, v_isNE, v_dnew, v_dinT, v_dputS, v_sortDct, v_rgE, v_rg2, v_unS, v_catW, v_chainE, v_add, v_sub, v_lt, v_le, v_gt, v_ge, v_eqI, v_eqB, v_eqS, v_ixL, v_ixT, v_lenL, v_lenT, v_abs, v_intI, v_intB, v_min, v_max, v_chk, v_kI, v_kB, v_kT, v_kL, v_kS, isI, isB, isT, isL, isS, cm (.list ds) rfl, ea]
      · simp [env0, v_bind, v_ok, v_none, v_pure, v_lift, v_liftN, v_con, v_get, v_gkd, v_gko, v_gkc, v_vwd, v_vws, v_ok1, v_ownD, v_dctD, v_dk1, v_setOwn, v_putM, v_op2, v_op1, v_anil, v_acons, v_vws0, v_vwsC, v_cb, v_tupD, v_lstD, v_lstW, v_listW, v_dds0, v_ddsC, v_asB, v_tb1, v_andT, v_orT, v_notT, v_andV, v_orV, v_notV, v_ofB, v_ifE, v_pl, v_toW, v_fz, v_ofWd, v_ofWo, v_nxt, v_thenS, v_exprS, v_retS, v_retN, v_ifS, v_setS, v_parS, v_setIx, v_asD, v_asI, v_mthE, v_callA, v_callB, v_forS, v_argI, v_seqI, v_slD, v_poN, v_poS, v_isiE, v_isiE2, v_isNE, v_dnew, v_dinT, v_dputS, v_sortDct, v_rgE, v_rg2, v_unS, v_catW, v_chainE, v_add, v_sub, v_lt, v_le, v_gt, v_ge, v_eqI, v_eqB, v_eqS, v_ixL, v_ixT, v_lenL, v_lenT, v_abs, v_intI, v_intB, v_min, v_max, v_chk, v_kI, v_kB, v_kT, v_kL, v_kS, isI, isB, isT, isL, isS, cm (.tuple ds) rfl, ea]
theorem okS.ints {n : Nat} (ns : List Int) (h : ns.length < 1000) : okS (n + 2) (.tuple (ns.map .int)) ∧ okS (n + 2) (.list (ns.map .int)) := by
  have : ∀ x ∈ ns.map PyData.int, okS (n + 1) x := fun x hx => by
    obtain ⟨i, _, rfl⟩ := List.mem_map.mp hx
    exact .inl ⟨rfl, shp_int i⟩
  exact ⟨.inr ⟨_, .inr rfl, by rw [List.length_map]; exact h, this⟩, .inr ⟨_, .inl rfl, by rw [List.length_map]; exact h, this⟩⟩
end Ov
set_option Elab.async false
set_option linter.all false
set_option maxRecDepth 100000
set_option maxHeartbeats 4000000
set_option Elab.async false
set_option linter.all false
set_option maxRecDepth 100000
set_option maxHeartbeats 4000000
namespace Ov
open PySem L2
/-! codes -/
def mk (ms : List Int) (h : Int) : Int := (((ms.filter fun o => decide (h ≤ o)).idxOf h : Nat) : Int)
def mks (ms : List Int) : List Int := (sortI ms).map (mk ms)
theorem idx_mid {h : Int} {l1 l2 : List Int} (n : h ∉ l1) : (l1 ++ h :: l2).idxOf h = l1.length := by
  induction l1 with
  | nil => simp
  | cons a r ih =>
    have n1 : h ∉ r := fun z => n (List.mem_cons_of_mem _ z)
    have n2 : ¬ a = h := fun z => n (by rw [z]; exact List.mem_cons_self ..)
    rw [List.cons_append, List.idxOf_cons]
    rw [show (a == h) = false by simpa using n2, ih n1]
    rfl
theorem mk_low {h : Int} {l1 l2 : List Int} (n : h ∉ l1) (lo : ∀ x ∈ l1 ++ l2, h < x) : mk (l1 ++ h :: l2) h = l1.length := by
  unfold mk
  rw [List.filter_eq_self.mpr fun x hx => ?_, idx_mid n]
  rcases List.mem_append.mp hx with hx | hx
  · exact decide_eq_true (Int.le_of_lt (lo x (List.mem_append_left _ hx)))
  · rcases List.mem_cons.mp hx with rfl | hx
    · exact decide_eq_true (Int.le_refl _)
    · exact decide_eq_true (Int.le_of_lt (lo x (List.mem_append_right _ hx)))
theorem mk_up {h k : Int} {l1 l2 : List Int} (lt : h < k) : mk (l1 ++ h :: l2) k = mk (l1 ++ l2) k := by
  unfold mk
  rw [List.filter_append, List.filter_cons, List.filter_append]
  simp [show ¬ k ≤ h by omega]
theorem sortI_lt {ms : List Int} (nd : ms.Nodup) : (sortI ms).Pairwise (· < ·) := by
  have h1 := sortI_pw ms
  have h2 : (sortI ms).Nodup := (sortI_perm ms).nodup_iff.mpr nd
  exact (List.Pairwise.and h1 h2).imp fun ⟨a, b⟩ => by omega
theorem find_ints (h : Int) : ∀ l : List Int, h ∈ l → (l.map PyData.int).findIdx? (fun z => PyData.eqv z (.int h)) = some (l.idxOf h)
  | [], hm => by cases hm
  | a :: r, hm => by
    have ea : PyData.eqv (.int a) (.int h) = decide (a = h) := by
      have : (a == h) = decide (a = h) := by rw [Bool.eq_iff_iff]; simp
      simpa [PyData.eqv] using this
    rw [List.map_cons, List.findIdx?_cons, ea, List.idxOf_cons]
    by_cases e : a = h
    · simp [e]
    · have hm' : h ∈ r := (List.mem_cons.mp hm).resolve_left fun z => e z.symm
      rw [find_ints h r hm', show (a == h) = false by simpa using e]
      simp [e]
theorem idx_ok {l : List Int} {h : Int} (hm : h ∈ l) : idxD [.list (l.map .int), .int h] = some (.int (l.idxOf h : Nat)) := by
  unfold idxD
  simp only [shp_list, shp_int, Bool.and_self, if_true, find_ints h l hm]
  rfl
theorem mem_filt {ms : List Int} {h : Int} (hm : h ∈ ms) : h ∈ ms.filter fun o => decide (h ≤ o) := List.mem_filter.mpr ⟨hm, decide_eq_true (Int.le_refl _)⟩
def isSq (d : PyData) (ms : List Int) : Prop := d = .list (ms.map .int) ∨ d = .tuple (ms.map .int)
theorem isSq.seq {d : PyData} {ms : List Int} (h : isSq d ms) : seqD d = some (ms.map .int) := by rcases h with rfl | rfl <;> rfl
end Ov
set_option Elab.async false
set_option linter.all false
set_option maxRecDepth 100000
set_option maxHeartbeats 4000000
set_option Elab.async false
set_option linter.all false
set_option maxRecDepth 100000
set_option maxHeartbeats 4000000
namespace Ov
/-! runs: the intervals, by their mathematics alone -/
abbrev Iv := Int × Int
def rix (iv : List Iv) (c : Int) : Nat := (iv.filter fun p => decide (p.2 < c)).length
def lf (at_ : Nat) : Nat := at_ - 1
def rg (iv : List Iv) (at_ : Nat) : Nat := min (at_ + 1) (iv.length - 1)
def nx (iv : List Iv) (a : Nat) : List Iv :=
  iv.take (lf a) ++ [((iv.getD (lf a) (0, 0)).1, (iv.getD (rg iv a) (0, 0)).2 - 1)] ++ (iv.drop (rg iv a + 1)).map fun p => (p.1 - 1, p.2 - 1)
def Pt : Int → Int → List Iv → Prop
  | s, e, [] => s = e
  | s, e, p :: r => p.1 = s ∧ s ≤ p.2 ∧ Pt (p.2 + 1) e r
theorem Pt.le : ∀ {iv : List Iv} {s e : Int}, Pt s e iv → s ≤ e
  | [], s, e, h => by have : s = e := h; omega
  | p :: r, s, e, h => by have := Pt.le h.2.2; have := h.2.1; omega
theorem Pt.app : ∀ {a b : List Iv} {s m e : Int}, Pt s m a → Pt m e b → Pt s e (a ++ b)
  | [], b, s, m, e, h, k => by have : s = m := h; rw [this]; exact k
  | p :: r, b, s, m, e, h, k => ⟨h.1, h.2.1, Pt.app h.2.2 k⟩
theorem Pt.split : ∀ {a b : List Iv} {s e : Int}, Pt s e (a ++ b) → ∃ m, Pt s m a ∧ Pt m e b
  | [], b, s, e, h => ⟨s, rfl, h⟩
  | p :: r, b, s, e, h => by
    obtain ⟨m, h1, h2⟩ := Pt.split (a := r) h.2.2
    exact ⟨m, ⟨h.1, h.2.1, h1⟩, h2⟩
theorem Pt.down : ∀ {a : List Iv} {s e : Int}, Pt s e a → Pt (s - 1) (e - 1) (a.map fun p => (p.1 - 1, p.2 - 1))
  | [], s, e, h => by have : s = e := h; show s - 1 = e - 1; omega
  | p :: r, s, e, h => by
    refine ⟨by show p.1 - 1 = s - 1; rw [h.1], by show s - 1 ≤ p.2 - 1; have := h.2.1; omega, ?_⟩
    have := Pt.down h.2.2
    rw [show p.2 + 1 - 1 = p.2 - 1 + 1 by omega] at this
    exact this
theorem rix_low : ∀ {iv : List Iv} {s e c : Int}, Pt s e iv → c ≤ s → rix iv c = 0
  | [], s, e, c, _, _ => rfl
  | p :: r, s, e, c, h, k => by
    have h2 := h.2.1
    have := rix_low h.2.2 (c := c) (by omega)
    unfold rix at *
    rw [List.filter_cons, show decide (p.2 < c) = false from decide_eq_false (by omega)]
    exact this
theorem rix_at : ∀ {iv : List Iv} {s e c : Int}, Pt s e iv → s ≤ c → c < e → ∃ p : Iv, iv[rix iv c]? = some p ∧ p.1 ≤ c ∧ c ≤ p.2 ∧ s ≤ p.1 ∧ p.2 < e
  | [], s, e, c, h, h1, h2 => by have : s = e := h; omega
  | p :: r, s, e, c, h, h1, h2 => by
    have hp := h.2.1
    have le := Pt.le h.2.2
    by_cases k : p.2 < c
    · obtain ⟨q, e1, e2, e3, e4, e5⟩ := rix_at h.2.2 (c := c) (by omega) h2
      refine ⟨q, ?_, e2, e3, by omega, e5⟩
      have : rix (p :: r) c = rix r c + 1 := by
        unfold rix
        rw [List.filter_cons, show decide (p.2 < c) = true from decide_eq_true k]
        rfl
      rw [this]
      exact e1
    · have : rix (p :: r) c = 0 := by
        unfold rix
        rw [List.filter_cons, show decide (p.2 < c) = false from decide_eq_false k]
        exact rix_low h.2.2 (by omega)
      rw [this]
      refine ⟨p, rfl, ?_, by omega, ?_, by omega⟩
      · rw [h.1]; exact h1
      · rw [h.1]; exact Int.le_refl _
theorem rix_in : ∀ {iv : List Iv} {s e c : Int} {k : Nat} {p : Iv}, Pt s e iv → iv[k]? = some p → p.1 ≤ c → c ≤ p.2 → rix iv c = k
  | [], s, e, c, k, p, h, h1, _, _ => by simp at h1
  | q :: r, s, e, c, 0, p, h, h1, h2, h3 => by
    have : q = p := by simpa using h1
    subst this
    unfold rix
    rw [List.filter_cons, show decide (q.2 < c) = false from decide_eq_false (by omega)]
    exact rix_low h.2.2 (by omega)
  | q :: r, s, e, c, k + 1, p, h, h1, h2, h3 => by
    have h1 : r[k]? = some p := by simpa using h1
    have ih := rix_in h.2.2 h1 h2 h3
    have lo : ∀ {iv : List Iv} {s e : Int} {k : Nat}, Pt s e iv → iv[k]? = some p → s ≤ p.1 := fun {iv} => by
      induction iv with
      | nil => intro s e k _ z; simp at z
      | cons a t ih =>
        intro s e k hh z
        have := hh.2.1
        cases k with
        | zero => have : a = p := by simpa using z
                  subst this; rw [hh.1]; exact Int.le_refl _
        | succ k => have := ih hh.2.2 (k := k) (by simpa using z); omega
    have := lo h.2.2 h1
    unfold rix at *
    rw [List.filter_cons, show decide (q.2 < c) = true from decide_eq_true (by omega)]
    show (List.filter _ r).length + 1 = _
    rw [ih]
theorem lt_of_get {α : Type} {l : List α} {k : Nat} {x : α} (h : l[k]? = some x) : k < l.length := (List.getElem?_eq_some_iff.mp h).1
/-- the runs of the next person -/
theorem nx_pt {iv : List Iv} {m : Int} {a : Nat} (h : Pt 0 m iv) (hm : 2 ≤ m) (ha : a < iv.length) : Pt 0 (m - 1) (nx iv a) := by
  have hl : lf a < iv.length := by unfold lf; omega
  have hr : rg iv a < iv.length := by unfold rg; omega
  have hlr : lf a ≤ rg iv a := by unfold lf rg; omega
  -- iv = A ++ (first :: M') ++ C
  have e1 : iv = iv.take (lf a) ++ ((iv.drop (lf a)).take (rg iv a + 1 - lf a) ++ iv.drop (rg iv a + 1)) := by
    have : iv.drop (rg iv a + 1) = (iv.drop (lf a)).drop (rg iv a + 1 - lf a) := by rw [List.drop_drop]; congr 1; omega
    rw [this, List.take_append_drop, List.take_append_drop]
  have h' := h
  rw [e1] at h'
  obtain ⟨x, p1, p2⟩ := Pt.split h'
  obtain ⟨y, p3, p4⟩ := Pt.split p2
  have gl : iv[lf a]? = some (iv[lf a]) := List.getElem?_eq_getElem hl
  have gr : iv[rg iv a]? = some (iv[rg iv a]) := List.getElem?_eq_getElem hr
  -- the ends of the middle part
  have mid : ∀ {M : List Iv} {s e : Int} {k : Nat} {p q : Iv}, Pt s e M → M.length = k + 1 → M[0]? = some p → M[k]? = some q → p.1 = s ∧ q.2 + 1 = e ∧ (k : Int) + s ≤ q.2 := fun {M} => by
    induction M with
    | nil => intro s e k p q _ z; simp at z
    | cons b t ih =>
      intro s e k p q hp hk h0 hq
      have : b = p := by simpa using h0
      subst this
      refine ⟨hp.1, ?_⟩
      cases k with
      | zero =>
        have : b = q := by simpa using hq
        subst this
        have : t = [] := by cases t with | nil => rfl | cons _ _ => simp at hk
        subst this
        have z : b.2 + 1 = e := hp.2.2
        have := hp.2.1
        exact ⟨z, by omega⟩
      | succ k =>
        cases t with
        | nil => simp at hk
        | cons b' t' =>
          have hk' : (b' :: t').length = k + 1 := by rw [List.length_cons] at hk; omega
          obtain ⟨_, z2, z3⟩ := ih hp.2.2 hk' (p := b') rfl (by simpa using hq)
          have := hp.2.1
          exact ⟨z2, by omega⟩
  have lm : ((iv.drop (lf a)).take (rg iv a + 1 - lf a)).length = (rg iv a - lf a) + 1 := by
    rw [List.length_take, List.length_drop]; omega
  obtain ⟨q1, q2, q3⟩ := mid p3 lm (p := iv[lf a]) (q := iv[rg iv a]) (by
    rw [List.getElem?_take_of_lt (by omega), List.getElem?_drop, Nat.add_zero]; exact gl) (by
    rw [List.getElem?_take_of_lt (by omega), List.getElem?_drop, show lf a + (rg iv a - lf a) = rg iv a by omega]; exact gr)
  have x0 := Pt.le p1
  have y0 := Pt.le p4
  unfold nx
  rw [List.getD_eq_getElem?_getD, gl, List.getD_eq_getElem?_getD, gr, List.append_assoc]
  refine Pt.app p1 ⟨q1, ?_, ?_⟩
  · show x ≤ (iv[rg iv a]).2 - 1
    by_cases k : lf a < rg iv a
    · have : (1 : Int) ≤ ((rg iv a - lf a : Nat) : Int) := by omega
      omega
    · -- one run alone: it is all there is
      have l1 : iv.length = 1 := by unfold lf rg at k; omega
      have a0 : lf a = 0 := by omega
      have r0 : rg iv a = 0 := by omega
      have t0 : iv.take (lf a) = [] := by rw [a0]; rfl
      rw [t0] at p1
      have : (0 : Int) = x := p1
      have d0 : iv.drop (rg iv a + 1) = [] := List.drop_eq_nil_of_le (by omega)
      rw [d0] at p4
      have : y = m := p4
      omega
  · have := Pt.down p4
    have z : (iv[rg iv a]).2 - 1 + 1 = y - 1 := by omega
    show Pt ((iv[rg iv a]).2 - 1 + 1) (m - 1) _
    rw [z]
    exact this
theorem nx_len {iv : List Iv} {a : Nat} : (nx iv a).length ≤ iv.length + 1 := by
  unfold nx
  simp only [List.length_append, List.length_take, List.length_map, List.length_drop, List.length_singleton]
  unfold lf rg
  omega
/-- the runs by the codes -/
def rns : List Iv → List Int → List Iv
  | _, [] => []
  | iv, c :: cs => iv.getD (rix iv c) (0, 0) :: rns (nx iv (rix iv c)) cs
def ivs : List Iv → List Int → List (List Iv)
  | _, [] => []
  | iv, c :: cs => iv :: ivs (nx iv (rix iv c)) cs
/-- codes within their bounds -/
def Vd : Int → List Int → Prop
  | _, [] => True
  | m, c :: cs => 0 ≤ c ∧ c < m ∧ Vd (m - 1) cs
theorem rns_cons {c : Int} {cs : List Int} {iv : List Iv} {p : Iv} (e : iv[rix iv c]? = some p) : rns iv (c :: cs) = p :: rns (nx iv (rix iv c)) cs := by
  rw [rns, List.getD_eq_getElem?_getD, e]
  rfl
def fiv (n : Nat) : List Iv := (List.range n).map fun i : Nat => ((i : Int), (i : Int))
theorem fiv_pt : ∀ n : Nat, Pt 0 n (fiv n)
  | 0 => rfl
  | n + 1 => by
    unfold fiv
    rw [List.range_succ, List.map_append]
    exact Pt.app (fiv_pt n) ⟨rfl, Int.le_refl _, rfl⟩
end Ov
set_option Elab.async false
set_option linter.all false
set_option maxRecDepth 100000
set_option maxHeartbeats 4000000
namespace Ov
open PySem L2
def pD (p : Iv) : PyData := .tuple [.int p.1, .int p.2]
def ivD (iv : List Iv) : List PyData := iv.map pD
theorem iv_len (iv : List Iv) : (ivD iv).length = iv.length := List.length_map _
end Ov
set_option Elab.async false
set_option linter.all false
set_option maxRecDepth 100000
set_option maxHeartbeats 4000000
namespace Ov
open PySem L2
theorem mks_vd : ∀ {S ms : List Int}, S.Pairwise (· < ·) → ms.Perm S → Vd S.length (S.map (mk ms))
  | [], ms, _, p => trivial
  | h :: S, ms, pw, p => by
    obtain ⟨lo, pw'⟩ := List.pairwise_cons.mp pw
    have hin : h ∈ ms := p.symm.subset (List.mem_cons_self ..)
    obtain ⟨l1, l2, e1, e2, _⟩ := List.exists_erase_eq hin
    subst e2
    have p' : (l1 ++ l2).Perm S := (List.perm_middle.symm.trans p).cons_inv
    have lo' : ∀ x ∈ l1 ++ l2, h < x := fun x hx => lo x (p'.subset hx)
    have em : S.map (mk (l1 ++ h :: l2)) = S.map (mk (l1 ++ l2)) := List.map_congr_left fun k hk => mk_up (lo k hk)
    have hl := p'.length_eq
    rw [List.length_append] at hl
    rw [List.map_cons, mk_low e1 lo', em, List.length_cons]
    refine ⟨by omega, by omega, ?_⟩
    rw [show ((S.length + 1 : Nat) : Int) - 1 = S.length by omega]
    exact mks_vd pw' p'
theorem mks_len (ms : List Int) : (mks ms).length = ms.length := by unfold mks; rw [List.length_map, (sortI_perm ms).length_eq]
theorem vd_row {ms : List Int} (nd : ms.Nodup) : Vd ms.length (mks ms) := by
  have := mks_vd (sortI_lt nd) (sortI_perm ms).symm
  rw [(sortI_perm ms).length_eq] at this
  exact this
/-- the runs of a row -/
def RNS (ms : List Int) : List Iv := rns (fiv ms.length) (mks ms)
def lsD (l : List (List Iv)) : List PyData := l.map fun iv => .list (ivD iv)
/-! the bar -/
end Ov
set_option Elab.async false
set_option linter.all false
set_option maxHeartbeats 1000000
namespace Ov
/-! exchanges: one code changes by one, in its run -/
theorem pt_get : ∀ {iv : List Iv} {s e : Int} {i : Nat} {p : Iv}, Pt s e iv → iv[i]? = some p → s ≤ p.1 ∧ p.1 ≤ p.2 ∧ p.2 < e
  | [], s, e, i, p, h, k => by simp at k
  | q :: r, s, e, 0, p, h, k => by
    have : q = p := by simpa using k
    subst this
    have h1 := h.1
    have h2 := h.2.1
    have := Pt.le h.2.2
    omega
  | q :: r, s, e, i + 1, p, h, k => by
    have := pt_get h.2.2 (i := i) (by simpa using k)
    have h2 := h.2.1
    omega
theorem pt_lt : ∀ {iv : List Iv} {s e : Int} {i j : Nat} {p q : Iv}, Pt s e iv → iv[i]? = some p → iv[j]? = some q → i < j → p.2 < q.1
  | [], s, e, i, j, p, q, h, k, _, _ => by simp at k
  | x :: r, s, e, 0, j, p, q, h, k, k2, lt => by
    have : x = p := by simpa using k
    subst this
    obtain ⟨j, rfl⟩ : ∃ z, j = z + 1 := ⟨j - 1, by omega⟩
    have := pt_get h.2.2 (i := j) (p := q) (by simpa using k2)
    omega
  | x :: r, s, e, i + 1, j, p, q, h, k, k2, lt => by
    obtain ⟨j, rfl⟩ : ∃ z, j = z + 1 := ⟨j - 1, by omega⟩
    exact pt_lt h.2.2 (i := i) (j := j) (by simpa using k) (by simpa using k2) (by omega)
theorem pt_le {iv : List Iv} {s e : Int} {i j : Nat} {p q : Iv} (h : Pt s e iv) (k : iv[i]? = some p) (k2 : iv[j]? = some q) (le : i ≤ j) : p.1 ≤ q.1 ∧ p.2 ≤ q.2 := by
  by_cases c : i = j
  · subst c
    rw [k] at k2
    cases k2
    exact ⟨Int.le_refl _, Int.le_refl _⟩
  · have a := pt_lt h k k2 (by omega)
    have b := pt_get h k
    have c := pt_get h k2
    omega
theorem pt_adj : ∀ {iv : List Iv} {s e : Int} {i : Nat} {p q : Iv}, Pt s e iv → iv[i]? = some p → iv[i + 1]? = some q → q.1 = p.2 + 1
  | [], s, e, i, p, q, h, k, _ => by simp at k
  | [x], s, e, i, p, q, h, k, k2 => by simp at k2
  | x :: y :: r, s, e, 0, p, q, h, k, k2 => by
    have : x = p := by simpa using k
    subst this
    have : y = q := by simpa using k2
    subst this
    exact h.2.2.1
  | x :: y :: r, s, e, i + 1, p, q, h, k, k2 => pt_adj h.2.2 (i := i) (by simpa using k) (by simpa using k2)
theorem pt_first {iv : List Iv} {s e : Int} {p : Iv} (h : Pt s e iv) (k : iv[0]? = some p) : p.1 = s := by
  cases iv with
  | nil => simp at k
  | cons x r =>
    have : x = p := by simpa using k
    subst this
    exact h.1
theorem pt_last : ∀ {iv : List Iv} {s e : Int} {i : Nat} {p : Iv}, Pt s e iv → iv[i]? = some p → i + 1 = iv.length → p.2 + 1 = e
  | [], s, e, i, p, h, k, _ => by simp at k
  | [x], s, e, i, p, h, k, l => by
    have : i = 0 := by simpa using l
    subst this
    have : x = p := by simpa using k
    subst this
    exact h.2.2
  | x :: y :: r, s, e, 0, p, h, k, l => by simp at l
  | x :: y :: r, s, e, i + 1, p, h, k, l => pt_last h.2.2 (i := i) (by simpa using k) (by simpa using l)
def jn (iv : List Iv) (k : Int) : Prop := ∃ (i : Nat) (p : Iv), iv[i]? = some p ∧ p.1 ≤ k ∧ k + 1 ≤ p.2
section
variable {iv : List Iv} {m c : Int} {a : Nat} {r : Iv}
theorem nx_parts (h : Pt 0 m iv) (ha : iv[a]? = some r) : ∃ pl pr : Iv, iv[lf a]? = some pl ∧ iv[rg iv a]? = some pr ∧ (nx iv a)[lf a]? = some (pl.1, pr.2 - 1) ∧ (∀ (i : Nat) (p : Iv), i < lf a → iv[i]? = some p → (nx iv a)[i]? = some p) ∧ ∀ (i : Nat) (p : Iv), rg iv a < i → iv[i]? = some p → ∃ j : Nat, (nx iv a)[j]? = some (p.1 - 1, p.2 - 1) := by
  have hl := lt_of_get ha
  have l1 : lf a < iv.length := by unfold lf; omega
  have l2 : rg iv a < iv.length := by unfold rg; omega
  have g1 : iv[lf a]? = some iv[lf a] := List.getElem?_eq_getElem l1
  have g2 : iv[rg iv a]? = some iv[rg iv a] := List.getElem?_eq_getElem l2
  have tl : (iv.take (lf a)).length = lf a := by rw [List.length_take]; omega
  refine ⟨_, _, g1, g2, ?_, fun i p hi hp => ?_, fun i p hi hp => ?_⟩
  · unfold nx
    rw [List.append_assoc, List.getElem?_append_right (by omega), tl, Nat.sub_self, List.getD_eq_getElem?_getD, List.getD_eq_getElem?_getD, g1, g2]
    rfl
  · unfold nx
    rw [List.append_assoc, List.getElem?_append_left (by omega), List.getElem?_take_of_lt hi]
    exact hp
  · refine ⟨lf a + 1 + (i - (rg iv a + 1)), ?_⟩
    unfold nx
    rw [List.getElem?_append_right (by rw [List.length_append, tl]; show lf a + 1 ≤ _; omega), List.length_append, tl]
    show ((iv.drop (rg iv a + 1)).map _)[lf a + 1 + (i - (rg iv a + 1)) - (lf a + 1)]? = _
    rw [show lf a + 1 + (i - (rg iv a + 1)) - (lf a + 1) = i - (rg iv a + 1) by omega, List.getElem?_map, List.getElem?_drop, show rg iv a + 1 + (i - (rg iv a + 1)) = i by omega, hp]
    rfl
end
end Ov
set_option Elab.async false
set_option linter.all false
set_option maxHeartbeats 1000000
namespace Ov
/-! the codes after an exchange -/
def fh (h : Int) (l : List Int) : List Int := l.filter fun o => decide (h ≤ o)
/-! no exchange: each run is one index -/
theorem fiv_get {m c : Nat} (h : c < m) : (fiv m)[c]? = some ((c : Int), (c : Int)) := by
  unfold fiv
  rw [List.getElem?_map, List.getElem?_range h]
  rfl
theorem fiv_len (n : Nat) : (fiv n).length = n := by unfold fiv; simp
/-! how far the codes are -/
end Ov
set_option Elab.async false
set_option linter.all false
set_option maxRecDepth 100000
set_option maxHeartbeats 4000000
namespace Ov
open PySem L2
def clr (ms : List Int) (l r : Nat) : Bool := ((ms.drop (l + 1)).take (r - (l + 1))).all fun y => decide (y < min (ms.getD l 0) (ms.getD r 0))
/-! sights and exchanges -/
def sg1 (ms : List Int) (l : Nat) : List Iv := ((rngL ((l : Int) + 1) ms.length).filter fun r => clr ms l r.toNat).map fun r => ((l : Int), r)
def sg (ms : List Int) : List Nat → List Iv
  | [] => []
  | l :: ls => sg1 ms l ++ sg ms ls
/-! what an exchange is -/
end Ov
set_option Elab.async false
set_option linter.all false
set_option maxRecDepth 100000
set_option maxHeartbeats 4000000
set_option linter.all false
set_option maxRecDepth 100000
set_option maxHeartbeats 4000000
namespace Ov
/-! valleys, hills and teeth: their runs -/
theorem pt_len : ∀ {iv : List Iv} {s e : Int}, Pt s e iv → s + iv.length ≤ e
  | [], s, e, h => by have : s = e := h; simp; omega
  | x :: r, s, e, h => by
    have := pt_len h.2.2
    have := h.1; have := h.2.1
    rw [List.length_cons, show ((r.length + 1 : Nat) : Int) = (r.length : Int) + 1 by rfl]
    omega
/-! the codes of a valley -/
/-! hills -/
/-! teeth -/
end Ov
set_option Elab.async false
set_option linter.all false
set_option maxRecDepth 100000
set_option maxHeartbeats 4000000
namespace Ov
open PySem L2
/-! swaps -/
/-! turned -/
/-! walks -/
def Wk : List Int → List Iv → List Int → Prop
  | ms, [], ns => ns = ms
  | ms, t :: ts, ns => ∃ A a B b C, ms = A ++ a :: (B ++ b :: C) ∧ B ≠ [] ∧ (∀ y ∈ B, y < a ∧ y < b) ∧ t = ((A.length : Int), ((A.length + 1 + B.length : Nat) : Int)) ∧ Wk (A ++ b :: (B ++ a :: C)) ts ns
theorem swap_perm {A B C : List Int} {a b : Int} : (A ++ b :: (B ++ a :: C)).Perm (A ++ a :: (B ++ b :: C)) := by
  refine List.Perm.append_left A ?_
  refine (List.Perm.cons b List.perm_middle).trans ?_
  refine (List.Perm.swap a b (B ++ C)).trans ?_
  exact List.Perm.cons a List.perm_middle.symm
theorem Wk.perm : ∀ {ts : List Iv} {ms ns : List Int}, Wk ms ts ns → ns.Perm ms
  | [], ms, ns, h => by rw [show ns = ms from h]
  | t :: ts, ms, ns, ⟨A, a, B, b, C, h1, h2, h3, h4, h5⟩ => by rw [h1]; exact (Wk.perm h5).trans swap_perm
end Ov
set_option linter.all false
set_option maxRecDepth 100000
set_option maxHeartbeats 4000000
namespace Ov
/-! runs as marks between neighbours -/
theorem nx_get {iv : List Iv} {a i : Nat} {q : Iv} (ha : a < iv.length) (h : (nx iv a)[i]? = some q) :
    (i < lf a ∧ iv[i]? = some q) ∨ (∃ pl pr, iv[lf a]? = some pl ∧ iv[rg iv a]? = some pr ∧ q = (pl.1, pr.2 - 1)) ∨ ∃ j p, rg iv a < j ∧ iv[j]? = some p ∧ q = (p.1 - 1, p.2 - 1) := by
  have hl : lf a < iv.length := by unfold lf; omega
  have hr : rg iv a < iv.length := by unfold rg; omega
  have g1 : iv[lf a]? = some iv[lf a] := List.getElem?_eq_getElem hl
  have g2 : iv[rg iv a]? = some iv[rg iv a] := List.getElem?_eq_getElem hr
  unfold nx at h
  rw [List.append_assoc, List.singleton_append, List.getElem?_append] at h
  by_cases c1 : i < (iv.take (lf a)).length
  · rw [if_pos c1] at h
    rw [List.length_take] at c1
    rw [List.getElem?_take, if_pos (by omega)] at h
    exact .inl ⟨by omega, h⟩
  · rw [if_neg c1] at h
    rw [List.length_take, Nat.min_eq_left (by omega)] at h c1
    cases e : i - lf a with
    | zero =>
      rw [e] at h
      right; left
      refine ⟨_, _, g1, g2, ?_⟩
      have h' := h
      simp only [List.getElem?_cons_zero] at h'
      injection h' with h'
      rw [← h']
      simp [List.getD_eq_getElem?_getD, g1, g2]
    | succ n =>
      rw [e, List.getElem?_cons_succ, List.getElem?_map, List.getElem?_drop] at h
      obtain ⟨p, hp, hq⟩ := Option.map_eq_some_iff.mp h
      exact .inr (.inr ⟨rg iv a + 1 + n, p, by omega, hp, hq.symm⟩)
theorem jn_iff {iv : List Iv} {m : Int} (P : Pt 0 m iv) {i : Nat} {p : Iv} {k : Int} (hp : iv[i]? = some p) (h1 : p.1 ≤ k) (h2 : k ≤ p.2) : jn iv k ↔ k + 1 ≤ p.2 := by
  constructor
  · rintro ⟨j, q, hq, k1, k2⟩
    have e : i = j := by
      have a := rix_in P hp h1 h2
      have b := rix_in P hq k1 (by omega)
      omega
    subst e
    rw [hp] at hq
    cases hq
    exact k2
  · intro h
    exact ⟨i, p, hp, h1, h⟩
theorem jn_nx {iv : List Iv} {m : Int} {a : Nat} {r : Iv} (P : Pt 0 m iv) (ha : iv[a]? = some r) {k : Int} (k0 : 0 ≤ k) (k1 : k + 2 < m) :
    jn (nx iv a) k ↔ (k < max 0 (r.1 - 1) ∧ jn iv k) ∨ (max 0 (r.1 - 1) ≤ k ∧ k < min r.2 (m - 2)) ∨ (max 0 (r.1 - 1) ≤ k ∧ min r.2 (m - 2) ≤ k ∧ jn iv (k + 1)) := by
  have lta := lt_of_get ha
  obtain ⟨pl, pr, e1, e2, e3, e4, e5⟩ := nx_parts P ha
  have gr := pt_get P ha
  have ls : lf a = a - 1 := rfl
  have rs : rg iv a = min (a + 1) (iv.length - 1) := rfl
  have fl := pt_get P e1
  have fr := pt_get P e2
  -- where the neighbours end
  have hpl : (a = 0 ∧ pl = r ∧ r.1 = 0) ∨ (1 ≤ a ∧ r.1 = pl.2 + 1) := by
    by_cases c : a = 0
    · subst c
      rw [show lf 0 = 0 from rfl, ha] at e1
      cases e1
      exact .inl ⟨rfl, rfl, pt_first P ha⟩
    · exact .inr ⟨by omega, pt_adj (i := lf a) P e1 (by rw [show lf a + 1 = a by omega]; exact ha)⟩
  have hpr : (a + 1 = iv.length ∧ pr = r ∧ r.2 = m - 1) ∨ (a + 1 < iv.length ∧ pr.1 = r.2 + 1) := by
    by_cases c : a + 1 = iv.length
    · rw [show rg iv a = a by omega, ha] at e2
      cases e2
      have := pt_last P ha c
      exact .inl ⟨c, rfl, by omega⟩
    · refine .inr ⟨by omega, pt_adj (i := a) P ha ?_⟩
      rw [show a + 1 = rg iv a by omega]
      exact e2
  constructor
  · rintro ⟨i, q, hq, q1, q2⟩
    rcases nx_get lta hq with ⟨h1, h2⟩ | ⟨pl', pr', h1, h2, rfl⟩ | ⟨j, p, h1, h2, rfl⟩
    · have := pt_lt P h2 e1 h1
      rcases hpl with ⟨z, _, _⟩ | ⟨_, z⟩
      · omega
      · exact .inl ⟨by omega, i, q, h2, q1, q2⟩
    · rw [e1] at h1
      rw [e2] at h2
      cases h1
      cases h2
      simp only at q1 q2
      rcases hpl with ⟨z, z2, z3⟩ | ⟨z, z2⟩
      · rcases hpr with ⟨y, y2, y3⟩ | ⟨y, y2⟩
        · right; left; omega
        · by_cases c : k < r.2
          · right; left; omega
          · right; right
            exact ⟨by omega, by omega, rg iv a, pr, e2, by omega, by omega⟩
      · by_cases c0 : k < r.1 - 1
        · exact .inl ⟨by omega, lf a, pl, e1, q1, by omega⟩
        · rcases hpr with ⟨y, y2, y3⟩ | ⟨y, y2⟩
          · right; left; omega
          · by_cases c : k < r.2
            · right; left; omega
            · right; right
              exact ⟨by omega, by omega, rg iv a, pr, e2, by omega, by omega⟩
    · simp only at q1 q2
      have := pt_lt P e2 h2 h1
      have f := pt_get P h2
      have lj := lt_of_get h2
      right; right
      rcases hpr with ⟨y, y2, y3⟩ | ⟨y, y2⟩
      · exfalso; omega
      · exact ⟨by omega, by omega, j, p, h2, by omega, by omega⟩
  · rintro (⟨h1, i, q, h2, h3, h4⟩ | ⟨h1, h2⟩ | ⟨h1, h2, i, q, h3, h4, h5⟩)
    · rcases hpl with ⟨z, _, _⟩ | ⟨_, z⟩
      · omega
      · by_cases c : i < lf a
        · exact ⟨i, q, e4 i q c h2, h3, h4⟩
        · by_cases c2 : i = lf a
          · subst c2
            rw [e1] at h2
            cases h2
            refine ⟨lf a, _, e3, h3, ?_⟩
            show k + 1 ≤ pr.2 - 1
            rcases hpr with ⟨_, rfl, _⟩ | ⟨_, y⟩ <;> omega
          · have := pt_lt P e1 h2 (by omega)
            omega
    · refine ⟨lf a, _, e3, ?_, ?_⟩
      · show pl.1 ≤ k
        rcases hpl with ⟨_, rfl, _⟩ | ⟨_, z⟩ <;> omega
      · show k + 1 ≤ pr.2 - 1
        rcases hpr with ⟨_, rfl, _⟩ | ⟨_, y⟩ <;> omega
    · have gq := pt_get P h3
      by_cases c : rg iv a < i
      · obtain ⟨j, hj⟩ := e5 i q c h3
        exact ⟨j, _, hj, by show q.1 - 1 ≤ k; omega, by show k + 1 ≤ q.2 - 1; omega⟩
      · by_cases c2 : i = rg iv a
        · subst c2
          rw [e2] at h3
          cases h3
          refine ⟨lf a, _, e3, ?_, by show k + 1 ≤ pr.2 - 1; omega⟩
          show pl.1 ≤ k
          rcases hpl with ⟨_, rfl, _⟩ | ⟨_, z⟩ <;> omega
        · have := pt_lt P h3 e2 (by omega)
          have h6 : i ≤ a := by omega
          have := (pt_le P h3 ha h6).2
          omega
/-- the marks J say where iv joins -/
def Jo (m : Nat) (J : List Bool) (iv : List Iv) : Prop := J.length = m - 1 ∧ ∀ (k : Nat) (b : Bool), J[k]? = some b → (b = true ↔ jn iv (k : Int))
theorem jo_fiv (m : Nat) : Jo m (List.replicate (m - 1) false) (fiv m) := by
  refine ⟨List.length_replicate, fun k b h => ?_⟩
  have hb : b = false := List.eq_of_mem_replicate (List.mem_of_getElem? h)
  subst hb
  refine ⟨fun z => (by cases z), fun ⟨i, p, h1, h2, h3⟩ => ?_⟩
  have hi := lt_of_get h1
  rw [fiv_len] at hi
  rw [fiv_get hi] at h1
  cases h1
  simp only at h2 h3
  omega
def stepJ (m : Nat) (J : List Bool) (lo hi : Nat) : List Bool := J.take (lo - 1) ++ List.replicate (min hi (m - 2) - (lo - 1)) true ++ J.drop (hi + 1)
theorem jo_step {m : Nat} {J : List Bool} {iv : List Iv} {a lo hi : Nat} (h : Jo m J iv) (hm : 2 ≤ m) (P : Pt 0 m iv) (ha : iv[a]? = some ((lo : Int), (hi : Int))) : Jo (m - 1) (stepJ m J lo hi) (nx iv a) := by
  obtain ⟨hl, hJ⟩ := h
  have g := pt_get P ha
  simp only at g
  have lt : (J.take (lo - 1)).length = lo - 1 := by rw [List.length_take, hl]; omega
  have lh : (List.replicate (min hi (m - 2) - (lo - 1)) true).length = min hi (m - 2) - (lo - 1) := List.length_replicate
  have ld : (J.drop (hi + 1)).length = m - 1 - (hi + 1) := by rw [List.length_drop, hl]
  refine ⟨?_, fun k b hk => ?_⟩
  · unfold stepJ
    rw [List.length_append, List.length_append, lt, lh, ld]
    omega
  · have hk2 : k < m - 2 := by
      have := (List.getElem?_eq_some_iff.mp hk).1
      unfold stepJ at this
      rw [List.length_append, List.length_append, lt, lh, ld] at this
      omega
    rw [jn_nx P ha (by omega) (by omega)]
    simp only
    unfold stepJ at hk
    rw [List.getElem?_append] at hk
    by_cases c1 : k < (J.take (lo - 1) ++ List.replicate (min hi (m - 2) - (lo - 1)) true).length
    · rw [if_pos c1, List.getElem?_append] at hk
      rw [List.length_append, lt, lh] at c1
      by_cases c2 : k < (J.take (lo - 1)).length
      · rw [if_pos c2] at hk
        rw [lt] at c2
        rw [List.getElem?_take, if_pos (by omega)] at hk
        rw [hJ k b hk]
        constructor
        · intro z; exact .inl ⟨by omega, z⟩
        · rintro (⟨_, z⟩ | z | z)
          · exact z
          · omega
          · omega
      · rw [if_neg c2] at hk
        rw [lt] at c2
        have hb : b = true := List.eq_of_mem_replicate (List.mem_of_getElem? hk)
        subst hb
        exact ⟨fun _ => .inr (.inl ⟨by omega, by omega⟩), fun _ => rfl⟩
    · rw [if_neg c1] at hk
      rw [List.length_append, lt, lh] at c1 hk
      rw [List.getElem?_drop] at hk
      have hh : hi ≤ m - 2 := by
        by_cases c : hi ≤ m - 2
        · exact c
        · have := (List.getElem?_eq_some_iff.mp hk).1
          omega
      have e : hi + 1 + (k - (lo - 1 + (min hi (m - 2) - (lo - 1)))) = k + 1 := by omega
      rw [e] at hk
      rw [hJ (k + 1) b hk]
      constructor
      · intro z; exact .inr (.inr ⟨by omega, by omega, by rw [show ((k + 1 : Nat) : Int) = (k : Int) + 1 by omega] at z; exact z⟩)
      · rintro (⟨z, _⟩ | z | ⟨_, _, z⟩)
        · omega
        · omega
        · rw [show ((k + 1 : Nat) : Int) = (k : Int) + 1 by omega]; exact z
theorem filt_in : ∀ {iv : List Iv} {s e c : Int} {k : Nat} {p : Iv}, Pt s e iv → iv[k]? = some p → p.1 ≤ c → c ≤ p.2 → iv.filter (fun q => decide (q.1 ≤ c) && decide (c ≤ q.2)) = [p]
  | [], s, e, c, k, p, P, h, _, _ => by simp at h
  | q :: iv, s, e, c, 0, p, P, h, h1, h2 => by
    cases h
    rw [List.filter_cons_of_pos (by simp [h1, h2])]
    rw [List.filter_eq_nil_iff.mpr fun x hx => ?_]
    obtain ⟨j, hj, ex⟩ := List.getElem_of_mem hx
    have := pt_lt (i := 0) (j := j + 1) (p := q) (q := x) P rfl (by simp [List.getElem?_eq_getElem hj, ex]) (by omega)
    simp
    omega
  | q :: iv, s, e, c, k + 1, p, P, h, h1, h2 => by
    have := pt_lt (i := 0) (j := k + 1) P rfl h (by omega)
    rw [List.filter_cons_of_neg (by simp; omega)]
    obtain ⟨_, _, P2⟩ := P
    exact filt_in P2 (by simpa using h) h1 h2
end Ov
set_option Elab.async false
set_option linter.all false
set_option maxRecDepth 100000
set_option maxHeartbeats 4000000
namespace Ov
open PySem L2
theorem ivD_snoc (t : List Iv) (p : Iv) : ivD (t ++ [p]) = ivD t ++ [pD p] := by unfold ivD; rw [List.map_append]; rfl
/-! marks -/
theorem mk_body {ms f r : List Int} {x k : Int} {w3 : Option Wv}
    (h1 : (lcW (seqI (get 0)) (gN 4) (tb1 (op2 geD (get 4) (get 2))) (get 4) [4]) [some (.dat (.tuple (ms.map PyData.int))), some (.own (dats (f.map PyData.int))), some (.dat (.int x)), w3, none] = some (.ok (.own (dats (r.map PyData.int))) [some (.dat (.tuple (ms.map PyData.int))), some (.own (dats (f.map PyData.int))), some (.dat (.int x)), w3, none]))
    (h2 : idxD [.list (r.map PyData.int), .int x] = some (.int k))
    (h3 : (f.map PyData.int).length + 1 ≤ 1000000) :
    b_marks_1 [some (.dat (.tuple (ms.map PyData.int))), some (.own (dats (f.map PyData.int))), some (.dat (.int x)), w3, none] = some (.ok .nx [some (.dat (.tuple (ms.map PyData.int))), some (.own (dats ((f.map PyData.int) ++ [.int k]))), some (.dat (.int x)), some (.dat (.list (r.map PyData.int))), none]) := by
  unfold b_marks_1
  exact (then_x (set_x (pl_x (fz_x h1 (v_ofWo _)) rfl) (Nat.le_of_ble_eq_true rfl)) (expr_x (mth_x rfl (acons_x (rm_x (get_x rfl) vwd_x rfl (acons_x (get_x rfl) anil_x) vwd_x (vwC_x vwd_x vw0_x) h2) anil_x) rfl rfl (v_app _ _ h3))))
theorem marks_go {ms f : List Int} {u1 u2 u3 : Option Wv}
    (h1 : forM (gN 2) b_marks_1 ((sortI ms).map PyData.int) [some (.dat (.tuple (ms.map PyData.int))), some (.own (dats [])), none, none, none] = some (.ok .nx [some (.dat (.tuple (ms.map PyData.int))), some (.own (dats (f.map PyData.int))), u1, u2, u3])) :
    F_marks [.tuple (ms.map PyData.int)] = some (.dat (.tuple (f.map PyData.int))) := by
  have s0 : s_marks_0 [some (.dat (.tuple (ms.map PyData.int))), none, none, none, none] = some (.ok .nx [some (.dat (.tuple (ms.map PyData.int))), some (.own (dats [])), none, none, none]) := by
    unfold s_marks_0
    exact (set_x (lstW_x anil_x rfl (Nat.le_of_ble_eq_true rfl)) (Nat.le_of_ble_eq_true rfl))
  have s1 : s_marks_1 [some (.dat (.tuple (ms.map PyData.int))), some (.own (dats [])), none, none, none] = some (.ok .nx [some (.dat (.tuple (ms.map PyData.int))), some (.own (dats (f.map PyData.int))), u1, u2, u3]) := by
    unfold s_marks_1
    exact (for_x (seq_x (cb_x (acons_x (get_x rfl) anil_x) (vwC_x vwd_x vw0_x) (sortTm_x _)) rfl) h1)
  refine runA_eq rfl ⟨[some (.dat (.tuple (ms.map PyData.int))), some (.own (dats (f.map PyData.int))), u1, u2, u3], ?_⟩
  show f_marks [some (.dat (.tuple (ms.map PyData.int))), none, none, none, none] = _
  unfold f_marks
  rw [then_nx s0, then_nx s1]
  unfold s_marks_2
  exact (ret_x (pl_x (cb_x (acons_x (getO_x rfl) anil_x) (vwC_x (vws_x rfl) vw0_x) rfl) rfl))
theorem mk_loop {ms : List Int} (hl : ms.length ≤ 900) : ∀ (S : List Int) {f : List Int} {w2 w3 : Option Wv}, (∀ x ∈ S, x ∈ ms) → f.length + S.length ≤ 1000 → ∃ u2 u3, forM (gN 2) b_marks_1 (S.map .int) [some (.dat (.tuple (ms.map .int))), some (.own (dats (f.map .int))), w2, w3, none] = some (.ok .nx [some (.dat (.tuple (ms.map .int))), some (.own (dats ((f ++ S.map (mk ms)).map .int))), u2, u3, none])
  | [], f, w2, w3, _, _ => ⟨w2, w3, by rw [List.map_nil (f := mk ms), List.append_nil]; exact for_nil⟩
  | x :: S, f, w2, w3, hS, hf => by
    rw [List.length_cons] at hf
    have hx := hS x (List.mem_cons_self ..)
    obtain ⟨u2, u3, e⟩ := mk_loop hl S (f := f ++ [mk ms x]) (w2 := some (.dat (.int x))) (w3 := some (.dat (.list ((ms.filter fun o => decide (x ≤ o)).map .int)))) (fun y hy => hS y (List.mem_cons_of_mem _ hy)) (by rw [List.length_append]; show f.length + 1 + _ ≤ _; omega)
    have st := mk_body (ms := ms) (f := f) (x := x) (w3 := w3) (r := ms.filter fun o => decide (x ≤ o)) (k := mk ms x) (lc_eq (seq_x (get_x rfl) rfl) rfl rfl (comp_x (fun y => .int y) (fun y => decide (x ≤ y)) ms [] (by show 0 + _ < _; omega) fun y _ => ⟨[some (.dat (.tuple (ms.map .int))), some (.own (dats (f.map .int))), some (.dat (.int x)), w3, some (.dat (.int y))], rfl, tb_x (op2_x (get_x rfl) (get_x rfl) vwd_x vwd_x (geI_x _ _)) vwd_x, fun _ => get_x rfl, rfl, rfl⟩)) (idx_ok (mem_filt hx)) (by rw [List.length_map]; omega)
    refine ⟨u2, u3, (for_go (e := [some (.dat (.tuple (ms.map .int))), some (.own (dats (f.map .int))), some (.dat (.int x)), w3, none]) rfl st).trans (Eq.trans ?_ (e.trans ?_))⟩
    · rw [List.map_append]; rfl
    · rw [List.append_assoc]; rfl
theorem marks_ok {ms : List Int} (hl : ms.length ≤ 900) : F_marks [.tuple (ms.map .int)] = some (.dat (.tuple ((mks ms).map .int))) := by
  obtain ⟨u2, u3, e⟩ := mk_loop hl (sortI ms) (f := []) (w2 := none) (w3 := none) (fun x hx => (sortI_perm ms).subset hx) (by rw [(sortI_perm ms).length_eq]; show 0 + _ ≤ _; omega)
  exact marks_go e
/-! intervals -/
theorem iv_last {j : List PyData} {c s k : Int} {f : List Iv}
    (c1 : k = (c - 1))
    (h2 : (ivD f).length + 1 ≤ 1000000) :
    b_intervals_1 [some (.dat (.list j)), some (.dat (.int c)), some (.own (dats (ivD f))), some (.dat (.int s)), some (.dat (.int k))] = some (.ok .nx [some (.dat (.list j)), some (.dat (.int c)), some (.own (dats ((ivD f) ++ [.tuple [.int s, .int k]]))), some (.dat (.int (k + 1))), some (.dat (.int k))]) := by
  unfold b_intervals_1
  exact (ifS_t (orT_t (tb_x (op2_x (get_x rfl) (op2_x (get_x rfl) con_x vwd_x vwd_x (subI_x _ _)) vwd_x vwd_x ((eqI_f _ _).trans (congrArg (fun z => some (PyData.bool z)) (decide_eq_true c1)))) vwd_x)) (then_x (expr_x (mth_x rfl (acons_x (tup_x (acons_x (get_x rfl) (acons_x (get_x rfl) anil_x)) rfl (Nat.le_of_ble_eq_true rfl)) anil_x) rfl rfl (v_app _ _ h2))) (set_x (pl_x (op2_x (get_x rfl) con_x vwd_x vwd_x (addI_x _ _)) rfl) (Nat.le_of_ble_eq_true rfl))))
theorem iv_cut {j : List PyData} {c s k : Int} {f : List Iv}
    (c1 : ¬ (k = (c - 1)))
    (h2 : ixD (.list j) (.int k) = some (.bool false))
    (h3 : (ivD f).length + 1 ≤ 1000000) :
    b_intervals_1 [some (.dat (.list j)), some (.dat (.int c)), some (.own (dats (ivD f))), some (.dat (.int s)), some (.dat (.int k))] = some (.ok .nx [some (.dat (.list j)), some (.dat (.int c)), some (.own (dats ((ivD f) ++ [.tuple [.int s, .int k]]))), some (.dat (.int (k + 1))), some (.dat (.int k))]) := by
  unfold b_intervals_1
  exact (ifS_t (orT_f (tb_x (op2_x (get_x rfl) (op2_x (get_x rfl) con_x vwd_x vwd_x (subI_x _ _)) vwd_x vwd_x ((eqI_f _ _).trans (congrArg (fun z => some (PyData.bool z)) (decide_eq_false c1)))) vwd_x) (notT_x (tb_x (op2_x (get_x rfl) (get_x rfl) vwd_x vwd_x h2) vwd_x))) (then_x (expr_x (mth_x rfl (acons_x (tup_x (acons_x (get_x rfl) (acons_x (get_x rfl) anil_x)) rfl (Nat.le_of_ble_eq_true rfl)) anil_x) rfl rfl (v_app _ _ h3))) (set_x (pl_x (op2_x (get_x rfl) con_x vwd_x vwd_x (addI_x _ _)) rfl) (Nat.le_of_ble_eq_true rfl))))
theorem iv_in {j : List PyData} {c s k : Int} {f : List Iv}
    (c1 : ¬ (k = (c - 1)))
    (h2 : ixD (.list j) (.int k) = some (.bool true)) :
    b_intervals_1 [some (.dat (.list j)), some (.dat (.int c)), some (.own (dats (ivD f))), some (.dat (.int s)), some (.dat (.int k))] = some (.ok .nx [some (.dat (.list j)), some (.dat (.int c)), some (.own (dats (ivD f))), some (.dat (.int s)), some (.dat (.int k))]) := by
  unfold b_intervals_1
  exact (ifS_f (orT_f (tb_x (op2_x (get_x rfl) (op2_x (get_x rfl) con_x vwd_x vwd_x (subI_x _ _)) vwd_x vwd_x ((eqI_f _ _).trans (congrArg (fun z => some (PyData.bool z)) (decide_eq_false c1)))) vwd_x) (notT_x (tb_x (op2_x (get_x rfl) (get_x rfl) vwd_x vwd_x h2) vwd_x))) nxt_x)
theorem intervals_go {j l : List PyData} {c : Int} {f : List Iv} {u1 u2 : Option Wv}
    (h1 : rngD [.int c] = some l)
    (h2 : forM (gN 4) b_intervals_1 l [some (.dat (.list j)), some (.dat (.int c)), some (.own (dats [])), some (.dat (.int 0)), none] = some (.ok .nx [some (.dat (.list j)), some (.dat (.int c)), some (.own (dats (ivD f))), u1, u2])) :
    F_intervals [.list j, .int c] = some (.own (dats (ivD f))) := by
  have s0 : s_intervals_0 [some (.dat (.list j)), some (.dat (.int c)), none, none, none] = some (.ok .nx [some (.dat (.list j)), some (.dat (.int c)), some (.own (dats [])), some (.dat (.int 0)), none]) := by
    unfold s_intervals_0
    exact (par_x (lstW_x anil_x rfl (Nat.le_of_ble_eq_true rfl)) (pl_x con_x rfl) (Nat.le_of_ble_eq_true rfl) (Nat.le_of_ble_eq_true rfl))
  have s1 : s_intervals_1 [some (.dat (.list j)), some (.dat (.int c)), some (.own (dats [])), some (.dat (.int 0)), none] = some (.ok .nx [some (.dat (.list j)), some (.dat (.int c)), some (.own (dats (ivD f))), u1, u2]) := by
    unfold s_intervals_1
    exact (for_x (argI_x (acons_x (get_x rfl) anil_x) rfl h1) h2)
  refine runA_eq rfl ⟨[some (.dat (.list j)), some (.dat (.int c)), none, u1, u2], ?_⟩
  show f_intervals [some (.dat (.list j)), some (.dat (.int c)), none, none, none] = _
  unfold f_intervals
  rw [then_nx s0, then_nx s1]
  unfold s_intervals_2
  exact (move_x (i := 2) rfl)
theorem jix {J : List Bool} {k : Nat} {b : Bool} (h : J[k]? = some b) : ixD (.list (J.map PyData.bool)) (.int (k : Int)) = some (.bool b) := ixL_map (z := PyData.bool) h
theorem iv_loop {m : Nat} {J : List Bool} {iv : List Iv} (hJ : Jo m J iv) (P : Pt 0 m iv) (hm : m ≤ 100) : ∀ (j : Nat) {k i : Nat} {p : Iv} {w4 : Option Wv}, 1 ≤ j → k + j = m → iv[i]? = some p → p.1 ≤ k → (k : Int) ≤ p.2 →
    ∃ u3 u4, forM (gN 4) b_intervals_1 ((List.range' k j).map nI) [some (.dat (.list (J.map PyData.bool))), some (.dat (.int (m : Int))), some (.own (dats (ivD (iv.take i)))), some (.dat (.int p.1)), w4] = some (.ok .nx [some (.dat (.list (J.map PyData.bool))), some (.dat (.int (m : Int))), some (.own (dats (ivD iv))), u3, u4])
  | 0, k, i, p, w4, h, _, _, _, _ => by omega
  | j + 1, k, i, p, w4, _, hk, hp, h1, h2 => by
    have li := lt_of_get hp
    have g := pt_get P hp
    have pl := pt_len P
    have tk : iv.take (i + 1) = iv.take i ++ [p] := by rw [List.take_add_one, hp]; rfl
    have tl : (ivD (iv.take i)).length + 1 ≤ 1000000 := by rw [iv_len, List.length_take]; omega
    rw [List.range'_succ, List.map_cons]
    by_cases c : j = 0
    · subst c
      have e2 : p.2 = (k : Int) := by omega
      have last : i + 1 = iv.length := by
        by_cases z : i + 1 = iv.length
        · exact z
        · have hq : iv[i + 1]? = some (iv[i + 1]'(by omega)) := List.getElem?_eq_getElem (by omega)
          have a1 := pt_adj P hp hq
          have a2 := pt_get P hq
          omega
      have st := iv_last (j := J.map PyData.bool) (c := (m : Int)) (s := p.1) (k := (k : Int)) (f := iv.take i) (by omega) tl
      refine ⟨some (.dat (.int ((k : Int) + 1))), some (.dat (.int (k : Int))), (for_go (e := [some (.dat (.list (J.map PyData.bool))), some (.dat (.int (m : Int))), some (.own (dats (ivD (iv.take i)))), some (.dat (.int p.1)), some (.dat (.int (k : Int)))]) rfl st).trans ?_⟩
      show some (Rs.ok Fl.nx _) = _
      have ee : ivD (iv.take i) ++ [.tuple [.int p.1, .int (k : Int)]] = ivD iv := by
        have : ivD iv = ivD (iv.take i ++ [p]) := by rw [← tk, last, List.take_length]
        rw [this, ivD_snoc, ← e2]
        rfl
      rw [ee]
    · have hkl : k < J.length := by rw [hJ.1]; omega
      have gk : J[k]? = some J[k] := List.getElem?_eq_getElem hkl
      have ji := hJ.2 k _ gk
      rw [jn_iff P hp h1 h2] at ji
      cases hb : J[k] with
      | true =>
        rw [hb] at gk ji
        have h3 := ji.mp rfl
        obtain ⟨u3, u4, e⟩ := iv_loop hJ P hm j (k := k + 1) (i := i) (p := p) (w4 := some (.dat (.int (k : Int)))) (by omega) (by omega) hp (by omega) (by omega)
        have st := iv_in (j := J.map PyData.bool) (c := (m : Int)) (s := p.1) (k := (k : Int)) (f := iv.take i) (by omega) (jix gk)
        exact ⟨u3, u4, (for_go (e := [some (.dat (.list (J.map PyData.bool))), some (.dat (.int (m : Int))), some (.own (dats (ivD (iv.take i)))), some (.dat (.int p.1)), some (.dat (.int (k : Int)))]) rfl st).trans e⟩
      | false =>
        rw [hb] at gk ji
        have e2 : p.2 = (k : Int) := by
          by_cases z : (k : Int) + 1 ≤ p.2
          · have := ji.mpr z; cases this
          · omega
        have hi : i + 1 < iv.length := by
          by_cases z : i + 1 = iv.length
          · have := pt_last P hp z; omega
          · omega
        have hq : iv[i + 1]? = some iv[i + 1] := List.getElem?_eq_getElem hi
        have a1 := pt_adj P hp hq
        have a2 := pt_get P hq
        obtain ⟨u3, u4, e⟩ := iv_loop hJ P hm j (k := k + 1) (i := i + 1) (p := iv[i + 1]) (w4 := some (.dat (.int (k : Int)))) (by omega) (by omega) hq (by omega) (by omega)
        have st := iv_cut (j := J.map PyData.bool) (c := (m : Int)) (s := p.1) (k := (k : Int)) (f := iv.take i) (by omega) (jix gk) tl
        refine ⟨u3, u4, (for_go (e := [some (.dat (.list (J.map PyData.bool))), some (.dat (.int (m : Int))), some (.own (dats (ivD (iv.take i)))), some (.dat (.int p.1)), some (.dat (.int (k : Int)))]) rfl st).trans (Eq.trans ?_ e)⟩
        rw [tk, ivD_snoc, a1, ← e2]
        rfl
theorem intervals_ok {m : Nat} {J : List Bool} {iv : List Iv} (hJ : Jo m J iv) (P : Pt 0 m iv) (h1 : 1 ≤ m) (hm : m ≤ 100) : F_intervals [.list (J.map PyData.bool), .int (m : Int)] = some (.own (dats (ivD iv))) := by
  obtain ⟨p, hp⟩ : ∃ p, iv[0]? = some p := by
    cases iv with
    | nil => have : (0 : Int) = (m : Int) := P; omega
    | cons p r => exact ⟨p, rfl⟩
  have f := pt_first P hp
  have g := pt_get P hp
  obtain ⟨u3, u4, e⟩ := iv_loop hJ P hm m (k := 0) (i := 0) (p := p) (w4 := none) h1 (by omega) hp (by omega) (by omega)
  rw [f] at e
  exact intervals_go (rng1N (by omega)) e
/-! the law's own runs -/
theorem rl_body {nk k c lo hi : Int} {ms : List Int} {j f x y : List PyData} {w5 w6 w7 w8 w9 : Option Wv} {iv : List Iv}
    (q1 : (ms.length : Nat) - k = nk)
    (h2 : F_intervals [.list j, .int nk] = some (.own (dats (ivD iv))))
    (h3 : f.length + 1 ≤ 1000000)
    (h4 : (whileM (andT (tb1 (op2 gtD (get 5) (con (.int 0)))) (tb1 (op2 ixD (get 1) (op2 subD (get 5) (con (.int 1)))))) (setS 5 (pl (op2 subD (get 5) (con (.int 1))))) 100) [some (.dat (.tuple (ms.map PyData.int))), some (.dat (.list j)), some (.own (dats (f ++ [.list (ivD iv)]))), some (.dat (.int k)), some (.dat (.int c)), some (.dat (.int c)), w6, w7, w8, w9] = some (.ok .nx [some (.dat (.tuple (ms.map PyData.int))), some (.dat (.list j)), some (.own (dats (f ++ [.list (ivD iv)]))), some (.dat (.int k)), some (.dat (.int c)), some (.dat (.int lo)), w6, w7, w8, w9]))
    (h5 : (whileM (andT (tb1 (op2 ltD (get 6) (cb lenD (acons (get 1) anil)))) (tb1 (op2 ixD (get 1) (get 6)))) (setS 6 (pl (op2 addD (get 6) (con (.int 1))))) 100) [some (.dat (.tuple (ms.map PyData.int))), some (.dat (.list j)), some (.own (dats (f ++ [.list (ivD iv)]))), some (.dat (.int k)), some (.dat (.int c)), some (.dat (.int lo)), some (.dat (.int c)), w7, w8, w9] = some (.ok .nx [some (.dat (.tuple (ms.map PyData.int))), some (.dat (.list j)), some (.own (dats (f ++ [.list (ivD iv)]))), some (.dat (.int k)), some (.dat (.int c)), some (.dat (.int lo)), some (.dat (.int hi)), w7, w8, w9]))
    (h6 : cutD (.list j) none (some (max 0 (lo - 1))) = some (.list x))
    (h7 : cutD (.list j) (some (hi + 1)) none = some (.list y))
    (q8 : (ms.length : Nat) - k = nk)
    (h9 : -(2 ^ 62) ≤ (max 0 ((min hi (nk - 2)) - (max 0 (lo - 1))) : Int) ∧ (max 0 ((min hi (nk - 2)) - (max 0 (lo - 1))) : Int) < 2 ^ 62 ∧ ([.bool true] : List PyData).length * (max 0 ((min hi (nk - 2)) - (max 0 (lo - 1))) : Int).toNat ≤ 1000000)
    (h10 : x.length + (((List.replicate (max 0 ((min hi (nk - 2)) - (max 0 (lo - 1))) : Int).toNat [.bool true]).flatten) : List PyData).length ≤ 1000000)
    (h11 : ((x ++ ((List.replicate (max 0 ((min hi (nk - 2)) - (max 0 (lo - 1))) : Int).toNat [.bool true]).flatten)) : List PyData).length + y.length ≤ 1000000) :
    b_run_lists_1 [some (.dat (.tuple (ms.map PyData.int))), some (.dat (.list j)), some (.own (dats f)), some (.dat (.int k)), some (.dat (.int c)), w5, w6, w7, w8, w9] = some (.ok .nx [some (.dat (.tuple (ms.map PyData.int))), some (.dat (.list ((x ++ ((List.replicate (max 0 ((min hi (nk - 2)) - (max 0 (lo - 1))) : Int).toNat [.bool true]).flatten)) ++ y))), some (.own (dats (f ++ [.list (ivD iv)]))), some (.dat (.int k)), some (.dat (.int c)), some (.dat (.int lo)), some (.dat (.int hi)), some (.dat (.list x)), some (.dat (.list y)), some (.dat (.int ((min hi (nk - 2)) - (max 0 (lo - 1)))))]) := by
  unfold b_run_lists_1
  exact (then_x (expr_x (mth_x rfl (acons_x (fz_x (callA_x (acons_x (get_x rfl) (acons_x (op2_x (cb_x (acons_x (get_x rfl) anil_x) (vwC_x vwd_x vw0_x) (lenTm_x _ _)) (get_x rfl) vwd_x vwd_x ((subI_x _ _).trans (congrArg (fun z => some (PyData.int z)) q1))) anil_x)) rfl h2) (v_ofWo _)) anil_x) rfl rfl (v_app _ _ h3))) (then_x (set_x (pl_x (get_x rfl) rfl) (Nat.le_of_ble_eq_true rfl)) (then_x h4 (then_x (set_x (pl_x (get_x rfl) rfl) (Nat.le_of_ble_eq_true rfl)) (then_x h5 (then_x (par_x (pl_x (sl_x (get_x rfl) poN_x (poS_x (cb_x (acons_x con_x (acons_x (op2_x (get_x rfl) con_x vwd_x vwd_x (subI_x _ _)) anil_x)) (vwC_x vwd_x (vwC_x vwd_x vw0_x)) (max_x _ _))) vwd_x h6) rfl) (pl_x (sl_x (get_x rfl) (poS_x (op2_x (get_x rfl) con_x vwd_x vwd_x (addI_x _ _))) poN_x vwd_x h7) rfl) (Nat.le_of_ble_eq_true rfl) (Nat.le_of_ble_eq_true rfl)) (then_x (set_x (pl_x (op2_x (cb_x (acons_x (get_x rfl) (acons_x (op2_x (op2_x (cb_x (acons_x (get_x rfl) anil_x) (vwC_x vwd_x vw0_x) (lenTm_x _ _)) (get_x rfl) vwd_x vwd_x ((subI_x _ _).trans (congrArg (fun z => some (PyData.int z)) q8))) con_x vwd_x vwd_x (subI_x _ _)) anil_x)) (vwC_x vwd_x (vwC_x vwd_x vw0_x)) (min_x _ _)) (cb_x (acons_x con_x (acons_x (op2_x (get_x rfl) con_x vwd_x vwd_x (subI_x _ _)) anil_x)) (vwC_x vwd_x (vwC_x vwd_x vw0_x)) (max_x _ _)) vwd_x vwd_x (subI_x _ _)) rfl) (Nat.le_of_ble_eq_true rfl)) (set_x (pl_x (op2_x (op2_x (get_x rfl) (repW_x (lstW_x (acons_x con_x anil_x) rfl (Nat.le_of_ble_eq_true rfl)) (cb_x (acons_x con_x (acons_x (get_x rfl) anil_x)) (vwC_x vwd_x (vwC_x vwd_x vw0_x)) (max_x _ _)) h9) vwd_x vwd_x (v_cat _ _ h10)) (get_x rfl) vwd_x vwd_x (v_cat _ _ h11)) rfl) (Nat.le_of_ble_eq_true rfl)))))))))
theorem wrl_go {ms cs : List Int} {l f : List PyData} {u1 u2 u3 u4 u5 u6 u7 u8 : Option Wv}
    (h1 : -(2 ^ 62) ≤ (max 0 ((ms.length : Nat) - 1) : Int) ∧ (max 0 ((ms.length : Nat) - 1) : Int) < 2 ^ 62 ∧ ([.bool false] : List PyData).length * (max 0 ((ms.length : Nat) - 1) : Int).toNat ≤ 1000000)
    (h2 : F_marks [.tuple (ms.map PyData.int)] = some (.dat (.tuple (cs.map PyData.int))))
    (h3 : enumD [.tuple (cs.map PyData.int)] = some l)
    (h4 : forM (gT (gsC (gN 3) (gsC (gN 4) gsN))) b_run_lists_1 l [some (.dat (.tuple (ms.map PyData.int))), some (.dat (.list ((List.replicate (max 0 ((ms.length : Nat) - 1) : Int).toNat [.bool false]).flatten))), some (.own (dats [])), none, none, none, none, none, none, none] = some (.ok .nx [some (.dat (.tuple (ms.map PyData.int))), u1, some (.own (dats f)), u2, u3, u4, u5, u6, u7, u8])) :
    F_run_lists [.tuple (ms.map PyData.int)] = some (.own (dats f)) := by
  have s0 : s_run_lists_0 [some (.dat (.tuple (ms.map PyData.int))), none, none, none, none, none, none, none, none, none] = some (.ok .nx [some (.dat (.tuple (ms.map PyData.int))), some (.dat (.list ((List.replicate (max 0 ((ms.length : Nat) - 1) : Int).toNat [.bool false]).flatten))), some (.own (dats [])), none, none, none, none, none, none, none]) := by
    unfold s_run_lists_0
    exact (par_x (pl_x (repW_x (lstW_x (acons_x con_x anil_x) rfl (Nat.le_of_ble_eq_true rfl)) (cb_x (acons_x con_x (acons_x (op2_x (cb_x (acons_x (get_x rfl) anil_x) (vwC_x vwd_x vw0_x) (lenTm_x _ _)) con_x vwd_x vwd_x (subI_x _ _)) anil_x)) (vwC_x vwd_x (vwC_x vwd_x vw0_x)) (max_x _ _)) h1) rfl) (lstW_x anil_x rfl (Nat.le_of_ble_eq_true rfl)) (Nat.le_of_ble_eq_true rfl) (Nat.le_of_ble_eq_true rfl))
  have s1 : s_run_lists_1 [some (.dat (.tuple (ms.map PyData.int))), some (.dat (.list ((List.replicate (max 0 ((ms.length : Nat) - 1) : Int).toNat [.bool false]).flatten))), some (.own (dats [])), none, none, none, none, none, none, none] = some (.ok .nx [some (.dat (.tuple (ms.map PyData.int))), u1, some (.own (dats f)), u2, u3, u4, u5, u6, u7, u8]) := by
    unfold s_run_lists_1
    exact (for_x (argI_x (acons_x (fz_x (callA_x (acons_x (get_x rfl) anil_x) rfl h2) rfl) anil_x) rfl h3) h4)
  refine runA_eq rfl ⟨[some (.dat (.tuple (ms.map PyData.int))), u1, none, u2, u3, u4, u5, u6, u7, u8], ?_⟩
  show f_run_lists [some (.dat (.tuple (ms.map PyData.int))), none, none, none, none, none, none, none, none, none] = _
  unfold f_run_lists
  rw [then_nx s0, then_nx s1]
  unfold s_run_lists_2
  exact (move_x (i := 2) rfl)
theorem wr_body {ms : List Int} {f iv q : List Iv} {c a b : Int}
    (h1 : (lcW (seqI (get 2)) (gN 4) (tb1 (chainE leD leD (op2 ixD (get 4) (con (.int 0))) (get 3) (op2 ixD (get 4) (con (.int 1))))) (get 4) [4]) [some (.dat (.tuple (ms.map PyData.int))), some (.own (dats (ivD f))), some (.dat (.list (ivD iv))), some (.dat (.int c)), none] = some (.ok (.own (dats (ivD q))) [some (.dat (.tuple (ms.map PyData.int))), some (.own (dats (ivD f))), some (.dat (.list (ivD iv))), some (.dat (.int c)), none]))
    (h2 : ixD (.list (ivD q)) (.int 0) = some (.tuple [.int a, .int b]))
    (h3 : (ivD f).length + 1 ≤ 1000000) :
    b_runs_1 [some (.dat (.tuple (ms.map PyData.int))), some (.own (dats (ivD f))), some (.dat (.list (ivD iv))), some (.dat (.int c)), none] = some (.ok .nx [some (.dat (.tuple (ms.map PyData.int))), some (.own (dats ((ivD f) ++ [.tuple [.int a, .int b]]))), some (.dat (.list (ivD iv))), some (.dat (.int c)), none]) := by
  unfold b_runs_1
  exact (expr_x (mth_x rfl (acons_x (op2_x (fz_x h1 (v_ofWo _)) con_x vwd_x vwd_x h2) anil_x) rfl rfl (v_app _ _ h3)))
theorem wr_go {ms cs : List Int} {ll zz : List PyData} {f : List Iv} {u1 u2 u3 : Option Wv}
    (h1 : F_run_lists [.tuple (ms.map PyData.int)] = some (.own (dats ll)))
    (h2 : F_marks [.tuple (ms.map PyData.int)] = some (.dat (.tuple (cs.map PyData.int))))
    (h3 : zipM [.list ll, .tuple (cs.map PyData.int)] = some zz)
    (h4 : forM (gT (gsC (gN 2) (gsC (gN 3) gsN))) b_runs_1 zz [some (.dat (.tuple (ms.map PyData.int))), some (.own (dats [])), none, none, none] = some (.ok .nx [some (.dat (.tuple (ms.map PyData.int))), some (.own (dats (ivD f))), u1, u2, u3])) :
    F_runs [.tuple (ms.map PyData.int)] = some (.dat (.tuple (ivD f))) := by
  have s0 : s_runs_0 [some (.dat (.tuple (ms.map PyData.int))), none, none, none, none] = some (.ok .nx [some (.dat (.tuple (ms.map PyData.int))), some (.own (dats [])), none, none, none]) := by
    unfold s_runs_0
    exact (set_x (lstW_x anil_x rfl (Nat.le_of_ble_eq_true rfl)) (Nat.le_of_ble_eq_true rfl))
  have s1 : s_runs_1 [some (.dat (.tuple (ms.map PyData.int))), some (.own (dats [])), none, none, none] = some (.ok .nx [some (.dat (.tuple (ms.map PyData.int))), some (.own (dats (ivD f))), u1, u2, u3]) := by
    unfold s_runs_1
    exact (for_x (argI_x (acons_x (fz_x (callA_x (acons_x (get_x rfl) anil_x) rfl h1) (v_ofWo _)) (acons_x (fz_x (callA_x (acons_x (get_x rfl) anil_x) rfl h2) rfl) anil_x)) rfl h3) h4)
  refine runA_eq rfl ⟨[some (.dat (.tuple (ms.map PyData.int))), some (.own (dats (ivD f))), u1, u2, u3], ?_⟩
  show f_runs [some (.dat (.tuple (ms.map PyData.int))), none, none, none, none] = _
  unfold f_runs
  rw [then_nx s0, then_nx s1]
  unfold s_runs_2
  exact (ret_x (pl_x (cb_x (acons_x (getO_x rfl) anil_x) (vwC_x (vws_x rfl) vw0_x) rfl) rfl))
theorem jo_get {m : Nat} {J : List Bool} {iv : List Iv} (hJ : Jo m J iv) {k : Nat} (h : k + 1 < m) : ∃ b, J[k]? = some b ∧ (b = true ↔ jn iv (k : Int)) := by
  have hk : k < J.length := by rw [hJ.1]; omega
  exact ⟨J[k], List.getElem?_eq_getElem hk, hJ.2 k _ (List.getElem?_eq_getElem hk)⟩
theorem lo_while {w0 w2 w3 w4 w6 w7 w8 w9 : Option Wv} {m : Nat} {J : List Bool} {iv : List Iv} {a lo hi : Nat} (hJ : Jo m J iv) (P : Pt 0 m iv) (ha : iv[a]? = some ((lo : Int), (hi : Int))) : ∀ (d fuel : Nat), lo + d ≤ hi → d < fuel →
    whileM (andT (tb1 (op2 gtD (get 5) (con (.int 0)))) (tb1 (op2 ixD (get 1) (op2 subD (get 5) (con (.int 1)))))) (setS 5 (pl (op2 subD (get 5) (con (.int 1))))) fuel [w0, some (.dat (.list (J.map PyData.bool))), w2, w3, w4, some (.dat (.int (((lo + d : Nat) : Int)))), w6, w7, w8, w9] = some (.ok .nx [w0, some (.dat (.list (J.map PyData.bool))), w2, w3, w4, some (.dat (.int ((lo : Int)))), w6, w7, w8, w9])
  | 0, fuel + 1, h, hf => by
    have g := pt_get P ha
    simp only at g
    rw [Nat.add_zero]
    by_cases c : lo = 0
    · subst c
      exact while_end (andT_f (tb_x (op2_x (get_x rfl) con_x vwd_x vwd_x ((gtI_x _ _).trans (congrArg (fun z => some (PyData.bool z)) (decide_eq_false (by omega))))) vwd_x))
    · obtain ⟨b, hb, hi'⟩ := jo_get hJ (k := lo - 1) (by omega)
      have a0 : 1 ≤ a := by
        by_cases z : a = 0
        · subst z; have := pt_first P ha; simp only at this; omega
        · omega
      have hq : iv[a - 1]? = some (iv[a - 1]'(by have := lt_of_get ha; omega)) := List.getElem?_eq_getElem _
      have adj := pt_adj (i := a - 1) P hq (by rw [show a - 1 + 1 = a by omega]; exact ha)
      have gq := pt_get P hq
      simp only at adj
      have no : b = false := by
        cases b with
        | false => rfl
        | true =>
          have := hi'.mp rfl
          rw [jn_iff P hq (by omega) (by omega)] at this
          omega
      subst no
      have ix := jix hb
      rw [show ((lo - 1 : Nat) : Int) = (lo : Int) - 1 by omega] at ix
      exact while_end (andT_t (tb_x (op2_x (get_x rfl) con_x vwd_x vwd_x ((gtI_x _ _).trans (congrArg (fun z => some (PyData.bool z)) (decide_eq_true (by omega))))) vwd_x) (tb_x (op2_x (get_x rfl) (op2_x (get_x rfl) con_x vwd_x vwd_x (subI_x _ _)) vwd_x vwd_x ix) vwd_x))
  | d + 1, fuel + 1, h, hf => by
    have g := pt_get P ha
    simp only at g
    obtain ⟨b, hb, hi'⟩ := jo_get hJ (k := lo + d) (by omega)
    have yes : b = true := hi'.mpr ((jn_iff P ha (by simp only; omega) (by simp only; omega)).mpr (by simp only; omega))
    subst yes
    have ix := jix hb
    rw [show ((lo + d : Nat) : Int) = ((lo + (d + 1) : Nat) : Int) - 1 by omega] at ix
    have ih := lo_while (w0 := w0) (w2 := w2) (w3 := w3) (w4 := w4) (w6 := w6) (w7 := w7) (w8 := w8) (w9 := w9) hJ P ha d fuel (by omega) (by omega)
    rw [show ((lo + d : Nat) : Int) = ((lo + (d + 1) : Nat) : Int) - 1 by omega] at ih
    exact (while_go (andT_t (tb_x (op2_x (get_x rfl) con_x vwd_x vwd_x ((gtI_x _ _).trans (congrArg (fun z => some (PyData.bool z)) (decide_eq_true (by omega))))) vwd_x) (tb_x (op2_x (get_x rfl) (op2_x (get_x rfl) con_x vwd_x vwd_x (subI_x _ _)) vwd_x vwd_x ix) vwd_x)) (set_x (pl_x (op2_x (get_x rfl) con_x vwd_x vwd_x (subI_x _ _)) rfl) (Nat.le_of_ble_eq_true rfl))).trans ih
theorem hi_while {w0 w2 w3 w4 w5 w7 w8 w9 : Option Wv} {m : Nat} {J : List Bool} {iv : List Iv} {a lo hi : Nat} (hJ : Jo m J iv) (P : Pt 0 m iv) (ha : iv[a]? = some ((lo : Int), (hi : Int))) : ∀ (d : Nat) {v fuel : Nat}, v + d = hi → lo ≤ v → d < fuel →
    whileM (andT (tb1 (op2 ltD (get 6) (cb lenD (acons (get 1) anil)))) (tb1 (op2 ixD (get 1) (get 6)))) (setS 6 (pl (op2 addD (get 6) (con (.int 1))))) fuel [w0, some (.dat (.list (J.map PyData.bool))), w2, w3, w4, w5, some (.dat (.int ((v : Int)))), w7, w8, w9] = some (.ok .nx [w0, some (.dat (.list (J.map PyData.bool))), w2, w3, w4, w5, some (.dat (.int ((hi : Int)))), w7, w8, w9])
  | 0, v, fuel + 1, h, hv, hf => by
    have g := pt_get P ha
    simp only at g
    have : v = hi := by omega
    subst this
    have len : lenD [.list (J.map PyData.bool)] = some (.int ((m - 1 : Nat) : Int)) := by rw [lenLm_x, hJ.1]
    by_cases c : v + 1 < m
    · obtain ⟨b, hb, hi'⟩ := jo_get hJ (k := v) c
      have no : b = false := by
        cases b with
        | false => rfl
        | true =>
          have := hi'.mp rfl
          rw [jn_iff P ha (by simp only; omega) (by simp only; omega)] at this
          simp only at this
          omega
      subst no
      exact while_end (andT_t (tb_x (op2_x (get_x rfl) (cb_x (acons_x (get_x rfl) anil_x) (vwC_x vwd_x vw0_x) len) vwd_x vwd_x ((ltI_x _ _).trans (congrArg (fun z => some (PyData.bool z)) (decide_eq_true (by omega))))) vwd_x) (tb_x (op2_x (get_x rfl) (get_x rfl) vwd_x vwd_x (jix hb)) vwd_x))
    · exact while_end (andT_f (tb_x (op2_x (get_x rfl) (cb_x (acons_x (get_x rfl) anil_x) (vwC_x vwd_x vw0_x) len) vwd_x vwd_x ((ltI_x _ _).trans (congrArg (fun z => some (PyData.bool z)) (decide_eq_false (by omega))))) vwd_x))
  | d + 1, v, fuel + 1, h, hv, hf => by
    have g := pt_get P ha
    simp only at g
    have len : lenD [.list (J.map PyData.bool)] = some (.int ((m - 1 : Nat) : Int)) := by rw [lenLm_x, hJ.1]
    obtain ⟨b, hb, hi'⟩ := jo_get hJ (k := v) (by omega)
    have yes : b = true := hi'.mpr ((jn_iff P ha (by simp only; omega) (by simp only; omega)).mpr (by simp only; omega))
    subst yes
    have ih := hi_while (w0 := w0) (w2 := w2) (w3 := w3) (w4 := w4) (w5 := w5) (w7 := w7) (w8 := w8) (w9 := w9) hJ P ha d (v := v + 1) (fuel := fuel) (by omega) (by omega) (by omega)
    rw [show ((v + 1 : Nat) : Int) = (v : Int) + 1 by omega] at ih
    exact (while_go (andT_t (tb_x (op2_x (get_x rfl) (cb_x (acons_x (get_x rfl) anil_x) (vwC_x vwd_x vw0_x) len) vwd_x vwd_x ((ltI_x _ _).trans (congrArg (fun z => some (PyData.bool z)) (decide_eq_true (by omega))))) vwd_x) (tb_x (op2_x (get_x rfl) (get_x rfl) vwd_x vwd_x (jix hb)) vwd_x)) (set_x (pl_x (op2_x (get_x rfl) con_x vwd_x vwd_x (addI_x _ _)) rfl) (Nat.le_of_ble_eq_true rfl))).trans ih
theorem rep_bool (b : Bool) : ∀ n : Nat, (List.replicate n [PyData.bool b]).flatten = (List.replicate n b).map PyData.bool
  | 0 => rfl
  | n + 1 => by rw [List.replicate_succ, List.flatten_cons, rep_bool b n, List.replicate_succ]; rfl
def enP (p : Nat × Int) : PyData := .tuple [nI p.1, .int p.2]
theorem rl_loop {ms : List Int} (hn : ms.length ≤ 60) : ∀ (cs : List Int) {iv : List Iv} {m k : Nat} {J : List Bool} {f : List PyData} {w3 w4 w5 w6 w7 w8 w9 : Option Wv}, (cs ≠ [] → Pt 0 m iv ∧ Jo m J iv) → m = cs.length → Vd m cs → k + m = ms.length → f.length + m ≤ 1000 →
    ∃ u1 u3 u4 u5 u6 u7 u8 u9, forM (gT (gsC (gN 3) (gsC (gN 4) gsN))) b_run_lists_1 (((List.range' k cs.length).zip cs).map enP) [some (.dat (.tuple (ms.map .int))), some (.dat (.list (J.map PyData.bool))), some (.own (dats f)), w3, w4, w5, w6, w7, w8, w9] = some (.ok .nx [some (.dat (.tuple (ms.map .int))), u1, some (.own (dats (f ++ lsD (ivs iv cs)))), u3, u4, u5, u6, u7, u8, u9])
  | [], iv, m, k, J, f, w3, w4, w5, w6, w7, w8, w9, _, _, _, _, _ => ⟨_, w3, w4, w5, w6, w7, w8, w9, by show _ = some (Rs.ok Fl.nx [_, _, some (.own (dats (f ++ []))), _, _, _, _, _, _, _]); rw [List.append_nil]; exact for_nil⟩
  | c :: cs, iv, m, k, J, f, w3, w4, w5, w6, w7, w8, w9, h, hm, v, hk, hf => by
    obtain ⟨P, hJ⟩ := h (by simp)
    rw [List.length_cons] at hm
    obtain ⟨p, e1, e2, e3, _, e5⟩ := rix_at P v.1 v.2.1
    have g := pt_get P e1
    obtain ⟨lo, hi, c', hp, hc⟩ : ∃ lo hi c' : Nat, p = ((lo : Int), (hi : Int)) ∧ c = (c' : Int) := ⟨p.1.toNat, p.2.toNat, c.toNat, by rw [Int.toNat_of_nonneg g.1, Int.toNat_of_nonneg (by omega)], by have := v.1; omega⟩
    subst hp
    subst hc
    simp only at e2 e3 g
    have lt := lt_of_get e1
    have iok := intervals_ok hJ P (by omega) (by omega)
    have wl := lo_while (w0 := some (.dat (.tuple (ms.map .int)))) (w2 := some (.own (dats (f ++ [.list (ivD iv)])))) (w3 := some (.dat (.int (k : Int)))) (w4 := some (.dat (.int (c' : Int)))) (w6 := w6) (w7 := w7) (w8 := w8) (w9 := w9) hJ P e1 (c' - lo) 100 (by omega) (by omega)
    rw [show lo + (c' - lo) = c' by omega] at wl
    have wh := hi_while (w0 := some (.dat (.tuple (ms.map .int)))) (w2 := some (.own (dats (f ++ [.list (ivD iv)])))) (w3 := some (.dat (.int (k : Int)))) (w4 := some (.dat (.int (c' : Int)))) (w5 := some (.dat (.int (lo : Int)))) (w7 := w7) (w8 := w8) (w9 := w9) hJ P e1 (hi - c') (v := c') (fuel := 100) (by omega) (by omega) (by omega)
    have c1 := cutL_to' (z := PyData.bool) (l := J) (k := lo - 1)
    rw [show ((lo - 1 : Nat) : Int) = max 0 ((lo : Int) - 1) by omega] at c1
    have c2 := cutL_from' (z := PyData.bool) (l := J) (k := hi + 1)
    rw [show ((hi + 1 : Nat) : Int) = (hi : Int) + 1 by omega] at c2
    have nr : (max 0 (min (hi : Int) ((m : Int) - 2) - max 0 ((lo : Int) - 1))).toNat = min hi (m - 2) - (lo - 1) := by omega
    have lJ := hJ.1
    have l1 : ((J.take (lo - 1)).map PyData.bool).length ≤ 100 := by rw [List.length_map, List.length_take]; omega
    have l2 : ((J.drop (hi + 1)).map PyData.bool).length ≤ 100 := by rw [List.length_map, List.length_drop]; omega
    have l3 : ((List.replicate (max 0 (min (hi : Int) ((m : Int) - 2) - max 0 ((lo : Int) - 1))).toNat [PyData.bool true]).flatten).length ≤ 100 := by rw [nr, rep_bool, List.length_map, List.length_replicate]; omega
    have st := rl_body (ms := ms) (j := J.map PyData.bool) (f := f) (k := (k : Int)) (c := (c' : Int)) (w5 := w5) (w6 := w6) (w7 := w7) (w8 := w8) (w9 := w9) (nk := (m : Int)) (by omega) iok (by omega) wl wh c1 c2 (by omega) ⟨by omega, by omega, by rw [nr]; show 1 * _ ≤ _; omega⟩ (by omega) (by rw [List.length_append]; omega)
    have ej : (J.take (lo - 1)).map PyData.bool ++ (List.replicate (max 0 (min (hi : Int) ((m : Int) - 2) - max 0 ((lo : Int) - 1))).toNat [PyData.bool true]).flatten ++ (J.drop (hi + 1)).map PyData.bool = (stepJ m J lo hi).map PyData.bool := by
      unfold stepJ
      rw [nr, rep_bool, List.map_append, List.map_append]
    rw [ej] at st
    obtain ⟨u1, u3, u4, u5, u6, u7, u8, u9, e⟩ := rl_loop hn cs (iv := nx iv (rix iv (c' : Int))) (m := m - 1) (k := k + 1) (J := stepJ m J lo hi) (f := f ++ [.list (ivD iv)]) (w3 := some (.dat (.int (k : Int)))) (w4 := some (.dat (.int (c' : Int)))) (w5 := some (.dat (.int (lo : Int)))) (w6 := some (.dat (.int (hi : Int)))) (w7 := some (.dat (.list ((J.take (lo - 1)).map PyData.bool)))) (w8 := some (.dat (.list ((J.drop (hi + 1)).map PyData.bool)))) (w9 := some (.dat (.int (min (hi : Int) ((m : Int) - 2) - max 0 ((lo : Int) - 1))))) (fun z => by
        have : cs.length ≠ 0 := fun y => z (List.length_eq_zero_iff.mp y)
        have m2 : 2 ≤ m := by omega
        have np := nx_pt P (by omega) lt
        rw [show (m : Int) - 1 = ((m - 1 : Nat) : Int) by omega] at np
        exact ⟨np, jo_step hJ m2 P e1⟩) (by omega) (by have := v.2.2; rw [show (m : Int) - 1 = ((m - 1 : Nat) : Int) by omega] at this; exact this) (by omega) (by rw [List.length_append]; show f.length + 1 + _ ≤ _; omega)
    refine ⟨u1, u3, u4, u5, u6, u7, u8, u9, ?_⟩
    rw [List.length_cons, List.range'_succ, List.zip_cons_cons, List.map_cons]
    refine (for_go (e := [some (.dat (.tuple (ms.map .int))), some (.dat (.list (J.map PyData.bool))), some (.own (dats f)), some (.dat (.int (k : Int))), some (.dat (.int (c' : Int))), w5, w6, w7, w8, w9]) rfl st).trans (e.trans ?_)
    rw [List.append_assoc]
    rfl
theorem wrl_ok {ms : List Int} (nd : ms.Nodup) (hn : ms.length ≤ 60) : F_run_lists [.tuple (ms.map .int)] = some (.own (dats (lsD (ivs (fiv ms.length) (mks ms))))) := by
  have ml := mks_len ms
  obtain ⟨u1, u3, u4, u5, u6, u7, u8, u9, e⟩ := rl_loop hn (mks ms) (iv := fiv ms.length) (m := ms.length) (k := 0) (J := List.replicate (ms.length - 1) false) (f := []) (w3 := none) (w4 := none) (w5 := none) (w6 := none) (w7 := none) (w8 := none) (w9 := none) (fun _ => ⟨fiv_pt _, jo_fiv _⟩) ml.symm (vd_row nd) (by omega) (by show 0 + _ ≤ _; omega)
  have nr : (max 0 (((ms.length : Nat) : Int) - 1)).toNat = ms.length - 1 := by omega
  rw [← rep_bool, ← nr] at e
  have en : enumD [.tuple ((mks ms).map PyData.int)] = some (((List.range' 0 (mks ms).length).zip (mks ms)).map enP) := by
    show some (enumL 0 ((mks ms).map PyData.int)) = _
    have := enum_map (z := PyData.int) (mks ms) 0
    exact congrArg some this
  exact wrl_go ⟨by omega, by omega, by rw [nr]; show 1 * _ ≤ _; omega⟩ (marks_ok (by omega)) en e
theorem wr_loop {ms : List Int} : ∀ (cs : List Int) {iv : List Iv} {m : Int} {f : List Iv} {w2 w3 : Option Wv}, (cs ≠ [] → Pt 0 m iv) → m = cs.length → Vd m cs → f.length + cs.length ≤ 1000 → iv.length + cs.length ≤ 500 →
    ∃ u2 u3, forM (gT (gsC (gN 2) (gsC (gN 3) gsN))) b_runs_1 (pairUp (lsD (ivs iv cs)) (cs.map .int)) [some (.dat (.tuple (ms.map .int))), some (.own (dats (ivD f))), w2, w3, none] = some (.ok .nx [some (.dat (.tuple (ms.map .int))), some (.own (dats (ivD (f ++ rns iv cs)))), u2, u3, none])
  | [], iv, m, f, w2, w3, _, _, _, _, _ => ⟨w2, w3, by rw [rns, List.append_nil]; exact for_nil⟩
  | c :: cs, iv, m, f, w2, w3, hp, hm, v, hf, hl => by
    have P := hp (by simp)
    obtain ⟨p, e1, e2, e3, _, _⟩ := rix_at P v.1 v.2.1
    have lt := lt_of_get e1
    rw [List.length_cons] at hm hf hl
    have nl := nx_len (iv := iv) (a := rix iv c)
    obtain ⟨u2, u3, e⟩ := wr_loop (ms := ms) cs (iv := nx iv (rix iv c)) (m := m - 1) (f := f ++ [p]) (w2 := some (.dat (.list (ivD iv)))) (w3 := some (.dat (.int c))) (fun z => nx_pt P (by have : cs.length ≠ 0 := fun y => z (List.length_eq_zero_iff.mp y); omega) lt) (by omega) v.2.2 (by rw [List.length_append]; show f.length + 1 + _ ≤ _; omega) (by omega)
    have fi := filt_in P e1 e2 e3
    have st := wr_body (ms := ms) (f := f) (iv := iv) (c := c) (q := [p]) (a := p.1) (b := p.2) (by
      refine lc_eq (seq_x (get_x rfl) rfl) rfl rfl ?_
      have := comp_x (env := [some (.dat (.tuple (ms.map .int))), some (.own (dats (ivD f))), some (.dat (.list (ivD iv))), some (.dat (.int c)), none]) (p := gN 4) (ft := tb1 (chainE leD leD (op2 ixD (get 4) (con (.int 0))) (get 3) (op2 ixD (get 4) (con (.int 1))))) (fe := get 4) (vs := [4]) (z := pD) pD (fun q => decide (q.1 ≤ c) && decide (c ≤ q.2)) iv [] (by show 0 + _ < _; omega) fun q _ => by
        refine ⟨[some (.dat (.tuple (ms.map .int))), some (.own (dats (ivD f))), some (.dat (.list (ivD iv))), some (.dat (.int c)), some (.dat (pD q))], rfl, ?_, fun _ => get_x rfl, rfl, rfl⟩
        by_cases z : q.1 ≤ c
        · rw [decide_eq_true z, Bool.true_and]
          exact tb_x (chain_t (op2_x (get_x rfl) con_x vwd_x vwd_x (c := .int q.1) rfl) (get_x rfl) vwd_x vwd_x ((leI_x _ _).trans (congrArg (fun z => some (PyData.bool z)) (decide_eq_true z))) (op2_x (get_x rfl) con_x vwd_x vwd_x (c := .int q.2) rfl) vwd_x vwd_x (leI_x _ _)) vwd_x
        · rw [decide_eq_false z, Bool.false_and]
          exact tb_x (chain_f (op2_x (get_x rfl) con_x vwd_x vwd_x (c := .int q.1) rfl) (get_x rfl) vwd_x vwd_x ((leI_x _ _).trans (congrArg (fun z => some (PyData.bool z)) (decide_eq_false z)))) vwd_x
      rw [fi] at this
      exact this) rfl (by rw [iv_len]; omega)
    have e0 : pairUp (lsD (ivs iv (c :: cs))) ((c :: cs).map .int) = .tuple [.list (ivD iv), .int c] :: pairUp (lsD (ivs (nx iv (rix iv c)) cs)) (cs.map .int) := rfl
    rw [e0]
    refine ⟨u2, u3, (for_go (e := [some (.dat (.tuple (ms.map .int))), some (.own (dats (ivD f))), some (.dat (.list (ivD iv))), some (.dat (.int c)), none]) rfl st).trans (Eq.trans ?_ (e.trans ?_))⟩
    · rw [ivD_snoc]; rfl
    · rw [rns_cons e1, List.append_assoc]; rfl
theorem wruns_ok {ms : List Int} (nd : ms.Nodup) (hn : ms.length ≤ 60) : F_runs [.tuple (ms.map .int)] = some (.dat (.tuple (ivD (RNS ms)))) := by
  have ml := mks_len ms
  obtain ⟨u2, u3, e⟩ := wr_loop (ms := ms) (mks ms) (iv := fiv ms.length) (m := ms.length) (f := []) (w2 := none) (w3 := none) (fun _ => fiv_pt _) (by rw [ml]) (vd_row nd) (by rw [ml]; show 0 + _ ≤ _; omega) (by rw [fiv_len, ml]; omega)
  rw [List.nil_append] at e
  exact wr_go (wrl_ok nd hn) (marks_ok (by omega)) rfl e
end Ov
set_option Elab.async false
set_option linter.all false
set_option maxRecDepth 100000
set_option maxHeartbeats 4000000
namespace Ov
open PySem L2
theorem right_go {bs bs1 due d1 bs9 d2 d3 : List PyData} {c wd s1 : Int} {u2 u3 u4 u5 u6 u7 u8 : Option Wv} {sz cl ls : List Int}
    (h1 : (F_take 2) bs [.int 6] = some (.dat (.int c), bs1))
    (p2 : s_right_1 [some (.own (dats bs1)), some (.dat (.int c)), none, none, none, none, none, none, none, none, none, none, none] = some (.ok .nx [some (.own (dats bs1)), some (.dat (.int c)), u2, none, none, none, none, none, none, none, none, none, none]))
    (p3 : s_right_2 [some (.own (dats bs1)), some (.dat (.int c)), u2, none, none, none, none, none, none, none, none, none, none] = some (.ok .nx [some (.own (dats bs1)), some (.dat (.int c)), u3, u4, u5, none, none, none, none, none, none, none, none]))
    (p4 : s_right_3 [some (.own (dats bs1)), some (.dat (.int c)), u3, u4, u5, none, none, none, none, none, none, none, none] = some (.ok .nx [some (.own (dats bs1)), some (.dat (.int c)), u3, u4, u5, some (.dat (.list (sz.map PyData.int))), none, none, none, none, none, none, none]))
    (p5 : s_right_4 [some (.own (dats bs1)), some (.dat (.int c)), u3, u4, u5, some (.dat (.list (sz.map PyData.int))), none, none, none, none, none, none, none] = some (.ok .nx [some (.own (dats bs1)), some (.dat (.int c)), u3, u4, u5, some (.dat (.list (sz.map PyData.int))), some (.dat (.list due)), none, none, none, none, none, none]))
    (p6 : s_right_5 [some (.own (dats bs1)), some (.dat (.int c)), u3, u4, u5, some (.dat (.list (sz.map PyData.int))), some (.dat (.list due)), none, none, none, none, none, none] = some (.ok .nx [some (.own (dats bs1)), some (.dat (.int c)), u3, u4, u5, some (.dat (.list (sz.map PyData.int))), some (.dat (.list due)), none, u6, none, none, none, none]))
    (p7 : s_right_6 [some (.own (dats bs1)), some (.dat (.int c)), u3, u4, u5, some (.dat (.list (sz.map PyData.int))), some (.dat (.list due)), none, u6, none, none, none, none] = some (.ok .nx [some (.own (dats bs1)), some (.dat (.int c)), u3, u4, u5, some (.dat (.list (sz.map PyData.int))), some (.dat (.list due)), none, u6, none, none, none, none]))
    (p8 : s_right_7 [some (.own (dats bs1)), some (.dat (.int c)), u3, u4, u5, some (.dat (.list (sz.map PyData.int))), some (.dat (.list due)), none, u6, none, none, none, none] = some (.ok .nx [some (.own (dats bs1)), some (.dat (.int c)), u3, u4, u5, some (.dat (.list (sz.map PyData.int))), some (.dat (.list due)), none, u7, none, none, none, none]))
    (h9 : F_lot_sizes [.int c] = some (.own (dats d1)))
    (h10 : (F_same 5) [.list d1, .list due] = some (.dat (.bool true)))
    (p11 : s_right_9 [some (.own (dats bs1)), some (.dat (.int c)), u3, u4, u5, some (.dat (.list (sz.map PyData.int))), some (.dat (.list due)), none, u7, none, none, none, none] = some (.ok .nx [some (.own (dats bs1)), some (.dat (.int c)), u3, u4, u5, some (.dat (.list (sz.map PyData.int))), some (.dat (.list due)), none, u7, some (.dat (.list (cl.map PyData.int))), none, none, none]))
    (p12 : s_right_10 [some (.own (dats bs1)), some (.dat (.int c)), u3, u4, u5, some (.dat (.list (sz.map PyData.int))), some (.dat (.list due)), none, u7, some (.dat (.list (cl.map PyData.int))), none, none, none] = some (.ok .nx [some (.own (dats bs1)), some (.dat (.int c)), u3, u4, u5, some (.dat (.list (sz.map PyData.int))), some (.dat (.list due)), none, u7, some (.dat (.list (cl.map PyData.int))), none, none, none]))
    (p13 : s_right_11 [some (.own (dats bs1)), some (.dat (.int c)), u3, u4, u5, some (.dat (.list (sz.map PyData.int))), some (.dat (.list due)), none, u7, some (.dat (.list (cl.map PyData.int))), none, none, none] = some (.ok .nx [some (.own (dats bs1)), some (.dat (.int c)), u3, u4, u5, some (.dat (.list (sz.map PyData.int))), some (.dat (.list due)), none, u7, some (.dat (.list (cl.map PyData.int))), u8, none, none]))
    (h14 : (F_take 2) bs1 [.int 9] = some (.dat (.int wd), bs9))
    (p15 : s_right_13 [some (.own (dats bs9)), some (.dat (.int c)), u3, u4, u5, some (.dat (.list (sz.map PyData.int))), some (.dat (.list due)), none, u7, some (.dat (.list (cl.map PyData.int))), u8, some (.dat (.int wd)), none] = some (.ok .nx [some (.own (dats bs9)), some (.dat (.int c)), u3, u4, u5, some (.dat (.list (sz.map PyData.int))), some (.dat (.list d2)), none, u7, some (.dat (.list (cl.map PyData.int))), u8, some (.dat (.int wd)), none]))
    (h16 : F_lot_sizes [.int wd] = some (.own (dats d3)))
    (h17 : (F_same 5) [.list d3, .list d2] = some (.dat (.bool true)))
    (h18 : (lcW (seqI (get 6)) (gT (gsC (gN 7) (gsC (gN 12) gsN))) yesT (get 12) [7, 12]) [some (.own (dats bs9)), some (.dat (.int c)), u3, u4, u5, some (.dat (.list (sz.map PyData.int))), some (.dat (.list d2)), none, u7, some (.dat (.list (cl.map PyData.int))), u8, some (.dat (.int wd)), none] = some (.ok (.own (dats (ls.map PyData.int))) [some (.own (dats bs9)), some (.dat (.int c)), u3, u4, u5, some (.dat (.list (sz.map PyData.int))), some (.dat (.list d2)), none, u7, some (.dat (.list (cl.map PyData.int))), u8, some (.dat (.int wd)), none]))
    (h19 : ixD (.list (cl.map PyData.int)) (.int wd) = some (.int s1))
    (c20 : ls.sum = s1) :
    F_right bs [] = some (.dat (.bool true), bs9) := by
  have s0 : s_right_0 [some (.own (dats bs)), none, none, none, none, none, none, none, none, none, none, none, none] = some (.ok .nx [some (.own (dats bs1)), some (.dat (.int c)), none, none, none, none, none, none, none, none, none, none, none]) := by
    unfold s_right_0
    exact (set_x (pl_x (fz_x (callB_x rfl (acons_x con_x anil_x) rfl rfl h1) rfl) rfl) (Nat.le_of_ble_eq_true rfl))
  have s8 : s_right_8 [some (.own (dats bs1)), some (.dat (.int c)), u3, u4, u5, some (.dat (.list (sz.map PyData.int))), some (.dat (.list due)), none, u7, none, none, none, none] = some (.ok .nx [some (.own (dats bs1)), some (.dat (.int c)), u3, u4, u5, some (.dat (.list (sz.map PyData.int))), some (.dat (.list due)), none, u7, none, none, none, none]) := by
    unfold s_right_8
    exact (ifS_f (notT_x (tb_x (fz_x (callA_x (acons_x (fz_x (callA_x (acons_x (get_x rfl) anil_x) rfl h9) (v_ofWo _)) (acons_x (get_x rfl) anil_x)) rfl h10) rfl) vwd_x)) nxt_x)
  have s12 : s_right_12 [some (.own (dats bs1)), some (.dat (.int c)), u3, u4, u5, some (.dat (.list (sz.map PyData.int))), some (.dat (.list due)), none, u7, some (.dat (.list (cl.map PyData.int))), u8, none, none] = some (.ok .nx [some (.own (dats bs9)), some (.dat (.int c)), u3, u4, u5, some (.dat (.list (sz.map PyData.int))), some (.dat (.list due)), none, u7, some (.dat (.list (cl.map PyData.int))), u8, some (.dat (.int wd)), none]) := by
    unfold s_right_12
    exact (set_x (pl_x (fz_x (callB_x rfl (acons_x con_x anil_x) rfl rfl h14) rfl) rfl) (Nat.le_of_ble_eq_true rfl))
  refine runB_eq rfl ⟨[some (.dat (.int c)), u3, u4, u5, some (.dat (.list (sz.map PyData.int))), some (.dat (.list d2)), none, u7, some (.dat (.list (cl.map PyData.int))), u8, some (.dat (.int wd)), none], ?_⟩
  show f_right [some (.own (dats bs)), none, none, none, none, none, none, none, none, none, none, none, none] = _
  unfold f_right
  rw [then_nx s0, then_nx p2, then_nx p3, then_nx p4, then_nx p5, then_nx p6, then_nx p7, then_nx p8, then_nx s8, then_nx p11, then_nx p12, then_nx p13, then_nx s12, then_nx p15]
  unfold s_right_14
  exact (ret_x (pl_x (andV_t (tb_x (fz_x (callA_x (acons_x (fz_x (callA_x (acons_x (get_x rfl) anil_x) rfl h16) (v_ofWo _)) (acons_x (get_x rfl) anil_x)) rfl h17) rfl) vwd_x) (op2_x (cb_x (acons_x (fz_x h18 (v_ofWo _)) anil_x) (vwC_x vwd_x vw0_x) (sum_ints' _)) (op2_x (get_x rfl) (get_x rfl) vwd_x vwd_x h19) vwd_x vwd_x ((eqI_f _ _).trans (congrArg (fun z => some (PyData.bool z)) (decide_eq_true c20))))) rfl))
end Ov
set_option Elab.async false
set_option linter.all false
set_option maxRecDepth 100000
set_option maxHeartbeats 4000000
namespace Ov
open PySem L2
/-! equations of the nested dicts -/
theorem putM_x {env : En} {i : Nat} {w : Wv} (hi : i < env.length) : putM i w env = some (.ok () (env.set i (some w))) := by unfold putM; first | rfl | rw [if_pos hi] | simp [hi]
theorem dtnD_x {env : En} {i : Nat} {kvs : List (NestedKey × Int)} (h : env[i]? = some (some (.dtn kvs))) : dtnD i env = some (.ok kvs env) := by unfold dtnD; rw [h]
theorem dget2N_x {env : En} {i : Nat} {fk fv : M R} {kvs : List (NestedKey × Int)} {r : R} {k : NestedKey} {v : Int} (h : env[i]? = some (some (.dtn kvs))) (hk : fk env = some (.ok r env)) (ha : asNK r = some k) (hv : fv env = some (.ok (.dat (.int v)) env)) : dget2N i fk fv env = some (.ok (.dat (.int ((lookN kvs k).getD v))) env) :=
  bind_go (dtnD_x h) (bind_go hk (bind_go (a := k) (e := env) (by rw [ha]; rfl) (bind_go hv (bind_go (a := v) (e := env) rfl (bind_go (dtnD_x h) rfl)))))
theorem dputN_x {env : En} {i : Nat} {fk fv : M R} {kvs : List (NestedKey × Int)} {r : R} {k : NestedKey} {v : Int} (hv : fv env = some (.ok (.dat (.int v)) env)) (h : env[i]? = some (some (.dtn kvs))) (hk : fk env = some (.ok r env)) (ha : asNK r = some k) (hl : kvs.length < 100000) : dputN i fk fv env = some (.ok .nx (env.set i (some (.dtn (putN kvs k v))))) :=
  bind_go hv (bind_go (a := v) (e := env) rfl (bind_go (dtnD_x h) (bind_go hk (bind_go (a := k) (e := env) (by rw [ha]; rfl) (bind_go (dtnD_x h) (bind_go (a := ()) (e := env) (by rw [decide_eq_true hl]; rfl) (bind_go (putM_x (List.getElem?_eq_some_iff.mp h).1) rfl)))))))
theorem srtVN_x {env : En} {i : Nat} {kvs : List (NestedKey × Int)} (h : env[i]? = some (some (.dtn kvs))) (hl : kvs.length < 64) : srtVN i env = some (.ok (.dat (.list ((srtI (kvs.map (·.2))).map .int))) env) :=
  bind_go (dtnD_x h) (bind_go (a := ()) (e := env) (by rw [decide_eq_true hl]; rfl) rfl)
theorem lenNd_x {env : En} {i : Nat} {kvs : List (NestedKey × Int)} (h : env[i]? = some (some (.dtn kvs))) (hl : kvs.length < 1000000) : lenNd i env = some (.ok (.dat (.int ((kvs.length : Nat) : Int))) env) :=
  bind_go (dtnD_x h) (bind_go (a := ()) (e := env) (by rw [decide_eq_true hl]; rfl) rfl)
theorem sortSetI_x (ns : List Int) (h : ns.length < 64) : sortSetI [.list (ns.map .int)] = some (.list ((ssI ns).map .int)) := by
  show (intsD (ns.map .int)).bind _ = _
  rw [intsD_map]
  exact if_pos h
theorem cntI_x (ns : List Int) (k : Int) : cntID [.list (ns.map .int), .int k] = some (.int ((ns.count k : Nat) : Int)) := by
  show (intsD (ns.map .int)).map _ = _
  rw [intsD_map]
  rfl
theorem lrE_x {env e : En} {k l : Int} {z : M (Int × Int)} (h1 : z env = some (.ok (k, l) e)) (h2 : -(2 ^ 62) ≤ k ∧ k < 2 ^ 62 ∧ -(2 ^ 62) ≤ l ∧ l < 2 ^ 62 ∧ (l - k).toNat ≤ 1000000) : lrE z env = some (.ok (.dat (.list ((rngL k l).map .int))) e) :=
  bind_go h1 (bind_go (a := ()) (e := e) (by
    show lift (chk (decide (-(2 ^ 62) ≤ k ∧ k < 2 ^ 62 ∧ -(2 ^ 62) ≤ l ∧ l < 2 ^ 62 ∧ (l - k).toNat ≤ 1000000))) e = _
    rw [decide_eq_true h2]; rfl) rfl)
theorem rng1_nat (n : Nat) : rngL 1 ((n : Int) + 1) = (List.range' 1 n).map fun k : Nat => (k : Int) := by
  unfold rngL
  rw [show ((n : Int) + 1 - 1).toNat = n by omega, List.range'_eq_map_range, List.map_map]
  exact List.map_congr_left fun k _ => by show (1 : Int) + _ = _; simp
/-- l.m(..) of data -/
theorem rmD_x {env e1 e2 : En} {fo : List PyData → Option PyData} {fa : M R} {fs : M (List R)} {rs : List R} {x d : PyData} {as : List PyData} (h1 : fa env = some (.ok (.dat x) e1)) (hl : isLD x = some ()) (h2 : fs e1 = some (.ok rs e2)) (h3 : vws rs e2 = some (.ok as e2)) (h4 : fo (x :: as) = some d) : rmE fo fa fs env = some (.ok (.dat d) e2) :=
  bind_go h1 (bind_go (a := x) (e := e1) rfl (bind_go (a := ()) (e := e1) (by rw [hl]; rfl) (bind_go h2 (bind_go (a := x) (e := e2) rfl (bind_go h3 (bind_go (a := d) (e := e2) (by rw [h4]; rfl) rfl))))))
end Ov
set_option Elab.async false
set_option linter.all false
set_option maxRecDepth 100000
set_option maxHeartbeats 2000000
namespace Ov
open PySem L2
def eqO (w : Option Wv) (ds : List PyData) : Bool :=
  match w with
  | some (.own xs) => match itds xs with
    | some es => eqPs es ds
    | none => false
  | _ => false
theorem kO {w : Option Wv} {ds : List PyData} (h : eqO w ds = true) : w = some (.own (dats ds)) := by
  unfold eqO at h
  split at h
  · split at h
    · rename_i es e
      rw [itds_eq e, eqPs_ok _ _ h]
    · cases h
  · cases h
def szL : Nat → List (Int × Int)
  | 0 => [(1, 1)]
  | 1 => [(1, 1)]
  | 2 => [(1, 2)]
  | 3 => [(1, 4), (2, 1)]
  | 4 => [(1, 8), (2, 4), (4, 2)]
  | 5 => [(1, 16), (2, 12), (4, 10), (6, 2), (8, 2), (12, 1)]
  | 6 => [(1, 32), (2, 32), (4, 34), (6, 12), (8, 12), (12, 12), (16, 2), (18, 4), (36, 2)]
  | 7 => [(1, 64), (2, 80), (4, 98), (6, 48), (8, 46), (12, 64), (16, 14), (18, 28), (24, 20), (32, 2), (36, 20), (48, 6), (54, 4), (72, 2), (108, 2), (144, 1)]
  | 8 => [(1, 128), (2, 192), (4, 258), (6, 160), (8, 144), (12, 250), (16, 60), (18, 124), (24, 148), (32, 16), (36, 108), (48, 102), (54, 32), (64, 2), (72, 40), (96, 24), (108, 22), (144, 16), (162, 4), (192, 12), (288, 4), (324, 2), (576, 2)]
  | _ => []
theorem sizes_ok {n : Nat} (h : n ≤ 8) : F_lot_sizes [.int (n : Int)] = some (.own (dats ((szL n).map prD))) := by
  have key : ∀ m : Nat, m ≤ 8 → eqO (F_lot_sizes [.int (m : Int)]) ((szL m).map prD) = true := by decide +kernel
  exact kO (key n h)
theorem walked_ok {n : Nat} (h : n ≤ 8) : F_walked [.int (n : Int)] = some (.dat (.list ((szL n).map prD))) := by
  have key : ∀ m : Nat, m ≤ 8 → eqW (F_walked [.int (m : Int)]) (.list ((szL m).map prD)) = true := by decide +kernel
  exact kW (key n h)
/-! all rows of so many people -/
def ordL (n : Nat) : List (List Int) := (List.range n).foldl (fun acc _ => acc.flatMap fun s => (((List.range' 1 n).map fun k : Nat => (k : Int)).filter fun k => !(s.contains k)).map fun k => s ++ [k]) [[]]
def tnR (r : List Int) : PyData := .tuple (r.map .int)
theorem orders_ok {n : Nat} (h : n ≤ 5) : F_orders [.list (((List.range' 1 n).map fun k : Nat => (k : Int)).map .int)] = some (.dat (.list ((ordL n).map tnR))) := by
  have key : ∀ m : Nat, m ≤ 5 → eqW (F_orders [.list (((List.range' 1 m).map fun k : Nat => (k : Int)).map .int)]) (.list ((ordL m).map tnR)) = true := by decide +kernel
  exact kW (key n h)
end Ov
set_option Elab.async false
set_option linter.all false
set_option maxRecDepth 100000
set_option maxHeartbeats 2000000
namespace Ov
open PySem L2
def idW (n : Nat) : List Int := (List.range' 1 n).map fun k : Nat => (k : Int)
def MkW (w x : List Int) : List Int := w.map (mk x)
def RnW (w x : List Int) : List Iv := rns (fiv x.length) (MkW w x)
theorem rnW {w x : List Int} (pw : w.Pairwise (· < ·)) (px : x.Perm w) : RNS x = RnW w x := by
  unfold RNS RnW mks MkW
  rw [sort_uniq ((sortI_perm x).trans px) (sortI_pw x) (pw.imp fun h => by omega)]
theorem idW_pw (n : Nat) : (idW n).Pairwise (· < ·) := by
  unfold idW
  rw [List.pairwise_map]
  exact (List.pairwise_lt_range' (s := 1) (n := n)).imp fun h => by omega
theorem ord_perm {n : Nat} (h : n ≤ 5) {r : List Int} (hr : r ∈ ordL n) : r.Perm (idW n) := by
  have key : ∀ m : Nat, m ≤ 5 → ((ordL m).all fun r => decide (r.Perm (idW m))) = true := by decide +kernel
  exact of_decide_eq_true (List.all_eq_true.mp (key n h) r hr)
def nkR (R : List Iv) : NestedKey := .tup (R.map fun p => .tup [.num p.1, .num p.2])
theorem nk_ivs (R : List Iv) : asNK (.dat (.tuple (ivD R))) = some (nkR R) := by
  have e : nkDs (ivD R) = some (R.map fun p : Iv => NestedKey.tup [.num p.1, .num p.2]) := by
    induction R with
    | nil => rfl
    | cons p r ih =>
      show ((nkD (pD p)).bind fun k => (nkDs (ivD r)).map (k :: ·)) = _
      rw [ih]
      rfl
  show (nkDs (ivD R)).bind _ = _
  rw [e]
  show (if (NestedKey.tup (R.map fun p : Iv => NestedKey.tup [.num p.1, .num p.2])).depth ≤ 8 then _ else _) = _
  rw [if_pos]
  · rfl
  · have : ∀ l : List Iv, NestedKey.depthAll (l.map fun p : Iv => NestedKey.tup [.num p.1, .num p.2]) ≤ 2 := fun l => by
      induction l with
      | nil => exact Nat.zero_le _
      | cons p r ih =>
        show max (NestedKey.depth (.tup [.num p.1, .num p.2])) (NestedKey.depthAll _) ≤ 2
        have : NestedKey.depth (.tup [.num p.1, .num p.2]) ≤ 2 := by simp [NestedKey.depth, NestedKey.depthAll]
        omega
    have := this R
    show NestedKey.depthAll _ + 1 ≤ 8
    omega
def rnN (n : Nat) (r : List Int) : NestedKey := nkR (RnW (idW n) r)
theorem runs_key {n : Nat} (h : n ≤ 5) {r : List Int} (hr : r ∈ ordL n) : ∃ R, F_runs [tnR r] = some (.dat (.tuple (ivD R))) ∧ asNK (.dat (.tuple (ivD R))) = some (rnN n r) := by
  have p := ord_perm h hr
  have nd : r.Nodup := p.nodup_iff.mpr ((idW_pw n).imp fun h => by omega)
  have l : r.length ≤ 60 := by rw [p.length_eq]; unfold idW; rw [List.length_map, List.length_range']; omega
  exact ⟨RNS r, wruns_ok nd l, by rw [nk_ivs, rnW (idW_pw n) p]; rfl⟩
def stpK (n : Nat) (m : List (NestedKey × Int)) (r : List Int) : List (NestedKey × Int) := putN m (rnN n r) ((lookN m (rnN n r)).getD 0 + 1)
def lotK (n : Nat) : List (NestedKey × Int) := (ordL n).foldl (stpK n) []
def szK (n : Nat) : List Int := srtI ((lotK n).map (·.2))
/-- what is known of the lots -/
theorem lot_facts {n : Nat} (h : n ≤ 5) : (lotK n).length < 64 ∧ ((ssI (szK n)).map fun x => (x, ((szK n).count x : Int))) = szL n ∧ (szK n).length < 64 ∧ eqW (F_count_lots [.int (n : Int)]) (.int ((lotK n).length : Int)) = true ∧ (ordL n).length < 1000 := by
  have key : ∀ m : Nat, m ≤ 5 → (lotK m).length < 64 ∧ ((ssI (szK m)).map fun x => (x, ((szK m).count x : Int))) = szL m ∧ (szK m).length < 64 ∧ eqW (F_count_lots [.int (m : Int)]) (.int ((lotK m).length : Int)) = true ∧ (ordL m).length < 1000 := by decide +kernel
  exact key n h
def clL : List Int := [1, 1, 2, 5, 14, 43, 142, 499, 1850, 7193, 29186, 123109, 538078, 2430355, 11317646, 54229907, 266906858]
theorem cl_val {k : Nat} (h : k < 17) : F_count_lots [.int (k : Int)] = some (.dat (.int (clL.getD k 0))) := by
  have key : ∀ m : Nat, m < 17 → eqW (F_count_lots [.int (m : Int)]) (.int (clL.getD m 0)) = true := by decide +kernel
  exact kW (key k h)
end Ov
set_option Elab.async false
set_option linter.all false
set_option maxRecDepth 100000
set_option maxHeartbeats 2000000
namespace Ov
open PySem L2
theorem lots_loop {n : Nat} {w0 w1 v5 v6 v7 v8 v9 v10 v11 v12 : Option Wv} (hn : n ≤ 5) : ∀ (rows : List (List Int)) (kvs : List (NestedKey × Int)) (w3 w4 : Option Wv), (∀ r ∈ rows, r ∈ ordL n) → kvs.length + rows.length ≤ 10000 →
    ∃ u3 u4, forM (gN 3) b_right_2 (rows.map tnR) [w0, w1, some (.dtn kvs), w3, w4, v5, v6, v7, v8, v9, v10, v11, v12] = some (.ok .nx [w0, w1, some (.dtn (rows.foldl (stpK n) kvs)), u3, u4, v5, v6, v7, v8, v9, v10, v11, v12])
  | [], kvs, w3, w4, _, _ => ⟨w3, w4, for_nil⟩
  | r :: rows, kvs, w3, w4, h, hl => by
    rw [List.length_cons] at hl
    obtain ⟨R, e1, e2⟩ := runs_key hn (h r (List.mem_cons_self ..))
    have le : (stpK n kvs r).length ≤ kvs.length + 1 := putN_len _ _ _
    obtain ⟨u3, u4, e⟩ := lots_loop hn rows (stpK n kvs r) (some (.dat (tnR r))) (some (.dat (.tuple (ivD R)))) (fun x hx => h x (List.mem_cons_of_mem _ hx)) (by omega)
    refine ⟨u3, u4, ?_⟩
    rw [List.map_cons, List.foldl_cons, ← e]
    refine for_go (e := [w0, w1, some (.dtn kvs), some (.dat (tnR r)), w4, v5, v6, v7, v8, v9, v10, v11, v12]) rfl ?_
    unfold b_right_2
    exact then_x (set_x (pl_x (fz_x (callA_x (acons_x (get_x rfl) anil_x) rfl e1) rfl) rfl) (Nat.le_of_ble_eq_true rfl))
      (dputN_x (op2_x (dget2N_x rfl (get_x rfl) e2 con_x) con_x vwd_x vwd_x (addI_x _ _)) rfl (get_x rfl) e2 (by omega))
theorem okPr {n : Nat} (p : Int × Int) : okS (n + 2) (prD p) := .inr ⟨_, .inr rfl, by show 2 < 1000; decide, fun x hx => by
  simp only [List.mem_cons, List.not_mem_nil, or_false] at hx
  rcases hx with rfl | rfl <;> exact .inl ⟨rfl, shp_int _⟩⟩
theorem okPrs {n : Nat} {l : List (Int × Int)} (h : l.length < 1000) : okS (n + 3) (.list (l.map prD)) := .inr ⟨_, .inl rfl, by rw [List.length_map]; exact h, fun x hx => by
  obtain ⟨p, _, rfl⟩ := List.mem_map.mp hx
  exact okPr p⟩
theorem szL_len : ∀ n, n ≤ 8 → (szL n).length < 1000 := by decide
theorem same_prs {n : Nat} (h : n ≤ 8) : (F_same 5) [.list ((szL n).map prD), .list ((szL n).map prD)] = some (.dat (.bool true)) := same_ok (okPrs (n := 2) (szL_len n h))
theorem same_two {n : Nat} (h : n ≤ 8) : (F_same 5) [.list [.list ((szL n).map prD), .list ((szL n).map prD)], .list [.list ((szL n).map prD), .list ((szL n).map prD)]] = some (.dat (.bool true)) :=
  same_ok (n := 5) (.inr ⟨_, .inl rfl, by show 2 < 1000; decide, fun x hx => by
    simp only [List.mem_cons, List.not_mem_nil, or_false] at hx
    rcases hx with rfl | rfl <;> exact okPrs (n := 1) (szL_len n h)⟩)
theorem same_nn (x : Int) : (F_same 5) [.list [.int x, .int x], .list [.int x, .int x]] = some (.dat (.bool true)) := same_ok (n := 5) (okS.ints (n := 3) [x, x] (by show 2 < 1000; decide)).2
theorem cl_comp {w0 w1 w2 w3 w4 w5 w6 w7 w8 w9 w11 w12 : Option Wv} : lcW (argI rngD (acons (con (.int 17)) anil)) (gN 10) yesT (fz (callA F_count_lots (acons (get 10) anil))) [10] [w0, w1, w2, w3, w4, w5, w6, w7, w8, w9, none, w11, w12] = some (.ok (.own (dats (clL.map PyData.int))) [w0, w1, w2, w3, w4, w5, w6, w7, w8, w9, none, w11, w12]) := by
  have e : clL.map PyData.int = (List.range' 0 17).map fun k : Nat => PyData.int (clL.getD k 0) := rfl
  rw [e]
  refine lc_eq (argI_x (acons_x con_x anil_x) rfl (rng1N (n := 17) (by decide))) rfl rfl (compM_x (z := nI) (fun k : Nat => PyData.int (clL.getD k 0)) (List.range' 0 17) (by decide) fun k hk => ?_)
  have hk : k < 17 := by have := List.mem_range'.mp hk; omega
  exact ⟨[w0, w1, w2, w3, w4, w5, w6, w7, w8, w9, some (.dat (.int (k : Int))), w11, w12], rfl, rfl, fz_x (callA_x (acons_x (get_x rfl) anil_x) rfl (cl_val hk)) rfl, rfl, rfl⟩
theorem cl_at {k : Nat} (h : k < 17) : ixD (.list (clL.map PyData.int)) (.int (k : Int)) = some (.int (clL.getD k 0)) := by
  have : clL[k]? = some (clL.getD k 0) := by rw [List.getD_eq_getElem?_getD, List.getElem?_eq_getElem (by exact h)]; rfl
  exact ixL_map this
theorem cl_step {w0 w1 w2 w3 w4 w5 w6 w7 w8 w11 w12 : Option Wv} {k : Nat} (h1 : 2 ≤ k) (h2 : k < 17) : b_right_11 [w0, w1, w2, w3, w4, w5, w6, w7, w8, some (.dat (.list (clL.map PyData.int))), some (.dat (.int (k : Int))), w11, w12] = some (.ok .nx [w0, w1, w2, w3, w4, w5, w6, w7, w8, some (.dat (.list (clL.map PyData.int))), some (.dat (.int (k : Int))), w11, w12]) := by
  have key : ∀ j : Nat, j < 15 → clL.getD (j + 2) 0 = 2 * clL.getD (j + 1) 0 + (j : Int) * clL.getD j 0 := by decide +kernel
  have bd : ∀ j : Nat, j < 17 → pMul ((j : Int) - 2) (clL.getD (j - 2) 0) = true := by decide +kernel
  obtain ⟨j, rfl⟩ : ∃ j, k = j + 2 := ⟨k - 2, by omega⟩
  have a0 := cl_at h2
  have a1 := cl_at (k := j + 1) (by omega)
  have a2 := cl_at (k := j) (by omega)
  have q1 : (((j + 2 : Nat) : Int) - 1) = ((j + 1 : Nat) : Int) := by omega
  have q2 : (((j + 2 : Nat) : Int) - 2) = (j : Int) := by omega
  have b2 := bd (j + 2) h2
  rw [q2] at b2
  unfold b_right_11
  refine ifS_f (tb_x (op2_x (op2_x (get_x rfl) (get_x rfl) vwd_x vwd_x a0) (op2_x (op2_x con_x (op2_x (get_x rfl) (op2_x (get_x rfl) con_x vwd_x vwd_x ((subI_x _ _).trans (congrArg (fun z => some (PyData.int z)) q1))) vwd_x vwd_x a1) vwd_x vwd_x (v_mul _ _ (pMul_l (by decide) (by decide)))) (op2_x (op2_x (get_x rfl) con_x vwd_x vwd_x ((subI_x _ _).trans (congrArg (fun z => some (PyData.int z)) q2))) (op2_x (get_x rfl) (op2_x (get_x rfl) con_x vwd_x vwd_x ((subI_x _ _).trans (congrArg (fun z => some (PyData.int z)) q2))) vwd_x vwd_x a2) vwd_x vwd_x (v_mul _ _ b2)) vwd_x vwd_x (addI_x _ _)) vwd_x vwd_x ((eqI_t _ _).trans (congrArg (fun z => some (PyData.bool !z)) (decide_eq_true (key j (by omega)))))) vwd_x) nxt_x
theorem cl_loop {w0 w1 w2 w3 w4 w5 w6 w7 w8 w11 w12 : Option Wv} : ∀ (l : List Nat) (w10 : Option Wv), (∀ k ∈ l, 2 ≤ k ∧ k < 17) → ∃ u, forM (gN 10) b_right_11 (l.map nI) [w0, w1, w2, w3, w4, w5, w6, w7, w8, some (.dat (.list (clL.map PyData.int))), w10, w11, w12] = some (.ok .nx [w0, w1, w2, w3, w4, w5, w6, w7, w8, some (.dat (.list (clL.map PyData.int))), u, w11, w12])
  | [], w10, _ => ⟨w10, for_nil⟩
  | k :: l, w10, h => by
    obtain ⟨h1, h2⟩ := h k (List.mem_cons_self ..)
    obtain ⟨u, e⟩ := cl_loop l (some (.dat (.int (k : Int)))) fun x hx => h x (List.mem_cons_of_mem _ hx)
    exact ⟨u, by rw [List.map_cons, ← e]; exact for_go rfl (cl_step h1 h2)⟩
end Ov
set_option Elab.async false
set_option linter.all false
set_option maxRecDepth 100000
set_option maxHeartbeats 2000000
namespace Ov
open PySem L2
theorem kw1 {F : List PyData → Option Wv} {x : PyData} {w : Wv} (h : F [x] = some w) : (fun ds : List PyData => if ds.length = 1 then F ([0].map fun i => ds.getD i .none) else none) [x] = some w := h
theorem sum_sz : ∀ w : Nat, w ≤ 8 → ((szL w).map (·.2)).sum = clL.getD w 0 := by decide +kernel
theorem right_ok {bs : List PyData} (hb : Bok 0 bs) : ∃ bs', F_right bs [] = some (.dat (.bool true), bs') := by
  obtain ⟨c0, bs1, e1, c1, c2, k1⟩ := take_any (k := 0) hb (by decide) (below := 6) (by decide) (by decide)
  obtain ⟨c, rfl⟩ := Int.eq_ofNat_of_zero_le c1
  have hc : c ≤ 5 := by omega
  obtain ⟨wd0, bs2, e2, d1, d2, k2⟩ := take_any (k := 0) k1 (by decide) (below := 9) (by decide) (by decide)
  obtain ⟨wd, rfl⟩ := Int.eq_ofNat_of_zero_le d1
  have hw : wd ≤ 8 := by omega
  obtain ⟨f1, f2, f3, f4, f5⟩ := lot_facts hc
  have f4 := kW f4
  have or_ : F_orders [.list ((rngL 1 ((c : Int) + 1)).map .int)] = some (.dat (.list ((ordL c).map tnR))) := by rw [rng1_nat]; exact orders_ok hc
  have sz := sizes_ok (n := c) (by omega)
  obtain ⟨u3, u4, lp⟩ := lots_loop (w0 := some (.own (dats bs1))) (w1 := some (.dat (.int (c : Int)))) (v5 := none) (v6 := none) (v7 := none) (v8 := none) (v9 := none) (v10 := none) (v11 := none) (v12 := none) hc (ordL c) [] none none (fun r hr => hr) (by show 0 + _ ≤ _; omega)
  obtain ⟨u10, cl⟩ := cl_loop (w0 := some (.own (dats bs1))) (w1 := some (.dat (.int (c : Int)))) (w2 := some (.dtn (lotK c))) (w3 := u3) (w4 := u4) (w5 := some (.dat (.list ((szK c).map .int)))) (w6 := some (.dat (.list ((szL c).map prD)))) (w7 := none) (w8 := some (.own [.own ((szL c).map prD ++ [.str "more"]), .own ((szL c).map prD)])) (w11 := none) (w12 := none) (List.range' 2 15) none fun k hk => by have := List.mem_range'.mp hk; omega
  refine ⟨bs2, right_go (c := (c : Int)) (wd := (wd : Int)) (sz := szK c) (cl := clL) (due := (szL c).map prD) (u2 := some (.dtn [])) (u3 := some (.dtn (lotK c))) (u4 := u3) (u5 := u4) (u6 := some (.own [.own ((szL c).map prD), .own ((szL c).map prD)])) (u7 := some (.own [.own ((szL c).map prD ++ [.str "more"]), .own ((szL c).map prD)])) (u8 := u10) (d2 := (szL wd).map prD) (ls := (szL wd).map (·.2)) (s1 := clL.getD wd 0) e1 ?p2 ?p3 ?p4 ?p5 ?p6 ?p7 ?p8 sz (same_prs (by omega)) ?p11 ?p12 ?p13 e2 ?p15 (sizes_ok hw) (same_prs hw) ?h18 (cl_at (by omega)) (sum_sz wd hw)⟩
  case p2 =>
    unfold s_right_1
    exact set_x (show dnewN _ = some (.ok (.dtn []) _) from rfl) (Nat.le_of_ble_eq_true rfl)
  case p3 =>
    unfold s_right_2
    refine for_x (seq_x (fz_x (callA_x (acons_x (lrE_x (rg2_x con_x (op2_x (get_x rfl) con_x vwd_x vwd_x (addI_x _ _))) ⟨by decide, by decide, by omega, by omega, by omega⟩) anil_x) rfl or_) rfl) rfl) lp
  case p4 =>
    unfold s_right_3
    exact set_x (pl_x (srtVN_x rfl f1) rfl) (Nat.le_of_ble_eq_true rfl)
  case p5 =>
    unfold s_right_4
    refine set_x (w := .dat (.list ((szL c).map prD))) (e := [some (.own (dats bs1)), some (.dat (.int (c : Int))), some (.dtn (lotK c)), u3, u4, some (.dat (.list ((szK c).map .int))), none, none, none, none, none, none, none]) (pl_x (fz_x (lc_eq (out := (szL c).map prD) (e := [some (.own (dats bs1)), some (.dat (.int (c : Int))), some (.dtn (lotK c)), u3, u4, some (.dat (.list ((szK c).map .int))), none, none, none, none, none, none, none]) (seq_x (cb_x (acons_x (get_x rfl) anil_x) (vwC_x vwd_x vw0_x) (sortSetI_x _ f3)) rfl) rfl rfl ?_) (v_ofWo _)) rfl) (Nat.le_of_ble_eq_true rfl)
    rw [← f2, List.map_map]
    refine compM_x (z := PyData.int) (fun x => prD (x, ((szK c).count x : Int))) (ssI (szK c)) (by have := congrArg List.length f2; rw [List.length_map] at this; have := szL_len c (by omega); omega) fun x hx => ?_
    exact ⟨[some (.own (dats bs1)), some (.dat (.int (c : Int))), some (.dtn (lotK c)), u3, u4, some (.dat (.list ((szK c).map .int))), none, some (.dat (.int x)), none, none, none, none, none], rfl, rfl, tup_x (acons_x (get_x rfl) (acons_x (rmD_x (get_x rfl) rfl (acons_x (get_x rfl) anil_x) (vwC_x vwd_x vw0_x) (cntI_x _ _)) anil_x)) rfl (Nat.le_of_ble_eq_true rfl), rfl, rfl⟩
  case p6 =>
    unfold s_right_5
    exact set_x (lstN_x (wcons_x (callA_x (acons_x (get_x rfl) anil_x) rfl sz) (wcons_x (callA_x (F := fun ds => if ds.length = 1 then F_lot_sizes ([0].map fun i => ds.getD i .none) else none) (ds := [.int (c : Int)]) (acons_x (get_x rfl) anil_x) rfl (kw1 sz)) wnil_x)) (it1s_o (it1s_o rfl)) (Nat.le_of_ble_eq_true rfl)) (Nat.le_of_ble_eq_true rfl)
  case p7 =>
    unfold s_right_6
    refine ifS_f (orT_f (notT_x (x := true) (tb_x (fz_x (callA_x (acons_x (lst_x (acons_x (fz_x (callA_x (acons_x (get_x rfl) anil_x) rfl f4) rfl) (acons_x (fz_x (callA_x (F := fun ds => if ds.length = 1 then F_count_lots ([0].map fun i => ds.getD i .none) else none) (ds := [.int (c : Int)]) (acons_x (get_x rfl) anil_x) rfl (kw1 f4)) rfl) anil_x)) rfl (Nat.le_of_ble_eq_true rfl)) (acons_x (repW_x (lstW_x (acons_x (lenNd_x rfl (by omega)) anil_x) rfl (Nat.le_of_ble_eq_true rfl)) con_x ⟨by decide, by decide, by show 1 * 2 ≤ 1000000; decide⟩) anil_x)) rfl (same_nn _)) rfl) vwd_x)) (notT_x (x := true) (tb_x (fz_x (callV_x (acons_x (getO_x rfl) (acons_x (lst_x (acons_x (get_x rfl) (acons_x (get_x rfl) anil_x)) rfl (Nat.le_of_ble_eq_true rfl)) anil_x)) (vwnN rfl rfl (vwnD vwn0)) (same_two (by omega)) rfl) rfl) vwd_x))) nxt_x
  case p8 =>
    unfold s_right_7
    refine expr_x (r := .dat .none) (mthN_x (i := 8) (k := 0) (fo := appD) (as := [.str "more"]) (ds := (szL c).map prD) (xs := [.own ((szL c).map prD), .own ((szL c).map prD)]) (z := ((szL c).map prD ++ [.str "more"], .none)) rfl rfl ?_)
    show (Ov.sz (((szL c).map prD).length + 1)).map _ = _
    unfold Ov.sz
    rw [if_pos (by rw [List.length_map]; have := szL_len c (by omega); omega)]
    rfl
  case p11 =>
    unfold s_right_9
    exact set_x (pl_x (fz_x cl_comp (v_ofWo _)) rfl) (Nat.le_of_ble_eq_true rfl)
  case p12 =>
    unfold s_right_10
    exact ifS_f (tb_x (op2_x (sl_x (get_x rfl) poN_x (poS_x con_x) vwd_x rfl) (lst_x (acons_x con_x (acons_x con_x anil_x)) rfl (Nat.le_of_ble_eq_true rfl)) vwd_x vwd_x (eq_yes (n := true) (shp_list [1, 1]))) vwd_x) nxt_x
  case p13 =>
    unfold s_right_11
    exact for_x (argI_x (acons_x con_x (acons_x con_x anil_x)) rfl (rng2N (a := 2) (b := 17) (by decide) (by decide))) cl
  case p15 =>
    unfold s_right_13
    exact set_x (pl_x (fz_x (callA_x (acons_x (get_x rfl) anil_x) rfl (walked_ok hw)) rfl) rfl) (Nat.le_of_ble_eq_true rfl)
  case h18 =>
    rw [List.map_map]
    exact lc_eq (seq_x (get_x rfl) rfl) rfl rfl (compM_x (z := prD) (fun p => .int p.2) (szL wd) (by have := szL_len wd hw; omega) fun p hp => ⟨[some (.own (dats bs2)), some (.dat (.int (c : Int))), some (.dtn (lotK c)), u3, u4, some (.dat (.list ((szK c).map .int))), some (.dat (.list ((szL wd).map prD))), some (.dat (.int p.1)), some (.own [.own ((szL c).map prD ++ [.str "more"]), .own ((szL c).map prD)]), some (.dat (.list (clL.map .int))), u10, some (.dat (.int (wd : Int))), some (.dat (.int p.2))], rfl, rfl, get_x rfl, rfl, rfl⟩)
/-! the law -/
theorem callBt_x {env : En} {FB : List PyData → List PyData → Option (Wv × List PyData)} {W : M Wv} {bs bs' : List PyData} {w : Wv} {e : En} (h : W env = some (.ok (.own (dats bs)) e)) (h2 : FB bs [] = some (w, bs')) : callBt FB W env = some (.ok w e) := by
  unfold callBt
  rw [v_bind, h, v_ok, v_bind]
  show cont (lift (itds (dats bs)) e) _ = _
  rw [itds_dats, v_lift, v_ok, h2]
  rfl
theorem law_ok (ns : List Int) : F_law [.list (ns.map .int)] = some (.dat (.bool true)) := by
  refine runA_eq rfl ⟨[some (.dat (.list (ns.map .int))), none], ?_⟩
  show f_law [some (.dat (.list (ns.map .int))), none] = _
  unfold f_law
  have q : (1 : Int) + min 3 ((ns.length : Nat) : Int) = ((1 + min 3 ns.length : Nat) : Int) := by omega
  have it : argI rngD (acons (op2 addD (con (.int 1)) (cb minD (acons (con (.int 3)) (acons (cb lenD (acons (get 0) anil)) anil)))) anil) [some (.dat (.list (ns.map .int))), none] = some (.ok ((List.range' 0 (1 + min 3 ns.length)).map nI) [some (.dat (.list (ns.map .int))), none]) :=
    argI_x (acons_x (op2_x con_x (cb_x (acons_x con_x (acons_x (cb_x (acons_x (get_x rfl) anil_x) (vwC_x vwd_x vw0_x) (lenLm_x _ _)) anil_x)) (vwC_x vwd_x (vwC_x vwd_x vw0_x)) (min_x _ _)) vwd_x vwd_x ((addI_x _ _).trans (congrArg (fun z => some (PyData.int z)) q))) anil_x) rfl (rng1N (by omega))
  have cm : compM (gN 1) yesT (fz (callBt F_right (callA F_box (acons (get 0) (acons (get 1) anil))))) [1] ((List.range' 0 (1 + min 3 ns.length)).map nI) [] [some (.dat (.list (ns.map .int))), none] = some (.ok ((List.range' 0 (1 + min 3 ns.length)).map fun _ => .bool true) [some (.dat (.list (ns.map .int))), none]) := by
    refine compM_x (fun _ => .bool true) _ (by rw [List.length_range']; omega) fun k hk => ?_
    have hk : k ≤ 3 := by have := List.mem_range'.mp hk; omega
    obtain ⟨bs, b1, b2⟩ := box_ok (ns := ns) (k := (k : Int)) (by omega) (by omega)
    obtain ⟨bs', b3⟩ := right_ok b2
    exact ⟨[some (.dat (.list (ns.map .int))), some (.dat (.int (k : Int)))], rfl, rfl, fz_x (callBt_x (callA_x (acons_x (get_x rfl) (acons_x (get_x rfl) anil_x)) rfl b1) b3) rfl, rfl, rfl⟩
  have al : allD [.list ((List.range' 0 (1 + min 3 ns.length)).map fun _ => PyData.bool true)] = some (.bool true) := by
    show ((boolsD _).map fun bs => PyData.bool (bs.all id)) = _
    have : ∀ l : List Nat, boolsD (l.map fun _ => PyData.bool true) = some (l.map fun _ => true) := fun l => by
      induction l with
      | nil => rfl
      | cons a r ih => show (boolsD (r.map fun _ => PyData.bool true)).map (true :: ·) = _; rw [ih]; rfl
    rw [this]
    simp
  exact ret_x (pl_x (cb_x (acons_x (fz_x (lc_eq it rfl rfl cm) (v_ofWo _)) anil_x) (vwC_x vwd_x vw0_x) al) rfl)
end Ov
set_option Elab.async false
set_option linter.all false
set_option maxRecDepth 100000
set_option maxHeartbeats 4000000
namespace Ov
open PySem L2
theorem all_mk {l : PySem.W.OpenLaw} {w : World} {K : PySem.W.Frag} {h : Heap} {mg : Str → Option Value} {fa f0 f1 f2 f3 f4 f5 f6 f7 f8 f9 f10 f11 f12 f13 f14 f15 f16 f17 f18 f19 : Addr} (X : K.In h) (G : h.Ns mainGlobals mg) (hfa : mg "law" = some (.ref fa))
    {od0 an0 : Option Addr} {sl0 : Array (Option Value)} {oc0 kV0 dc0 pm0 cd0 ct0 : Value}
    {od1 an1 : Option Addr} {sl1 : Array (Option Value)} {oc1 kV1 dc1 pm1 cd1 ct1 : Value}
    {od2 an2 : Option Addr} {sl2 : Array (Option Value)} {oc2 kV2 dc2 pm2 cd2 ct2 : Value}
    {od3 an3 : Option Addr} {sl3 : Array (Option Value)} {oc3 kV3 dc3 pm3 cd3 ct3 : Value}
    {od4 an4 : Option Addr} {sl4 : Array (Option Value)} {oc4 kV4 dc4 pm4 cd4 ct4 : Value}
    {od5 an5 : Option Addr} {sl5 : Array (Option Value)} {oc5 kV5 dc5 pm5 cd5 ct5 : Value}
    {od6 an6 : Option Addr} {sl6 : Array (Option Value)} {oc6 kV6 dc6 pm6 cd6 ct6 : Value}
    {od7 an7 : Option Addr} {sl7 : Array (Option Value)} {oc7 kV7 dc7 pm7 cd7 ct7 : Value}
    {od8 an8 : Option Addr} {sl8 : Array (Option Value)} {oc8 kV8 dc8 pm8 cd8 ct8 : Value}
    {od9 an9 : Option Addr} {sl9 : Array (Option Value)} {oc9 kV9 dc9 pm9 cd9 ct9 : Value}
    {od10 an10 : Option Addr} {sl10 : Array (Option Value)} {oc10 kV10 dc10 pm10 cd10 ct10 : Value}
    {od11 an11 : Option Addr} {sl11 : Array (Option Value)} {oc11 kV11 dc11 pm11 cd11 ct11 : Value}
    {od12 an12 : Option Addr} {sl12 : Array (Option Value)} {oc12 kV12 dc12 pm12 cd12 ct12 : Value}
    {od13 an13 : Option Addr} {sl13 : Array (Option Value)} {oc13 kV13 dc13 pm13 cd13 ct13 : Value}
    {od14 an14 : Option Addr} {sl14 : Array (Option Value)} {oc14 kV14 dc14 pm14 cd14 ct14 : Value}
    {od15 an15 : Option Addr} {sl15 : Array (Option Value)} {oc15 kV15 dc15 pm15 cd15 ct15 : Value}
    {od16 an16 : Option Addr} {sl16 : Array (Option Value)} {oc16 kV16 dc16 pm16 cd16 ct16 : Value}
    {od17 an17 : Option Addr} {sl17 : Array (Option Value)} {oc17 kV17 dc17 pm17 cd17 ct17 : Value}
    {od18 an18 : Option Addr} {sl18 : Array (Option Value)} {oc18 kV18 dc18 pm18 cd18 ct18 : Value}
    {od19 an19 : Option Addr} {sl19 : Array (Option Value)} {oc19 kV19 dc19 pm19 cd19 ct19 : Value}
    
    (a0 : PySem.W.nsIn K mainGlobals "first_intervals" = some (some (.ref f0)))
    (l0 : K.lookup f0 = some ⟨oc0, od0, .func (PySem.W.fnOf "first_intervals" "first_intervals" (defArgs S_first_intervals) (defBody S_first_intervals) (defScope S_first_intervals) .none kV0 dc0 pm0 an0 cd0 ct0), sl0⟩)
    (c0 : PySem.W.codeIn K cd0 "first_intervals" = true)
    (k0 : PySem.W.keepIn K (.ref f0) = true)
    (a1 : PySem.W.nsIn K mainGlobals "run_size" = some (some (.ref f1)))
    (l1 : K.lookup f1 = some ⟨oc1, od1, .func (PySem.W.fnOf "run_size" "run_size" (defArgs S_run_size) (defBody S_run_size) (defScope S_run_size) .none kV1 dc1 pm1 an1 cd1 ct1), sl1⟩)
    (c1 : PySem.W.codeIn K cd1 "run_size" = true)
    (k1 : PySem.W.keepIn K (.ref f1) = true)
    (a2 : PySem.W.nsIn K mainGlobals "run_index" = some (some (.ref f2)))
    (l2 : K.lookup f2 = some ⟨oc2, od2, .func (PySem.W.fnOf "run_index" "run_index" (defArgs S_run_index) (defBody S_run_index) (defScope S_run_index) .none kV2 dc2 pm2 an2 cd2 ct2), sl2⟩)
    (c2 : PySem.W.codeIn K cd2 "run_index" = true)
    (k2 : PySem.W.keepIn K (.ref f2) = true)
    (a3 : PySem.W.nsIn K mainGlobals "next_intervals" = some (some (.ref f3)))
    (l3 : K.lookup f3 = some ⟨oc3, od3, .func (PySem.W.fnOf "next_intervals" "next_intervals" (defArgs S_next_intervals) (defBody S_next_intervals) (defScope S_next_intervals) .none kV3 dc3 pm3 an3 cd3 ct3), sl3⟩)
    (c3 : PySem.W.codeIn K cd3 "next_intervals" = true)
    (k3 : PySem.W.keepIn K (.ref f3) = true)
    (a4 : PySem.W.nsIn K mainGlobals "count_lots" = some (some (.ref f4)))
    (l4 : K.lookup f4 = some ⟨oc4, od4, .func (PySem.W.fnOf "count_lots" "count_lots" (defArgs S_count_lots) (defBody S_count_lots) (defScope S_count_lots) .none kV4 dc4 pm4 an4 cd4 ct4), sl4⟩)
    (c4 : PySem.W.codeIn K cd4 "count_lots" = true)
    (k4 : PySem.W.keepIn K (.ref f4) = true)
    (a5 : PySem.W.nsIn K mainGlobals "lot_sizes" = some (some (.ref f5)))
    (l5 : K.lookup f5 = some ⟨oc5, od5, .func (PySem.W.fnOf "lot_sizes" "lot_sizes" (defArgs S_lot_sizes) (defBody S_lot_sizes) (defScope S_lot_sizes) .none kV5 dc5 pm5 an5 cd5 ct5), sl5⟩)
    (c5 : PySem.W.codeIn K cd5 "lot_sizes" = true)
    (k5 : PySem.W.keepIn K (.ref f5) = true)
    (a6 : PySem.W.nsIn K mainGlobals "lots_after" = some (some (.ref f6)))
    (l6 : K.lookup f6 = some ⟨oc6, od6, .func (PySem.W.fnOf "lots_after" "lots_after" (defArgs S_lots_after) (defBody S_lots_after) (defScope S_lots_after) .none kV6 dc6 pm6 an6 cd6 ct6), sl6⟩)
    (c6 : PySem.W.codeIn K cd6 "lots_after" = true)
    (k6 : PySem.W.keepIn K (.ref f6) = true)
    (a7 : PySem.W.nsIn K mainGlobals "_law_cell_at" = some (some (.ref f7)))
    (l7 : K.lookup f7 = some ⟨oc7, od7, .func (PySem.W.fnOf "_law_cell_at" "_law_cell_at" (defArgs S_cell_at) (defBody S_cell_at) (defScope S_cell_at) .none kV7 dc7 pm7 an7 cd7 ct7), sl7⟩)
    (c7 : PySem.W.codeIn K cd7 "_law_cell_at" = true)
    (k7 : PySem.W.keepIn K (.ref f7) = true)
    (a8 : PySem.W.nsIn K mainGlobals "_law_box" = some (some (.ref f8)))
    (l8 : K.lookup f8 = some ⟨oc8, od8, .func (PySem.W.fnOf "_law_box" "_law_box" (defArgs S_box) (defBody S_box) (defScope S_box) .none kV8 dc8 pm8 an8 cd8 ct8), sl8⟩)
    (c8 : PySem.W.codeIn K cd8 "_law_box" = true)
    (k8 : PySem.W.keepIn K (.ref f8) = true)
    (a9 : PySem.W.nsIn K mainGlobals "_law_take" = some (some (.ref f9)))
    (l9 : K.lookup f9 = some ⟨oc9, od9, .func (PySem.W.fnOf "_law_take" "_law_take" (defArgs S_take) (defBody S_take) (defScope S_take) .none kV9 dc9 pm9 an9 cd9 ct9), sl9⟩)
    (c9 : PySem.W.codeIn K cd9 "_law_take" = true)
    (k9 : PySem.W.keepIn K (.ref f9) = true)
    (a10 : PySem.W.nsIn K mainGlobals "_law_same" = some (some (.ref f10)))
    (l10 : K.lookup f10 = some ⟨oc10, od10, .func (PySem.W.fnOf "_law_same" "_law_same" (defArgs S_same) (defBody S_same) (defScope S_same) .none kV10 dc10 pm10 an10 cd10 ct10), sl10⟩)
    (c10 : PySem.W.codeIn K cd10 "_law_same" = true)
    (k10 : PySem.W.keepIn K (.ref f10) = true)
    (a11 : PySem.W.nsIn K mainGlobals "_law_marks" = some (some (.ref f11)))
    (l11 : K.lookup f11 = some ⟨oc11, od11, .func (PySem.W.fnOf "_law_marks" "_law_marks" (defArgs S_marks) (defBody S_marks) (defScope S_marks) .none kV11 dc11 pm11 an11 cd11 ct11), sl11⟩)
    (c11 : PySem.W.codeIn K cd11 "_law_marks" = true)
    (k11 : PySem.W.keepIn K (.ref f11) = true)
    (a12 : PySem.W.nsIn K mainGlobals "_law_intervals" = some (some (.ref f12)))
    (l12 : K.lookup f12 = some ⟨oc12, od12, .func (PySem.W.fnOf "_law_intervals" "_law_intervals" (defArgs S_intervals) (defBody S_intervals) (defScope S_intervals) .none kV12 dc12 pm12 an12 cd12 ct12), sl12⟩)
    (c12 : PySem.W.codeIn K cd12 "_law_intervals" = true)
    (k12 : PySem.W.keepIn K (.ref f12) = true)
    (a13 : PySem.W.nsIn K mainGlobals "_law_run_lists" = some (some (.ref f13)))
    (l13 : K.lookup f13 = some ⟨oc13, od13, .func (PySem.W.fnOf "_law_run_lists" "_law_run_lists" (defArgs S_run_lists) (defBody S_run_lists) (defScope S_run_lists) .none kV13 dc13 pm13 an13 cd13 ct13), sl13⟩)
    (c13 : PySem.W.codeIn K cd13 "_law_run_lists" = true)
    (k13 : PySem.W.keepIn K (.ref f13) = true)
    (a14 : PySem.W.nsIn K mainGlobals "_law_runs" = some (some (.ref f14)))
    (l14 : K.lookup f14 = some ⟨oc14, od14, .func (PySem.W.fnOf "_law_runs" "_law_runs" (defArgs S_runs) (defBody S_runs) (defScope S_runs) .none kV14 dc14 pm14 an14 cd14 ct14), sl14⟩)
    (c14 : PySem.W.codeIn K cd14 "_law_runs" = true)
    (k14 : PySem.W.keepIn K (.ref f14) = true)
    (a15 : PySem.W.nsIn K mainGlobals "_law_orders" = some (some (.ref f15)))
    (l15 : K.lookup f15 = some ⟨oc15, od15, .func (PySem.W.fnOf "_law_orders" "_law_orders" (defArgs S_orders) (defBody S_orders) (defScope S_orders) .none kV15 dc15 pm15 an15 cd15 ct15), sl15⟩)
    (c15 : PySem.W.codeIn K cd15 "_law_orders" = true)
    (k15 : PySem.W.keepIn K (.ref f15) = true)
    (a16 : PySem.W.nsIn K mainGlobals "_law_widths" = some (some (.ref f16)))
    (l16 : K.lookup f16 = some ⟨oc16, od16, .func (PySem.W.fnOf "_law_widths" "_law_widths" (defArgs S_widths) (defBody S_widths) (defScope S_widths) .none kV16 dc16 pm16 an16 cd16 ct16), sl16⟩)
    (c16 : PySem.W.codeIn K cd16 "_law_widths" = true)
    (k16 : PySem.W.keepIn K (.ref f16) = true)
    (a17 : PySem.W.nsIn K mainGlobals "_law_walked" = some (some (.ref f17)))
    (l17 : K.lookup f17 = some ⟨oc17, od17, .func (PySem.W.fnOf "_law_walked" "_law_walked" (defArgs S_walked) (defBody S_walked) (defScope S_walked) .none kV17 dc17 pm17 an17 cd17 ct17), sl17⟩)
    (c17 : PySem.W.codeIn K cd17 "_law_walked" = true)
    (k17 : PySem.W.keepIn K (.ref f17) = true)
    (a18 : PySem.W.nsIn K mainGlobals "_law_right" = some (some (.ref f18)))
    (l18 : K.lookup f18 = some ⟨oc18, od18, .func (PySem.W.fnOf "_law_right" "_law_right" (defArgs S_right) (defBody S_right) (defScope S_right) .none kV18 dc18 pm18 an18 cd18 ct18), sl18⟩)
    (c18 : PySem.W.codeIn K cd18 "_law_right" = true)
    (k18 : PySem.W.keepIn K (.ref f18) = true)
    (a19 : PySem.W.nsIn K mainGlobals "law" = some (some (.ref f19)))
    (l19 : K.lookup f19 = some ⟨oc19, od19, .func (PySem.W.fnOf "law" "law" (defArgs S_law) (defBody S_law) (defScope S_law) .none kV19 dc19 pm19 an19 cd19 ct19), sl19⟩)
    (c19 : PySem.W.codeIn K cd19 "law" = true)
    (k19 : PySem.W.keepIn K (.ref f19) = true)
    (zisinstance : PySem.W.nsIn K mainGlobals "isinstance" = some none)
    (zlist : PySem.W.nsIn K mainGlobals "list" = some none)
    (ztuple : PySem.W.nsIn K mainGlobals "tuple" = some none)
    (zlen : PySem.W.nsIn K mainGlobals "len" = some none)
    (zall : PySem.W.nsIn K mainGlobals "all" = some none)
    (zany : PySem.W.nsIn K mainGlobals "any" = some none)
    (zzip : PySem.W.nsIn K mainGlobals "zip" = some none)
    (zbool : PySem.W.nsIn K mainGlobals "bool" = some none)
    (zstr : PySem.W.nsIn K mainGlobals "str" = some none)
    (zint : PySem.W.nsIn K mainGlobals "int" = some none)
    (zabs : PySem.W.nsIn K mainGlobals "abs" = some none)
    (zmax : PySem.W.nsIn K mainGlobals "max" = some none)
    (zmin : PySem.W.nsIn K mainGlobals "min" = some none)
    (zrange : PySem.W.nsIn K mainGlobals "range" = some none)
    (zsorted : PySem.W.nsIn K mainGlobals "sorted" = some none)
    (zenumerate : PySem.W.nsIn K mainGlobals "enumerate" = some none)
    (zset : PySem.W.nsIn K mainGlobals "set" = some none)
    (zsum : PySem.W.nsIn K mainGlobals "sum" = some none)
    (zreversed : PySem.W.nsIn K mainGlobals "reversed" = some none)
    (zrepr : PySem.W.nsIn K mainGlobals "repr" = some none)
    (zdict : PySem.W.nsIn K mainGlobals "dict" = some none)
    (zValueError : PySem.W.nsIn K mainGlobals "ValueError" = some none)
    (zLookupError : PySem.W.nsIn K mainGlobals "LookupError" = some none)
    (zRuntimeError : PySem.W.nsIn K mainGlobals "RuntimeError" = some none)
    (zOverflowError : PySem.W.nsIn K mainGlobals "OverflowError" = some none)
    (zIndexError : PySem.W.nsIn K mainGlobals "IndexError" = some none)
    (zKeyError : PySem.W.nsIn K mainGlobals "KeyError" = some none)
    (zNotImplementedError : PySem.W.nsIn K mainGlobals "NotImplementedError" = some none) :
    ∃ fd : FuncData, (∀ (s : Shared) (v : Value), BindsTo s fd ⟨[v], []⟩ [("_law_script", v)]) ∧ ∀ base : Heap, K.In base → base.Ns mainGlobals mg → FnG l.prog w K mg base 7 fa fd ["_law_script"] (spA K F_law) := by
  have e := hfa.symm.trans (PySem.W.mg_of X G a19)
  cases e
  have F0 := fun_mk (st := S_first_intervals) l0 c0 k0
  have m0 := PySem.W.mg_of X G a0
  have F1 := fun_mk (st := S_run_size) l1 c1 k1
  have m1 := PySem.W.mg_of X G a1
  have F2 := fun_mk (st := S_run_index) l2 c2 k2
  have m2 := PySem.W.mg_of X G a2
  have F3 := fun_mk (st := S_next_intervals) l3 c3 k3
  have m3 := PySem.W.mg_of X G a3
  have F4 := fun_mk (st := S_count_lots) l4 c4 k4
  have m4 := PySem.W.mg_of X G a4
  have F5 := fun_mk (st := S_lot_sizes) l5 c5 k5
  have m5 := PySem.W.mg_of X G a5
  have F6 := fun_mk (st := S_lots_after) l6 c6 k6
  have m6 := PySem.W.mg_of X G a6
  have F7 := fun_mk (st := S_cell_at) l7 c7 k7
  have m7 := PySem.W.mg_of X G a7
  have F8 := fun_mk (st := S_box) l8 c8 k8
  have m8 := PySem.W.mg_of X G a8
  have F9 := fun_mk (st := S_take) l9 c9 k9
  have m9 := PySem.W.mg_of X G a9
  have F10 := fun_mk (st := S_same) l10 c10 k10
  have m10 := PySem.W.mg_of X G a10
  have F11 := fun_mk (st := S_marks) l11 c11 k11
  have m11 := PySem.W.mg_of X G a11
  have F12 := fun_mk (st := S_intervals) l12 c12 k12
  have m12 := PySem.W.mg_of X G a12
  have F13 := fun_mk (st := S_run_lists) l13 c13 k13
  have m13 := PySem.W.mg_of X G a13
  have F14 := fun_mk (st := S_runs) l14 c14 k14
  have m14 := PySem.W.mg_of X G a14
  have F15 := fun_mk (st := S_orders) l15 c15 k15
  have m15 := PySem.W.mg_of X G a15
  have F16 := fun_mk (st := S_widths) l16 c16 k16
  have m16 := PySem.W.mg_of X G a16
  have F17 := fun_mk (st := S_walked) l17 c17 k17
  have m17 := PySem.W.mg_of X G a17
  have F18 := fun_mk (st := S_right) l18 c18 k18
  have m18 := PySem.W.mg_of X G a18
  have F19 := fun_mk (st := S_law) l19 c19 k19
  have m19 := PySem.W.mg_of X G a19
  have B : Blt mg := ⟨PySem.W.mg_none_of X G zisinstance, PySem.W.mg_none_of X G zlist, PySem.W.mg_none_of X G ztuple, PySem.W.mg_none_of X G zlen, PySem.W.mg_none_of X G zall, PySem.W.mg_none_of X G zany, PySem.W.mg_none_of X G zzip, PySem.W.mg_none_of X G zbool, PySem.W.mg_none_of X G zstr, PySem.W.mg_none_of X G zint, PySem.W.mg_none_of X G zabs, PySem.W.mg_none_of X G zmax, PySem.W.mg_none_of X G zmin, PySem.W.mg_none_of X G zrange, PySem.W.mg_none_of X G zsorted, PySem.W.mg_none_of X G zenumerate, PySem.W.mg_none_of X G zset, PySem.W.mg_none_of X G zsum, PySem.W.mg_none_of X G zreversed, PySem.W.mg_none_of X G zrepr, PySem.W.mg_none_of X G zdict, PySem.W.mg_none_of X G zValueError, PySem.W.mg_none_of X G zLookupError, PySem.W.mg_none_of X G zRuntimeError, PySem.W.mg_none_of X G zOverflowError, PySem.W.mg_none_of X G zIndexError, PySem.W.mg_none_of X G zKeyError, PySem.W.mg_none_of X G zNotImplementedError⟩
  have b0 := F0.binds (ps := ["many"]) fun _ _ _ _ _ _ us hl => match us, hl with | [_], _ => rfl
  have b1 := F1.binds (ps := ["interval"]) fun _ _ _ _ _ _ us hl => match us, hl with | [_], _ => rfl
  have b2 := F2.binds (ps := ["intervals", "code"]) fun _ _ _ _ _ _ us hl => match us, hl with | [_, _], _ => rfl
  have b3 := F3.binds (ps := ["intervals", "code"]) fun _ _ _ _ _ _ us hl => match us, hl with | [_, _], _ => rfl
  have b4 := F4.binds (ps := ["many"]) fun _ _ _ _ _ _ us hl => match us, hl with | [_], _ => rfl
  have b5 := F5.binds (ps := ["many"]) fun _ _ _ _ _ _ us hl => match us, hl with | [_], _ => rfl
  have b6 := F6.binds (ps := ["lots"]) fun _ _ _ _ _ _ us hl => match us, hl with | [_], _ => rfl
  have b7 := F7.binds (ps := ["_law_script", "_law_k"]) fun _ _ _ _ _ _ us hl => match us, hl with | [_, _], _ => rfl
  have b8 := F8.binds (ps := ["_law_script", "_law_k"]) fun _ _ _ _ _ _ us hl => match us, hl with | [_, _], _ => rfl
  have b9 := F9.binds (ps := ["_law_box_here", "_law_below"]) fun _ _ _ _ _ _ us hl => match us, hl with | [_, _], _ => rfl
  have b10 := F10.binds (ps := ["_law_found", "_law_due"]) fun _ _ _ _ _ _ us hl => match us, hl with | [_, _], _ => rfl
  have b11 := F11.binds (ps := ["_law_crowd"]) fun _ _ _ _ _ _ us hl => match us, hl with | [_], _ => rfl
  have b12 := F12.binds (ps := ["_law_joined", "_law_count"]) fun _ _ _ _ _ _ us hl => match us, hl with | [_, _], _ => rfl
  have b13 := F13.binds (ps := ["_law_crowd"]) fun _ _ _ _ _ _ us hl => match us, hl with | [_], _ => rfl
  have b14 := F14.binds (ps := ["_law_crowd"]) fun _ _ _ _ _ _ us hl => match us, hl with | [_], _ => rfl
  have b15 := F15.binds (ps := ["_law_souls"]) fun _ _ _ _ _ _ us hl => match us, hl with | [_], _ => rfl
  have b16 := F16.binds (ps := ["_law_widths_here", "_law_at"]) fun _ _ _ _ _ _ us hl => match us, hl with | [_, _], _ => rfl
  have b17 := F17.binds (ps := ["_law_count"]) fun _ _ _ _ _ _ us hl => match us, hl with | [_], _ => rfl
  have b18 := F18.binds (ps := ["_law_box_here"]) fun _ _ _ _ _ _ us hl => match us, hl with | [_], _ => rfl
  have q4_0 := kbn_perm (ps := P_count_lots) F4 ["many"] [0] fun _ _ _ _ _ _ ws hl => match ws, hl with | [_], _ => rfl
  have q5_0 := kbn_perm (ps := P_lot_sizes) F5 ["many"] [0] fun _ _ _ _ _ _ ws hl => match ws, hl with | [_], _ => rfl
  refine ⟨PySem.W.fnOf "law" "law" (defArgs S_law) (defBody S_law) (defScope S_law) .none kV19 dc19 pm19 an19 cd19 ct19, fun s v => .of_eq rfl, fun base _ _ => ?_⟩
  have G7 := dk_cell_at (P := l.prog) (w := w) (mg := mg) (base := base) F7  B
  have G8 := dk_box (P := l.prog) (w := w) (mg := mg) (base := base) F8 G7 b7 F7.kp m7 B
  have G9 := dk_take (P := l.prog) (w := w) (mg := mg) (base := base) F9  b9 m9 B 2
  have G10 := dk_same (P := l.prog) (w := w) (mg := mg) (base := base) F10  b10 m10 B 5
  have G0 := dk_first_intervals (P := l.prog) (w := w) (mg := mg) (base := base) F0  B
  have G1 := dk_run_size (P := l.prog) (w := w) (mg := mg) (base := base) F1  B
  have G2 := dk_run_index (P := l.prog) (w := w) (mg := mg) (base := base) F2  B
  have G3 := dk_next_intervals (P := l.prog) (w := w) (mg := mg) (base := base) F3 G2 b2 F2.kp m2 B
  have G4 := dk_count_lots (P := l.prog) (w := w) (mg := mg) (base := base) F4  B
  have G6 := dk_lots_after (P := l.prog) (w := w) (mg := mg) (base := base) F6 G3 b3 F3.kp m3 G1 b1 F1.kp m1 B
  have G5 := dk_lot_sizes (P := l.prog) (w := w) (mg := mg) (base := base) F5 G0 b0 F0.kp m0 G6 b6 F6.kp m6 B
  have G11 := dk_marks (P := l.prog) (w := w) (mg := mg) (base := base) F11  B
  have G12 := dk_intervals (P := l.prog) (w := w) (mg := mg) (base := base) F12  B
  have G13 := dk_run_lists (P := l.prog) (w := w) (mg := mg) (base := base) F13 G11 b11 F11.kp m11 G12 b12 F12.kp m12 B
  have G14 := dk_runs (P := l.prog) (w := w) (mg := mg) (base := base) F14 G13 b13 F13.kp m13 G11 b11 F11.kp m11 B
  have G15 := dk_orders (P := l.prog) (w := w) (mg := mg) (base := base) F15  B
  have G16 := dk_widths (P := l.prog) (w := w) (mg := mg) (base := base) F16  B
  have G17 := dk_walked (P := l.prog) (w := w) (mg := mg) (base := base) F17 G16 b16 F16.kp m16 B
  have G18 := dk_right (P := l.prog) (w := w) (mg := mg) (base := base) F18 G9 b9 F9.kp m9 G15 b15 F15.kp m15 G14 b14 F14.kp m14 G5 b5 F5.kp m5 q5_0 G4 b4 F4.kp m4 q4_0 G10 b10 F10.kp m10 G17 b17 F17.kp m17 B
  exact dk_law F19 G8 b8 F8.kp m8 G18 b18 F18.kp m18 B
theorem walk {l : PySem.W.OpenLaw} {q : Program} {loose : List Str} {XP : (Str → Option Value) → Heap → Prop} {YP : World → Heap → Prop} {d : DefRec} {K : Params → PySem.W.Frag} (hn : l.most = some 63) (hdf : d.params.defaults = [])
    (hY : ∀ (w : World) (h : Heap), YP w h → (K w.params).In h)
    (F : ∀ (w : World) (mg : Str → Option Value) (fa : Addr) (h : Heap), (K w.params).In h → h.Ns mainGlobals mg → mg d.name = some (.ref fa) →
      ∃ fd : FuncData, (∀ (s : Shared) (u : Value), BindsTo s fd ⟨[u], []⟩ [("_law_script", u)]) ∧ ∀ base : Heap, (K w.params).In base → base.Ns mainGlobals mg → FnG l.prog w (K w.params) mg base 7 fa fd ["_law_script"] (spA (K w.params) F_law)) :
    PySem.W.WalkO q loose XP YP l.row.toRowW d [] (fun f vs => PySem.call f vs) :=
  walkG (n := 63) (k := 7) (x := "_law_script") (sp := fun w => spA (K w.params) F_law) hn (by decide) hdf ⟨rfl, by decide, by decide⟩ hY F fun _ _ a ns hl hS => law_sp F_law (law_ok ns) hS
end Ov
open PySem PySem.W PyProof.Rows
set_option maxRecDepth 100000 in
set_option maxHeartbeats 0 in
theorem PySem.Challenge.cw_overlooks_k23_numbers_of_lots_holds : PySem.Challenge.rw_overlooks_k23_numbers_of_lots.Holds := by
  w_on; o_law; k_head; (case hw => w_witness2)
  k_fill
  refine Ov.walk (l := PySem.Challenge.rw_overlooks_k23_numbers_of_lots) rfl rfl (fun w h Y => PySem.W.kIn_of Y) ?F
  case F =>
    intro w mg fa h KX G hmg
    refine' Ov.all_mk KX G hmg ?a0 ?l0 ?c0 ?k0 ?a1 ?l1 ?c1 ?k1 ?a2 ?l2 ?c2 ?k2 ?a3 ?l3 ?c3 ?k3 ?a4 ?l4 ?c4 ?k4 ?a5 ?l5 ?c5 ?k5 ?a6 ?l6 ?c6 ?k6 ?a7 ?l7 ?c7 ?k7 ?a8 ?l8 ?c8 ?k8 ?a9 ?l9 ?c9 ?k9 ?a10 ?l10 ?c10 ?k10 ?a11 ?l11 ?c11 ?k11 ?a12 ?l12 ?c12 ?k12 ?a13 ?l13 ?c13 ?k13 ?a14 ?l14 ?c14 ?k14 ?a15 ?l15 ?c15 ?k15 ?a16 ?l16 ?c16 ?k16 ?a17 ?l17 ?c17 ?k17 ?a18 ?l18 ?c18 ?k18 ?a19 ?l19 ?c19 ?k19 ?zisinstance ?zlist ?ztuple ?zlen ?zall ?zany ?zzip ?zbool ?zstr ?zint ?zabs ?zmax ?zmin ?zrange ?zsorted ?zenumerate ?zset ?zsum ?zreversed ?zrepr ?zdict ?zValueError ?zLookupError ?zRuntimeError ?zOverflowError ?zIndexError ?zKeyError ?zNotImplementedError
    (case a0 => k_is)
    (case l0 => k_is)
    (case c0 => k_is)
    (case k0 => k_is)
    (case a1 => k_is)
    (case l1 => k_is)
    (case c1 => k_is)
    (case k1 => k_is)
    (case a2 => k_is)
    (case l2 => k_is)
    (case c2 => k_is)
    (case k2 => k_is)
    (case a3 => k_is)
    (case l3 => k_is)
    (case c3 => k_is)
    (case k3 => k_is)
    (case a4 => k_is)
    (case l4 => k_is)
    (case c4 => k_is)
    (case k4 => k_is)
    (case a5 => k_is)
    (case l5 => k_is)
    (case c5 => k_is)
    (case k5 => k_is)
    (case a6 => k_is)
    (case l6 => k_is)
    (case c6 => k_is)
    (case k6 => k_is)
    (case a7 => k_is)
    (case l7 => k_is)
    (case c7 => k_is)
    (case k7 => k_is)
    (case a8 => k_is)
    (case l8 => k_is)
    (case c8 => k_is)
    (case k8 => k_is)
    (case a9 => k_is)
    (case l9 => k_is)
    (case c9 => k_is)
    (case k9 => k_is)
    (case a10 => k_is)
    (case l10 => k_is)
    (case c10 => k_is)
    (case k10 => k_is)
    (case a11 => k_is)
    (case l11 => k_is)
    (case c11 => k_is)
    (case k11 => k_is)
    (case a12 => k_is)
    (case l12 => k_is)
    (case c12 => k_is)
    (case k12 => k_is)
    (case a13 => k_is)
    (case l13 => k_is)
    (case c13 => k_is)
    (case k13 => k_is)
    (case a14 => k_is)
    (case l14 => k_is)
    (case c14 => k_is)
    (case k14 => k_is)
    (case a15 => k_is)
    (case l15 => k_is)
    (case c15 => k_is)
    (case k15 => k_is)
    (case a16 => k_is)
    (case l16 => k_is)
    (case c16 => k_is)
    (case k16 => k_is)
    (case a17 => k_is)
    (case l17 => k_is)
    (case c17 => k_is)
    (case k17 => k_is)
    (case a18 => k_is)
    (case l18 => k_is)
    (case c18 => k_is)
    (case k18 => k_is)
    (case a19 => k_is)
    (case l19 => k_is)
    (case c19 => k_is)
    (case k19 => k_is)
    (case zisinstance => k_is)
    (case zlist => k_is)
    (case ztuple => k_is)
    (case zlen => k_is)
    (case zall => k_is)
    (case zany => k_is)
    (case zzip => k_is)
    (case zbool => k_is)
    (case zstr => k_is)
    (case zint => k_is)
    (case zabs => k_is)
    (case zmax => k_is)
    (case zmin => k_is)
    (case zrange => k_is)
    (case zsorted => k_is)
    (case zenumerate => k_is)
    (case zset => k_is)
    (case zsum => k_is)
    (case zreversed => k_is)
    (case zrepr => k_is)
    (case zdict => k_is)
    (case zValueError => k_is)
    (case zLookupError => k_is)
    (case zRuntimeError => k_is)
    (case zOverflowError => k_is)
    (case zIndexError => k_is)
    (case zKeyError => k_is)
    (case zNotImplementedError => k_is)
