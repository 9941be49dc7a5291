import PyProof.Rows.All
import Wide.All
import OpenK.AllK
import Wide.FinOn
import HandS.ForMost
import HandS.More
import HandS.IsInst
import HandS.Walk
import HandS.Zip
import HandS.Defaults
import HandS.MakeKwOnly
import HandS.ExcInit
import KE.KExcInit
import KE.KExcIs
import HandS.Evl
import HandS.Style
import HandS.CallSlots
import HandS.TryOnly
import HandS.WordsExc
import KE.KTryMore
import HandS.TupAny
import HandS.Conv
import HandS.Ends
import HandS.SetFor
import HandS.TupSets
import HandS.DictComp
import HandS.Iter
import KE.KRevSl
import KE.GoesEnumKw
import KE.GoesMore
import HandS.SortInts
import PyProof.ListCopy
import PyProof.ReprLen
import PyProof.Rows.ReprOcc
import PyProof.StrLawsRepr
import HandS.DictTup
import KE.KeyNested
import KE.KDictDisplayH
import HandS.Deep
import HandS.Rev
import KE.GoesEnum
import KE.KDictZip
import PyProof.Rows.RuleDivmod
import HandS.TupMul
import HandS.Wide
import HandS.SortRule
import HandS.NoneIn
import HandS.SortKw
import HandS.NamedTupSort
import KE.DataMinMax
import KE.SortData
import KE.KDictWalk
import HandS.DictSubView
import HandS.TupLen
import KE.KDictSum
import PyProof.Rows.SetFrom
import HandS.Set
import KE.KSortKey
import HandS.Strs
import KE.KTupSum
import KE.KIndexOf
import PySem.Challenge.RW_overlooks_k65_whole_people_who_come_and
set_option Elab.async false
set_option linter.all false
set_option maxRecDepth 100000
set_option maxHeartbeats 4000000
/-! exceptions of the program's own classes as values -/
namespace OvX
open PySem PySem.W PySem.Calls PyProof.Rows PySem.HandSPX PySem.Builtin PySem.Builtin.ObjectAttr
/-- what the written part says of an own class of exceptions -/
structure ExK (K : Frag) (C : Addr) (bmB : List Value) (newId : String) : Prop where
  over : excOver K C bmB = true
  ini : excInitIn K C bmB newId = true
  sa : findIn K (.ref C) "__setattr__" = some (some (.builtin "object.__setattr__"))
  ga : findIn K (.ref C) "__getattribute__" = some (some (.builtin "BaseException.__getattribute__"))
  gg : findIn K (.ref C) "__getattr__" = some none
  exC : subIn K (.ref C) (.type "BaseException") = some true
  hd : hasDictIn K C = true
  kC : keepIn K (.ref C) = true
  ca : findIn K (.ref C) "__class__" = some (some (.builtin "object.__class__"))
  sp : specialIn K (.builtin "object.__class__") "__get__" = some (some (.builtin "getset_descriptor.__get__"))
  tk : takesIn K (.builtin "object.__class__") = some true
  mr : mroIn K C (.type "object") = some true
end OvX
set_option Elab.async false
set_option linter.all false
set_option maxRecDepth 100000
set_option maxHeartbeats 4000000
namespace Ov
open PySem L2
section
variable {X : Cx} {CX : CXT} {k n : Nat} {fI C : Addr} {fd : FuncData} {ps ks : List Str} {sp : Sp} {E : XK} {x : Str} {p pos : Pos} {e o : Expr} {es : List Expr} {kws : List Keyword} {t tk : TA} {te : TE} {g : List Value → List Value → List Value} {gV : List V → List V → List V} {B newId initId : String} {bmB : List Value}
/-- an exception of the class at C at a, with the attributes fs -/
def Exc (K : PySem.W.Frag) (H : Hp) (a C : Addr) (fs : List (Str × V)) : Prop := ∃ bmB newId, OvX.ExK K C bmB newId ∧ ((fs = [] ∧ H a = some (exo a C none)) ∨ ∃ dx, H a = some (exo a C (some dx)) ∧ H dx = some (exd dx fs))
theorem Exc.same {K : PySem.W.Frag} {H H' : Hp} {a C : Addr} {fs : List (Str × V)} (h : Exc K H a C fs) (s : Same H H') : Exc K H' a C fs := by
  obtain ⟨b, m, T, h⟩ := h
  rcases h with ⟨e, h⟩ | ⟨dx, h1, h2⟩
  · exact ⟨b, m, T, .inl ⟨e, s _ _ h⟩⟩
  · exact ⟨b, m, T, .inr ⟨dx, s _ _ h1, s _ _ h2⟩⟩
end
end Ov
set_option Elab.async false
set_option linter.all false
set_option maxRecDepth 100000
set_option maxHeartbeats 4000000
namespace Ov
open PySem L2
/-! heaps -/
def SameB (p : Addr) (H H' : Hp) : Prop := ∀ b o, b ≠ p → H b = some o → H' b = some o
theorem SameB.refl (p : Addr) (H : Hp) : SameB p H H := fun _ _ _ h => h
theorem SameB.trans {p : Addr} {H H1 H2 : Hp} (a : SameB p H H1) (b : SameB p H1 H2) : SameB p H H2 := fun c o n h => b c o n (a c o n h)
theorem SameB.of {p : Addr} {H H' : Hp} (a : Same H H') : SameB p H H' := fun c o _ h => a c o h
theorem same_new {H : Hp} {p : Addr} (h : H p = none) (o : HO) : Same H (upd H p o) := fun b u q => by rw [upd_ne (ne_of_none q h)]; exact q
def Bx (H : Hp) (p : Addr) (n : Int) : Prop := ∃ b0 b1 b2 : Int, H p = some (.lst [.int b0, .int b1, .int b2]) ∧ 0 ≤ b0 ∧ 0 ≤ b1 ∧ b1 < 2 ^ 62 ∧ 0 ≤ b2 ∧ b2 ≤ n
theorem Bx.mono {H : Hp} {p : Addr} {n m : Int} (h : Bx H p n) (e : n ≤ m) : Bx H p m := by
  obtain ⟨b0, b1, b2, h1, h2, h3, h4, h5, h6⟩ := h
  exact ⟨b0, b1, b2, h1, h2, h3, h4, h5, by omega⟩
theorem Bx.same {H H' : Hp} {p : Addr} {n : Int} (h : Bx H p n) (e : Same H H') : Bx H' p n := by
  obtain ⟨b0, b1, b2, h1, h2⟩ := h
  exact ⟨b0, b1, b2, e _ _ h1, h2⟩
theorem same_refl (H : Hp) : Same H H := fun _ _ h => h
theorem Exc.mut {K : PySem.W.Frag} {H H' : Hp} {a C p : Addr} {fs : List (Str × V)} {xs : List V} (h : Exc K H a C fs) (hp : H p = some (.lst xs)) (s : SameB p H H') : Exc K H' a C fs := by
  obtain ⟨b, m, T, h⟩ := h
  have n1 : ∀ q d, exo q C d ≠ .lst xs := fun q d z => by
    have z' : HO.ext _ = HO.lst xs := z
    cases z'
  rcases h with ⟨e, h⟩ | ⟨dx, h1, h2⟩
  · exact ⟨b, m, T, .inl ⟨e, s _ _ (fun z => by rw [z, hp] at h; exact n1 _ _ (Option.some.inj h).symm) h⟩⟩
  · refine ⟨b, m, T, .inr ⟨dx, s _ _ (fun z => by rw [z, hp] at h1; exact n1 _ _ (Option.some.inj h1).symm) h1, s _ _ (fun z => ?_) h2⟩⟩
    rw [z, hp] at h2
    have z' : HO.lst xs = HO.ext _ := Option.some.inj h2
    cases z'
/-! values that are the same data, of depth below n -/
def flat : V → Bool
  | .non | .bl _ | .int _ | .str _ => true
  | _ => false
def Sm (K : PySem.W.Frag) : Nat → Hp → V → V → Prop
  | 0, _, _, _ => False
  | n + 1, H, x, y => (x = y ∧ flat x = true) ∨ (∃ (a b : Addr) (xs ys : List V), x = .ref a ∧ y = .ref b ∧ ((SqL K H a xs ∧ SqL K H b ys) ∨ (SqT K H a xs ∧ SqT K H b ys)) ∧ xs.length = ys.length ∧ xs.length ≤ 1000 ∧
      ∀ (i : Nat) (u v : V), xs[i]? = some u → ys[i]? = some v → Sm K n H u v)
theorem seqT {K : PySem.W.Frag} {H H' : Hp} {a : Addr} {xs : List V} (e : Same H H') (h : SqT K H a xs) : SqT K H' a xs := by
  rcases h with (h | ⟨o, h⟩) | h
  · exact .inl (.inl (e _ _ h))
  · exact .inl (.inr ⟨o, e _ _ h⟩)
  · exact .inr h
theorem Sm.same {K : PySem.W.Frag} {H H' : Hp} (e : Same H H') : ∀ {n : Nat} {x y : V}, Sm K n H x y → Sm K n H' x y := by
  intro n
  induction n with
  | zero => intro x y h; exact h
  | succ n ih =>
    intro x y h
    unfold Sm at h ⊢
    rcases h with h | ⟨a, b, xs, ys, h1, h2, h3, h4, h5, h6⟩
    · exact .inl h
    · exact .inr ⟨a, b, xs, ys, h1, h2, h3.imp (fun z => ⟨e.seq z.1, e.seq z.2⟩) (fun z => ⟨seqT e z.1, seqT e z.2⟩), h4, h5, fun i u v p q => ih (h6 i u v p q)⟩
/-! list.count of flat items -/
/-- built-in names that the module does not bind -/
structure Blt (mg : Str → Option Value) : Prop where
  isinstance : mg "isinstance" = none
  list : mg "list" = none
  tuple : mg "tuple" = none
  len : mg "len" = none
  all : mg "all" = none
  any : mg "any" = none
  zip : mg "zip" = none
  bool : mg "bool" = none
  str : mg "str" = none
  int : mg "int" = none
  abs : mg "abs" = none
  max : mg "max" = none
  min : mg "min" = none
  range : mg "range" = none
  sorted : mg "sorted" = none
  enumerate : mg "enumerate" = none
  set : mg "set" = none
  sum : mg "sum" = none
  reversed : mg "reversed" = none
  repr : mg "repr" = none
  dict : mg "dict" = none
  ValueError : mg "ValueError" = none
  LookupError : mg "LookupError" = none
  RuntimeError : mg "RuntimeError" = none
  OverflowError : mg "OverflowError" = none
  IndexError : mg "IndexError" = none
  KeyError : mg "KeyError" = none
  NotImplementedError : mg "NotImplementedError" = none
end Ov
set_option Elab.async false
set_option linter.all false
set_option maxRecDepth 100000
set_option maxHeartbeats 4000000
namespace Ov
open PySem L2
/-! lists, numbers -/
theorem erase_perm : ∀ (l : List Int) (j : Nat) (y : Int), l[j]? = some y → (y :: l.eraseIdx j).Perm l
  | [], j, y, h => by simp at h
  | a :: r, 0, y, h => by
    simp at h
    subst h
    exact List.Perm.refl _
  | a :: r, j + 1, y, h => by
    rw [List.getElem?_cons_succ] at h
    rw [List.eraseIdx_cons_succ]
    exact (List.Perm.swap a y _).trans ((erase_perm r j y h).cons a)
theorem sub_len : ∀ (l ks : List Int), l.Nodup → (∀ x ∈ l, x ∈ ks) → l.length ≤ ks.length
  | [], ks, _, _ => Nat.zero_le _
  | a :: r, ks, nd, h => by
    have ha := h a (List.mem_cons_self ..)
    have nd2 := List.nodup_cons.mp nd
    have ih := sub_len r (ks.erase a) nd2.2 fun x hx => (List.mem_erase_of_ne (fun e : x = a => nd2.1 (e ▸ hx))).mpr (h x (List.mem_cons_of_mem _ hx))
    have e := List.length_erase_of_mem ha
    have p : 0 < ks.length := List.length_pos_of_mem ha
    rw [List.length_cons]
    omega
theorem emod_ne {a M : Int} {i j : Nat} (hM : (j : Int) < M) (hij : i < j) : (a + i) % M ≠ (a + j) % M := fun e => by
  have h1 : ((a + j) - (a + i)) % M = 0 := Int.emod_eq_emod_iff_emod_sub_eq_zero.mp e.symm
  have h2 : (a + j) - (a + i) = (j : Int) - i := by omega
  rw [h2, Int.emod_eq_of_lt (by omega) (by omega)] at h1
  omega
theorem step_mod {x M : Int} (hM : 0 < M) : ((x % M + 1) % M) + 1 = (x + 1) % M + 1 := by
  rw [Int.emod_add_emod]
/-! ints as data -/
def dInts (ns : List Int) : PyData := .list (ns.map .int)
theorem lay_ints : ∀ ns : List Int, PyData.canLayAll0 (ns.map PyData.int) = true
  | [] => rfl
  | n :: r => by
    show (PyData.canLay0 (.int n) && PyData.canLayAll0 (r.map PyData.int)) = true
    rw [lay_ints r]
    rfl
theorem depth_ints : ∀ ns : List Int, PyData.depthAll (ns.map PyData.int) ≤ 1
  | [] => Nat.zero_le _
  | n :: r => by
    have ih := depth_ints r
    show max (PyData.depth (.int n)) (PyData.depthAll (r.map PyData.int)) ≤ 1
    have e : PyData.depth (.int n) ≤ 1 := by
      first
        | exact Nat.zero_le _
        | exact Nat.le_refl _
    omega
theorem sh_ints (ns : List Int) : SeqAt.shaped (dInts ns) = true := by
  unfold SeqAt.shaped
  have h1 : PyData.canLay0 (dInts ns) = true := lay_ints ns
  have h2 : PyData.depth (dInts ns) ≤ 64 := by
    have := depth_ints ns
    show PyData.depthAll (ns.map PyData.int) + 1 ≤ 64
    omega
  rw [h1, decide_eq_true h2]
  rfl
theorem sh_intsT (ns : List Int) : SeqAt.shaped (.tuple (ns.map .int)) = true := by
  unfold SeqAt.shaped
  have h1 : PyData.canLay0 (.tuple (ns.map .int)) = true := lay_ints ns
  have h2 : PyData.depth (.tuple (ns.map .int)) ≤ 64 := by
    have := depth_ints ns
    show PyData.depthAll (ns.map PyData.int) + 1 ≤ 64
    omega
  rw [h1, decide_eq_true h2]
  rfl
theorem eqv_nil (ns : List Int) : PyData.eqv (dInts ns) (.list []) = ns.isEmpty := by
  cases ns with
  | nil => rfl
  | cons n r => rfl
theorem eqv_ints : ∀ ns ms : List Int, PyData.eqv (dInts ns) (dInts ms) = decide (ns = ms)
  | [], [] => rfl
  | [], m :: r => by rw [decide_eq_false (by simp)]; rfl
  | n :: r, [] => by rw [decide_eq_false (by simp)]; rfl
  | n :: r, m :: q => by
    have ih := eqv_ints r q
    have e : PyData.eqv (dInts (n :: r)) (dInts (m :: q)) = (PyData.eqv (.int n) (.int m) && PyData.eqv (dInts r) (dInts q)) := by
      simp [dInts, PyData.eqv, PyData.eqvAll]
    rw [e, ih]
    by_cases h : n = m
    · subst h
      simp [PyData.eqv]
    · have e2 : PyData.eqv (.int n) (.int m) = false := by simp [PyData.eqv, h]
      rw [e2, decide_eq_false (show ¬ (n :: r = m :: q) from fun z => h (List.cons.inj z).1)]
      rfl
/-! dicts of numbers, all True -/
def kvs (ks : List Int) : List (Key × V) := ks.map fun k => (Sum.inl k, .bl true)
end Ov
set_option Elab.async false
set_option linter.all false
set_option maxRecDepth 100000
set_option maxHeartbeats 4000000
namespace Ov
open PySem L2
/-- an exception that was caught, of the class at C, its dict d -/
def exg (a C : Addr) (d : Option Addr) : HO := .ext fun h => ∃ (oe : Obj) (vs : Array Value), h.get? a = some oe ∧ oe.cls = .ref C ∧ oe.dict = d ∧ oe.data = .fields vs
/-- names of classes, one after the other -/
inductive Nms (X : Cx) : List Expr → List Value → Prop where
  | nil : Nms X [] []
  | cons {x : Str} {p : Pos} {c : Value} {es : List Expr} {cs : List Value} (hg : Gl X x) (hd : (x == ("__debug__" : Str)) = false) (hm : X.mg x = some c) (he : starEach (.Name x p :: es) X.env = (false, eval (.Name x p) X.env) :: starEach es X.env) (r : Nms X es cs) : Nms X (.Name x p :: es) (c :: cs)
theorem Nms.run {X : Cx} {pins : List (Addr × Obj)} {σ : L2.St} {H : Hp} {s : Shared} {E : Value → Shared → Prop} {pos : Pos} (I : Inv X pins σ H s) : ∀ {es : List Expr} {cs : List Value} {Q : List Value → Shared → Prop}, Nms X es cs → Q cs s → wpAny (model X.prog X.w) X.A (spliced (backTo pos (starEach es X.env))) Q E s
  | _, _, _, .nil, q => wpAny_items_nil q
  | _, _, _, .cons hg hd hm he r, q => wpAny_items_cons (ld_glob I hg hm (Nms.run I r q) hd) he
/-- what such a try wishes of an exception of the body: it is caught, held by slot i in the suite, and kept behind it -/
def wKeep (t : Value → Value → Bool) (K : PySem.W.Frag) (cs : List Value) (i : Nat) (ts : Addr → Value → Option Addr → TS) (D : Ends) : WX := fun cls d σ H =>
  ∃ C : Addr, cls = .ref C ∧ (∀ c ∈ cs, PySem.W.exmOne K cls c = some (t cls c)) ∧ cs.any (t cls) = true ∧
    ∀ a, H a = none → ts a cls d { nx := fun σ' H' => D.nx (σ'.set i none) (upd H' a (exg a C d)), rt := fun _ _ => False, bk := fun _ _ => False, ct := fun _ _ => False } (σ.set i (some (.ref a))) H
end Ov
set_option Elab.async false
set_option linter.all false
set_option maxRecDepth 100000
set_option maxHeartbeats 4000000
namespace Ov
open PySem L2
abbrev tlValueError : List Value := [.type "ValueError", .type "Exception", .type "BaseException", .type "object"]
abbrev tlLookupError : List Value := [.type "LookupError", .type "Exception", .type "BaseException", .type "object"]
abbrev tlRuntimeError : List Value := [.type "RuntimeError", .type "Exception", .type "BaseException", .type "object"]
abbrev tlOverflowError : List Value := [.type "OverflowError", .type "ArithmeticError", .type "Exception", .type "BaseException", .type "object"]
def tl : Nat → List Value
  | 0 => tlValueError
  | 1 => tlLookupError
  | 2 => tlRuntimeError
  | _ => tlOverflowError
def nw : Nat → String
  | 0 => "ValueError.__new__"
  | 1 => "LookupError.__new__"
  | 2 => "RuntimeError.__new__"
  | _ => "OverflowError.__new__"
structure Cl (K : PySem.W.Frag) (C : Addr) (k : Nat) : Prop where
  ex : OvX.ExK K C (tl k) (nw k)
  mro : (PySem.W.clsIn K C).map (·.mro) = some (.ref C :: tl k)
  ty : PySem.W.typeIn K (.ref C) = some (.type "type")
theorem tl_ref (k : Nat) (D : Addr) : (tl k).contains (.ref D) = false := by
  match k with
  | 0 => rfl
  | 1 => rfl
  | 2 => rfl
  | _ + 3 => rfl
theorem Cl.sub {K : PySem.W.Frag} {C : Addr} {k : Nat} (x : Cl K C k) (v : Value) : PySem.W.subIn K (.ref C) v = some ((Value.ref C :: tl k).contains v) := by
  obtain ⟨cd, h1, h2⟩ := Option.map_eq_some_iff.mp x.mro
  show PySem.W.mroIn K C v = _
  unfold PySem.W.mroIn
  rw [h1, Option.bind_some, h2]
  rfl
theorem Cl.own {K : PySem.W.Frag} {C D : Addr} {k j : Nat} (x : Cl K C k) (y : Cl K D j) : PySem.W.kitOne K (.ref C) (.ref D) = some (decide (C = D)) := by
  unfold PySem.W.kitOne
  by_cases h : C = D
  · subst h
    rw [if_pos (beq_self_eq_true _), decide_eq_true rfl]
  · have e : (Value.ref C == Value.ref D) = false := beq_eq_false_iff_ne.mpr fun z => h (Value.ref.inj z)
    rw [e, if_neg Bool.false_ne_true, decide_eq_false h]
    obtain ⟨cd, h1, h2⟩ := Option.map_eq_some_iff.mp y.mro
    show (if ((PySem.W.clsIn K D).isSome && PySem.W.typeIn K (.ref D) == some (.type "type")) = true then PySem.W.subIn K (.ref C) (.ref D) else none) = some false
    rw [h1, y.ty, if_pos (by rfl), x.sub, List.contains_cons, tl_ref]
    rw [show (Value.ref D == Value.ref C) = false from beq_eq_false_iff_ne.mpr fun z => h (Value.ref.inj z).symm]
    rfl
def E0 : XK := fun _ _ _ => False
/-! the three ways -/
theorem laid {H : Hp} {a dx C : Addr} {f : Str} {v : V} (na : H a = none) (nd : upd H a (exo a C none) dx = none) (ne : dx ≠ a) :
    Same H (upd (upd (upd H a (exo a C none)) dx (exd dx [(f, v)])) a (exo a C (some dx))) := fun b o h => by
  have hb : b ≠ a := ne_of_none h na
  have hd : b ≠ dx := ne_of_none h (by rw [upd_ne ne] at nd; exact nd)
  rw [upd_ne hb, upd_ne hd, upd_ne hb]
  exact h
/-! raise C(e) -/
/-! a caught exception -/
def Cau (K : PySem.W.Frag) (H : Hp) (a C : Addr) (fs : List (Str × V)) : Prop := ∃ (k : Nat) (d : Addr), Cl K C k ∧ H a = some (exg a C (some d)) ∧ H d = some (.xd fs)
theorem Cau.same {K : PySem.W.Frag} {H H' : Hp} {a C : Addr} {fs : List (Str × V)} (h : Cau K H a C fs) (s : Same H H') : Cau K H' a C fs := by
  obtain ⟨k, d, x, h1, h2⟩ := h
  exact ⟨k, d, x, s _ _ h1, s _ _ h2⟩
/-! f(k = v, ..): keywords alone -/
end Ov
set_option Elab.async false
set_option linter.all false
set_option maxRecDepth 100000
set_option maxHeartbeats 4000000
namespace Ov
open PySem L2 PySem.Spec PyProof.Rows
/-! sequences that are lists or tuples -/
/-- a tuple whose object has no dict of its own -/
def TP (H : Hp) (a : Addr) (xs : List V) : Prop := ∃ o : Obj, H a = some (.frz o (.tup xs)) ∧ o.dict = none
theorem TP.sq {K : PySem.W.Frag} {H : Hp} {a : Addr} {xs : List V} (h : TP H a xs) : SqT K H a xs := let ⟨o, e, _⟩ := h; .inl (.inr ⟨o, e⟩)
theorem TP.same {H H' : Hp} {a : Addr} {xs : List V} (h : TP H a xs) (s : Same H H') : TP H' a xs := let ⟨o, e, d⟩ := h; ⟨o, s _ _ e, d⟩
theorem TP.new {H : Hp} {a : Addr} {xs : List V} {o : Obj} (d : o.dict = none) : TP (upd H a (.frz o (.tup xs))) a xs := ⟨o, upd_same, d⟩
theorem TP.some {H : Hp} {a : Addr} {xs : List V} (h : TP H a xs) : ∃ o, H a = some o := let ⟨o, e, _⟩ := h; ⟨_, e⟩
theorem seqP {K : PySem.W.Frag} {H H' : Hp} {a : Addr} {xs : List V} (s : Same H H') (h : TP H a xs) : SqT K H' a xs := (h.same s).sq
section
open PySem.Spec PyProof.Rows
/-- a new tuple of the items us -/
def bo (us : List Value) : Obj := { cls := .type "tuple", data := .seq us.toArray }
theorem bo_ok {P : Program} {w : World} {H : Hp} {h : Heap} {p : Addr} {xs : List V} {us : List Value} (e : h.get? p = some (bo us)) (r : Vals xs us) (z : xs.length ≤ sizeLine) : ObjOk P w H h p (.frz (bo us) (.tup xs)) :=
  ⟨e, z, us, r, _, e, rfl, 0, rfl⟩
variable {X : Cx}
theorem bo_laid {pins : List (Addr × Obj)} {σ : L2.St} {H : Hp} {s : Shared} {xs : List V} {us : List Value} (I : Inv X pins σ H s) (r : Vals xs us) (z : xs.length ≤ sizeLine) : Inv X pins σ (upd H s.heap.objs.size (.frz (bo us) (.tup xs))) { s with heap := s.heap.push (bo us) } :=
  I.laid (t' := s.toks) (fun b u e => Heap.get?_push_of_some _ e) (Nat.le_refl _) (bo_ok (Heap.get?_push_size _ rfl) r z)
/-- (a, b, ..) -/
def tTupB (t : TA) : TE := fun σ H Q => t σ H fun xs H1 => xs.length ≤ sizeLine ∧ ∀ p o, H1 p = none → o.dict = none → Q (.ref p) (upd H1 p (.frz o (.tup xs)))
theorem pe_tupB {es : List Expr} {t : TA} {x1} {pos : Pos} (h : PA X es t) : PE X (.Tuple es x1 pos) (tTupB t) :=
  ⟨fun pins s σ H Q I hq => wpAny_Tuple_spliced (thn (h.run pos pins s σ H _ I hq) fun us s1 ⟨xs, H1, I1, r, z, q⟩ => ⟨by rw [← r.length]; exact z, ⟨.ref s1.heap.objs.size, _, bo_laid I1 r z, rfl, q _ _ (I1.hok.fresh (Nat.le_refl _)) rfl⟩⟩)⟩
end
def Sq (K : PySem.W.Frag) (H : Hp) (a : Addr) (xs : List V) : Prop := SqL K H a xs ∨ SqT K H a xs
theorem Sq.same {K : PySem.W.Frag} {H H' : Hp} {a : Addr} {xs : List V} (h : Sq K H a xs) (s : Same H H') : Sq K H' a xs := h.imp (fun z => s.seq z) (fun z => seqT s z)
theorem cut_all {xs : List V} {lo hi : Option Int} (h : HT.sIx xs.length 0 lo = 0 ∧ HT.sIx xs.length xs.length hi = xs.length) : cutV xs lo hi = xs := by
  unfold cutV
  rw [h.1, h.2]
  simp
section
variable {X : Cx}
/-- a slice of a list or a tuple, by its items -/
def rCut (K : PySem.W.Frag) : V → Option Int → Option Int → Hp → VK → Prop := fun x lo hi H Q => ∃ (a : Addr) (xs : List V), x = .ref a ∧
  ((SqL K H a xs ∧ ∀ p H', Same H H' → H p = none → H' p = some (.lst (cutV xs lo hi)) → Q (.ref p) H') ∨ (TP H a xs ∧ ∀ p H', Same H H' → TP H' p (cutV xs lo hi) → Q (.ref p) H'))
theorem sl_cut : SlR X (rCut X.K) := by
  intro pins s σ H x v vl vu lo hi sl Q I rx hs pl pu q
  obtain ⟨a, xs, rfl, ⟨h, q⟩ | ⟨h, q⟩⟩ := q
  · exact sl_list pins s σ H _ v vl vu lo hi sl Q I rx hs pl pu ⟨a, xs, rfl, h, fun p hp => q p _ (same_new hp _) hp upd_same⟩
  · cases rx
    obtain ⟨its, r, ht, hz⟩ := I.tuple h.sq
    have hlen : its.toArray.size = xs.length := by rw [List.size_toArray]; exact r.length.symm
    refine ⟨"tuple", _, PyProof.Rows.slot_tuple_getitem.lookup, ht.typeIs, ?_⟩
    by_cases hw : HT.sIx xs.length 0 lo = 0 ∧ HT.sIx xs.length xs.length hi = xs.length
    · exact getItem_tuple_whole ht hs pl pu (by rw [hlen]; exact hw) ⟨.ref a, H, I, rfl, q a H (same_refl H) (by rw [cut_all hw]; exact h)⟩
    · refine HT.getItem_tuple_cut ht hs pl pu (by rw [hlen]; exact hw) ?_ (by rw [hlen]; exact hz)
      rw [hlen]
      exact ⟨.ref s.heap.objs.size, _, bo_laid I ((r.drop (HT.sIx xs.length 0 lo)).take (HT.sIx xs.length xs.length hi - HT.sIx xs.length 0 lo)) (Nat.le_trans (cutV_length xs lo hi) hz), rfl, q _ _ (same_new (I.hok.fresh (Nat.le_refl _)) _) (TP.new rfl)⟩
/-- t + u, by its items -/
def rCatW (K : PySem.W.Frag) : R2 := fun x y H Q => ∃ (a b : Addr) (xs ys : List V), x = .ref a ∧ y = .ref b ∧ TP H a xs ∧ TP H b ys ∧ xs.length + ys.length ≤ sizeLine ∧ ∀ p H', Same H H' → TP H' p (xs ++ ys) → Q (.ref p) H'
theorem op_catW : OpR X (binaryOp .Add) (rCatW X.K) := by
  intro pins s σ H x y v u Q I rx ry h
  obtain ⟨a, b, xs, ys, rfl, rfl, ha, hb, hl, q⟩ := h
  cases rx
  cases ry
  obtain ⟨its, r1, p1, _⟩ := I.tuple ha.sq
  obtain ⟨its2, r2, p2, _⟩ := I.tuple hb.sq
  by_cases hx : xs = []
  · subst hx
    cases r1
    exact cat_tup0 p1 p2 ⟨.ref b, H, I, rfl, q b H (same_refl H) hb⟩
  · refine HT.cat_tup p1 p2 (fun z => hx (r1.nil_iff.mp z)) (fun z => ⟨.ref a, H, I, rfl, q a H (same_refl H) (by rw [r2.nil_iff.mp z, List.append_nil]; exact ha)⟩) (fun z => ?_) (by rw [← r1.length, ← r2.length]; exact hl)
    exact ⟨.ref s.heap.objs.size, _, bo_laid I (r1.append r2) (by rw [List.length_append]; exact hl), rfl, q _ _ (same_new (I.hok.fresh (Nat.le_refl _)) _) (TP.new rfl)⟩
/-- tuple(x), by its items -/
def rTupW (K : PySem.W.Frag) : List V → Hp → VK → Prop := fun vs H Q => ∃ (a : Addr) (xs : List V), vs = [.ref a] ∧ (SqL K H a xs ∨ TP H a xs) ∧ ∀ p H', Same H H' → TP H' p xs → Q (.ref p) H'
theorem call_tupW : CallR X (.type "tuple") (rTupW X.K) := by
  intro pins s σ H vs us Q I r h
  obtain ⟨a, xs, rfl, hs, q⟩ := h
  rw [Vals.ref1 r]
  rcases hs with hs | hs
  · obtain ⟨its, r', pl, hz⟩ := I.list hs
    refine call_tuple_list pl.isList (fun h' kp => ?_) (by have := r'.length; simp only [List.size_toArray]; omega)
    have I1 : Inv X pins σ H { s with heap := h' } := I.kept (t' := s.toks) kp
    exact ⟨.ref h'.objs.size, _, bo_laid I1 r' hz, rfl, q _ _ (same_new (I1.hok.fresh (Nat.le_refl _)) _) (TP.new rfl)⟩
  · obtain ⟨its, r', pl, hz⟩ := I.tuple hs.sq
    exact call_tuple_same pl ⟨.ref a, H, I, rfl, q a H (same_refl H) hs⟩
end
/-! numbers among numbers -/
end Ov
set_option Elab.async false
set_option linter.all false
set_option maxRecDepth 100000
set_option maxHeartbeats 4000000
namespace Ov
open PySem L2 PySem.Spec PyProof.Rows
/-! Calls where no repr is under way around: as FnOk, but the guards around are known to be none. -/
structure FnG (P : Program) (w : World) (K : PySem.W.Frag) (mg : Str → Option Value) (base : Heap) (k : Nat) (f : Addr) (fd : FuncData) (ps : List Str) (sp : Sp) : Prop where
  count : ∀ {vs H Q E}, sp vs H Q E → vs.length = ps.length
  go : ∀ {A : Around} {outer : List Env} {s : Shared} {H : Hp} {args : Args} {us : List Value} {vs : List V} {Q : VK} {E : XK}, A.guards = some [] → Room k A → Env0 P w K mg base A outer s H →
    BindsTo s fd args (ps.zip us) → Vals vs us → sp vs H Q E → codeAny (model P w) A (.call (.ref f) args) (CR L2.CX0 outer P w H s Q E) s
section
variable {P : Program} {w : World} {K : PySem.W.Frag} {mg : Str → Option Value} {base : Heap}
theorem Fun.okG {x qual : Str} {st : Stmt} {f : Addr} {fd : FuncData} {N ps : List Str} {k : Nat} {sp : Sp} (F : Fun K x qual st f fd) (S : FnScope N ps (defScope st))
    (len : ∀ vs H Q E, sp vs H Q E → vs.length = ps.length)
    (body : ∀ (cd : Value) (A : Around) (outer : List Env) (s : Shared) (H : Hp) (vs : List V) (Q : VK) (E : XK), A.guards = some [] →
      Room k (A.deeper (envOfC qual (defScope st) s.heap.objs.size f cd)) → sp vs H Q E →
      ∃ t, PSs (cxOf L2.CX0 P w K mg base N qual (defScope st) f cd A outer s H E).nox (defBody st) t ∧ t { nx := fun _ H' => Q .non H', rt := Q } (start N vs) H) :
    FnG P w K mg base (k + 1) f fd ps sp := by
  obtain ⟨_, _, _, _, _, _, cd, _, _, rfl, lk, hcd⟩ := F.ex
  refine ⟨fun h => len _ _ _ _ h, ?_⟩
  intro A outer s H args us vs Q E hg hr e0 hb r hsp
  have up : ∀ b o, base.get? b = some o → s.heap.get? b = some o := fun b o e => (e0.bs b o e).1
  have kin := e0.mod.kin.keeps up
  refine codeAny_call_function hr.depth (kin _ _ lk) rfl S.co S.gen rfl (PySem.W.codeRec_of kin hcd) (hb _ _ _ _ ?_)
  refine wpAny_newFunctionEnv_cells S.kind (fun y hy => (S.par y.1 (List.of_mem_zip hy).1).imp id fun q => And.intro q (PySem.W.cellsFrom_some _ _ _ (.inl q))) ?_
  intro env he s1 x
  cases he
  refine ⟨(e0.mod.nolimit.keeps up).keeps x.toInCall.keep, codeAny_func ?_⟩
  obtain ⟨t, ht, hq⟩ := body cd A outer s H vs Q E hg (hr.deeper _) hsp
  refine wpAny_mono (ht.nox.run _ _ _ _ _ (inv_start S hr.hd e0 (len _ _ _ _ hsp) r x) hq) ?_ fun _ _ z => z
  intro fl s' hs
  match fl, hs with
  | .ret u, ⟨v, _, H', J, rv, q⟩ => exact ⟨v, H', J.os, J.bare, J.base, J.hok, rv, q⟩
  | .next, ⟨_, H', J, q⟩ => exact ⟨.non, H', J.os, J.bare, J.base, J.hok, rfl, q⟩
  | .brk, ⟨_, _, _, q⟩ => exact q.elim
  | .cont, ⟨_, _, _, q⟩ => exact q.elim
end
/-! repr of data -/
/-! the head, for FnG: the script alone is tracked (or it is one of the module's own objects) -/
section
variable {P : Program} {w : World} {K : PySem.W.Frag} {mg mb : Str → Option Value} {k : Nat} {fa a : Addr} {fd : FuncData} {x : Str} {sp : Sp} {s : Shared} {vs : List Value} {ns : List Int}
def scriptH (K : PySem.W.Frag) (a : Addr) (vs : List Value) (ns : List Int) : Hp := fun b => if b = a ∧ K.lookup a = none then some (.frz { cls := .type "list", data := .seq vs.toArray } (.lst (ns.map V.int))) else none
theorem scriptH_at {b : Addr} {o : HO} (h : scriptH K a vs ns b = some o) : b = a ∧ K.lookup a = none ∧ o = .frz { cls := .type "list", data := .seq vs.toArray } (.lst (ns.map V.int)) := by
  unfold scriptH at h
  split at h
  · rename_i q
    cases h
    exact ⟨q.1, q.2, rfl⟩
  · cases h
theorem headG (kin : K.In s.heap) (hns : s.heap.Ns mainGlobals mg) (hb : s.heap.Ns builtinsNs mb) (hbb : ∀ y : Str, y ≠ "__name__" → mb y = bootBuiltins y) (lim : s.heap.NoLimit) (hg : s.gens = #[])
    (ha : s.heap.get? a = some { cls := .type "list", data := .seq vs.toArray }) (hi : IntsAre vs ns) (hl : ns.length ≤ sizeLine) (hr : Room k callerA)
    (F : ∀ base : Heap, K.In base → base.Ns mainGlobals mg → FnG P w K mg base k fa fd [x] sp) (bind : ∀ (s : Shared) (u : Value), BindsTo s fd ⟨[u], []⟩ [(x, u)])
    (hsp : ∀ H : Hp, SqL K H a (ns.map V.int) → sp [.ref a] H (fun v _ => v = .bl true) fun _ _ _ => False) :
    codeAny (model P w) callerA (.call (.ref fa) ⟨[.ref a], []⟩) (fun r s' => r = .ok (.ret (.bool true)) ∧ OldK s.heap s'.heap ∧ s'.os = s.os ∧ AllBare s'.gens) s := by
  have rv := vals_ints hi
  have nk : ∀ {b o}, scriptH K a vs ns b = some o → K.lookup b = none := fun h => by
    obtain ⟨rfl, q, _⟩ := scriptH_at h
    exact q
  have hok : HOk P w (scriptH K a vs ns) s.heap := by
    intro b o h
    obtain ⟨rfl, _, rfl⟩ := scriptH_at h
    exact ⟨ha, by rw [List.length_map]; exact hl, vs, _, rv, ha⟩
  have hS : SqL K (scriptH K a vs ns) a (ns.map V.int) := by
    cases q : K.lookup a with
    | none => exact .inl (.inr ⟨_, if_pos ⟨rfl, q⟩⟩)
    | some o =>
      have e := kin a o q
      rw [ha] at e
      cases e
      exact .inr ⟨_, vs.toArray, _, q, rfl, rfl, rfl, by rw [List.size_toArray, hi.length]; exact hl, by simpa using rv⟩
  have dict : ∀ {b : Addr} {o : Obj} {es : Array DictEntry} {ep : Nat}, s.heap.get? b = some o → o.data = .dict es ep → scriptH K a vs ns b = none := fun {b o es ep} e d => by
    cases q : scriptH K a vs ns b with
    | none => rfl
    | some z =>
      obtain ⟨rfl, _, _⟩ := scriptH_at q
      rw [ha] at e
      cases e
      have d' : Data.seq vs.toArray _ = Data.dict es ep := d
      cases d'
  have ns' : ∀ {b : Addr} {m : Str → Option Value}, s.heap.Ns b m → (hidT s.heap (scriptH K a vs ns)).Ns b m := fun {b m} h => by
    obtain ⟨o, es, ep, e, d, r⟩ := h
    exact ⟨o, es, ep, hidT_get e (dict e d), d, r⟩
  have kin' : K.In (hidT s.heap (scriptH K a vs ns)) := fun b o e => by
    refine hidT_get (kin b o e) ?_
    cases q : scriptH K a vs ns b with
    | none => rfl
    | some z =>
      rw [nk q] at e
      cases e
  have e0 : Env0 P w K mg (hidT s.heap (scriptH K a vs ns)) callerA [] s (scriptH K a vs ns) := by
    obtain ⟨mc, h1, h2⟩ := lim
    exact ⟨rfl, ⟨kin', ns' hns, ⟨mb, ns' hb, hbb⟩, ⟨mc, ns' h1, h2⟩⟩, fun _ _ e => of_hidT e, Nat.le_of_eq (hidT_size _ _), trivial, (fun _ z => nomatch z), hok, .of_eq hg⟩
  refine codeAny_mono ((F _ kin' (ns' hns)).go (us := [.ref a]) (vs := [.ref a]) rfl hr e0 (bind s (.ref a)) (.cons rfl .nil) (hsp _ hS)) fun r s' h => ?_
  match r, h with
  | .error _, h => exact False.elim h
  | .ok .next, h => exact False.elim h
  | .ok .brk, h => exact False.elim h
  | .ok .cont, h => exact False.elim h
  | .ok (.ret u), ⟨v, H', os, bare, un, hok', r', q⟩ =>
    obtain rfl : v = .bl true := q
    obtain rfl : u = Value.bool true := r'
    refine ⟨rfl, OldK.of_keep fun b o e => ?_, os, bare⟩
    cases q : scriptH K a vs ns b with
    | none => exact un.keep b o e q (fun z => nomatch z) (fun z => nomatch z)
    | some z =>
      obtain ⟨rfl, _, rfl⟩ := scriptH_at q
      have e2 := (hok' _ _ (un.frzs _ _ _ q)).1
      rw [ha] at e
      cases e
      exact e2
theorem walkG {l : PySem.W.OpenLaw} {n k : Nat} {q : Program} {loose : List Str} {XP : (Str → Option Value) → Heap → Prop} {YP : World → Heap → Prop} {d : DefRec} {K : Params → PySem.W.Frag} {sp : World → Sp} {x : Str}
    (hn : l.most = some n) (hn2 : n ≤ sizeLine) (hdf : d.params.defaults = []) (hr : Room k callerA) (hY : ∀ (w : World) (h : Heap), YP w h → (K w.params).In h)
    (F : ∀ (w : World) (mg : Str → Option Value) (fa : Addr) (h : Heap), (K w.params).In h → h.Ns mainGlobals mg → mg d.name = some (.ref fa) →
      ∃ fd : FuncData, (∀ (s : Shared) (u : Value), BindsTo s fd ⟨[u], []⟩ [(x, u)]) ∧ ∀ base : Heap, (K w.params).In base → base.Ns mainGlobals mg → FnG l.prog w (K w.params) mg base k fa fd [x] (sp w))
    (hsp : ∀ (w : World) (H : Hp) (a : Addr) (ns : List Int), ns.length ≤ n → SqL (K w.params) H a (ns.map V.int) → sp w [.ref a] H (fun v _ => v = .bl true) fun _ _ _ => False) :
    PySem.W.WalkO q loose XP YP l.row.toRowW d [] (fun f vs => PySem.call f vs) := by
  refine Att.attach_call hn hdf ?_
  intro w s₀ s₁ mg mb fa o pm cd doc a vs ns G Y ho hd hcd hmg hobj hi hlen hg
  obtain ⟨fd, hb, hF⟩ := F w mg fa _ (hY w _ Y) G.T.g hmg
  exact headG (hY w _ Y) G.T.g G.T.b G.T.builtins G.T.nolimit hg hobj hi (Nat.le_trans hlen hn2) hr hF hb fun H hS => hsp w H a ns hlen hS
end
end Ov
set_option Elab.async false
set_option linter.all false
set_option maxRecDepth 100000
set_option maxHeartbeats 4000000
namespace Ov
open PySem L2 PySem.Spec PyProof.Rows
/-! len(set(t)), t a tuple of numbers -/
section
variable {X : Cx}
def tLenSetT (K : PySem.W.Frag) (ta : TE) : TE := fun σ H Q => ta σ H fun x H1 => ∃ (l : Addr) (ns : List Int), x = V.ref l ∧ SqT K H1 l (ns.map V.int) ∧ ns.length ≤ 1000 ∧
  ∀ out : List Int, out.Nodup → (∀ k, k ∈ out ↔ k ∈ ns) → Q (.int out.length) H1
theorem pe_lenSetT {a : Expr} {ta : TE} {p p2 q pos : Pos} (hc : X.calm = true) (hg : Gl X "len") (hm : X.mg "len" = none) (hg2 : Gl X "set") (hm2 : X.mg "set" = none) (ha : PE X a ta)
    (na : starEach [a] X.env = (false, eval a X.env) :: starEach [] X.env := by rfl) : PE X (.Call (.Name "len" p) [.Call (.Name "set" p2) [a] [] q] [] pos) (tLenSetT X.K ta) := by
  refine ⟨fun pins s σ H Q I h => Call_ (ld_blt I hg hm PySem.boot_len (callWith_builtin1 (args_cons (Call_ (ld_blt I hg2 hm2 boot_set (callWith_type1 (args_cons ?_ na) na rfl))) rfl) rfl rfl))⟩
  refine thn (ha.run pins s σ H _ I h) ?_
  rintro v s1 ⟨x, H1, J, r, l, ns, rfl, hq, hn, k⟩
  cases r
  refine args_nil ?_
  obtain ⟨its, rv, pt, hz⟩ := J.tuple hq
  have hi : IntsAre its.toArray.toList ns := ints_of_vals rv
  refine call_set_tupI ns (J.ok.hd hc) pt hi (by unfold scanBound; omega) ?_
  rintro h' tk c ⟨o, es, ep, t, ho, ex, hd, _, nd, mem, hb, hf, hs, _, _⟩ hcn kp
  refine args_nil ?_
  have e := k (es.toList.map keyOf) nd fun j => by rw [← mem j, decide_eq_true_eq]
  rw [List.length_map, Array.length_toList] at e
  exact call_len_set ho ex hd hf (by rw [hs]; omega) ⟨.int es.size, H1, (J.kept kp).tok _, ⟨_, rfl⟩, e⟩
end
/-! t[::-1], t a tuple -/
section
variable {prog : Program} {w : World} {A : Around} {E : Value → Shared → Prop} {s : Shared}
theorem fm_congr {α β : Type} {f g : α → Option β} : ∀ {l : List α}, (∀ x ∈ l, f x = g x) → l.filterMap f = l.filterMap g
  | [], _ => rfl
  | x :: l, h => by rw [List.filterMap_cons, List.filterMap_cons, h x (List.mem_cons_self ..), fm_congr fun y hy => h y (List.mem_cons_of_mem _ hy)]
theorem rev_pick (xs : Array Value) : ((List.range xs.size).filterMap fun (m : Nat) => xs[((xs.size : Int) - 1 + (m : Int) * (-1)).toNat]?).toArray = xs.toList.reverse.toArray := by
  rw [← PySem.W.krv_pick xs]
  unfold slicePick
  rw [PySem.W.krv_bounds]
  show _ = ((sliceRange ((xs.size : Int) - 1) (-1) (-1)).filterMap (xs[·]?)).toArray
  rw [PySem.W.krv_sliceRange, List.filterMap_map]
  refine congrArg List.toArray (fm_congr fun k hk => ?_)
  have := List.mem_range.mp hk
  show xs[((xs.size : Int) - 1 + (k : Int) * (-1)).toNat]? = xs[xs.size - 1 - k]?
  rw [show ((xs.size : Int) - 1 + (k : Int) * (-1)).toNat = xs.size - 1 - k by omega]
theorem applied_rev {sl : Addr} {vl vu vs : Value} {n : Nat} {Q : Int × Int × Nat → Shared → Prop} (hs : s.heap.IsSliceOf sl vl vu vs) (pl : IsPart vl none) (pu : IsPart vu none) (ps : IsPart vs (some (-1)))
    (h : Q ((n : Int) - 1, -1, n) s) : wpAny (model prog w) A (Builtin.Slice.sliceApplied (.ref sl) (pure (n : Int))) Q E s := by
  obtain ⟨os, hos, _, hds⟩ := hs
  unfold Builtin.Slice.sliceApplied Builtin.Slice.sliceFields
  refine wpAny_bind (wpAny_bind (wpAny_field hos hds (x := vl) rfl (wpAny_bind (wpAny_field hos hds (x := vu) rfl (wpAny_bind (wpAny_field hos hds (x := vs) rfl (wpAny_pure ?_)))))))
  refine wpAny_bind (HT.slicePart_ ps ?_)
  show wpAny _ _ (if ((-1 : Int) == 0) = true then _ else _) _ _ s
  rw [if_neg (by decide)]
  refine wpAny_bind (HT.slicePart_ pl (wpAny_bind (HT.slicePart_ pu (wpAny_bind (wpAny_pure ?_)))))
  have e1 : Builtin.Slice.sliceAdjust none none (-1) (n : Int) = ((n : Int) - 1, -1) := by
    unfold Builtin.Slice.sliceAdjust
    simp
  have e2 : Builtin.Slice.slicePlaces ((n : Int) - 1) (-1) (-1) = n := by
    unfold Builtin.Slice.slicePlaces
    simp
    try omega
  show wpAny _ _ (match Builtin.Slice.sliceAdjust none none (-1) (n : Int) with | (lo, hi) => pure (lo, (-1 : Int), Builtin.Slice.slicePlaces lo hi (-1))) _ _ s
  rw [e1]
  show wpAny _ _ (pure ((n : Int) - 1, (-1 : Int), Builtin.Slice.slicePlaces ((n : Int) - 1) (-1) (-1))) _ _ s
  rw [e2]
  exact wpAny_pure h
theorem item_rev {t sl : Addr} {items : Array Value} {vl vu vs : Value} {Q : Value → Shared → Prop} (ht : IsTup s.heap t items) (hs : s.heap.IsSliceOf sl vl vu vs) (pl : IsPart vl none) (pu : IsPart vu none) (ps : IsPart vs (some (-1)))
    (h : Q (.ref s.heap.objs.size) { s with heap := s.heap.push { cls := .type "tuple", data := .seq items.toList.reverse.toArray } }) (hz : items.size ≤ sizeLine) : wpAny (model prog w) A (getItem (.ref t) (.ref sl)) Q E s := by
  have tS : s.TypeIs (.ref sl) "slice" := by
    obtain ⟨os, hos, hcs, _⟩ := hs
    exact ⟨os, hos, hcs⟩
  have fit : sizeOk (.seq items.toList.reverse.toArray) := by
    show items.toList.reverse.toArray.size ≤ sizeLine
    rw [List.size_toArray, List.length_reverse, Array.length_toList]
    exact hz
  unfold getItem
  try with_reducible refine wpAny_holding ?_
  first | refine wpAny_bind (wpAny_pure ?_) | skip
  refine wpAny_bind (wpAny_sequenceKey ht.typeIs (by decide) (wpAny_bind (wpAny_callSpecial?_slot (name := Str.ofString "__getitem__") ht.typeIs slot_tuple_getitem ?_)))
  refine wpAny_call_entry slot_tuple_getitem ht.typeIs entry_tuple_getitem ?_ (args_tuple_getitem _ _)
  show wpAny _ _ (Builtin.Tuple.tupleItemsOf (.ref t) >>= _) _ _ s
  refine wpAny_bind (tupleItemsOf_ ht (wpAny_bind (wpAny_typeOf tS ?_)))
  rw [if_pos (by decide)]
  refine wpAny_bind (applied_rev hs pl pu ps ?_)
  have no : ¬ ((((items.size : Int) - 1) == 0 && (-1 : Int) == 1 && items.size == items.size) = true) := fun q => by
    rw [Bool.and_eq_true, Bool.and_eq_true] at q
    exact absurd q.1.2 (by decide)
  show wpAny _ _ (if (((items.size : Int) - 1) == 0 && (-1 : Int) == 1 && items.size == items.size) = true then _ else _) _ _ s
  rw [if_neg no, rev_pick]
  first
    | exact wpAny_bind (m := Builtin.Tuple.tupleExact _) (wpAny_newObj_type (wpAny_pure ⟨_, rfl, wpAny_pure h⟩) fit)
    | exact wpAny_bind (wpAny_bind (m := Builtin.Tuple.tupleExact _) (wpAny_newObj_type (wpAny_pure ⟨_, rfl, wpAny_pure h⟩) fit))
end
section
variable {X : Cx}
def tRevW (K : PySem.W.Frag) (te : TE) : TE := fun σ H Q => te σ H fun x H1 => ∃ (a : Addr) (xs : List V), x = .ref a ∧
  ((SqL K H1 a xs ∧ ∀ p H', Same H1 H' → H1 p = none → H' p = some (.lst xs.reverse) → Q (.ref p) H') ∨ (SqT K H1 a xs ∧ ∀ p H', Same H1 H' → H1 p = none → TP H' p xs.reverse → Q (.ref p) H'))
theorem pe_revW {e : Expr} {te : TE} {k : Nat} {p1 p2 p3 pos : Pos} (he : PE X e te) : PE X (.Subscript e (.Slice none none (some (.UnaryOp .USub (.Constant (.int 1) k p1) p2)) p3) pos) (tRevW X.K te) := by
  refine ⟨fun pins s σ H Q I h => Subscript_ (thn (he.run pins s σ H _ I h) ?_)⟩
  rintro v s1 ⟨x, H1, I1, r1, a, xs, rfl, q⟩
  cases r1
  have none_ : ∀ {s' : Shared} {G : Hp} (J : Inv X pins σ G s'), wpAny (model X.prog X.w) X.A (evalPart none X.env) (fun v s2 => IsPart v none ∧ Inv X pins σ G s2) X.xe s' := fun {s' G} J =>
    thn (po_none.run pins s' σ G (fun o H2 => o = none ∧ H2 = G) J ⟨rfl, rfl⟩) fun v s2 ⟨l, H2, J2, pl, el, e2⟩ => by
      subst el e2
      exact ⟨pl, J2⟩
  have st : PO X (some (.UnaryOp .USub (.Constant (.int 1) k p1) p2)) (tPart (tUn (rU fun i => .int (-i)) (tC (.int 1)))) := po_some (pe_un un_neg pe_int)
  refine wpAny_Slice (thn (none_ I1) ?_)
  rintro vl s2 ⟨pl, I2⟩
  refine thn (none_ I2) ?_
  rintro vu s3 ⟨pu, I3⟩
  refine thn (st.run pins s3 σ H1 (fun o H4 => o = some (-1) ∧ H4 = H1) I3 ⟨1, rfl, -1, rfl, rfl, rfl⟩) ?_
  rintro vs s4 ⟨o, H4, I4, ps, rfl, rfl⟩
  have I5 : Inv X pins σ H4 { s4 with heap := s4.heap.push { cls := .type "slice", data := .fields #[vl, vu, vs] } } := I4.kept (t' := s4.toks) fun b ob z => Heap.get?_push_of_some _ z
  rcases q with ⟨hx, q⟩ | ⟨hx, q⟩
  · obtain ⟨its, r, ht, hz⟩ := I5.list hx
    refine tail_any (ops := [.ref a, .ref s4.heap.objs.size]) ht.isList.typeIs PySem.slot_list_getitem.lookup ?_ (by with_unfolding_all rfl)
    refine wpAny_getItem_list_slice ht.isList (Heap.IsSliceOf.new _ vl vu vs) pl pu ps (by decide) ?_ (by rw [List.size_toArray, ← r.length]; exact hz)
    rw [PySem.W.krv_pick]
    have fr := I5.hok.fresh (Nat.le_refl _)
    exact ⟨.ref _, _, I5.laid (t' := s4.toks) (o := .lst xs.reverse) (fun b ob z => Heap.get?_push_of_some _ z) (Nat.le_refl _) ⟨by rw [List.length_reverse]; exact hz, _, 0, r.reverse, Heap.get?_push_size _ rfl⟩, rfl, q _ _ (same_new fr _) fr upd_same⟩
  · obtain ⟨its, r, ht, hz⟩ := I5.tuple hx
    refine tail_any (ops := [.ref a, .ref s4.heap.objs.size]) ht.typeIs slot_tuple_getitem.lookup ?_ (by with_unfolding_all rfl)
    refine item_rev ht (Heap.IsSliceOf.new _ vl vu vs) pl pu ps ?_ (by rw [List.size_toArray, ← r.length]; exact hz)
    have fr := I5.hok.fresh (Nat.le_refl _)
    exact ⟨.ref _, _, bo_laid I5 r.reverse (by rw [List.length_reverse]; exact hz), rfl, q _ _ (same_new fr _) fr (TP.new rfl)⟩
end
end Ov
set_option Elab.async false
set_option linter.all false
set_option maxRecDepth 100000
set_option maxHeartbeats 4000000
namespace Ov
open PySem L2 PySem.Spec PyProof.Rows
/-! enumerate(v), enumerate(v, start=k), v a list or a tuple that stays as it is -/
def YPairB (xs ys : Nat → Option V) : Nat → Hp → V → Hp → Prop := fun i H v H' => ∃ (T : Addr) (x y : V) (o : Obj), v = .ref T ∧ H T = none ∧ o.dict = none ∧ H' = upd H T (.frz o (.tup [x, y])) ∧ xs i = some x ∧ ys i = some y
section
variable {X : Cx} {pins : List (Addr × Obj)} {σ : L2.St} {elts : List Expr} {kk : Nat} {tpos : Pos} {R : It → Hp → Prop} {s : Shared} {H : Hp} {a : Addr} {k : Int} {xs : List V} {h' : Heap}
theorem fp2 (I : L2.Inv X pins σ H s) : ∀ b ∈ [s.heap.objs.size + 1, s.heap.objs.size], FpOk X pins H b := fun b hb => by
  have le : s.heap.objs.size ≤ b := by
    rcases List.mem_cons.mp hb with z | z
    · rw [z]; exact Nat.le_succ _
    · rw [List.mem_singleton.mp z]; exact Nat.le_refl _
  exact I.fpOk le (I.hok.fresh le)
end
end Ov
set_option Elab.async false
set_option linter.all false
set_option maxRecDepth 100000
set_option maxHeartbeats 4000000
set_option Elab.async false
set_option linter.all false
set_option maxRecDepth 100000
set_option maxHeartbeats 4000000
namespace Ov
open PySem L2
/-! data: their types, numbers, rows -/
def tyD : PyData → String
  | .none => "NoneType"
  | .bool _ => "bool"
  | .int _ => "int"
  | .str _ => "str"
  | .list _ => "list"
  | .tuple _ => "tuple"
  | .dict _ => "dict"
mutual
theorem Dp.same {K : PySem.W.Frag} {H H' : Hp} (s : Same H H') : ∀ {v : V} (d : PyData), Dp K H v d → Dp K H' v d
  | _, .none, h => by cases h; exact .non
  | _, .bool b, h => by cases h; exact .bl b
  | _, .int i, h => by cases h; exact .int i
  | _, .str x, h => by cases h; exact .str x
  | _, .list ds, h => by cases h with | lst q t => exact .lst (s.seq q) (DpAll.same s ds t)
  | _, .tuple ds, h => by cases h with | tup q t => exact .tup (seqT s q) (DpAll.same s ds t)
  | _, .dict _, h => by cases h
theorem DpAll.same {K : PySem.W.Frag} {H H' : Hp} (s : Same H H') : ∀ {xs : List V} (ds : List PyData), DpAll K H xs ds → DpAll K H' xs ds
  | _, [], h => by cases h; exact .nil
  | _, d :: ds, h => by cases h with | cons q t => exact .cons (Dp.same s d q) (DpAll.same s ds t)
end
end Ov
set_option Elab.async false
set_option linter.all false
set_option maxRecDepth 100000
set_option maxHeartbeats 4000000
namespace Ov
open PySem L2 PySem.Spec PyProof.Rows
/-! sorted(v), v a list or a tuple of numbers -/
section
variable {prog : Program} {w : World} {A : Around} {E : Value → Shared → Prop} {s : Shared}
theorem collect_tup {l : Addr} {vs : List Value} {Q : List Value → Shared → Prop} (hl : s.heap.IsTuple l vs.toArray)
    (h : Q vs { s with heap := (s.heap.push (seqObj "list" #[] 0)).update s.heap.objs.size (Obj.mapSeq (· ++ vs.toArray)) }) (hz : vs.length ≤ sizeLine) : wpAny (model prog w) A (collect (.ref l)) Q E s := by
  obtain ⟨o, ho, hc, n, hd⟩ := hl
  have new : (s.heap.push (seqObj "list" #[] 0)).get? s.heap.objs.size = some (seqObj "list" #[] 0) := Heap.get?_push_size _ rfl
  unfold collect
  refine wpAny_bind (wpAny_runValue (codeAny_builtin entry_proto_collect' ?_))
  show wpAny _ _ (do again (.builtin "list.__iadd__" ⟨[← newList [], .ref l], []⟩)) _ _ s
  refine wpAny_bind (wpAny_newList (wpAny_pure ⟨Code.quiet_builtin _ (by decide +kernel), codeAny_builtin entry_list_iadd' ?_⟩))
  have up := Heap.get?_push_of_some (seqObj "list" #[] 0) ho
  have fit : ((#[] : Array Value) ++ vs.toArray).size ≤ sizeLine + 1 := by
    rw [Array.size_append, List.size_toArray]
    show 0 + vs.length ≤ sizeLine + 1
    omega
  have yes : (Value.type "tuple" == Value.type "tuple") = true := rfl
  show wpAny _ _ (Builtin.List.listExtendWith (.ref s.heap.objs.size) (.ref l) (.ref s.heap.objs.size)) _ _ { s with heap := s.heap.push (seqObj "list" #[] 0) }
  unfold Builtin.List.listExtendWith
  refine wpAny_bind (wpAny_typeOf (T := "tuple") ⟨o, up, hc⟩ ?_)
  rw [if_pos (by rw [yes, Bool.or_true])]
  refine wpAny_bind (listItems_at up hd (wpAny_bind (listItems_at (xs := #[]) (n := 0) new rfl ?_)))
  rw [if_neg (by simp)]
  refine wpAny_bind (listUpdate_at (xs := #[]) (n := 0) new rfl (wpAny_pure ?_) (Nat.zero_le _) fit)
  show wpAny (model prog w) A (load s.heap.objs.size >>= _) Q E _
  refine wpAny_bind (wpAny_load (get?_update_seq new _) ?_)
  show wpAny _ _ (pure ((#[] : Array Value) ++ vs.toArray).toList) Q E _
  rw [show ((#[] : Array Value) ++ vs.toArray).toList = vs by simp]
  exact wpAny_pure h
theorem sorted_tup {l : Addr} {vs : List Value} {ns : List Int} {Q : Value → Shared → Prop} (hl : s.heap.IsTuple l vs.toArray) (hi : IntsAre vs ns) (hz : vs.length ≤ sizeLine)
    (h : ∀ out : List Value, SrtO.Srtd SrtO.ltIv out → SrtO.Stb SrtO.ltIv out vs → Q (.ref (s.heap.objs.size + 1)) { s with heap := sortedAll s.heap vs out.toArray }) :
    wpAny (model prog w) A (call (.builtin "sorted") [.ref l]) Q E s := by
  refine Calls.call_function_entry kind_sorted plain_sorted entry_sorted (args_sorted1 _) ?_
  unfold Builtin.«sorted»
  refine wpAny_bind (m := checkCount "sorted" 1 1 _) (wpAny_pure (wpAny_bind (collect_tup hl (wpAny_bind (wpAny_newList ?_ hz)) hz)))
  have sz : ((s.heap.push (seqObj "list" #[] 0)).update s.heap.objs.size (Obj.mapSeq (· ++ vs.toArray))).objs.size = s.heap.objs.size + 1 := by rw [Heap.size_update, size_push']
  have new : (((s.heap.push (seqObj "list" #[] 0)).update s.heap.objs.size (Obj.mapSeq (· ++ vs.toArray))).push (seqObj "list" vs.toArray 0)).get? (s.heap.objs.size + 1) = some (seqObj "list" vs.toArray 0) := by
    rw [← sz]
    exact Heap.get?_push_size _ rfl
  show wpAny _ _ _ _ _ { s with heap := ((s.heap.push (seqObj "list" #[] 0)).update s.heap.objs.size (Obj.mapSeq (· ++ vs.toArray))).push (seqObj "list" vs.toArray 0) }
  rw [sz]
  refine wpAny_bind (wpAny_holding (wpAny_call_entry slot_list_sort ⟨_, new, rfl⟩ entry_list_sort ?_ (args_list_sort _)))
  exact SrtO.list_sort_ord SrtO.swo_int new hz (fun h2 => SrtO.ints_sortable hi h2) fun out hs hb => ⟨_, rfl, wpAny_pure ⟨_, rfl, h out hs hb⟩⟩
end
section
variable {X : Cx}
def rSrtW (K : PySem.W.Frag) : List V → Hp → VK → Prop := fun vs H Q => ∃ (a : Addr) (ns : List Int), vs = [V.ref a] ∧ Sq K H a (ns.map V.int) ∧ ∀ (ns' : List Int) (p : Addr) (H' : Hp), ns'.Perm ns → ns'.Pairwise (· ≤ ·) → H p = none → Same H H' → H' p = some (.lst (ns'.map V.int)) → Q (.ref p) H'
theorem cr_sortedW : CallR X (.builtin "sorted") (rSrtW X.K) := by
  intro pins s σ H vs us Q I r h
  obtain ⟨a, ns, rfl, hs | hs, q⟩ := h
  · exact cr_sortedI pins s σ H _ us Q I r ⟨a, ns, rfl, hs, fun ns' p k1 k2 hp => q ns' p _ k1 k2 hp (same_new hp _) upd_same⟩
  · obtain ⟨its, rv, hl, hz⟩ := I.tuple hs
    rw [Vals.ref1 r]
    have hi := rv.ints
    refine sorted_tup hl hi (by rw [← rv.length]; exact hz) ?_
    intro out h1 h2
    obtain ⟨k1, k2, k3⟩ := SrtO.ints_out hi h1 h2
    obtain ⟨ep, he⟩ := sortedAll_at s.heap its out.toArray
    have fr : H (s.heap.objs.size + 1) = none := I.hok.fresh (Nat.le_succ _)
    have len : ((out.map SrtO.iv).map V.int).length ≤ sizeLine := by
      rw [List.length_map, k2.length_eq]
      rw [List.length_map] at hz
      exact hz
    exact ⟨.ref _, _, I.laid (t' := s.toks) (o := .lst ((out.map SrtO.iv).map V.int)) (fun _ _ => sortedAll_old) (Nat.le_succ _) ⟨len, out, ep, vals_of_ints k1, he⟩, rfl, q _ _ _ k2 k3 fr (same_new fr _) upd_same⟩
end
end Ov
set_option Elab.async false
set_option linter.all false
set_option maxRecDepth 100000
set_option maxHeartbeats 4000000
set_option Elab.async false
set_option linter.all false
set_option maxRecDepth 100000
set_option maxHeartbeats 4000000
namespace Ov
open PySem L2
/-! a heap without the box, and without what else is set aside -/
open Classical in
noncomputable def off (S : Addr → Prop) (H : Hp) : Hp := fun b => if S b then none else H b
theorem off_ne {S : Addr → Prop} {b : Addr} {H : Hp} (h : ¬ S b) : off S H b = H b := if_neg h
theorem off_at {S : Addr → Prop} {H : Hp} {b : Addr} {o : HO} (h : off S H b = some o) : ¬ S b ∧ H b = some o := by
  unfold off at h
  split at h
  · cases h
  · exact ⟨by assumption, h⟩
theorem off_sub (S : Addr → Prop) (H : Hp) : Same (off S H) H := fun b o h => (off_at h).2
/-! data of a bounded form -/
def leaf (m : Nat) : PyData → Prop
  | .none => True
  | .bool _ => True
  | .int i => -(10 ^ 30 + (m : Int)) ≤ i ∧ i ≤ 10 ^ 30 + (m : Int)
  | .str x => (reprText x).length ≤ 1100
  | _ => False
def Bd (m : Nat) : Nat → PyData → Prop
  | 0, d => leaf m d
  | n + 1, d => leaf m d ∨ ∃ ds : List PyData, (d = .list ds ∨ d = .tuple ds) ∧ ds.length ≤ 16 + m ∧ ∀ e ∈ ds, Bd m n e
theorem leaf.mono {m k : Nat} (h : m ≤ k) : ∀ {d : PyData}, leaf m d → leaf k d
  | .none, _ => trivial
  | .bool _, _ => trivial
  | .int i, z => by
    obtain ⟨a, b⟩ := z
    exact ⟨by omega, by omega⟩
  | .str _, z => z
theorem Bd.mono {m k : Nat} (h : m ≤ k) : ∀ {n j : Nat} {d : PyData}, n ≤ j → Bd m n d → Bd k j d
  | 0, 0, _, _, z => leaf.mono h z
  | 0, j + 1, _, _, z => .inl (leaf.mono h z)
  | n + 1, j + 1, d, le, z => by
    rcases z with z | ⟨ds, e, l, a⟩
    · exact .inl (leaf.mono h z)
    · exact .inr ⟨ds, e, by omega, fun x hx => Bd.mono h (by omega) (a x hx)⟩
def Ln : Nat → Nat
  | 0 => 2000
  | n + 1 => 18 * (Ln n + 2) + 3
def Fits (n : Nat) (d : PyData) : Prop := d.hasDict = false ∧ d.depth ≤ n + 1 ∧ d.showable = true ∧ d.shown.length ≤ Ln n
theorem log_small {i : Int} (h : -(10 ^ 30 + 2) ≤ i ∧ i ≤ 10 ^ 30 + 2) : i.natAbs.log2 < 1920 := by
  by_cases z : i.natAbs = 0
  · rw [z]
    decide
  · have lt : i.natAbs < 2 ^ 100 := by omega
    exact Nat.lt_trans ((Nat.log2_lt z).mpr lt) (by decide)
theorem leaf_fits {m : Nat} (hm : m ≤ 2) : ∀ {d : PyData}, leaf m d → Fits 0 d
  | .none, _ => ⟨rfl, by decide, rfl, by decide⟩
  | .bool b, _ => ⟨rfl, by show _ ≤ 1; simp [PyData.depth], rfl, by cases b <;> decide⟩
  | .int i, z => by
    have l := log_small (i := i) (by obtain ⟨a, b⟩ := z; exact ⟨by omega, by omega⟩)
    refine ⟨rfl, by simp [PyData.depth], decide_eq_true l, ?_⟩
    have := PyProof.Rows.int_text_len_1921 l
    show (Str.ofString (toString i)).length ≤ 2000
    omega
  | .str x, z => ⟨rfl, by simp [PyData.depth], rfl, by
    have : (reprText x).length ≤ 1100 := z
    show (reprText x).length ≤ 2000
    omega⟩
theorem Bd.size {n : Nat} (h : n ≤ 3) {d : PyData} (f : Fits n d) : d.shown.length ≤ sizeLine := by
  have : ∀ k, k ≤ 3 → Ln k ≤ 2 ^ 24 := fun k hk => by
    match k, hk with
    | 0, _ => decide
    | 1, _ => decide
    | 2, _ => decide
    | 3, _ => decide
  exact Nat.le_trans f.2.2.2 (this n h)
end Ov
set_option Elab.async false
set_option linter.all false
set_option maxRecDepth 100000
set_option maxHeartbeats 4000000
namespace Ov
open PySem L2
/-! data that are sequences, or not; one item less, more, another -/
section
variable {m n : Nat} {ds : List PyData}
/-- a sequence of such data, wider by one at most -/
theorem Bd.seq (l : ds.length ≤ 16 + (m + 1)) (a : ∀ e ∈ ds, Bd (m + 1) n e) : Bd (m + 1) (n + 1) (.list ds) ∧ Bd (m + 1) (n + 1) (.tuple ds) := ⟨.inr ⟨ds, .inl rfl, l, a⟩, .inr ⟨ds, .inr rfl, l, a⟩⟩
end
end Ov
set_option Elab.async false
set_option linter.all false
set_option maxRecDepth 100000
set_option maxHeartbeats 4000000
namespace Ov
open PySem PySem.Spec PyProof.Rows L2
/-! an error without fields: raised, caught, asked for its class -/
section
variable {X : Cx}
/-! caught, with a field or without -/
def Cau0 (K : PySem.W.Frag) (H : Hp) (a C : Addr) : Prop := ∃ k : Nat, Cl K C k ∧ H a = some (exg a C none)
def CauF (K : PySem.W.Frag) (H : Hp) (a C : Addr) (f : Str) (u : V) : Prop := (f ≠ "" ∧ Cau K H a C [(f, u)]) ∨ (f = "" ∧ Cau0 K H a C)
def CauX (K : PySem.W.Frag) (H : Hp) (a C : Addr) : Prop := (∃ fs, Cau K H a C fs) ∨ Cau0 K H a C
theorem CauF.same {K : PySem.W.Frag} {H H' : Hp} {a C : Addr} {f : Str} {u : V} (h : CauF K H a C f u) (s : Same H H') : CauF K H' a C f u := by
  rcases h with ⟨n, h⟩ | ⟨n, k, x, h⟩
  · exact .inl ⟨n, h.same s⟩
  · exact .inr ⟨n, k, x, s _ _ h⟩
theorem CauF.x {K : PySem.W.Frag} {H : Hp} {a C : Addr} {f : Str} {u : V} (h : CauF K H a C f u) : CauX K H a C := by
  rcases h with ⟨n, h⟩ | ⟨n, h⟩
  · exact .inl ⟨_, h⟩
  · exact .inr h
theorem CauX.same {K : PySem.W.Frag} {H H' : Hp} {a C : Addr} (h : CauX K H a C) (s : Same H H') : CauX K H' a C := by
  rcases h with ⟨fs, h⟩ | ⟨k, x, h⟩
  · exact .inl ⟨fs, h.same s⟩
  · exact .inr ⟨k, x, s _ _ h⟩
end
end Ov
set_option Elab.async false
set_option linter.all false
set_option maxRecDepth 100000
set_option maxHeartbeats 2000000
namespace L2
open PySem PySem.Spec PyProof.Rows
/-! dicts whose keys are tuples of numbers and such tuples, their values numbers -/
/-- the object at p is o -/
def objO (p : Addr) (o : Obj) : HO := .ext fun h => h.get? p = some o
mutual
inductive Nk (H : Hp) : V → NestedKey → Prop
  | int (i : Int) : Nk H (.int i) (.num i)
  | tup {a : Addr} {xs : List V} {ks : List NestedKey} : Ov.TP H a xs → NkAll H xs ks → Nk H (.ref a) (.tup ks)
inductive NkAll (H : Hp) : List V → List NestedKey → Prop
  | nil : NkAll H [] []
  | cons {v : V} {k : NestedKey} {vs : List V} {ks : List NestedKey} : Nk H v k → NkAll H vs ks → NkAll H (v :: vs) (k :: ks)
end
section
variable {P : Program} {w : World} {H H' : Hp} {h : Heap}
mutual
theorem Nk.keep (s : ∀ b xs, Ov.TP H b xs → Ov.TP H' b xs) : ∀ (k : NestedKey) {v : V}, Nk H v k → Nk H' v k
  | .num i, _, h => by cases h; exact .int i
  | .tup ks, _, h => by cases h with | tup e t => exact .tup (s _ _ e) (NkAll.keep s ks t)
  | .none, _, h => by cases h
  | .text _, _, h => by cases h
theorem NkAll.keep (s : ∀ b xs, Ov.TP H b xs → Ov.TP H' b xs) : ∀ (ks : List NestedKey) {vs : List V}, NkAll H vs ks → NkAll H' vs ks
  | [], _, h => by cases h; exact .nil
  | k :: ks, _, h => by cases h with | cons a t => exact .cons (Nk.keep s k a) (NkAll.keep s ks t)
end
mutual
theorem Nk.hash : ∀ (k : NestedKey) {v : V}, Nk H v k → ∀ w w' : World, k.hash w = k.hash w'
  | .num i, _, _, _, _ => rfl
  | .tup ks, _, x, w, w' => by
    cases x with
    | tup e t =>
      show reduceHash (Builtin.Tuple.tupleHashOf (NestedKey.hashes w ks)) = reduceHash (Builtin.Tuple.tupleHashOf (NestedKey.hashes w' ks))
      rw [NkAll.hash ks t w w']
  | .none, _, x, _, _ => by cases x
  | .text _, _, x, _, _ => by cases x
theorem NkAll.hash : ∀ (ks : List NestedKey) {vs : List V}, NkAll H vs ks → ∀ w w' : World, NestedKey.hashes w ks = NestedKey.hashes w' ks
  | [], _, _, _, _ => rfl
  | k :: ks, _, x, w, w' => by
    cases x with
    | cons a t =>
      show NestedKey.hash w k :: NestedKey.hashes w ks = NestedKey.hash w' k :: NestedKey.hashes w' ks
      rw [Nk.hash k a w w', NkAll.hash ks t w w']
end
end
abbrev NE := NestedKey × Addr × Value
/-- the entries and what they stand for -/
def NX (H : Hp) : List NE → List (NestedKey × Int) → Prop
  | [], [] => True
  | x :: xs, kv :: kvs => (x.1 = kv.1 ∧ kv.1.depth ≤ 8 ∧ Nk H (.ref x.2.1) kv.1 ∧ ∃ t, x.2.2 = Value.int kv.2 t) ∧ NX H xs kvs
  | _, _ => False
theorem NX.keep {H H' : Hp} (s : ∀ b xs, Ov.TP H b xs → Ov.TP H' b xs) : ∀ {xs : List NE} {kvs : List (NestedKey × Int)}, NX H xs kvs → NX H' xs kvs
  | [], [], _ => trivial
  | _ :: _, kv :: _, ⟨⟨e, d, n, t⟩, r⟩ => ⟨⟨e, d, Nk.keep s kv.1 n, t⟩, NX.keep s r⟩
  | [], _ :: _, h => h.elim
  | _ :: _, [], h => h.elim
theorem NX.keys {H : Hp} : ∀ {xs : List NE} {kvs : List (NestedKey × Int)}, NX H xs kvs → xs.map (·.1) = kvs.map (·.1)
  | [], [], _ => rfl
  | _ :: _, kv :: _, ⟨⟨e, _⟩, r⟩ => by rw [List.map_cons, List.map_cons, e, NX.keys r]
  | [], _ :: _, h => h.elim
  | _ :: _, [], h => h.elim
theorem NX.len {H : Hp} {xs : List NE} {kvs : List (NestedKey × Int)} (h : NX H xs kvs) : xs.length = kvs.length := by
  have := congrArg List.length h.keys
  rwa [List.length_map, List.length_map] at this
theorem NX.app {H : Hp} : ∀ {xs ys : List NE} {kvs jvs : List (NestedKey × Int)}, NX H xs kvs → NX H ys jvs → NX H (xs ++ ys) (kvs ++ jvs)
  | [], _, [], _, _, h => h
  | _ :: _, _, _ :: _, _, ⟨a, r⟩, h => ⟨a, NX.app r h⟩
  | [], _, _ :: _, _, h, _ => h.elim
  | _ :: _, _, [], _, h, _ => h.elim
theorem NX.get {H : Hp} : ∀ {xs : List NE} {kvs : List (NestedKey × Int)} {i : Nat} {kv : NestedKey × Int}, NX H xs kvs → kvs[i]? = some kv → ∃ b t, xs[i]? = some (kv.1, b, Value.int kv.2 t) ∧ Nk H (.ref b) kv.1
  | (k, b, v) :: _, (k', v') :: _, 0, kv, ⟨⟨e1, e2, e3, t, e4⟩, _⟩, h => by
    cases h
    cases (show k = k' from e1)
    cases (show v = Value.int v' t from e4)
    exact ⟨b, t, rfl, e3⟩
  | _ :: _, _ :: _, i + 1, kv, ⟨_, r⟩, h => NX.get (i := i) r (by simpa using h)
  | [], [], _, _, _, h => by simp at h
  | [], _ :: _, _, _, h, _ => h.elim
  | _ :: _, [], _, _, h, _ => h.elim
/-- what the object o says of the entries -/
def NOb (p : Addr) (o : Obj) (xs : List NE) : Prop := (p == sysModules) = false ∧ o.ExactDict ∧ ∃ es ep, o.data = .dict es ep ∧ ∀ w : World, es.toList = xs.map fun x => (⟨x.1.hash w, .ref x.2.1, x.2.2⟩ : DictEntry)
theorem NX.all {H : Hp} : ∀ {xs : List NE} {kvs : List (NestedKey × Int)}, NX H xs kvs → ∀ x ∈ xs, x.1.depth ≤ 8 ∧ Nk H (.ref x.2.1) x.1
  | [], [], _, x, hx => by cases hx
  | y :: _, kv :: _, ⟨⟨e, d, n, _⟩, r⟩, x, hx => by
    rcases List.mem_cons.mp hx with rfl | hx
    · rw [e]; exact ⟨d, n⟩
    · exact NX.all r x hx
  | [], _ :: _, h, _, _ => h.elim
  | _ :: _, [], h, _, _ => h.elim
/-! look-up -/
def lookN : List (NestedKey × Int) → NestedKey → Option Int
  | [], _ => none
  | (j, v) :: r, k => if j = k then some v else lookN r k
def putN (kvs : List (NestedKey × Int)) (k : NestedKey) (v : Int) : List (NestedKey × Int) := if (lookN kvs k).isSome = true then kvs.map (fun kv => if kv.1 = k then (kv.1, v) else kv) else kvs ++ [(k, v)]
theorem NX.look {H : Hp} (k : NestedKey) : ∀ {xs : List NE} {kvs : List (NestedKey × Int)}, NX H xs kvs → (lookN kvs k = none ∧ atKey xs k = none) ∨ ∃ v b t, lookN kvs k = some v ∧ atKey xs k = some (b, Value.int v t)
  | [], [], _ => .inl ⟨rfl, rfl⟩
  | (j, b, u) :: xs, (j', v') :: kvs, ⟨⟨e1, _, _, t, e4⟩, r⟩ => by
    cases (show j = j' from e1)
    cases (show u = Value.int v' t from e4)
    by_cases e : j = k
    · exact .inr ⟨v', b, t, if_pos e, by unfold atKey; rw [List.find?_cons_of_pos (by simpa using e)]; rfl⟩
    · have e2 : atKey ((j, b, Value.int v' t) :: xs) k = atKey xs k := by unfold atKey; rw [List.find?_cons_of_neg (by simpa using e)]
      have e3 : lookN ((j, v') :: kvs) k = lookN kvs k := if_neg e
      rw [e2, e3]
      exact NX.look k r
  | [], _ :: _, h => h.elim
  | _ :: _, [], h => h.elim
theorem NX.map {H : Hp} {k : NestedKey} {v : Int} {t : Tok} : ∀ {xs : List NE} {kvs : List (NestedKey × Int)}, NX H xs kvs → NX H (xs.map (putAt k (Value.int v t))) (kvs.map fun kv => if kv.1 = k then (kv.1, v) else kv)
  | [], [], _ => trivial
  | (j, b, u) :: xs, (j', v') :: kvs, ⟨⟨e1, e2, e3, e4⟩, r⟩ => by
    cases (show j = j' from e1)
    refine ⟨?_, NX.map r⟩
    show (putAt k (Value.int v t) (j, b, u)).1 = (if j = k then (j, v) else (j, v')).1 ∧ _
    by_cases e : j = k
    · rw [show putAt k (Value.int v t) (j, b, u) = (j, b, Value.int v t) from if_pos e]
      simp only [if_pos e]
      exact ⟨trivial, e2, e3, t, rfl⟩
    · rw [show putAt k (Value.int v t) (j, b, u) = (j, b, u) from if_neg e]
      simp only [if_neg e]
      exact ⟨trivial, e2, e3, e4⟩
  | [], _ :: _, h => h.elim
  | _ :: _, [], h => h.elim
theorem NX.put {H : Hp} {xs : List NE} {kvs : List (NestedKey × Int)} {k : NestedKey} {b : Addr} {v : Int} {t : Tok} (r : NX H xs kvs) (d : k.depth ≤ 8) (n : Nk H (.ref b) k) : NX H (storedH xs k b (Value.int v t)) (putN kvs k v) := by
  unfold storedH putN
  rcases r.look k with ⟨e1, e2⟩ | ⟨v', b', t', e1, e2⟩
  · rw [e1, e2]
    exact r.app ⟨⟨rfl, d, n, t, rfl⟩, trivial⟩
  · rw [e1, e2]
    exact r.map
end L2
set_option Elab.async false
set_option linter.all false
set_option maxRecDepth 100000
set_option maxHeartbeats 4000000
namespace Ov
open PySem L2
/-! Programs over plain data: what a slot holds is data, or a list that this slot alone owns.
 A reading of the hand layer is held against a plain function over the slots' data. -/
/-! data: as Dp, but no list of the written part -/
/-- a dict of numbers, its values numbers too -/
def kvI (kvs : List (Int × Int)) : List (L2.Key × V) := kvs.map fun kv => (Sum.inl kv.1, V.int kv.2)
/-- a dict of tuples of numbers, its values numbers -/
def kvK (kvs : List (List Int × Int)) : List (List L2.Key × V) := kvs.map fun kv => (kv.1.map Sum.inl, V.int kv.2)
def kvS (ks : List (List Int)) : List (List L2.Key × V) := ks.map fun k => (k.map Sum.inl, V.bl true)
def dkD (kvs : List (List Int × Int)) : PyData := .dict (kvs.map fun kv => (.tuple (kv.1.map .int), .int kv.2))
def dcD (kvs : List (Int × Int)) : PyData := .dict (kvs.map fun kv => (.int kv.1, .int kv.2))
/-- a number, or a tuple of numbers -/
def Fv (K : PySem.W.Frag) (H : Hp) (v : V) (d : PyData) : Prop := (∃ i : Int, v = .int i ∧ d = .int i) ∨ ∃ (p : Addr) (ns : List Int), v = .ref p ∧ TP H p (ns.map V.int) ∧ d = .tuple (ns.map .int)
theorem Fv.same {K : PySem.W.Frag} {H H' : Hp} (s : Same H H') {v : V} {d : PyData} (h : Fv K H v d) : Fv K H' v d := h.imp id fun ⟨p, ns, e1, e2, e3⟩ => ⟨p, ns, e1, e2.same s, e3⟩
def kvV (kvs : List (Int × V × PyData)) : List (L2.Key × V) := kvs.map fun x => (Sum.inl x.1, x.2.1)
mutual
inductive Da (K : PySem.W.Frag) (H : Hp) : V → PyData → Prop
  | non : Da K H .non .none
  | bl (b : Bool) : Da K H (.bl b) (.bool b)
  | int (i : Int) : Da K H (.int i) (.int i)
  | str (x : Str) : Da K H (.str x) (.str x)
  | lst {a : Addr} {xs : List V} {ds : List PyData} : SqL K H a xs → DaAll K H xs ds → Da K H (.ref a) (.list ds)
  | tup {a : Addr} {xs : List V} {ds : List PyData} : TP H a xs → DaAll K H xs ds → Da K H (.ref a) (.tuple ds)
  | dct {a : Addr} {d : List (PyData × PyData)} (kvs : List (Int × V × PyData)) : d = kvs.map (fun x => (.int x.1, x.2.2)) → H a = some (.dK (kvV kvs)) → (∀ x ∈ kvs, Fv K H x.2.1 x.2.2) → Da K H (.ref a) (.dict d)
  | dtk {a : Addr} {d : List (PyData × PyData)} (kvs : List (List Int × Int)) : kvs ≠ [] → d = kvs.map (fun kv => (.tuple (kv.1.map .int), .int kv.2)) → H a = some (.dT (kvK kvs)) → Da K H (.ref a) (.dict d)
inductive DaAll (K : PySem.W.Frag) (H : Hp) : List V → List PyData → Prop
  | nil : DaAll K H [] []
  | cons {v : V} {vs : List V} {d : PyData} {ds : List PyData} : Da K H v d → DaAll K H vs ds → DaAll K H (v :: vs) (d :: ds)
end
section
variable {K : PySem.W.Frag} {H H' : Hp}
theorem Da.dctI {a : Addr} {d : List (PyData × PyData)} (kvs : List (Int × Int)) (e : d = kvs.map (fun kv => (.int kv.1, .int kv.2))) (h : H a = some (.dK (kvI kvs))) : Da K H (.ref a) (.dict d) :=
  .dct (kvs.map fun kv => (kv.1, V.int kv.2, PyData.int kv.2)) (by rw [e, List.map_map]; rfl) (by rw [h]; unfold kvV kvI; rw [List.map_map]; rfl) fun x hx => by
    obtain ⟨kv, _, rfl⟩ := List.mem_map.mp hx
    exact .inl ⟨_, rfl, rfl⟩
theorem rd_same {a : Addr} {xs : List V} (s : Same H H') (h : SqL K H a xs) : SqL K H' a xs := h.imp (fun h => h.imp (fun z => s _ _ z) fun ⟨u, z⟩ => ⟨u, s _ _ z⟩) id
theorem rd_sq {a : Addr} {xs : List V} (h : SqL K H a xs) : SqL K H a xs := h
mutual
theorem Da.same (s : Same H H') : ∀ {v : V} (d : PyData), Da K H v d → Da K H' v d
  | _, .none, h => by cases h; exact .non
  | _, .bool b, h => by cases h; exact .bl b
  | _, .int i, h => by cases h; exact .int i
  | _, .str x, h => by cases h; exact .str x
  | _, .list ds, h => by cases h with | lst q t => exact .lst (rd_same s q) (DaAll.same s ds t)
  | _, .tuple ds, h => by cases h with | tup q t => exact .tup (q.same s) (DaAll.same s ds t)
  | _, .dict _, h => by cases h with
    | dct kvs e q f => exact .dct kvs e (s _ _ q) fun x hx => (f x hx).same s
    | dtk kvs n e q => exact .dtk kvs n e (s _ _ q)
theorem DaAll.same (s : Same H H') : ∀ {xs : List V} (ds : List PyData), DaAll K H xs ds → DaAll K H' xs ds
  | _, [], h => by cases h; exact .nil
  | _, d :: ds, h => by cases h with | cons q t => exact .cons (Da.same s d q) (DaAll.same s ds t)
end
mutual
theorem Da.dp : ∀ {v : V} (d : PyData), d.hasDict = false → Da K H v d → Dp K H v d
  | _, .none, _, h => by cases h; exact .non
  | _, .bool b, _, h => by cases h; exact .bl b
  | _, .int i, _, h => by cases h; exact .int i
  | _, .str x, _, h => by cases h; exact .str x
  | _, .list ds, n, h => by cases h with | lst q t => exact .lst (rd_sq q) (DaAll.dp ds n t)
  | _, .tuple ds, n, h => by cases h with | tup q t => exact .tup q.sq (DaAll.dp ds n t)
  | _, .dict _, n, h => by cases n
theorem DaAll.dp : ∀ {xs : List V} (ds : List PyData), PyData.hasDictAll ds = false → DaAll K H xs ds → DpAll K H xs ds
  | _, [], _, h => by cases h; exact .nil
  | _, d :: ds, n, h => by cases h with | cons q t => exact .cons (Da.dp d (Bool.or_eq_false_iff.mp n).1 q) (DaAll.dp ds (Bool.or_eq_false_iff.mp n).2 t)
end
mutual
theorem lay_nd : ∀ (d : PyData), d.canLay0 = true → d.hasDict = false
  | .none, _ => rfl
  | .bool _, _ => rfl
  | .int _, _ => rfl
  | .str _, _ => rfl
  | .list ds, h => lay_ndAll ds h
  | .tuple ds, h => lay_ndAll ds h
  | .dict _, h => by cases h
theorem lay_ndAll : ∀ (ds : List PyData), PyData.canLayAll0 ds = true → PyData.hasDictAll ds = false
  | [], _ => rfl
  | d :: ds, h => by
    have h' : (PyData.canLay0 d && PyData.canLayAll0 ds) = true := h
    rw [Bool.and_eq_true] at h'
    exact Bool.or_eq_false_iff.mpr ⟨lay_nd d h'.1, lay_ndAll ds h'.2⟩
end
theorem shp_nd {d : PyData} (h : SeqAt.shaped d = true) : d.hasDict = false := by
  have h' : (d.canLay0 && decide (d.depth ≤ 64)) = true := h
  rw [Bool.and_eq_true] at h'
  exact lay_nd d h'.1
theorem daAll_len : ∀ {xs : List V} {ds : List PyData}, DaAll K H xs ds → xs.length = ds.length
  | _, _, .nil => rfl
  | _, _, .cons _ t => congrArg (· + 1) (daAll_len t)
theorem daAll_get : ∀ {xs : List V} {ds : List PyData}, DaAll K H xs ds → ∀ {i : Nat} {d : PyData}, ds[i]? = some d → ∃ x, xs[i]? = some x ∧ Da K H x d
  | _, _, .nil, i, d, h => by simp at h
  | _, _, .cons h t, 0, d, e => by cases e; exact ⟨_, rfl, h⟩
  | _, _, .cons h t, i + 1, d, e => daAll_get t (i := i) e
theorem daAll_append : ∀ {xs ys : List V} {ds es : List PyData}, DaAll K H xs ds → DaAll K H ys es → DaAll K H (xs ++ ys) (ds ++ es)
  | _, _, _, _, .nil, t => t
  | _, _, _, _, .cons h r, t => .cons h (daAll_append r t)
theorem daAll_drop : ∀ {xs : List V} {ds : List PyData}, DaAll K H xs ds → ∀ i : Nat, DaAll K H (xs.drop i) (ds.drop i)
  | _, _, t, 0 => t
  | _, _, .nil, i + 1 => .nil
  | _, _, .cons _ r, i + 1 => daAll_drop r i
theorem daAll_take : ∀ {xs : List V} {ds : List PyData}, DaAll K H xs ds → ∀ i : Nat, DaAll K H (xs.take i) (ds.take i)
  | _, _, _, 0 => by rw [List.take_zero, List.take_zero]; exact .nil
  | _, _, .nil, i + 1 => .nil
  | _, _, .cons h r, i + 1 => .cons h (daAll_take r i)
theorem daAll_erase : ∀ {xs : List V} {ds : List PyData}, DaAll K H xs ds → ∀ i : Nat, DaAll K H (xs.eraseIdx i) (ds.eraseIdx i)
  | _, _, .nil, i => .nil
  | _, _, .cons _ r, 0 => r
  | _, _, .cons h r, i + 1 => .cons h (daAll_erase r i)
theorem daAll_set {v : V} {d : PyData} (z : Da K H v d) : ∀ {xs : List V} {ds : List PyData}, DaAll K H xs ds → ∀ i : Nat, DaAll K H (xs.set i v) (ds.set i d)
  | _, _, .nil, i => .nil
  | _, _, .cons _ r, 0 => .cons z r
  | _, _, .cons h r, i + 1 => .cons h (daAll_set z r i)
theorem daAll_reverse : ∀ {xs : List V} {ds : List PyData}, DaAll K H xs ds → DaAll K H xs.reverse ds.reverse
  | _, _, .nil => .nil
  | _, _, .cons h r => by rw [List.reverse_cons, List.reverse_cons]; exact daAll_append (daAll_reverse r) (.cons h .nil)
end
/-- no tuple, and not locked -/
def NT : HO → Prop
  | .tup _ => False
  | .frz _ _ => False
  | _ => True
theorem off_P {S : Addr → Prop} {a : Addr} {H : Hp} {xs : List V} (hS : ∀ b, S b → ∃ o, H b = some o ∧ NT o) (h : TP H a xs) : TP (off S H) a xs := by
  obtain ⟨o, h, d⟩ := h
  refine ⟨o, (off_ne fun z => ?_).trans h, d⟩
  obtain ⟨ys, e, n⟩ := hS a z
  rw [h] at e
  cases e
  exact n
theorem TP.offn {S : Addr → Prop} {a : Addr} {H : Hp} {xs : List V} (n : ¬ S a) (h : TP H a xs) : TP (off S H) a xs := let ⟨o, e, d⟩ := h; ⟨o, (off_ne n).trans e, d⟩
theorem TP.off {S : Addr → Prop} {a : Addr} {H : Hp} {xs : List V} (h : TP (off S H) a xs) : TP H a xs := let ⟨o, e, d⟩ := h; ⟨o, off_sub S H _ _ e, d⟩
inductive It1 where
  | dat (d : PyData)
  | own (ds : List PyData)
inductive Wv where
  | dat (d : PyData)
  | own (xs : List It1)
  | exc (C : Addr) (f : Str) (d : PyData)
  /-- a dict of numbers, each True -/
  | dct (ks : List Int)
  /-- a dict of numbers, its values numbers too -/
  | dci (kvs : List (Int × Int))
  /-- a dict of tuples of numbers, its values numbers -/
  | dtk (kvs : List (List Int × Int))
  /-- a dict of tuples of numbers, its values True -/
  | dts (ks : List (List Int))
  /-- data that stands at a known value -/
  | pin (u : V) (d : PyData)
  /-- a dict of nested keys, its values numbers: one's own -/
  | dtn (kvs : List (NestedKey × Int))
  /-- the same, read only -/
  | nd (kvs : List (NestedKey × Int))
abbrev En := List (Option Wv)
def un (B : Addr → Prop) (l : List Addr) : Addr → Prop := fun b => B b ∨ b ∈ l
/-- all but what stands at l is kept -/
def Fr (l : List Addr) (H H' : Hp) : Prop := ∀ b o, b ∉ l → H b = some o → H' b = some o
def kvT (ks : List Int) : List (L2.Key × V) := ks.map fun k => (Sum.inl k, V.bl true)
/-- the dict of nested keys at p -/
def NdR (G : Hp) (p : Addr) (kvs : List (NestedKey × Int)) : Prop := ∃ o xs, G p = some (objO p o) ∧ NOb p o xs ∧ NX G xs kvs ∧ (kvs.map (·.1)).Nodup
theorem NdR.same {G G' : Hp} (s : Same G G') {p : Addr} {kvs : List (NestedKey × Int)} (h : NdR G p kvs) : NdR G' p kvs := by
  obtain ⟨o, xs, h1, h2, h3, h4⟩ := h
  exact ⟨o, xs, s _ _ h1, h2, h3.keep fun b xs e => e.same s, h4⟩
section
variable {K : PySem.W.Frag}
def Rp1 (K : PySem.W.Frag) (H G : Hp) (v : V) (x : It1) (l : List Addr) : Prop :=
  match x with
  | .dat d => l = [] ∧ Da K G v d
  | .own ds => ∃ q us, v = .ref q ∧ l = [q] ∧ H q = some (.lst us) ∧ DaAll K G us ds
def Rp1s (K : PySem.W.Frag) (H G : Hp) : List V → List It1 → List Addr → Prop
  | [], [], l => l = []
  | v :: vs, x :: xs, l => ∃ a b, l = a ++ b ∧ Rp1 K H G v x a ∧ Rp1s K H G vs xs b
  | _, _, _ => False
def RpW (K : PySem.W.Frag) (H G : Hp) (v : V) (w : Wv) (l : List Addr) : Prop :=
  match w with
  | .dat d => l = [] ∧ Da K G v d
  | .own xs => ∃ p vs b, v = .ref p ∧ l = p :: b ∧ H p = some (.lst vs) ∧ Rp1s K H G vs xs b
  | .exc C f d => l = [] ∧ ∃ a u, v = .ref a ∧ CauF K G a C f u ∧ (f ≠ "" → Da K G u d)
  | .dct ks => ∃ p, v = .ref p ∧ l = [p] ∧ H p = some (.dK (kvT ks))
  | .dci kvs => ∃ p, v = .ref p ∧ l = [p] ∧ H p = some (.dK (kvI kvs))
  | .dtk kvs => ∃ p, v = .ref p ∧ l = [p] ∧ H p = some (.dT (kvK kvs))
  | .dts ks => ∃ p, v = .ref p ∧ l = [p] ∧ H p = some (.dT (kvS ks))
  | .pin u d => l = [] ∧ v = u ∧ Da K G v d
  | .dtn kvs => ∃ p o xs, v = .ref p ∧ l = [p] ∧ H p = some (objO p o) ∧ NOb p o xs ∧ NX G xs kvs ∧ (kvs.map (·.1)).Nodup
  | .nd kvs => l = [] ∧ ∃ p, v = .ref p ∧ NdR G p kvs
def RpS (K : PySem.W.Frag) (H G : Hp) (s : Option V) (e : Option Wv) (l : List Addr) : Prop :=
  match e with
  | none => l = []
  | some w => ∃ v, s = some v ∧ RpW K H G v w l
def RpE (K : PySem.W.Frag) (H G : Hp) : St → En → List Addr → Prop
  | [], [], l => l = []
  | s :: σ, e :: env, l => ∃ a b, l = a ++ b ∧ RpS K H G s e a ∧ RpE K H G σ env b
  | _, _, _ => False
variable {H H' G G' : Hp}
theorem Rp1.mv (s : Same G G') {v : V} {x : It1} {l : List Addr} (k : ∀ q ∈ l, H' q = H q) (h : Rp1 K H G v x l) : Rp1 K H' G' v x l := by
  cases x with
  | dat d => exact ⟨h.1, Da.same s d h.2⟩
  | own ds =>
    obtain ⟨q, us, e1, e2, e3, e4⟩ := h
    exact ⟨q, us, e1, e2, (k q (by rw [e2]; exact List.mem_cons_self ..)).trans e3, DaAll.same s ds e4⟩
theorem Rp1s.mv (s : Same G G') : ∀ {vs : List V} {xs : List It1} {l : List Addr}, (∀ q ∈ l, H' q = H q) → Rp1s K H G vs xs l → Rp1s K H' G' vs xs l
  | [], [], l, _, h => h
  | v :: vs, x :: xs, l, k, ⟨a, b, e, h1, h2⟩ => ⟨a, b, e, h1.mv s fun q z => k q (by rw [e]; exact List.mem_append_left _ z), Rp1s.mv s (fun q z => k q (by rw [e]; exact List.mem_append_right _ z)) h2⟩
theorem RpW.mv (s : Same G G') {v : V} {w : Wv} {l : List Addr} (k : ∀ q ∈ l, H' q = H q) (h : RpW K H G v w l) : RpW K H' G' v w l := by
  cases w with
  | dat d => exact ⟨h.1, Da.same s d h.2⟩
  | own xs =>
    obtain ⟨p, vs, b, e1, e2, e3, e4⟩ := h
    exact ⟨p, vs, b, e1, e2, (k p (by rw [e2]; exact List.mem_cons_self ..)).trans e3, Rp1s.mv s (fun q z => k q (by rw [e2]; exact List.mem_cons_of_mem _ z)) e4⟩
  | exc C f d =>
    obtain ⟨e, a, u, e1, e2, e3⟩ := h
    exact ⟨e, a, u, e1, e2.same s, fun z => Da.same s d (e3 z)⟩
  | dct ks =>
    obtain ⟨p, e1, e2, e3⟩ := h
    exact ⟨p, e1, e2, (k p (by rw [e2]; exact List.mem_cons_self ..)).trans e3⟩
  | dci ks =>
    obtain ⟨p, e1, e2, e3⟩ := h
    exact ⟨p, e1, e2, (k p (by rw [e2]; exact List.mem_cons_self ..)).trans e3⟩
  | dtk ks =>
    obtain ⟨p, e1, e2, e3⟩ := h
    exact ⟨p, e1, e2, (k p (by rw [e2]; exact List.mem_cons_self ..)).trans e3⟩
  | pin u d => exact ⟨h.1, h.2.1, Da.same s d h.2.2⟩
  | nd kvs => obtain ⟨e1, p, e2, e3⟩ := h; exact ⟨e1, p, e2, e3.same s⟩
  | dtn kvs =>
    obtain ⟨p, o, xs, e1, e2, e3, e4, e5, e6⟩ := h
    exact ⟨p, o, xs, e1, e2, (k p (by rw [e2]; exact List.mem_cons_self ..)).trans e3, e4, e5.keep fun b xs e => e.same s, e6⟩
  | dts ks =>
    obtain ⟨p, e1, e2, e3⟩ := h
    exact ⟨p, e1, e2, (k p (by rw [e2]; exact List.mem_cons_self ..)).trans e3⟩
theorem RpS.mv (s : Same G G') {v : Option V} {e : Option Wv} {l : List Addr} (k : ∀ q ∈ l, H' q = H q) (h : RpS K H G v e l) : RpS K H' G' v e l := by
  cases e with
  | none => exact h
  | some w =>
    obtain ⟨x, e1, e2⟩ := h
    exact ⟨x, e1, e2.mv s k⟩
theorem RpE.mv (s : Same G G') : ∀ {σ : St} {env : En} {l : List Addr}, (∀ q ∈ l, H' q = H q) → RpE K H G σ env l → RpE K H' G' σ env l
  | [], [], l, _, h => h
  | v :: σ, e :: env, l, k, ⟨a, b, z, h1, h2⟩ => ⟨a, b, z, h1.mv s fun q y => k q (by rw [z]; exact List.mem_append_left _ y), RpE.mv s (fun q y => k q (by rw [z]; exact List.mem_append_right _ y)) h2⟩
theorem Rp1.trk {v : V} {x : It1} {l : List Addr} (h : Rp1 K H G v x l) : ∀ q ∈ l, ∃ o, H q = some o ∧ NT o := by
  cases x with
  | dat d => intro q z; rw [h.1] at z; cases z
  | own ds =>
    obtain ⟨p, us, e1, e2, e3, e4⟩ := h
    intro q z
    rw [e2] at z
    cases List.mem_singleton.mp z
    exact ⟨_, e3, trivial⟩
theorem Rp1s.trk : ∀ {vs : List V} {xs : List It1} {l : List Addr}, Rp1s K H G vs xs l → ∀ q ∈ l, ∃ o, H q = some o ∧ NT o
  | [], [], l, h => fun q z => by rw [show l = [] from h] at z; cases z
  | v :: vs, x :: xs, l, ⟨a, b, e, h1, h2⟩ => fun q z => by
    rw [e] at z
    exact (List.mem_append.mp z).elim (h1.trk q) (Rp1s.trk h2 q)
theorem RpW.trk {v : V} {w : Wv} {l : List Addr} (h : RpW K H G v w l) : ∀ q ∈ l, ∃ o, H q = some o ∧ NT o := by
  cases w with
  | dat d => intro q z; rw [h.1] at z; cases z
  | own xs =>
    obtain ⟨p, vs, b, e1, e2, e3, e4⟩ := h
    intro q z
    rw [e2] at z
    rcases List.mem_cons.mp z with z | z
    · cases z; exact ⟨_, e3, trivial⟩
    · exact e4.trk q z
  | exc C f d => intro q z; rw [h.1] at z; cases z
  | dct ks =>
    obtain ⟨p, e1, e2, e3⟩ := h
    intro q z
    rw [e2] at z
    cases List.mem_singleton.mp z
    exact ⟨_, e3, trivial⟩
  | dci ks =>
    obtain ⟨p, e1, e2, e3⟩ := h
    intro q z
    rw [e2] at z
    cases List.mem_singleton.mp z
    exact ⟨_, e3, trivial⟩
  | dtk ks =>
    obtain ⟨p, e1, e2, e3⟩ := h
    intro q z
    rw [e2] at z
    cases List.mem_singleton.mp z
    exact ⟨_, e3, trivial⟩
  | pin u d => intro q z; rw [h.1] at z; cases z
  | nd kvs => intro q z; rw [h.1] at z; cases z
  | dtn kvs =>
    obtain ⟨p, o, xs, e1, e2, e3, _⟩ := h
    intro q z
    rw [e2] at z
    cases List.mem_singleton.mp z
    exact ⟨_, e3, trivial⟩
  | dts ks =>
    obtain ⟨p, e1, e2, e3⟩ := h
    intro q z
    rw [e2] at z
    cases List.mem_singleton.mp z
    exact ⟨_, e3, trivial⟩
theorem RpE.trk : ∀ {σ : St} {env : En} {l : List Addr}, RpE K H G σ env l → ∀ q ∈ l, ∃ o, H q = some o ∧ NT o
  | [], [], l, h => fun q z => by rw [show l = [] from h] at z; cases z
  | s :: σ, e :: env, l, ⟨a, b, z, h1, h2⟩ => fun q y => by
    rw [z] at y
    refine (List.mem_append.mp y).elim (fun y => ?_) (RpE.trk h2 q)
    cases e with
    | none => rw [show a = [] from h1] at y; cases y
    | some w => obtain ⟨v, _, h1⟩ := h1; exact h1.trk q y
/-- one slot, and what may come in its place -/
theorem RpE.focus : ∀ {σ : St} {env : En} {l : List Addr} {i : Nat} {e : Option Wv}, RpE K H G σ env l → env[i]? = some e → ∃ s a lx ly, σ[i]? = some s ∧ l = lx ++ (a ++ ly) ∧ RpS K H G s e a ∧
    ∀ {H' G' : Hp} {s' : Option V} {e' : Option Wv} {a' : List Addr}, Same G G' → (∀ q ∈ lx, H' q = H q) → (∀ q ∈ ly, H' q = H q) → RpS K H' G' s' e' a' → RpE K H' G' (σ.set i s') (env.set i e') (lx ++ (a' ++ ly))
  | [], [], l, i, e, h, q => by simp at q
  | s :: σ, e :: env, l, 0, _, ⟨a, b, z, h1, h2⟩, q => by
    cases q
    refine ⟨s, a, [], b, rfl, z, h1, fun {H' G' s' e' a'} sg kx ky h' => ⟨a', b, rfl, h', h2.mv sg ky⟩⟩
  | s :: σ, e :: env, l, i + 1, e0, ⟨a, b, z, h1, h2⟩, q => by
    obtain ⟨s0, a0, lx, ly, q1, q2, q3, q4⟩ := RpE.focus (i := i) (e := e0) h2 q
    refine ⟨s0, a0, a ++ lx, ly, q1, by rw [z, q2, List.append_assoc], q3, fun {H' G' s' e' a'} sg kx ky h' => ?_⟩
    refine ⟨a, lx ++ (a' ++ ly), by rw [List.append_assoc], h1.mv sg fun q y => kx q (List.mem_append_left _ y), q4 sg (fun q y => kx q (List.mem_append_right _ y)) ky h'⟩
theorem RpE.len : ∀ {σ : St} {env : En} {l : List Addr}, RpE K H G σ env l → σ.length = env.length
  | [], [], _, _ => rfl
  | _ :: _, _ :: _, _, ⟨_, _, _, _, h⟩ => congrArg (· + 1) (RpE.len h)
end
/-- the slots hold what env says, the lists owned standing at l, beside the lists B of others -/
structure Rep (K : PySem.W.Frag) (B : Addr → Prop) (σ : St) (H : Hp) (env : En) (l : List Addr) : Prop where
  rp : RpE K H (off (un B l) H) σ env l
  nd : l.Nodup
  out : ∀ b ∈ l, ¬ B b
  tb : ∀ b, B b → ∃ o, H b = some o ∧ NT o
section
variable {K : PySem.W.Frag} {B B' : Addr → Prop} {σ : St} {H H' H1 H2 : Hp} {env : En} {l l' : List Addr}
theorem off_mono {S S' : Addr → Prop} {H H' : Hp} (hS : ∀ b, S' b → ¬ S b → H b = none) (s : ∀ b o, ¬ S b → H b = some o → H' b = some o) : Same (off S H) (off S' H') := fun b o h => by
  obtain ⟨n, e⟩ := off_at h
  rw [off_ne fun z => by rw [hS b z n] at e; cases e]
  exact s b o n e
theorem Fr.refl (l : List Addr) (H : Hp) : Fr l H H := fun _ _ _ h => h
theorem Fr.of {l : List Addr} (s : Same H H') : Fr l H H' := fun b o _ h => s b o h
theorem Fr.trans (a : Fr l H H1) (b : Fr l H1 H2) : Fr l H H2 := fun c o n h => b c o n (a c o n h)
theorem Fr.keep (f : Fr l H H') : Same (off (un B l) H) (off (un B l) H') := off_mono (fun b z n => absurd z n) fun b o n h => f b o (fun z => n (.inr z)) h
theorem Rep.tl (r : Rep K B σ H env l) : ∀ b, un B l b → ∃ o, H b = some o ∧ NT o := fun b z => z.elim (r.tb b) fun z => r.rp.trk b z
theorem Rep.fresh (r : Rep K B σ H env l) {p : Addr} (h : H p = none) : ¬ un B l p := fun z => by
  obtain ⟨o, e, _⟩ := r.tl p z
  rw [h] at e
  cases e
/-- the heap grows; more lists may stand beside -/
theorem Rep.grow (r : Rep K B σ H env l) (s : Same H H') (h1 : ∀ b, B b → B' b) (h2 : ∀ b, B' b → B b ∨ H b = none) (h3 : ∀ b, B' b → ∃ o, H' b = some o ∧ NT o) : Rep K B' σ H' env l := by
  have t := r.rp.trk
  refine ⟨r.rp.mv ?_ fun q z => ?_, r.nd, fun b z y => (h2 b y).elim (r.out b z) fun e => r.fresh e (.inr z), h3⟩
  · exact off_mono (fun b z n => z.elim (fun z => (h2 b z).elim (fun z => absurd (.inl z) n) id) fun z => absurd (.inr z) n) fun b o n h => s b o h
  · obtain ⟨us, e, _⟩ := t q z
    rw [e, s _ _ e]
theorem Rep.same (r : Rep K B σ H env l) (s : Same H H') : Rep K B σ H' env l := r.grow s (fun _ z => z) (fun _ z => .inl z) fun b z => by
  obtain ⟨o, e, n⟩ := r.tb b z
  exact ⟨o, s _ _ e, n⟩
/-- fewer lists beside -/
theorem Rep.less (r : Rep K B' σ H env l) (h : ∀ b, B b → B' b) : Rep K B σ H env l :=
  ⟨r.rp.mv (off_mono (fun b z n => absurd (z.elim (fun z => .inl (h b z)) .inr) n) fun b o n e => e) fun _ _ => rfl, r.nd, fun b z y => r.out b z (h b y), fun b z => r.tb b (h b z)⟩
theorem Rep.len (r : Rep K B σ H env l) : σ.length = env.length := r.rp.len
end
/-! results -/
inductive R where
  | dat (d : PyData)
  | slot (i : Nat)
  | exc (C : Addr) (f : Str) (d : PyData)
def RpR (K : PySem.W.Frag) (G : Hp) (σ : St) (v : V) (r : R) : Prop :=
  match r with
  | .dat d => Da K G v d
  | .slot i => σ[i]? = some (some v)
  | .exc C f d => ∃ a u, v = .ref a ∧ CauF K G a C f u ∧ (f ≠ "" → Da K G u d)
theorem RpR.mv {K : PySem.W.Frag} {G G' : Hp} {σ : St} {v : V} {r : R} (s : Same G G') (h : RpR K G σ v r) : RpR K G' σ v r := by
  cases r with
  | dat d => exact Da.same s d h
  | slot i => exact h
  | exc C f d =>
    obtain ⟨a, u, e1, e2, e3⟩ := h
    exact ⟨a, u, e1, e2.same s, fun z => Da.same s d (e3 z)⟩
inductive Rs (α : Type) where
  | ok (a : α) (env : En)
  | ex (C : Addr) (f : Str) (d : PyData)
def M (α : Type) := En → Option (Rs α)
def M.bind {α β : Type} (x : M α) (f : α → M β) : M β := fun env =>
  match x env with
  | none => none
  | some (.ok a e) => f a e
  | some (.ex C g d) => some (.ex C g d)
def M.pure {α : Type} (a : α) : M α := fun env => some (.ok a env)
instance : Monad M where
  pure := M.pure
  bind := M.bind
def lift {α : Type} (o : Option α) : M α := fun env => o.map fun a => .ok a env
def itds : List It1 → Option (List PyData)
  | [] => some []
  | .dat d :: r => (itds r).map (d :: ·)
  | .own _ :: _ => none
/-- a list of data as a list owned -/
def dats (ds : List PyData) : List It1 := ds.map .dat
theorem itds_dats (ds : List PyData) : itds (dats ds) = some ds := by
  induction ds with
  | nil => rfl
  | cons d r ih => show (itds (dats r)).map (d :: ·) = _; rw [ih]; rfl
theorem itds_eq : ∀ {xs : List It1} {ds : List PyData}, itds xs = some ds → xs = dats ds
  | [], ds, h => by cases h; rfl
  | .dat d :: r, ds, h => by
    obtain ⟨q, e1, e2⟩ := Option.map_eq_some_iff.mp (show (itds r).map (d :: ·) = some ds from h)
    subst e2
    rw [itds_eq e1]
    rfl
  | .own _ :: _, ds, h => by cases h
/-- the data of a result, as it stands -/
def vw (r : R) : M PyData := fun env =>
  match r with
  | .dat d => some (.ok d env)
  | .slot i =>
    match env[i]? with
    | some (some (.own xs)) => (itds xs).map fun ds => .ok (.list ds) env
    | _ => none
  | .exc _ _ _ => none
/-- data to be read: the outermost list may be one that is owned -/
def Vw (K : PySem.W.Frag) (S : Addr → Prop) (H : Hp) (v : V) (d : PyData) : Prop :=
  Da K (off S H) v d ∨ ∃ p vs ds, v = .ref p ∧ d = .list ds ∧ H p = some (.lst vs) ∧ DaAll K (off S H) vs ds
theorem rp1s_dats {K : PySem.W.Frag} {H G : Hp} : ∀ {vs : List V} {ds : List PyData} {l : List Addr}, Rp1s K H G vs (dats ds) l → l = [] ∧ DaAll K G vs ds
  | [], [], l, h => ⟨h, .nil⟩
  | v :: vs, d :: ds, l, ⟨a, b, e, h1, h2⟩ => by
    obtain ⟨e2, h3⟩ := rp1s_dats h2
    exact ⟨by rw [e, h1.1, e2]; rfl, .cons h1.2 h3⟩
  | [], _ :: _, _, h => h.elim
  | _ :: _, [], _, h => h.elim
theorem rp1s_of {K : PySem.W.Frag} {H G : Hp} : ∀ {vs : List V} {ds : List PyData}, DaAll K G vs ds → Rp1s K H G vs (dats ds) []
  | _, _, .nil => rfl
  | _, _, .cons h t => ⟨[], [], rfl, ⟨rfl, h⟩, rp1s_of t⟩
theorem vw_ok {K : PySem.W.Frag} {B : Addr → Prop} {σ : St} {H : Hp} {env env' : En} {l : List Addr} {v : V} {r : R} {d : PyData} (h : Rep K B σ H env l) (q : RpR K (off (un B l) H) σ v r) (e : vw r env = some (.ok d env')) : env' = env ∧ Vw K (un B l) H v d := by
  cases r with
  | dat d' => cases e; exact ⟨rfl, .inl q⟩
  | exc _ _ _ => cases e
  | slot i =>
    unfold vw at e
    simp only at e
    split at e
    · rename_i xs hx
      obtain ⟨ds, e1, e2⟩ := Option.map_eq_some_iff.mp e
      cases e2
      have hx2 := itds_eq e1
      subst hx2
      obtain ⟨s, a, lx, ly, q1, q2, ⟨v', q3, p, vs, b, q4, q5, q6, q7⟩, _⟩ := h.rp.focus hx
      rw [show σ[i]? = some (some v) from q] at q1
      cases q1
      cases q3
      exact ⟨rfl, .inr ⟨p, vs, ds, q4, rfl, q6, (rp1s_dats q7).2⟩⟩
    · cases e
theorem vw_noex {r : R} {env : En} {C : Addr} {f : Str} {d : PyData} : vw r env ≠ some (.ex C f d) := by
  unfold vw
  intro e
  split at e
  · cases e
  · split at e
    · obtain ⟨_, _, e2⟩ := Option.map_eq_some_iff.mp e
      cases e2
    · cases e
  · cases e
end Ov
set_option Elab.async false
set_option linter.all false
set_option maxRecDepth 100000
set_option maxHeartbeats 4000000
namespace Ov
open PySem L2
/-! readings held against plain functions: expressions -/
def Exn (K : PySem.W.Frag) (E : XK) (B : Addr → Prop) (H : Hp) (l : List Addr) (C : Addr) (f : Str) (d : PyData) : Prop :=
  (f ≠ "" → ∀ dx H' v, Fr l H H' → ¬ B dx → H' dx = some (.xd [(f, v)]) → Da K (off B H') v d → E (.ref C) (some dx) H') ∧ (f = "" → ∀ H', Fr l H H' → E (.ref C) none H')
theorem Exn.later {K : PySem.W.Frag} {E : XK} {B : Addr → Prop} {H H1 : Hp} {l : List Addr} {C : Addr} {f : Str} {d : PyData} (x : Exn K E B H l C f d) (s : Fr l H H1) : Exn K E B H1 l C f d :=
  ⟨fun hf dx H' v fr n h q => x.1 hf dx H' v (s.trans fr) n h q, fun hf H' fr => x.2 hf H' (s.trans fr)⟩
theorem Exn.wide {K : PySem.W.Frag} {E : XK} {B : Addr → Prop} {H : Hp} {l l1 : List Addr} {C : Addr} {f : Str} {d : PyData} (x : Exn K E B H l C f d) : Exn K E (un B l1) H l C f d :=
  ⟨fun hf dx H' v fr n hh q => x.1 hf dx H' v fr (fun z => n (.inl z)) hh (Da.same (off_mono (fun b z n => absurd (.inl z) n) fun b o n e => e) d q), x.2⟩
def PostE (K : PySem.W.Frag) (E : XK) (B : Addr → Prop) (σ : St) (H : Hp) (l : List Addr) (rs : Rs R) (Q : VK) : Prop :=
  match rs with
  | .ok r env' => ∀ v H', Rep K B σ H' env' l → Fr l H H' → RpR K (off (un B l) H') σ v r → Q v H'
  | .ex C f d => Exn K E B H l C f d
def PostT (K : PySem.W.Frag) (E : XK) (B : Addr → Prop) (σ : St) (H : Hp) (l : List Addr) (rs : Rs Bool) (Q : Bool → Hp → Prop) : Prop :=
  match rs with
  | .ok b env' => ∀ H', Rep K B σ H' env' l → Fr l H H' → Q b H'
  | .ex C f d => Exn K E B H l C f d
def RpRs (K : PySem.W.Frag) (G : Hp) (σ : St) : List V → List R → Prop
  | [], [] => True
  | v :: vs, r :: rs => RpR K G σ v r ∧ RpRs K G σ vs rs
  | _, _ => False
theorem RpRs.mv {K : PySem.W.Frag} {G G' : Hp} {σ : St} (s : Same G G') : ∀ {vs : List V} {rs : List R}, RpRs K G σ vs rs → RpRs K G' σ vs rs
  | [], [], _ => trivial
  | _ :: _, _ :: _, h => ⟨h.1.mv s, h.2.mv s⟩
def PostA (K : PySem.W.Frag) (E : XK) (B : Addr → Prop) (σ : St) (H : Hp) (l : List Addr) (rs : Rs (List R)) (Q : List V → Hp → Prop) : Prop :=
  match rs with
  | .ok r env' => ∀ vs H', Rep K B σ H' env' l → Fr l H H' → RpRs K (off (un B l) H') σ vs r → Q vs H'
  | .ex C f d => Exn K E B H l C f d
structure OkE (K : PySem.W.Frag) (E : XK) (t : TE) (f : M R) : Prop where
  run : ∀ {B : Addr → Prop} {σ : St} {H : Hp} {env : En} {l : List Addr} {rs : Rs R}, Rep K B σ H env l → f env = some rs → ∀ {Q : VK}, PostE K E B σ H l rs Q → t σ H Q
structure OkT (K : PySem.W.Frag) (E : XK) (t : TT) (f : M Bool) : Prop where
  run : ∀ {B : Addr → Prop} {σ : St} {H : Hp} {env : En} {l : List Addr} {rs : Rs Bool}, Rep K B σ H env l → f env = some rs → ∀ {Q : Bool → Hp → Prop}, PostT K E B σ H l rs Q → t σ H Q
structure OkA (K : PySem.W.Frag) (E : XK) (t : TA) (f : M (List R)) : Prop where
  run : ∀ {B : Addr → Prop} {σ : St} {H : Hp} {env : En} {l : List Addr} {rs : Rs (List R)}, Rep K B σ H env l → f env = some rs → ∀ {Q : List V → Hp → Prop}, PostA K E B σ H l rs Q → t σ H Q
theorem bind_some {α β : Type} {x : M α} {f : α → M β} {env : En} {rs : Rs β} (h : (M.bind x f) env = some rs) : (∃ a e, x env = some (.ok a e) ∧ f a e = some rs) ∨ ∃ C g d, x env = some (.ex C g d) ∧ rs = .ex C g d := by
  unfold M.bind at h
  split at h
  · cases h
  · exact .inl ⟨_, _, by assumption, h⟩
  · cases h
    exact .inr ⟨_, _, _, by assumption, rfl⟩
theorem lift_some {α : Type} {o : Option α} {env : En} {rs : Rs α} (h : lift o env = some rs) : ∃ a, o = some a ∧ rs = .ok a env := by
  obtain ⟨a, e1, e2⟩ := Option.map_eq_some_iff.mp h
  exact ⟨a, e1, e2.symm⟩
section
variable {K : PySem.W.Frag} {E : XK}
/-- take the first step of a bind: its exception is passed on -/
theorem OkE.seq {α : Type} {ta : TE} {fa : M R} {g : R → M α} (oa : OkE K E ta fa) {B : Addr → Prop} {σ : St} {H : Hp} {env : En} {l : List Addr} {rs : Rs α} (r : Rep K B σ H env l) (h : (M.bind fa g) env = some rs) {Q : VK}
    (hx : ∀ C f d, rs = .ex C f d → Exn K E B H l C f d) (hq : ∀ a e v H', g a e = some rs → Rep K B σ H' e l → Fr l H H' → RpR K (off (un B l) H') σ v a → Q v H') : ta σ H Q := by
  rcases bind_some h with ⟨a, e, h1, h2⟩ | ⟨C, f, d, h1, h2⟩
  · exact oa.run r h1 (fun v H' r' fr q => hq a e v H' h2 r' fr q)
  · exact oa.run r h1 (hx C f d h2)
theorem OkA.seq {α : Type} {ta : TA} {fa : M (List R)} {g : List R → M α} (oa : OkA K E ta fa) {B : Addr → Prop} {σ : St} {H : Hp} {env : En} {l : List Addr} {rs : Rs α} (r : Rep K B σ H env l) (h : (M.bind fa g) env = some rs) {Q : List V → Hp → Prop}
    (hx : ∀ C f d, rs = .ex C f d → Exn K E B H l C f d) (hq : ∀ a e v H', g a e = some rs → Rep K B σ H' e l → Fr l H H' → RpRs K (off (un B l) H') σ v a → Q v H') : ta σ H Q := by
  rcases bind_some h with ⟨a, e, h1, h2⟩ | ⟨C, f, d, h1, h2⟩
  · exact oa.run r h1 (fun v H' r' fr q => hq a e v H' h2 r' fr q)
  · exact oa.run r h1 (hx C f d h2)
theorem OkT.seq {α : Type} {ta : TT} {fa : M Bool} {g : Bool → M α} (oa : OkT K E ta fa) {B : Addr → Prop} {σ : St} {H : Hp} {env : En} {l : List Addr} {rs : Rs α} (r : Rep K B σ H env l) (h : (M.bind fa g) env = some rs) {Q : Bool → Hp → Prop}
    (hx : ∀ C f d, rs = .ex C f d → Exn K E B H l C f d) (hq : ∀ a e H', g a e = some rs → Rep K B σ H' e l → Fr l H H' → Q a H') : ta σ H Q := by
  rcases bind_some h with ⟨a, e, h1, h2⟩ | ⟨C, f, d, h1, h2⟩
  · exact oa.run r h1 (fun H' r' fr => hq a e H' h2 r' fr)
  · exact oa.run r h1 (hx C f d h2)
theorem PostE.exn {B : Addr → Prop} {σ : St} {H : Hp} {l : List Addr} {rs : Rs R} {Q : VK} (h : PostE K E B σ H l rs Q) : ∀ C f d, rs = .ex C f d → Exn K E B H l C f d := fun C f d e => by subst e; exact h
theorem PostT.exn {B : Addr → Prop} {σ : St} {H : Hp} {l : List Addr} {rs : Rs Bool} {Q : Bool → Hp → Prop} (h : PostT K E B σ H l rs Q) : ∀ C f d, rs = .ex C f d → Exn K E B H l C f d := fun C f d e => by subst e; exact h
theorem PostA.exn {B : Addr → Prop} {σ : St} {H : Hp} {l : List Addr} {rs : Rs (List R)} {Q : List V → Hp → Prop} (h : PostA K E B σ H l rs Q) : ∀ C f d, rs = .ex C f d → Exn K E B H l C f d := fun C f d e => by subst e; exact h
theorem exn_later {α : Type} {B : Addr → Prop} {H H1 : Hp} {l : List Addr} {rs : Rs α} (h : ∀ C f d, rs = .ex C f d → Exn K E B H l C f d) (s : Fr l H H1) : ∀ C f d, rs = .ex C f d → Exn K E B H1 l C f d := fun C f d e => (h C f d e).later s
theorem PostE.later {B : Addr → Prop} {σ : St} {H H1 : Hp} {l : List Addr} {rs : Rs R} {Q : VK} (h : PostE K E B σ H l rs Q) (s : Fr l H H1) : PostE K E B σ H1 l rs Q := by
  cases rs with
  | ok r env => exact fun v H' r' fr q => h v H' r' (s.trans fr) q
  | ex C f d => exact Exn.later h s
theorem PostT.later {B : Addr → Prop} {σ : St} {H H1 : Hp} {l : List Addr} {rs : Rs Bool} {Q : Bool → Hp → Prop} (h : PostT K E B σ H l rs Q) (s : Fr l H H1) : PostT K E B σ H1 l rs Q := by
  cases rs with
  | ok r env => exact fun H' r' fr => h H' r' (s.trans fr)
  | ex C f d => exact Exn.later h s
/-! names, constants -/
def get (i : Nat) : M R := fun env =>
  match env[i]? with
  | some (some (.dat d)) => some (.ok (.dat d) env)
  | some (some (.own _)) => some (.ok (.slot i) env)
  | some (some (.exc C f d)) => some (.ok (.exc C f d) env)
  | some (some (.dct _)) => some (.ok (.slot i) env)
  | some (some (.dci _)) => some (.ok (.slot i) env)
  | some (some (.dtk _)) => some (.ok (.slot i) env)
  | some (some (.dts _)) => some (.ok (.slot i) env)
  | some (some (.pin _ d)) => some (.ok (.dat d) env)
  | _ => none
theorem OkE.var (i : Nat) : OkE K E (tVar i) (get i) := by
  refine ⟨?_⟩
  intro B σ H env l rs r h Q post
  unfold get at h
  cases q : env[i]? with
  | none => rw [q] at h; cases h
  | some e =>
    cases e with
    | none => rw [q] at h; cases h
    | some w =>
      rw [q] at h
      obtain ⟨s, a, lx, ly, q1, q2, ⟨v, q3, q4⟩, _⟩ := r.rp.focus q
      subst q3
      refine ⟨v, q1, ?_⟩
      cases w with
      | dat d => cases h; exact post v H r (Fr.refl _ _) q4.2
      | own xs => cases h; exact post v H r (Fr.refl _ _) q1
      | exc C f d => cases h; exact post v H r (Fr.refl _ _) q4.2
      | dct ks => cases h; exact post v H r (Fr.refl _ _) q1
      | dci ks => cases h; exact post v H r (Fr.refl _ _) q1
      | dtk ks => cases h; exact post v H r (Fr.refl _ _) q1
      | dts ks => cases h; exact post v H r (Fr.refl _ _) q1
      | pin u d => cases h; exact post v H r (Fr.refl _ _) q4.2.2
      | dtn _ => cases h
      | nd _ => cases h
def con (d : PyData) : M R := M.pure (.dat d)
theorem OkE.con {v : V} {d : PyData} (hd : ∀ H : Hp, Da K H v d) : OkE K E (fun _ H Q => Q v H) (con d) := by
  refine ⟨?_⟩
  intro B σ H env l rs r h Q post
  cases h
  exact post v H r (Fr.refl _ _) (hd _)
/-! operations -/
def OpOk (K : PySem.W.Frag) (r : R2) (fo : PyData → PyData → Option PyData) : Prop := ∀ {S : Addr → Prop} {H : Hp} {x y : V} {a b d : PyData}, (∀ q, S q → ∃ o, H q = some o ∧ NT o) → Vw K S H x a → Vw K S H y b → fo a b = some d →
  ∀ {Q : VK}, (∀ v H', Same H H' → Da K (off S H') v d → Q v H') → r x y H Q
def UnOk (K : PySem.W.Frag) (r : V → Hp → VK → Prop) (fo : PyData → Option PyData) : Prop := ∀ {S : Addr → Prop} {H : Hp} {x : V} {a d : PyData}, (∀ q, S q → ∃ o, H q = some o ∧ NT o) → Vw K S H x a → fo a = some d →
  ∀ {Q : VK}, (∀ v H', Same H H' → Da K (off S H') v d → Q v H') → r x H Q
inductive VwAll (K : PySem.W.Frag) (S : Addr → Prop) (H : Hp) : List V → List PyData → Prop
  | nil : VwAll K S H [] []
  | cons {v : V} {vs : List V} {d : PyData} {ds : List PyData} : Vw K S H v d → VwAll K S H vs ds → VwAll K S H (v :: vs) (d :: ds)
def CbOk (K : PySem.W.Frag) (r : List V → Hp → VK → Prop) (fo : List PyData → Option PyData) : Prop := ∀ {S : Addr → Prop} {H : Hp} {xs : List V} {as : List PyData} {d : PyData}, (∀ q, S q → ∃ o, H q = some o ∧ NT o) → VwAll K S H xs as → fo as = some d →
  ∀ {Q : VK}, (∀ v H', Same H H' → Da K (off S H') v d → Q v H') → r xs H Q
def op2 (fo : PyData → PyData → Option PyData) (fa fb : M R) : M R := M.bind fa fun a => M.bind fb fun b => M.bind (vw a) fun x => M.bind (vw b) fun y => M.bind (lift (fo x y)) fun d => M.pure (.dat d)
def op1 (fo : PyData → Option PyData) (fa : M R) : M R := M.bind fa fun a => M.bind (vw a) fun x => M.bind (lift (fo x)) fun d => M.pure (.dat d)
theorem vw_step {α : Type} {B : Addr → Prop} {σ : St} {H : Hp} {env : En} {l : List Addr} {v : V} {r : R} {g : PyData → M α} {rs : Rs α} (h : Rep K B σ H env l) (q : RpR K (off (un B l) H) σ v r) (e : (M.bind (vw r) g) env = some rs) :
    ∃ d, g d env = some rs ∧ Vw K (un B l) H v d := by
  rcases bind_some e with ⟨a, e1, h1, h2⟩ | ⟨C, f, d, h1, _⟩
  · obtain ⟨rfl, q2⟩ := vw_ok h q h1
    exact ⟨a, h2, q2⟩
  · exact absurd h1 vw_noex
theorem lift_step {α β : Type} {o : Option α} {g : α → M β} {env : En} {rs : Rs β} (e : (M.bind (lift o) g) env = some rs) : ∃ a, o = some a ∧ g a env = some rs := by
  rcases bind_some e with ⟨a, e1, h1, h2⟩ | ⟨C, f, d, h1, _⟩
  · obtain ⟨b, e2, e3⟩ := lift_some h1
    cases e3
    exact ⟨a, e2, h2⟩
  · obtain ⟨b, e2, e3⟩ := lift_some h1
    cases e3
theorem OkE.op {r : R2} {fo : PyData → PyData → Option PyData} {ta tb : TE} {fa fb : M R} (o : OpOk K r fo) (oa : OkE K E ta fa) (ob : OkE K E tb fb) : OkE K E (tOp r ta tb) (op2 fo fa fb) := by
  refine ⟨?_⟩
  intro B σ H env l rs rp h Q post
  refine oa.seq rp h post.exn fun a e v1 H1 h1 r1 f1 q1 => ?_
  refine ob.seq r1 h1 (exn_later post.exn f1) fun b e2 v2 H2 h2 r2 f2 q2 => ?_
  obtain ⟨x, h3, w1⟩ := vw_step r2 (q1.mv f2.keep) h2
  obtain ⟨y, h4, w2⟩ := vw_step r2 q2 h3
  obtain ⟨d, h5, h6⟩ := lift_step h4
  cases h6
  exact o r2.tl w1 w2 h5 fun v H' s q => post v H' (r2.same s) ((f1.trans f2).trans (Fr.of s)) q
theorem OkE.un {r : V → Hp → VK → Prop} {fo : PyData → Option PyData} {ta : TE} {fa : M R} (o : UnOk K r fo) (oa : OkE K E ta fa) : OkE K E (tUn r ta) (op1 fo fa) := by
  refine ⟨?_⟩
  intro B σ H env l rs rp h Q post
  refine oa.seq rp h post.exn fun a e v1 H1 h1 r1 f1 q1 => ?_
  obtain ⟨x, h3, w1⟩ := vw_step r1 q1 h1
  obtain ⟨d, h5, h6⟩ := lift_step h3
  cases h6
  exact o r1.tl w1 h5 fun v H' s q => post v H' (r1.same s) (f1.trans (Fr.of s)) q
/-! arguments -/
def anil : M (List R) := M.pure []
def acons (fa : M R) (fr : M (List R)) : M (List R) := M.bind fa fun a => M.bind fr fun r => M.pure (a :: r)
theorem OkA.nil : OkA K E tNil anil := by
  refine ⟨?_⟩
  intro B σ H env l rs rp h Q post
  cases h
  exact post [] H rp (Fr.refl _ _) trivial
theorem OkA.cons {ta : TE} {tr : TA} {fa : M R} {fr : M (List R)} (oa : OkE K E ta fa) (or : OkA K E tr fr) : OkA K E (tCons ta tr) (acons fa fr) := by
  refine ⟨?_⟩
  intro B σ H env l rs rp h Q post
  refine oa.seq rp h post.exn fun a e v1 H1 h1 r1 f1 q1 => ?_
  refine or.seq r1 h1 (exn_later post.exn f1) fun b e2 v2 H2 h2 r2 f2 q2 => ?_
  cases h2
  exact post (v1 :: v2) H2 r2 (f1.trans f2) ⟨q1.mv f2.keep, q2⟩
def vws : List R → M (List PyData)
  | [] => M.pure []
  | r :: rs => M.bind (vw r) fun d => M.bind (vws rs) fun ds => M.pure (d :: ds)
theorem vws_ok {B : Addr → Prop} {σ : St} {H : Hp} {env : En} {l : List Addr} (h : Rep K B σ H env l) : ∀ {vs : List V} {rs : List R} {α : Type} {g : List PyData → M α} {z : Rs α}, RpRs K (off (un B l) H) σ vs rs → (M.bind (vws rs) g) env = some z → ∃ ds, g ds env = some z ∧ VwAll K (un B l) H vs ds
  | [], [], α, g, z, _, e => ⟨[], e, .nil⟩
  | v :: vs, r :: rs, α, g, z, q, e => by
    have e' : (M.bind (vw r) fun d => M.bind (vws rs) fun ds => g (d :: ds)) env = some z := by
      rw [← e]
      show _ = (M.bind (M.bind (vw r) fun d => M.bind (vws rs) fun ds => M.pure (d :: ds)) g) env
      unfold M.bind
      cases vw r env with
      | none => rfl
      | some a =>
        cases a with
        | ok a e2 =>
          simp only
          cases vws rs e2 with
          | none => rfl
          | some b => cases b <;> rfl
        | ex _ _ _ => rfl
    obtain ⟨d, e2, w⟩ := vw_step h q.1 e'
    obtain ⟨ds, e3, w2⟩ := vws_ok h q.2 e2
    exact ⟨d :: ds, e3, .cons w w2⟩
def cb (fo : List PyData → Option PyData) (fa : M (List R)) : M R := M.bind fa fun a => M.bind (vws a) fun ds => M.bind (lift (fo ds)) fun d => M.pure (.dat d)
theorem OkE.cb {r : List V → Hp → VK → Prop} {fo : List PyData → Option PyData} {t : TA} {fa : M (List R)} (o : CbOk K r fo) (oa : OkA K E t fa) : OkE K E (tCB r t) (Ov.cb fo fa) := by
  refine ⟨?_⟩
  intro B σ H env l rs rp h Q post
  refine oa.seq rp h post.exn fun a e vs H1 h1 r1 f1 q1 => ?_
  obtain ⟨ds, h2, w⟩ := vws_ok r1 q1 h1
  obtain ⟨d, h5, h6⟩ := lift_step h2
  cases h6
  exact o r1.tl w h5 fun v H' s q => post v H' (r1.same s) (f1.trans (Fr.of s)) q
/-! data that a new object holds -/
theorem Vw.da {S : Addr → Prop} {H : Hp} {v : V} {d : PyData} (h : Vw K S H v d) : Da K H v d := by
  rcases h with h | ⟨p, vs, ds, e1, e2, e3, e4⟩
  · exact Da.same (off_sub S H) d h
  · subst e1 e2
    exact .lst (SqL.of e3) (DaAll.same (off_sub S H) ds e4)
/-- results that are data through and through -/
def dds : List R → Option (List PyData)
  | [] => some []
  | .dat d :: r => (dds r).map (d :: ·)
  | _ :: _ => none
theorem dds_ok {G : Hp} {σ : St} : ∀ {vs : List V} {rs : List R} {ds : List PyData}, RpRs K G σ vs rs → dds rs = some ds → DaAll K G vs ds
  | [], [], ds, _, e => by cases e; exact .nil
  | v :: vs, .dat d :: rs, ds, q, e => by
    obtain ⟨x, e1, e2⟩ := Option.map_eq_some_iff.mp (show (dds rs).map (d :: ·) = some ds from e)
    subst e2
    exact .cons q.1 (dds_ok q.2 e1)
  | v :: vs, .slot i :: rs, ds, q, e => by cases e
  | v :: vs, .exc _ _ _ :: rs, ds, q, e => by cases e
theorem new_dp {S : Addr → Prop} {H : Hp} {p : Addr} {vs : List V} {ds : List PyData} (hS : ∀ q, S q → ∃ o, H q = some o ∧ NT o) (hp : H p = none) (h : DaAll K (off S H) vs ds) :
    Da K (off S (upd H p (.lst vs))) (.ref p) (.list ds) ∧ ∀ o : Obj, o.dict = none → Da K (off S (upd H p (.frz o (.tup vs)))) (.ref p) (.tuple ds) := by
  have np : ¬ S p := fun z => by obtain ⟨o, e, _⟩ := hS p z; rw [hp] at e; cases e
  have k : ∀ o, Same (off S H) (off S (upd H p o)) := fun o => off_mono (fun b z n => absurd z n) fun b u n e => by rw [upd_ne (ne_of_none e hp)]; exact e
  exact ⟨.lst (SqL.of ((off_ne np).trans upd_same)) (DaAll.same (k _) ds h), fun o od => .tup ⟨o, (off_ne np).trans upd_same, od⟩ (DaAll.same (k _) ds h)⟩
def sz (n : Nat) : Option Unit := if n ≤ 1000000 then some () else none
theorem sz_ok {n : Nat} {u : Unit} (h : sz n = some u) : n ≤ sizeLine := by
  unfold sz at h
  split at h
  · exact Nat.le_trans (by assumption) (by decide)
  · cases h
def tupD (fa : M (List R)) : M R := M.bind fa fun a => M.bind (lift (dds a)) fun ds => M.bind (lift (sz ds.length)) fun _ => M.pure (.dat (.tuple ds))
def lstD (fa : M (List R)) : M R := M.bind fa fun a => M.bind (lift (dds a)) fun ds => M.bind (lift (sz ds.length)) fun _ => M.pure (.dat (.list ds))
theorem OkE.tup {t : TA} {fa : M (List R)} (oa : OkA K E t fa) : OkE K E (tTupB t) (tupD fa) := by
  refine ⟨?_⟩
  intro B σ H env l rs rp h Q post
  refine oa.seq rp h post.exn fun a e vs H1 h1 r1 f1 q1 => ?_
  obtain ⟨ds, e1, h2⟩ := lift_step h1
  obtain ⟨u, e2, h3⟩ := lift_step h2
  cases h3
  have dp := dds_ok q1 e1
  refine ⟨by rw [daAll_len dp]; exact sz_ok e2, fun p o hp od => ?_⟩
  exact post _ _ (r1.same (same_new hp _)) (f1.trans (Fr.of (same_new hp _))) ((new_dp r1.tl hp dp).2 o od)
theorem OkE.lst {t : TA} {fa : M (List R)} (oa : OkA K E t fa) : OkE K E (tLst t) (lstD fa) := by
  refine ⟨?_⟩
  intro B σ H env l rs rp h Q post
  refine oa.seq rp h post.exn fun a e vs H1 h1 r1 f1 q1 => ?_
  obtain ⟨ds, e1, h2⟩ := lift_step h1
  obtain ⟨u, e2, h3⟩ := lift_step h2
  cases h3
  have dp := dds_ok q1 e1
  refine ⟨by rw [daAll_len dp]; exact sz_ok e2, fun p hp => ?_⟩
  exact post _ _ (r1.same (same_new hp _)) (f1.trans (Fr.of (same_new hp _))) (new_dp r1.tl hp dp).1
/-! truth, and, or, not, if *)-/
def tb1 (fa : M R) : M Bool := M.bind fa fun a => M.bind (vw a) fun d => match d with
  | .bool b => M.pure b
  | _ => fun _ => none
theorem OkT.val {t : TE} {fa : M R} (oa : OkE K E t fa) : OkT K E (tB t) (tb1 fa) := by
  refine ⟨?_⟩
  intro B σ H env l rs rp h Q post
  refine oa.seq rp h post.exn fun a e v1 H1 h1 r1 f1 q1 => ?_
  obtain ⟨d, h2, w⟩ := vw_step r1 q1 h1
  cases d with
  | bool b =>
    cases h2
    have := w.da
    cases this
    exact ⟨b, rfl, post H1 r1 f1⟩
  | none => cases h2
  | int _ => cases h2
  | str _ => cases h2
  | list _ => cases h2
  | tuple _ => cases h2
  | dict _ => cases h2
theorem OkT.test {t : TE} {fa : M R} (oa : OkE K E t fa) : OkT K E (tTest t) (tb1 fa) := OkT.val oa
def andT (fa fb : M Bool) : M Bool := M.bind fa fun a => if a = true then fb else M.pure false
def orT (fa fb : M Bool) : M Bool := M.bind fa fun a => if a = true then M.pure true else fb
def notT (fa : M Bool) : M Bool := M.bind fa fun a => M.pure (!a)
theorem OkT.and {ta tb : TT} {fa fb : M Bool} (oa : OkT K E ta fa) (ob : OkT K E tb fb) : OkT K E (tAnd ta tb) (andT fa fb) := by
  refine ⟨?_⟩
  intro B σ H env l rs rp h Q post
  refine oa.seq rp h post.exn fun a e H1 h1 r1 f1 => ?_
  cases a with
  | true => exact iteT (ob.run r1 (by simpa using h1) (post.later f1))
  | false => refine iteF ?_; simp only [Bool.false_eq_true, if_false] at h1; cases h1; exact post H1 r1 f1
theorem OkT.or {ta tb : TT} {fa fb : M Bool} (oa : OkT K E ta fa) (ob : OkT K E tb fb) : OkT K E (tOr ta tb) (orT fa fb) := by
  refine ⟨?_⟩
  intro B σ H env l rs rp h Q post
  refine oa.seq rp h post.exn fun a e H1 h1 r1 f1 => ?_
  cases a with
  | true => refine iteT ?_; simp only [if_true] at h1; cases h1; exact post H1 r1 f1
  | false => exact iteF (ob.run r1 (by simpa using h1) (post.later f1))
theorem OkT.not {ta : TT} {fa : M Bool} (oa : OkT K E ta fa) : OkT K E (tNot ta) (notT fa) := by
  refine ⟨?_⟩
  intro B σ H env l rs rp h Q post
  refine oa.seq rp h post.exn fun a e H1 h1 r1 f1 => ?_
  cases h1
  exact post H1 r1 f1
def ofB (b : Bool) : R := .dat (.bool b)
def andV (fa fb : M R) : M R := M.bind (tb1 fa) fun a => if a = true then fb else M.pure (ofB false)
def orV (fa fb : M R) : M R := M.bind (tb1 fa) fun a => if a = true then M.pure (ofB true) else fb
def notV (fa : M R) : M R := M.bind (tb1 fa) fun a => M.pure (ofB !a)
theorem OkE.and {ta tb : TE} {fa fb : M R} (oa : OkE K E ta fa) (ob : OkE K E tb fb) : OkE K E (tAndV ta tb) (andV fa fb) := by
  refine ⟨?_⟩
  intro B σ H env l rs rp h Q post
  refine (OkT.val oa).seq rp h post.exn fun a e H1 h1 r1 f1 => ?_
  cases a with
  | true => exact iteT (ob.run r1 (by simpa using h1) (post.later f1))
  | false => refine iteF ?_; simp only [Bool.false_eq_true, if_false] at h1; cases h1; exact post _ H1 r1 f1 (.bl false)
def ifE (ft : M Bool) (fa fb : M R) : M R := M.bind ft fun c => if c = true then fa else fb
theorem OkE.ife {tt : TT} {ta tb : TE} {ft : M Bool} {fa fb : M R} (ot : OkT K E tt ft) (oa : OkE K E ta fa) (ob : OkE K E tb fb) : OkE K E (tIf tt ta tb) (ifE ft fa fb) := by
  refine ⟨?_⟩
  intro B σ H env l rs rp h Q post
  refine ot.seq rp h post.exn fun c e H1 h1 r1 f1 => ?_
  cases c with
  | true => exact iteT (oa.run r1 (by simpa using h1) (post.later f1))
  | false => exact iteF (ob.run r1 (by simpa using h1) (post.later f1))
def chainE (fo fo' : PyData → PyData → Option PyData) (fa fb fc : M R) : M R := M.bind fa fun a => M.bind fb fun b => M.bind (vw a) fun x => M.bind (vw b) fun y => M.bind (lift (fo x y)) fun d => match d with
  | .bool k => if k = true then M.bind fc fun c => M.bind (vw b) fun y' => M.bind (vw c) fun z => M.bind (lift (fo' y' z)) fun d' => M.pure (.dat d') else M.pure (ofB false)
  | _ => fun _ => none
end
end Ov
set_option Elab.async false
set_option linter.all false
set_option maxRecDepth 100000
set_option maxHeartbeats 4000000
namespace Ov
open PySem L2
/-! operators by data -/
section
variable {K : PySem.W.Frag} {S : Addr → Prop} {H : Hp} {x y : V}
theorem vw_int {i : Int} (h : Vw K S H x (.int i)) : x = .int i := by have := h.da; cases this; rfl
theorem vw_bool {b : Bool} (h : Vw K S H x (.bool b)) : x = .bl b := by have := h.da; cases this; rfl
theorem vw_str {z : Str} (h : Vw K S H x (.str z)) : x = .str z := by have := h.da; cases this; rfl
theorem vw_none (h : Vw K S H x .none) : x = .non := by have := h.da; cases this; rfl
theorem vw_list {ds : List PyData} (h : Vw K S H x (.list ds)) : ∃ p vs, x = .ref p ∧ SqL K H p vs ∧ DaAll K (off S H) vs ds := by
  rcases h with h | ⟨p, vs, es, e1, e2, e3, e4⟩
  · cases h with | lst q t => exact ⟨_, _, rfl, rd_same (off_sub S H) q, t⟩
  · cases e2; exact ⟨p, vs, e1, .inl (.inl e3), e4⟩
theorem vw_tup {ds : List PyData} (h : Vw K S H x (.tuple ds)) : ∃ p vs, x = .ref p ∧ SqT K (off S H) p vs ∧ DaAll K (off S H) vs ds := by
  rcases h with h | ⟨p, vs, es, e1, e2, e3, e4⟩
  · cases h with | tup q t => exact ⟨_, _, rfl, q.sq, t⟩
  · cases e2
theorem vw_tupP {ds : List PyData} (h : Vw K S H x (.tuple ds)) : ∃ p vs, x = .ref p ∧ TP (off S H) p vs ∧ DaAll K (off S H) vs ds := by
  rcases h with h | ⟨p, vs, es, e1, e2, e3, e4⟩
  · cases h with | tup q t => exact ⟨_, _, rfl, q, t⟩
  · cases e2
end
def seqD : PyData → Option (List PyData)
  | .list ds => some ds
  | .tuple ds => some ds
  | _ => none
theorem vw_seq {K : PySem.W.Frag} {S : Addr → Prop} {H : Hp} {x : V} {d : PyData} {ds : List PyData} (h : Vw K S H x d) (e : seqD d = some ds) : ∃ p vs, x = .ref p ∧ (SqL K H p vs ∨ SqT K H p vs) ∧ DaAll K (off S H) vs ds := by
  cases d with
  | list es => cases e; obtain ⟨p, vs, e1, e2, e3⟩ := vw_list h; exact ⟨p, vs, e1, .inl (rd_sq e2), e3⟩
  | tuple es => cases e; obtain ⟨p, vs, e1, e2, e3⟩ := vw_tup h; exact ⟨p, vs, e1, .inr (seqT (off_sub S H) e2), e3⟩
  | none => cases e
  | bool _ => cases e
  | int _ => cases e
  | str _ => cases e
  | dict _ => cases e
theorem vw_seqP {K : PySem.W.Frag} {S : Addr → Prop} {H : Hp} {x : V} {d : PyData} {ds : List PyData} (h : Vw K S H x d) (e : seqD d = some ds) : ∃ p vs, x = .ref p ∧ (SqL K H p vs ∨ TP H p vs) ∧ DaAll K (off S H) vs ds := by
  cases d with
  | list es => cases e; obtain ⟨p, vs, e1, e2, e3⟩ := vw_list h; exact ⟨p, vs, e1, .inl (rd_sq e2), e3⟩
  | tuple es => cases e; obtain ⟨p, vs, e1, e2, e3⟩ := vw_tupP h; exact ⟨p, vs, e1, .inr e2.off, e3⟩
  | none => cases e
  | bool _ => cases e
  | int _ => cases e
  | str _ => cases e
  | dict _ => cases e
def iI (h : Int → Int → Int) (a b : PyData) : Option PyData :=
  match a, b with
  | .int i, .int j => some (.int (h i j))
  | _, _ => none
def iIc (p : Int → Int → Bool) (h : Int → Int → Int) (a b : PyData) : Option PyData :=
  match a, b with
  | .int i, .int j => if p i j = true then some (.int (h i j)) else none
  | _, _ => none
def iB (h : Int → Int → Bool) (a b : PyData) : Option PyData :=
  match a, b with
  | .int i, .int j => some (.bool (h i j))
  | _, _ => none
section
variable {K : PySem.W.Frag}
theorem iI_some {h : Int → Int → Int} {a b d : PyData} (e : iI h a b = some d) : ∃ i j, a = .int i ∧ b = .int j ∧ d = .int (h i j) := by
  unfold iI at e
  split at e
  · cases e; exact ⟨_, _, rfl, rfl, rfl⟩
  · cases e
theorem iB_some {h : Int → Int → Bool} {a b d : PyData} (e : iB h a b = some d) : ∃ i j, a = .int i ∧ b = .int j ∧ d = .bool (h i j) := by
  unfold iB at e
  split at e
  · cases e; exact ⟨_, _, rfl, rfl, rfl⟩
  · cases e
theorem iIc_some {p : Int → Int → Bool} {h : Int → Int → Int} {a b d : PyData} (e : iIc p h a b = some d) : ∃ i j, a = .int i ∧ b = .int j ∧ p i j = true ∧ d = .int (h i j) := by
  unfold iIc at e
  split at e
  · split at e
    · cases e; exact ⟨_, _, rfl, rfl, by assumption, rfl⟩
    · cases e
  · cases e
theorem okI {h : Int → Int → Int} : OpOk K (rI0 fun i j => .int (h i j)) (iI h) := by
  intro S H x y a b d hS wa wb e Q q
  obtain ⟨i, j, rfl, rfl, rfl⟩ := iI_some e
  exact ⟨i, j, vw_int wa, vw_int wb, q _ _ (same_refl _) (.int _)⟩
theorem okB {h : Int → Int → Bool} : OpOk K (rI0 fun i j => .bl (h i j)) (iB h) := by
  intro S H x y a b d hS wa wb e Q q
  obtain ⟨i, j, rfl, rfl, rfl⟩ := iB_some e
  exact ⟨i, j, vw_int wa, vw_int wb, q _ _ (same_refl _) (.bl _)⟩
theorem okC {C : Int → Int → Prop} {p : Int → Int → Bool} {h : Int → Int → Int} (hp : ∀ i j, p i j = true → C i j) : OpOk K (rI C fun i j => .int (h i j)) (iIc p h) := by
  intro S H x y a b d hS wa wb e Q q
  obtain ⟨i, j, rfl, rfl, hc, rfl⟩ := iIc_some e
  exact ⟨i, j, vw_int wa, vw_int wb, hp i j hc, q _ _ (same_refl _) (.int _)⟩
def addD := iI (· + ·)
def subD := iI (· - ·)
def pMul (i j : Int) : Bool := decide (-(2 ^ 64) < i ∧ i < 2 ^ 64) || decide (-(2 ^ 64) < j ∧ j < 2 ^ 64)
def pDiv (_ j : Int) : Bool := decide (0 < j ∧ j < 1073741824)
def pMod (_ j : Int) : Bool := decide (0 < j)
def pPow (i j : Int) : Bool := decide (0 ≤ j ∧ j ≤ 1000000 ∧ i.natAbs < 2 ^ 64)
def mulD := iIc pMul (· * ·)
def divD := iIc pDiv (· / ·)
def modD := iIc pMod (· % ·)
def powD := iIc pPow (fun i j => i ^ j.toNat)
def ltD := iB fun i j => decide (i < j)
def leD := iB fun i j => decide (i ≤ j)
def gtD := iB fun i j => decide (j < i)
def geD := iB fun i j => decide (j ≤ i)
theorem ok_add : OpOk K (rI0 fun i j => .int (i + j)) addD := okI
theorem ok_sub : OpOk K (rI0 fun i j => .int (i - j)) subD := okI
theorem ok_lt : OpOk K (rI0 fun i j => .bl (decide (i < j))) ltD := okB
theorem ok_gt : OpOk K (rI0 fun i j => .bl (decide (j < i))) gtD := okB
theorem ok_ge : OpOk K (rI0 fun i j => .bl (decide (j ≤ i))) geD := okB
theorem ok_mul : OpOk K (rI CMul fun i j => .int (i * j)) mulD := okC fun i j h => (Bool.or_eq_true_iff.mp h).imp of_decide_eq_true of_decide_eq_true
theorem ok_div : OpOk K (rI CDiv fun i j => .int (i / j)) divD := okC fun i j h => of_decide_eq_true h
theorem ok_mod : OpOk K (rI (fun _ j => 0 < j) fun i j => .int (i % j)) modD := okC fun i j h => of_decide_eq_true h
theorem ok_pow : OpOk K (rI CPow fun i j => .int (i ^ j.toNat)) powD := okC fun i j h => of_decide_eq_true h
def negD : PyData → Option PyData
  | .int i => some (.int (-i))
  | _ => none
theorem ok_neg : UnOk K (rU fun i => .int (-i)) negD := by
  intro S H x a d hS wa e Q q
  cases a with
  | int i => cases e; exact ⟨i, vw_int wa, q _ _ (same_refl _) (.int _)⟩
  | none => cases e
  | bool _ => cases e
  | str _ => cases e
  | list _ => cases e
  | tuple _ => cases e
  | dict _ => cases e
/-! == of atoms alike; of data -/
def eqA (n : Bool) (a b : PyData) : Option PyData :=
  match a, b with
  | .int i, .int j => some (.bool (n ^^ decide (i = j)))
  | .bool i, .bool j => some (.bool (n ^^ decide (i = j)))
  | .str i, .str j => some (.bool (n ^^ decide (i = j)))
  | .none, .none => some (.bool (n ^^ true))
  | _, _ => none
theorem eqA_some {n : Bool} {a b d : PyData} {S : Addr → Prop} {H : Hp} {x y : V} (wa : Vw K S H x a) (wb : Vw K S H y b) (e : eqA n a b = some d) : scal x y = true ∧ d = .bool (n ^^ decide (x = y)) := by
  unfold eqA at e
  split at e
  · rw [vw_int wa, vw_int wb]; cases e; exact ⟨rfl, by simp⟩
  · rw [vw_bool wa, vw_bool wb]; cases e; exact ⟨rfl, by simp⟩
  · rw [vw_str wa, vw_str wb]; cases e; exact ⟨rfl, by simp⟩
  · rw [vw_none wa, vw_none wb]; cases e; exact ⟨rfl, by simp⟩
  · cases e
theorem ok_eq : OpOk K rEq (eqA false) := by
  intro S H x y a b d hS wa wb e Q q
  obtain ⟨h1, rfl⟩ := eqA_some wa wb e
  exact ⟨h1, q _ _ (same_refl _) (by rw [Bool.false_xor]; exact .bl _)⟩
theorem ok_ne : OpOk K rNe (eqA true) := by
  intro S H x y a b d hS wa wb e Q q
  obtain ⟨h1, rfl⟩ := eqA_some wa wb e
  exact ⟨h1, q _ _ (same_refl _) (by rw [Bool.true_xor]; exact .bl _)⟩
def shp (d : PyData) : Bool := SeqAt.shaped d
def eqvD (n : Bool) (a b : PyData) : Option PyData := if shp a && shp b then some (.bool (n ^^ PyData.eqv a b)) else none
theorem ok_eqD : OpOk K (rEqD K) (eqvD false) := by
  intro S H x y a b d hS wa wb e Q q
  unfold eqvD at e
  split at e
  · rename_i h
    cases e
    rw [Bool.and_eq_true] at h
    exact ⟨a, b, Da.dp _ (shp_nd h.1) wa.da, Da.dp _ (shp_nd h.2) wb.da, h.1, h.2, q _ _ (same_refl _) (by rw [Bool.false_xor]; exact .bl _)⟩
  · cases e
theorem ok_neD : OpOk K (rNeD K) (eqvD true) := by
  intro S H x y a b d hS wa wb e Q q
  unfold eqvD at e
  split at e
  · rename_i h
    cases e
    rw [Bool.and_eq_true] at h
    exact ⟨a, b, Da.dp _ (shp_nd h.1) wa.da, Da.dp _ (shp_nd h.2) wb.da, h.1, h.2, q _ _ (same_refl _) (by rw [Bool.true_xor]; exact .bl _)⟩
  · cases e
/-! in -/
def inD (n : Bool) (a b : PyData) : Option PyData :=
  match b with
  | .list ds => if shp a && shp (.list ds) then some (.bool (n ^^ ds.any fun z => PyData.eqv z a)) else none
  | _ => none
theorem ok_notInD : OpOk K (rNotInD K) (inD true) := by
  intro S H x y a b d hS wa wb e Q q
  cases b with
  | list ds =>
    unfold inD at e
    simp only at e
    split at e
    · rename_i h
      cases e
      rw [Bool.and_eq_true] at h
      exact ⟨a, ds, Da.dp _ (shp_nd h.1) wa.da, Da.dp _ (shp_nd h.2) wb.da, h.1, h.2, q _ _ (same_refl _) (by rw [Bool.true_xor]; exact .bl _)⟩
    · cases e
  | none => cases e
  | bool _ => cases e
  | int _ => cases e
  | str _ => cases e
  | tuple _ => cases e
  | dict _ => cases e
def atomD : PyData → Bool
  | .none | .bool _ | .int _ | .str _ => true
  | _ => false
theorem atom_flat {H : Hp} {x : V} {a : PyData} (h : Da K H x a) (e : atomD a = true) : flatV x = true := by
  cases h with
  | non => rfl
  | bl _ => rfl
  | int _ => rfl
  | str _ => rfl
  | lst _ _ => cases e
  | tup _ _ => cases e
  | dct _ _ _ _ => cases e
  | dtk _ _ _ _ => cases e
theorem atom_eqv {H : Hp} {x y : V} {a b : PyData} (h : Da K H x a) (h' : Da K H y b) (e : atomD a = true) (e' : atomD b = true) : eqV x y = PyData.eqv a b := by
  cases h with
  | non => cases h' with
    | non => rfl
    | bl _ => rfl
    | int _ => rfl
    | str _ => rfl
    | lst _ _ => cases e'
    | tup _ _ => cases e'
    | dct _ _ _ _ => cases e'
    | dtk _ _ _ _ => cases e'
  | bl _ => cases h' with
    | non => rfl
    | bl _ => rfl
    | int _ => rfl
    | str _ => rfl
    | lst _ _ => cases e'
    | tup _ _ => cases e'
    | dct _ _ _ _ => cases e'
    | dtk _ _ _ _ => cases e'
  | int _ => cases h' with
    | non => rfl
    | bl _ => rfl
    | int _ => rfl
    | str _ => rfl
    | lst _ _ => cases e'
    | tup _ _ => cases e'
    | dct _ _ _ _ => cases e'
    | dtk _ _ _ _ => cases e'
  | str _ => cases h' with
    | non => rfl
    | bl _ => rfl
    | int _ => rfl
    | str _ => rfl
    | lst _ _ => cases e'
    | tup _ _ => cases e'
    | dct _ _ _ _ => cases e'
    | dtk _ _ _ _ => cases e'
  | lst _ _ => cases e
  | tup _ _ => cases e
  | dct _ _ _ _ => cases e
  | dtk _ _ _ _ => cases e
theorem atoms_flat {H : Hp} : ∀ {vs : List V} {ds : List PyData}, DaAll K H vs ds → ds.all atomD = true → vs.all flatV = true
  | _, _, .nil, _ => rfl
  | _, _, .cons h t, e => by
    rw [List.all_cons, Bool.and_eq_true] at e ⊢
    exact ⟨atom_flat h e.1, atoms_flat t e.2⟩
theorem atoms_in {H : Hp} {x : V} {a : PyData} (h : Da K H x a) (e : atomD a = true) : ∀ {vs : List V} {ds : List PyData}, DaAll K H vs ds → ds.all atomD = true → inV x vs = ds.any fun z => PyData.eqv z a
  | _, _, .nil, _ => rfl
  | _, _, .cons h' t, e' => by
    rw [List.all_cons, Bool.and_eq_true] at e'
    have ih := atoms_in h e t e'.2
    unfold inV at ih ⊢
    rw [List.any_cons, List.any_cons, ih, atom_eqv h' h e'.1 e]
def inF (n : Bool) (a b : PyData) : Option PyData :=
  match seqD b with
  | some ds => if atomD a && ds.all atomD then some (.bool (n ^^ ds.any fun z => PyData.eqv z a)) else none
  | none => none
theorem ok_inF {n : Bool} : OpOk K (rIn K n) (inF n) := by
  intro S H x y a b d hS wa wb e Q q
  unfold inF at e
  cases h : seqD b with
  | none => rw [h] at e; cases e
  | some ds =>
    rw [h] at e
    simp only at e
    split at e
    · rename_i h2
      cases e
      rw [Bool.and_eq_true] at h2
      obtain ⟨p, vs, rfl, e2, e3⟩ := vw_seq wb h
      have e4 := DaAll.same (off_sub S H) ds e3
      refine ⟨p, vs, rfl, e2, atom_flat wa.da h2.1, atoms_flat e3 h2.2, q _ _ (same_refl _) ?_⟩
      rw [atoms_in wa.da h2.1 e4 h2.2]
      cases n
      · rw [Bool.false_xor]; exact .bl _
      · rw [Bool.true_xor]; exact .bl _
    · cases e
/-! items -/
theorem atI_da {H : Hp} {vs : List V} {ds : List PyData} (h : DaAll K H vs ds) {i : Int} {d : PyData} (e : atI ds i = some d) : ∃ x, atI vs i = some x ∧ Da K H x d := by
  unfold atI at e ⊢
  rw [daAll_len h]
  cases q : ixN ds.length i with
  | none => rw [q] at e; cases e
  | some j =>
    rw [q] at e
    exact daAll_get h e
def ixD (a b : PyData) : Option PyData :=
  match seqD a, b with
  | some ds, .int i => atI ds i
  | _, _ => none
theorem ok_ix : OpOk K (rIx K) ixD := by
  intro S H x y a b d hS wa wb e Q q
  unfold ixD at e
  split at e
  · rename_i ds i h
    rw [vw_int wb]
    cases a with
    | list es =>
      cases h
      obtain ⟨p, vs, rfl, e2, e3⟩ := vw_list wa
      obtain ⟨z, e4, e5⟩ := atI_da e3 e
      exact .inl ⟨p, vs, i, z, rfl, rfl, rd_sq e2, e4, q _ _ (same_refl _) e5⟩
    | tuple es =>
      cases h
      obtain ⟨p, vs, rfl, e2, e3⟩ := vw_tup wa
      obtain ⟨z, e4, e5⟩ := atI_da e3 e
      exact .inr (.inl ⟨p, vs, i, z, rfl, rfl, seqT (off_sub S H) e2, e4, q _ _ (same_refl _) e5⟩)
    | none => cases h
    | bool _ => cases h
    | int _ => cases h
    | str _ => cases h
    | dict _ => cases h
  · cases e
/-! slices -/
def cutL {α : Type} (xs : List α) (lo hi : Option Int) : List α := (xs.drop (HT.sIx xs.length 0 lo)).take (HT.sIx xs.length xs.length hi - HT.sIx xs.length 0 lo)
theorem cut_da {H : Hp} {vs : List V} {ds : List PyData} (h : DaAll K H vs ds) (lo hi : Option Int) : DaAll K H (cutV vs lo hi) (cutL ds lo hi) := by
  unfold cutV cutL
  rw [daAll_len h]
  exact daAll_take (daAll_drop h _) _
def cutD (a : PyData) (lo hi : Option Int) : Option PyData :=
  match a with
  | .list ds => some (.list (cutL ds lo hi))
  | .tuple ds => some (.tuple (cutL ds lo hi))
  | _ => none
theorem off_new {H H' : Hp} {S : Addr → Prop} (s : Same H H') : Same (off S H) (off S H') := off_mono (fun b z n => absurd z n) fun b o n h => s b o h
theorem hS_later {H H' : Hp} {S : Addr → Prop} (hS : ∀ q, S q → ∃ o, H q = some o ∧ NT o) (s : Same H H') : ∀ q, S q → ∃ o, H' q = some o ∧ NT o := fun q z => by
  obtain ⟨o, e, n⟩ := hS q z
  exact ⟨o, s _ _ e, n⟩
theorem ok_cut {S : Addr → Prop} {H : Hp} {x : V} {a d : PyData} {lo hi : Option Int} (hS : ∀ q, S q → ∃ o, H q = some o ∧ NT o) (wa : Vw K S H x a) (e : cutD a lo hi = some d) {Q : VK} (q : ∀ v H', Same H H' → Da K (off S H') v d → Q v H') : rCut K x lo hi H Q := by
  cases a with
  | list ds =>
    cases e
    obtain ⟨p, vs, rfl, e2, e3⟩ := vw_list wa
    refine ⟨p, vs, rfl, .inl ⟨rd_sq e2, fun b H' s n h => q _ _ s ?_⟩⟩
    exact .lst (SqL.of ((off_ne fun z => by obtain ⟨o, e, _⟩ := hS b z; rw [n] at e; cases e).trans h)) (DaAll.same (off_new s) _ (cut_da e3 lo hi))
  | tuple ds =>
    cases e
    obtain ⟨p, vs, rfl, e2, e3⟩ := vw_tupP wa
    refine ⟨p, vs, rfl, .inr ⟨e2.off, fun b H' s h => q _ _ s ?_⟩⟩
    exact .tup (off_P (hS_later hS s) h) (DaAll.same (off_new s) _ (cut_da e3 lo hi))
  | none => cases e
  | bool _ => cases e
  | int _ => cases e
  | str _ => cases e
  | dict _ => cases e
end
def PostO (K : PySem.W.Frag) (E : XK) (B : Addr → Prop) (σ : St) (H : Hp) (l : List Addr) (rs : Rs (Option Int)) (Q : Option Int → Hp → Prop) : Prop :=
  match rs with
  | .ok b env' => ∀ H', Rep K B σ H' env' l → Fr l H H' → Q b H'
  | .ex C f d => Exn K E B H l C f d
structure OkP (K : PySem.W.Frag) (E : XK) (t : TO) (f : M (Option Int)) : Prop where
  run : ∀ {B : Addr → Prop} {σ : St} {H : Hp} {env : En} {l : List Addr} {rs : Rs (Option Int)}, Rep K B σ H env l → f env = some rs → ∀ {Q : Option Int → Hp → Prop}, PostO K E B σ H l rs Q → t σ H Q
section
variable {K : PySem.W.Frag} {E : XK}
theorem OkP.seq {α : Type} {ta : TO} {fa : M (Option Int)} {g : Option Int → M α} (oa : OkP K E ta fa) {B : Addr → Prop} {σ : St} {H : Hp} {env : En} {l : List Addr} {rs : Rs α} (r : Rep K B σ H env l) (h : (M.bind fa g) env = some rs) {Q : Option Int → Hp → Prop}
    (hx : ∀ C f d, rs = .ex C f d → Exn K E B H l C f d) (hq : ∀ a e H', g a e = some rs → Rep K B σ H' e l → Fr l H H' → Q a H') : ta σ H Q := by
  rcases bind_some h with ⟨a, e, h1, h2⟩ | ⟨C, f, d, h1, h2⟩
  · exact oa.run r h1 (fun H' r' fr => hq a e H' h2 r' fr)
  · exact oa.run r h1 (hx C f d h2)
def poN : M (Option Int) := M.pure none
def asI : R → Option Int
  | .dat (.int i) => some i
  | _ => none
theorem asI_some {a : R} {i : Int} (h : asI a = some i) : a = .dat (.int i) := by
  unfold asI at h
  split at h
  · cases h; rfl
  · cases h
def poS (fa : M R) : M (Option Int) := M.bind fa fun a => M.bind (lift (asI a)) fun i => M.pure (some i)
theorem OkP.none : OkP K E tNoPart poN := by
  refine ⟨?_⟩
  intro B σ H env l rs rp h Q post
  cases h
  exact post H rp (Fr.refl _ _)
theorem OkP.some {t : TE} {fa : M R} (oa : OkE K E t fa) : OkP K E (tPart t) (poS fa) := by
  refine ⟨?_⟩
  intro B σ H env l rs rp h Q post
  refine oa.seq rp h (fun C f d e => by subst e; exact post) fun a e v1 H1 h1 r1 f1 q1 => ?_
  obtain ⟨i, h2, h3⟩ := lift_step h1
  cases h3
  rw [asI_some h2] at q1
  cases q1
  exact ⟨_, rfl, post H1 r1 f1⟩
def slD (fa : M R) (fl fh : M (Option Int)) : M R := M.bind fa fun a => M.bind fl fun lo => M.bind fh fun hi => M.bind (vw a) fun x => M.bind (lift (cutD x lo hi)) fun d => M.pure (.dat d)
theorem OkE.sl {t : TE} {tl th : TO} {fa : M R} {fl fh : M (Option Int)} (oa : OkE K E t fa) (ol : OkP K E tl fl) (oh : OkP K E th fh) : OkE K E (tSl (rCut K) t tl th) (slD fa fl fh) := by
  refine ⟨?_⟩
  intro B σ H env l rs rp h Q post
  refine oa.seq rp h post.exn fun a e v1 H1 h1 r1 f1 q1 => ?_
  refine ol.seq r1 h1 (exn_later post.exn f1) fun lo e2 H2 h2 r2 f2 => ?_
  refine oh.seq r2 h2 (exn_later post.exn (f1.trans f2)) fun hi e3 H3 h3 r3 f3 => ?_
  obtain ⟨x, h4, w1⟩ := vw_step r3 (q1.mv (f2.trans f3).keep) h3
  obtain ⟨d, h5, h6⟩ := lift_step h4
  cases h6
  exact ok_cut r3.tl w1 h5 fun v H' s q => post v H' (r3.same s) (((f1.trans f2).trans f3).trans (Fr.of s)) q
end
/-! built-in calls -/
section
variable {X : Cx}
/-- xs + ys of lists that stand -/
def rCatL (K : PySem.W.Frag) : R2 := fun x y H Q => ∃ l b xs zs, x = .ref l ∧ y = .ref b ∧ SqL K H l xs ∧ SqL K H b zs ∧ xs.length + zs.length ≤ sizeLine ∧ ∀ p, H p = none → Q (.ref p) (upd H p (.lst (xs ++ zs)))
theorem op_catL : OpR X (binaryOp .Add) (rCatL X.K) := by
  intro pins s σ H x y v u Q I rx ry h
  obtain ⟨l, b, xs, zs, rfl, rfl, hH, hB, hz, q⟩ := h
  cases rx
  cases ry
  obtain ⟨its, r, e, z⟩ := I.list hH
  obtain ⟨its2, r2, e2, z2⟩ := I.list hB
  have hl := r.length
  have hl2 := r2.length
  obtain ⟨⟨cls, dd, data, sl⟩, ho, hc, n, hd⟩ := e.isList
  obtain ⟨⟨cls2, dd2, data2, sl2⟩, ho2, hc2, n2, hd2⟩ := e2.isList
  simp only at hc hd hc2 hd2
  subst hc hd hc2 hd2
  have ea : its.toArray ++ its2.toArray = (its ++ its2).toArray := by simp
  refine concat_meets ⟨_, ho, rfl⟩ ⟨_, ho2, rfl⟩ noFill_list_add seq_list_add PySem.F.slot_list_add PySem.F.entry_list_add (PySem.F.args_list_add_2 _ _) (PyProof.Rows.list_addW l b its.toArray its2.toArray n n2 dd dd2 sl sl2 (by rw [List.size_toArray, List.size_toArray]; omega)) ⟨ho, ho2, ?_⟩
  rw [ea]
  exact ⟨.ref _, _, I.lnew (t' := s.toks) (r.append r2) (by rw [List.length_append]; omega), rfl, q _ I.fresh⟩
end
section
variable {K : PySem.W.Frag}
def catD (a b : PyData) : Option PyData :=
  match a, b with
  | .list xs, .list ys => (sz (xs.length + ys.length)).map fun _ => .list (xs ++ ys)
  | _, _ => none
theorem ok_catL : OpOk K (rCatL K) catD := by
  intro S H x y a b d hS wa wb e Q q
  unfold catD at e
  split at e
  · obtain ⟨u, e1, e2⟩ := Option.map_eq_some_iff.mp e
    subst e2
    obtain ⟨p, vs, rfl, h2, h3⟩ := vw_list wa
    obtain ⟨p', vs', rfl, h2', h3'⟩ := vw_list wb
    refine ⟨p, p', vs, vs', rfl, rfl, h2, h2', by rw [daAll_len h3, daAll_len h3']; exact sz_ok e1, fun r hr => ?_⟩
    exact q _ _ (same_new hr _) (new_dp hS hr (daAll_append h3 h3')).1
  · cases e
def catT (a b : PyData) : Option PyData :=
  match a, b with
  | .tuple xs, .tuple ys => (sz (xs.length + ys.length)).map fun _ => .tuple (xs ++ ys)
  | _, _ => none
theorem ok_catT : OpOk K (rCatW K) catT := by
  intro S H x y a b d hS wa wb e Q q
  unfold catT at e
  split at e
  · obtain ⟨u, e1, e2⟩ := Option.map_eq_some_iff.mp e
    subst e2
    obtain ⟨p, vs, rfl, h2, h3⟩ := vw_tupP wa
    obtain ⟨p', vs', rfl, h2', h3'⟩ := vw_tupP wb
    refine ⟨p, p', vs, vs', rfl, rfl, h2.off, h2'.off, by rw [daAll_len h3, daAll_len h3']; exact sz_ok e1, fun r H' s hr => ?_⟩
    exact q _ _ s (.tup (off_P (hS_later hS s) hr) (DaAll.same (off_new s) _ (daAll_append h3 h3')))
  · cases e
def lenD (as : List PyData) : Option PyData :=
  match as with
  | [a] => (seqD a).map fun ds => .int ds.length
  | _ => none
theorem vwAll1 {S : Addr → Prop} {H : Hp} {xs : List V} {a : PyData} (h : VwAll K S H xs [a]) : ∃ x, xs = [x] ∧ Vw K S H x a := by
  cases h with | cons h t => cases t; exact ⟨_, rfl, h⟩
theorem vwAll2 {S : Addr → Prop} {H : Hp} {xs : List V} {a b : PyData} (h : VwAll K S H xs [a, b]) : ∃ x y, xs = [x, y] ∧ Vw K S H x a ∧ Vw K S H y b := by
  cases h with | cons h t => cases t with | cons h' t => cases t; exact ⟨_, _, rfl, h, h'⟩
theorem ok_len : CbOk K (fun xs H Q => ∃ p ys, xs = [.ref p] ∧ (SqL K H p ys ∨ SqT K H p ys) ∧ Q (.int ys.length) H) lenD := by
  intro S H xs as d hS w e Q q
  unfold lenD at e
  split at e
  · obtain ⟨ds, e1, e2⟩ := Option.map_eq_some_iff.mp e
    subst e2
    obtain ⟨x, rfl, wx⟩ := vwAll1 w
    obtain ⟨p, vs, rfl, h2, h3⟩ := vw_seq wx e1
    exact ⟨p, vs, rfl, h2, q _ _ (same_refl _) (by rw [daAll_len h3]; exact .int _)⟩
  · cases e
def tupleD (as : List PyData) : Option PyData :=
  match as with
  | [a] => (seqD a).map fun ds => .tuple ds
  | _ => none
theorem ok_tuple : CbOk K (rTupW K) tupleD := by
  intro S H xs as d hS w e Q q
  unfold tupleD at e
  split at e
  · obtain ⟨ds, e1, e2⟩ := Option.map_eq_some_iff.mp e
    subst e2
    obtain ⟨x, rfl, wx⟩ := vwAll1 w
    obtain ⟨p, vs, rfl, h2, h3⟩ := vw_seqP wx e1
    exact ⟨p, vs, rfl, h2, fun r H' s hr => q _ _ s (.tup (off_P (hS_later hS s) hr) (DaAll.same (off_new s) _ h3))⟩
  · cases e
def absD (as : List PyData) : Option PyData :=
  match as with
  | [.int i] => some (.int (if i < 0 then -i else i))
  | _ => none
theorem ok_abs : CbOk K (fun xs H Q => ∃ i, xs = [.int i] ∧ Q (.int (if i < 0 then -i else i)) H) absD := by
  intro S H xs as d hS w e Q q
  unfold absD at e
  split at e
  · cases e
    obtain ⟨x, rfl, wx⟩ := vwAll1 w
    exact ⟨_, by rw [vw_int wx], q _ _ (same_refl _) (.int _)⟩
  · cases e
def minD (as : List PyData) : Option PyData :=
  match as with
  | [.int i, .int j] => some (.int (if j < i then j else i))
  | _ => none
theorem ok_min : CbOk K (fun xs H Q => ∃ i j, xs = [.int i, .int j] ∧ Q (.int (if j < i then j else i)) H) minD := by
  intro S H xs as d hS w e Q q
  unfold minD at e
  split at e
  · cases e
    obtain ⟨x, y, rfl, wx, wy⟩ := vwAll2 w
    exact ⟨_, _, by rw [vw_int wx, vw_int wy], q _ _ (same_refl _) (.int _)⟩
  · cases e
def maxD (as : List PyData) : Option PyData :=
  match as with
  | [.int i, .int j] => some (.int (if j > i then j else i))
  | _ => none
theorem ok_max : CbOk K (fun xs H Q => ∃ i j, xs = [.int i, .int j] ∧ Q (.int (if j > i then j else i)) H) maxD := by
  intro S H xs as d hS w e Q q
  unfold maxD at e
  split at e
  · cases e
    obtain ⟨x, y, rfl, wx, wy⟩ := vwAll2 w
    exact ⟨_, _, by rw [vw_int wx, vw_int wy], q _ _ (same_refl _) (.int _)⟩
  · cases e
def intD (as : List PyData) : Option PyData :=
  match as with
  | [.int i] => some (.int i)
  | [.bool k] => some (.int (if k then 1 else 0))
  | _ => none
theorem ok_int : CbOk K (fun xs H Q => (∃ i, xs = [.int i] ∧ Q (.int i) H) ∨ ∃ k, xs = [.bl k] ∧ Q (.int (if k then 1 else 0)) H) intD := by
  intro S H xs as d hS w e Q q
  unfold intD at e
  split at e
  · cases e
    obtain ⟨x, rfl, wx⟩ := vwAll1 w
    exact .inl ⟨_, by rw [vw_int wx], q _ _ (same_refl _) (.int _)⟩
  · cases e
    obtain ⟨x, rfl, wx⟩ := vwAll1 w
    exact .inr ⟨_, by rw [vw_bool wx], q _ _ (same_refl _) (.int _)⟩
  · cases e
/-- a list of truth values -/
def boolsD : List PyData → Option (List Bool)
  | [] => some []
  | .bool b :: r => (boolsD r).map (b :: ·)
  | _ :: _ => none
theorem bools_da {H : Hp} : ∀ {vs : List V} {ds : List PyData} {bs : List Bool}, DaAll K H vs ds → boolsD ds = some bs → vs = bs.map V.bl
  | _, _, bs, .nil, e => by cases e; rfl
  | _, _, bs, .cons (d := .bool b) h t, e => by
    obtain ⟨q, e1, e2⟩ := Option.map_eq_some_iff.mp (show (boolsD _).map (b :: ·) = some bs from e)
    subst e2
    cases h
    rw [bools_da t e1]
    rfl
  | _, _, bs, .cons (d := .int b) h t, e => by cases e
  | _, _, bs, .cons (d := .none) h t, e => by cases e
  | _, _, bs, .cons (d := .str b) h t, e => by cases e
  | _, _, bs, .cons (d := .list b) h t, e => by cases e
  | _, _, bs, .cons (d := .tuple b) h t, e => by cases e
  | _, _, bs, .cons (d := .dict b) h t, e => by cases e
def intsD : List PyData → Option (List Int)
  | [] => some []
  | .int b :: r => (intsD r).map (b :: ·)
  | _ :: _ => none
theorem ints_da {H : Hp} : ∀ {vs : List V} {ds : List PyData} {bs : List Int}, DaAll K H vs ds → intsD ds = some bs → vs = bs.map V.int
  | _, _, bs, .nil, e => by cases e; rfl
  | _, _, bs, .cons (d := .int b) h t, e => by
    obtain ⟨q, e1, e2⟩ := Option.map_eq_some_iff.mp (show (intsD _).map (b :: ·) = some bs from e)
    subst e2
    cases h
    rw [ints_da t e1]
    rfl
  | _, _, bs, .cons (d := .bool b) h t, e => by cases e
  | _, _, bs, .cons (d := .none) h t, e => by cases e
  | _, _, bs, .cons (d := .str b) h t, e => by cases e
  | _, _, bs, .cons (d := .list b) h t, e => by cases e
  | _, _, bs, .cons (d := .tuple b) h t, e => by cases e
  | _, _, bs, .cons (d := .dict b) h t, e => by cases e
theorem intsD_map (ns : List Int) : intsD (ns.map PyData.int) = some ns := by
  induction ns with
  | nil => rfl
  | cons n r ih => show (intsD (r.map PyData.int)).map (n :: ·) = _; rw [ih]; rfl
theorem da_ints {H : Hp} : ∀ ns : List Int, DaAll K H (ns.map V.int) (ns.map PyData.int)
  | [] => .nil
  | n :: r => .cons (.int n) (da_ints r)
def allD (as : List PyData) : Option PyData :=
  match as with
  | [.list ds] => (boolsD ds).map fun bs => .bool (bs.all id)
  | _ => none
theorem ok_all : CbOk K (rAll K) allD := by
  intro S H xs as d hS w e Q q
  unfold allD at e
  split at e
  · obtain ⟨bs, e1, e2⟩ := Option.map_eq_some_iff.mp e
    subst e2
    obtain ⟨x, rfl, wx⟩ := vwAll1 w
    obtain ⟨p, vs, rfl, h2, h3⟩ := vw_list wx
    rw [bools_da h3 e1] at h2
    exact ⟨p, bs, rfl, rd_sq h2, q _ _ (same_refl _) (.bl _)⟩
  · cases e
/-- numbers in order -/
def sortI (ns : List Int) : List Int := ns.mergeSort (fun a b => decide (a ≤ b))
theorem sort_uniq {a b : List Int} (p : a.Perm b) (ha : a.Pairwise (· ≤ ·)) (hb : b.Pairwise (· ≤ ·)) : a = b := p.eq_of_pairwise (fun x y _ _ h1 h2 => Int.le_antisymm h1 h2) ha hb
theorem sortI_perm (ns : List Int) : (sortI ns).Perm ns := List.mergeSort_perm ..
theorem sortI_pw (ns : List Int) : (sortI ns).Pairwise (· ≤ ·) := by
  have h := List.pairwise_mergeSort (le := fun a b : Int => decide (a ≤ b)) (fun a b c h1 h2 => decide_eq_true (Int.le_trans (of_decide_eq_true h1) (of_decide_eq_true h2))) (fun a b => by
    rw [Bool.or_eq_true]
    exact (Int.le_total a b).imp decide_eq_true decide_eq_true) ns
  exact h.imp fun z => of_decide_eq_true z
def sortD (as : List PyData) : Option PyData :=
  match as with
  | [a] => (seqD a).bind fun ds => (intsD ds).map fun ns => .list ((sortI ns).map .int)
  | _ => none
theorem ok_sort : CbOk K (rSrtW K) sortD := by
  intro S H xs as d hS w e Q q
  unfold sortD at e
  split at e
  · obtain ⟨ds, e1, e2⟩ := Option.bind_eq_some_iff.mp e
    obtain ⟨ns, e3, e4⟩ := Option.map_eq_some_iff.mp e2
    subst e4
    obtain ⟨x, rfl, wx⟩ := vwAll1 w
    obtain ⟨p, vs, rfl, h2, h3⟩ := vw_seq wx e1
    rw [ints_da h3 e3] at h2
    refine ⟨p, ns, rfl, h2, fun ns' r H' pm pw n s hr => q _ _ s ?_⟩
    have : ns' = sortI ns := sort_uniq (pm.trans (sortI_perm ns).symm) pw (sortI_pw ns)
    subst this
    exact .lst (SqL.of ((off_ne fun z => by obtain ⟨o, e, _⟩ := hS r z; rw [n] at e; cases e).trans hr)) (da_ints _)
  · cases e
end
end Ov
set_option Elab.async false
set_option linter.all false
set_option maxRecDepth 100000
set_option maxHeartbeats 4000000
namespace Ov
open PySem L2
/-! values that may be owned, statements -/
structure Fr2 (l : List Addr) (H : Hp) (l' : List Addr) (H' : Hp) : Prop where
  fr : Fr l H H'
  sub : ∀ b ∈ l', b ∈ l ∨ H b = none
theorem Fr2.refl (l : List Addr) (H : Hp) : Fr2 l H l H := ⟨Fr.refl _ _, fun _ z => .inl z⟩
theorem Fr2.of {l : List Addr} {H H' : Hp} (f : Fr l H H') : Fr2 l H l H' := ⟨f, fun _ z => .inl z⟩
theorem Fr2.trans {l l1 l2 : List Addr} {H H1 H2 : Hp} (a : Fr2 l H l1 H1) (b : Fr2 l1 H1 l2 H2) : Fr2 l H l2 H2 := by
  refine ⟨fun c o n h => b.fr c o (fun z => ?_) (a.fr c o n h), fun c z => ?_⟩
  · rcases a.sub c z with z | z
    · exact n z
    · rw [h] at z; cases z
  · rcases b.sub c z with z | z
    · exact a.sub c z
    · by_cases m : c ∈ l
      · exact .inl m
      · cases q : H c with
        | none => exact .inr rfl
        | some o => rw [a.fr c o m q] at z; cases z
section
variable {K : PySem.W.Frag} {E : XK}
theorem Exn.later2 {B : Addr → Prop} {H H1 : Hp} {l l1 : List Addr} {C : Addr} {f : Str} {d : PyData} (x : Exn K E B H l C f d) (s : Fr2 l H l1 H1) : Exn K E B H1 l1 C f d :=
  ⟨fun hf dx H' v fr n h q => x.1 hf dx H' v (s.trans (Fr2.of fr)).fr n h q, fun hf H' fr => x.2 hf H' (s.trans (Fr2.of fr)).fr⟩
def PostW (K : PySem.W.Frag) (E : XK) (B : Addr → Prop) (σ : St) (H : Hp) (l : List Addr) (rs : Rs Wv) (Q : VK) : Prop :=
  match rs with
  | .ok w env' => ∀ v H' lw, Rep K (un B lw) σ H' env' l → Fr l H H' → RpW K H' (off (un (un B lw) l) H') v w lw → lw.Nodup → (∀ b ∈ lw, H b = none) → Q v H'
  | .ex C f d => Exn K E B H l C f d
structure OkW (K : PySem.W.Frag) (E : XK) (t : TE) (f : M Wv) : Prop where
  run : ∀ {B : Addr → Prop} {σ : St} {H : Hp} {env : En} {l : List Addr} {rs : Rs Wv}, Rep K B σ H env l → f env = some rs → ∀ {Q : VK}, PostW K E B σ H l rs Q → t σ H Q
theorem PostW.exn {B : Addr → Prop} {σ : St} {H : Hp} {l : List Addr} {rs : Rs Wv} {Q : VK} (h : PostW K E B σ H l rs Q) : ∀ C f d, rs = .ex C f d → Exn K E B H l C f d := fun C f d e => by subst e; exact h
theorem OkW.seq {α : Type} {ta : TE} {fa : M Wv} {g : Wv → M α} (oa : OkW K E ta fa) {B : Addr → Prop} {σ : St} {H : Hp} {env : En} {l : List Addr} {rs : Rs α} (r : Rep K B σ H env l) (h : (M.bind fa g) env = some rs) {Q : VK}
    (hx : ∀ C f d, rs = .ex C f d → Exn K E B H l C f d) (hq : ∀ a e v H' lw, g a e = some rs → Rep K (un B lw) σ H' e l → Fr l H H' → RpW K H' (off (un (un B lw) l) H') v a lw → lw.Nodup → (∀ b ∈ lw, H b = none) → Q v H') : ta σ H Q := by
  rcases bind_some h with ⟨a, e, h1, h2⟩ | ⟨C, f, d, h1, h2⟩
  · exact oa.run r h1 (fun v H' lw r' fr q n1 n2 => hq a e v H' lw h2 r' fr q n1 n2)
  · exact oa.run r h1 (hx C f d h2)
theorem un_nil (B : Addr → Prop) : un B [] = B := by
  funext b
  exact propext ⟨fun z => z.elim id (fun z => by cases z), .inl⟩
theorem un_app (B : Addr → Prop) (a b : List Addr) : un (un B a) b = un B (a ++ b) := by
  funext c
  exact propext ⟨fun z => z.elim (fun z => z.imp id (List.mem_append_left _)) fun z => .inr (List.mem_append_right _ z), fun z => z.elim (fun z => .inl (.inl z)) fun z => (List.mem_append.mp z).elim (fun z => .inl (.inr z)) .inr⟩
def toW : R → Option Wv
  | .dat d => some (.dat d)
  | .exc C f d => some (.exc C f d)
  | .slot _ => none
/-- a value that is no list of one's own -/
def pl (f : M R) : M Wv := M.bind f fun r => lift (toW r)
theorem OkE.w {t : TE} {f : M R} (o : OkE K E t f) : OkW K E t (pl f) := by
  refine ⟨?_⟩
  intro B σ H env l rs rp h Q post
  refine o.seq rp h post.exn fun a e v H' h1 r1 f1 q1 => ?_
  obtain ⟨w, h2, h3⟩ := lift_some h1
  subst h3
  refine post v H' [] (by rw [un_nil]; exact r1) f1 ?_ List.nodup_nil (fun _ z => by cases z)
  rw [un_nil]
  cases a with
  | dat d => cases h2; exact ⟨rfl, q1⟩
  | slot i => cases h2
  | exc C f d => cases h2; exact ⟨rfl, q1⟩
/-- a list of one's own as data from here on -/
def itD : It1 → PyData
  | .dat d => d
  | .own ds => .list ds
def ofW : Wv → Option R
  | .dat d => some (.dat d)
  | .own xs => some (.dat (.list (xs.map itD)))
  | .exc C f d => some (.exc C f d)
  | .dct _ => none
  | .dci kvs => some (.dat (dcD kvs))
  | .dts _ => none
  | .pin _ _ => none
  | .dtn _ => none
  | .nd _ => none
  | .dtk [] => none
  | .dtk (z :: r) => some (.dat (dkD (z :: r)))
theorem rp1_free {H G G' : Hp} {v : V} {x : It1} {l : List Addr} (s : Same G G') (k : ∀ b ∈ l, ∀ us, H b = some (.lst us) → G' b = some (.lst us)) (h : Rp1 K H G v x l) : Da K G' v (itD x) := by
  cases x with
  | dat d => exact Da.same s d h.2
  | own ds =>
    obtain ⟨q, us, rfl, rfl, e3, e4⟩ := h
    exact .lst (SqL.of (k q (List.mem_cons_self ..) us e3)) (DaAll.same s ds e4)
theorem rp1s_free {H G G' : Hp} (s : Same G G') : ∀ {vs : List V} {xs : List It1} {l : List Addr}, (∀ b ∈ l, ∀ us, H b = some (.lst us) → G' b = some (.lst us)) → Rp1s K H G vs xs l → DaAll K G' vs (xs.map itD)
  | [], [], l, _, h => .nil
  | v :: vs, x :: xs, l, k, ⟨a, b, e, h1, h2⟩ => .cons (rp1_free s (fun c z => k c (by rw [e]; exact List.mem_append_left _ z)) h1) (rp1s_free s (fun c z => k c (by rw [e]; exact List.mem_append_right _ z)) h2)
  | [], _ :: _, _, _, h => h.elim
  | _ :: _, [], _, _, h => h.elim
theorem rpW_free {H G G' : Hp} {σ : St} {v : V} {w : Wv} {r : R} {l : List Addr} (hr : ofW w = some r) (s : Same G G') (k : ∀ b ∈ l, ∀ us, H b = some us → G' b = some us) (h : RpW K H G v w l) : RpR K G' σ v r := by
  cases w with
  | dct ks => cases hr
  | dci kvs =>
    cases hr
    obtain ⟨p, rfl, rfl, e3⟩ := h
    exact .dctI kvs rfl (k p (List.mem_cons_self ..) _ e3)
  | dts ks => cases hr
  | pin _ _ => cases hr
  | dtn _ => cases hr
  | nd _ => cases hr
  | dtk kvs =>
    cases kvs with
    | nil => cases hr
    | cons z r =>
      cases hr
      obtain ⟨p, rfl, rfl, e3⟩ := h
      exact .dtk (z :: r) (by simp) rfl (k p (List.mem_cons_self ..) _ e3)
  | dat d => cases hr; exact Da.same s d h.2
  | own xs =>
    cases hr
    obtain ⟨p, vs, b, rfl, rfl, e3, e4⟩ := h
    exact .lst (SqL.of (k p (List.mem_cons_self ..) _ e3)) (rp1s_free s (fun c z us => k c (List.mem_cons_of_mem _ z) (.lst us)) e4)
  | exc C f d =>
    cases hr
    obtain ⟨_, a, u, e1, e2, e3⟩ := h
    exact ⟨a, u, e1, e2.same s, fun z => Da.same s d (e3 z)⟩
def fz (f : M Wv) : M R := M.bind f fun w => lift (ofW w)
theorem OkW.e {t : TE} {f : M Wv} (o : OkW K E t f) : OkE K E t (fz f) := by
  refine ⟨?_⟩
  intro B σ H env l rs rp h Q post
  refine o.seq rp h post.exn fun a e v H' lw h1 r1 f1 q1 nd fr => ?_
  obtain ⟨r, h2, h3⟩ := lift_some h1
  subst h3
  refine post v H' (r1.less fun _ z => .inl z) f1 (rpW_free h2 (off_mono (fun b z n => absurd (z.elim (fun z => .inl (.inl z)) .inr) n) fun b o n e => e) (fun b z us e => ?_) q1)
  refine (off_ne fun y => ?_).trans e
  exact rp.fresh (fr b z) y
inductive Fl where
  | nx | bk | ct
  | rt (w : Wv)
def PostS (K : PySem.W.Frag) (E : XK) (bx : Bool) (B : Addr → Prop) (σ : St) (H : Hp) (l : List Addr) (rs : Rs Fl) (D : Ends) : Prop :=
  match rs with
  | .ok .nx env' => ∀ σ' H' l', Rep K B σ' H' env' l' → Fr2 l H l' H' → (bx = true → σ'[0]? = σ[0]?) → D.nx σ' H'
  | .ok .bk env' => ∀ σ' H' l', Rep K B σ' H' env' l' → Fr2 l H l' H' → (bx = true → σ'[0]? = σ[0]?) → D.bk σ' H'
  | .ok .ct env' => ∀ σ' H' l', Rep K B σ' H' env' l' → Fr2 l H l' H' → (bx = true → σ'[0]? = σ[0]?) → D.ct σ' H'
  | .ok (.rt w) env' => ∀ v σ' H' l' lw, Rep K (un B lw) σ' H' env' l' → Fr2 l H (l' ++ lw) H' → (bx = true → σ'[0]? = σ[0]?) → RpW K H' (off (un (un B lw) l') H') v w lw → lw.Nodup → (∀ b ∈ lw, b ∉ l' ∧ ¬ B b) → D.rt v H'
  | .ex C f d => Exn K E B H l C f d
structure OkS (K : PySem.W.Frag) (E : XK) (bx : Bool) (t : TS) (f : M Fl) : Prop where
  run : ∀ {B : Addr → Prop} {σ : St} {H : Hp} {env : En} {l : List Addr} {rs : Rs Fl}, Rep K B σ H env l → f env = some rs → ∀ {D : Ends}, PostS K E bx B σ H l rs D → t D σ H
variable {bx : Bool}
theorem PostS.exn {B : Addr → Prop} {σ : St} {H : Hp} {l : List Addr} {rs : Rs Fl} {D : Ends} (h : PostS K E bx B σ H l rs D) : ∀ C f d, rs = .ex C f d → Exn K E B H l C f d := fun C f d e => by subst e; exact h
theorem PostS.later {B : Addr → Prop} {σ σ1 : St} {H H1 : Hp} {l l1 : List Addr} {rs : Rs Fl} {D : Ends} (h : PostS K E bx B σ H l rs D) (s : Fr2 l H l1 H1) (e0 : bx = true → σ1[0]? = σ[0]?) : PostS K E bx B σ1 H1 l1 rs D := by
  cases rs with
  | ex C f d => exact Exn.later2 h s
  | ok fl env =>
    cases fl with
    | nx => exact fun σ' H' l' r f b => h σ' H' l' r (s.trans f) fun z => (b z).trans (e0 z)
    | bk => exact fun σ' H' l' r f b => h σ' H' l' r (s.trans f) fun z => (b z).trans (e0 z)
    | ct => exact fun σ' H' l' r f b => h σ' H' l' r (s.trans f) fun z => (b z).trans (e0 z)
    | rt w => exact fun v σ' H' l' lw r f b => h v σ' H' l' lw r (s.trans f) fun z => (b z).trans (e0 z)
def nxt : M Fl := M.pure .nx
theorem OkS.nil : OkS K E bx tNext nxt := by
  refine ⟨?_⟩
  intro B σ H env l rs rp h D post
  cases h
  exact post σ H l rp (Fr2.refl _ _) fun _ => rfl
def thenS (f g : M Fl) : M Fl := M.bind f fun fl => match fl with
  | .nx => g
  | o => M.pure o
theorem OkS.cut {t u : TS} {f g : M Fl} (o : OkS K E bx t f) (o' : OkS K E bx u g) : OkS K E bx (Evl.tCut t u) (thenS f g) := by
  refine ⟨?_⟩
  intro B σ H env l rs rp h D post
  rcases bind_some h with ⟨fl, e, h1, h2⟩ | ⟨C, g', d, h1, h2⟩
  · cases fl with
    | nx => exact ⟨fun σ' H' => ∃ l', Rep K B σ' H' e l' ∧ Fr2 l H l' H' ∧ (bx = true → σ'[0]? = σ[0]?), o.run rp h1 (fun σ' H' l' r f b => ⟨l', r, f, b⟩), fun σ' H' ⟨l', r, f, b⟩ => o'.run r h2 (post.later f b)⟩
    | bk => cases h2; exact ⟨fun _ _ => False, o.run rp h1 post, fun _ _ z => z.elim⟩
    | ct => cases h2; exact ⟨fun _ _ => False, o.run rp h1 post, fun _ _ z => z.elim⟩
    | rt w => cases h2; exact ⟨fun _ _ => False, o.run rp h1 post, fun _ _ z => z.elim⟩
  · subst h2; exact ⟨fun _ _ => False, o.run rp h1 post, fun _ _ z => z.elim⟩
def exprS (f : M R) : M Fl := M.bind f fun _ => M.pure .nx
theorem OkS.expr {t : TE} {f : M R} (o : OkE K E t f) : OkS K E bx (tDrop t) (exprS f) := by
  refine ⟨?_⟩
  intro B σ H env l rs rp h D post
  refine o.seq rp h post.exn fun a e v H' h1 r1 f1 q1 => ?_
  cases h1
  exact post σ H' l r1 (Fr2.of f1) fun _ => rfl
def retS (f : M Wv) : M Fl := M.bind f fun w => M.pure (.rt w)
theorem OkS.ret {t : TE} {f : M Wv} (o : OkW K E t f) : OkS K E bx (tRet t) (retS f) := by
  refine ⟨?_⟩
  intro B σ H env l rs rp h D post
  refine o.seq rp h post.exn fun a e v H' lw h1 r1 f1 q1 nd fr => ?_
  cases h1
  exact post v σ H' l lw r1 ⟨f1, fun b z => (List.mem_append.mp z).imp id (fr b)⟩ (fun _ => rfl) q1 nd fun b z => ⟨fun y => rp.fresh (fr b z) (.inr y), fun y => rp.fresh (fr b z) (.inl y)⟩
def retN : M Fl := M.pure (.rt (.dat .none))
/-- the list of slot i leaves -/
def moveS (i : Nat) : M Fl := fun env =>
  match env[i]? with
  | some (some (.own xs)) => some (.ok (.rt (.own xs)) (env.set i none))
  | _ => none
theorem OkS.move (i : Nat) : OkS K E bx (tRet (tVar i)) (moveS i) := by
  refine ⟨?_⟩
  intro B σ H env l rs rp h D post
  unfold moveS at h
  split at h
  · rename_i xs hx
    cases h
    obtain ⟨s, a, lx, ly, q1, q2, ⟨v, q3, q4⟩, q5⟩ := rp.rp.focus hx
    subst q3
    have ev : un (un B a) (lx ++ ([] ++ ly)) = un B l := by
      rw [un_app, q2]
      funext b
      refine propext ⟨fun z => z.imp id fun z => ?_, fun z => z.imp id fun z => ?_⟩
      · rcases List.mem_append.mp z with z | z
        · exact List.mem_append_right _ (List.mem_append_left _ z)
        · rcases List.mem_append.mp z with z | z
          · exact List.mem_append_left _ z
          · exact List.mem_append_right _ (List.mem_append_right _ (by simpa using z))
      · rcases List.mem_append.mp z with z | z
        · exact List.mem_append_right _ (List.mem_append_left _ z)
        · rcases List.mem_append.mp z with z | z
          · exact List.mem_append_left _ z
          · exact List.mem_append_right _ (List.mem_append_right _ (by simpa using z))
    have nd := rp.nd
    rw [q2] at nd
    obtain ⟨n1, n2, n3⟩ := List.nodup_append.mp nd
    obtain ⟨n4, n5, n6⟩ := List.nodup_append.mp n2
    have e : σ.set i (some v) = σ := by
      apply List.ext_getElem?
      intro j
      by_cases z : i = j
      · subst z; rw [List.getElem?_set_self (List.getElem?_eq_some_iff.mp q1).1, q1]
      · rw [List.getElem?_set_ne z]
    have r' : Rep K (un B a) σ H (env.set i none) (lx ++ ([] ++ ly)) := by
      refine ⟨?_, ?_, ?_, ?_⟩
      · rw [ev]
        have := q5 (H' := H) (G' := off (un B l) H) (s' := some v) (e' := none) (a' := []) (fun _ _ z => z) (fun _ _ => rfl) (fun _ _ => rfl) rfl
        rw [e] at this
        exact this
      · rw [List.nil_append]
        exact List.nodup_append.mpr ⟨n1, n5, fun x hx y hy => n3 x hx y (List.mem_append_right _ hy)⟩
      · intro b z y
        rw [List.nil_append] at z
        rcases y with y | y
        · refine rp.out b ?_ y
          rw [q2]
          exact (List.mem_append.mp z).elim (List.mem_append_left _) fun z => List.mem_append_right _ (List.mem_append_right _ z)
        · rcases List.mem_append.mp z with z | z
          · exact n3 b z b (List.mem_append_left _ y) rfl
          · exact n6 b y b z rfl
      · intro b z
        refine rp.tl b (z.imp id fun z => ?_)
        rw [q2]
        exact List.mem_append_right _ (List.mem_append_left _ z)
    refine ⟨v, q1, post v σ H (lx ++ ([] ++ ly)) a r' ⟨Fr.refl _ _, fun b z => .inl ?_⟩ (fun _ => rfl) (by rw [ev]; exact q4) n4 fun b z => ⟨fun y => ?_, fun y => ?_⟩⟩
    · rw [q2]
      rcases List.mem_append.mp z with z | z
      · rw [List.nil_append] at z
        exact (List.mem_append.mp z).elim (List.mem_append_left _) fun z => List.mem_append_right _ (List.mem_append_right _ z)
      · exact List.mem_append_right _ (List.mem_append_left _ z)
    · rw [List.nil_append] at y
      rcases List.mem_append.mp y with y | y
      · exact n3 b y b (List.mem_append_left _ z) rfl
      · exact n6 b z b y rfl
    · exact rp.out b (by rw [q2]; exact List.mem_append_right _ (List.mem_append_left _ z)) y
  · cases h
def ifS (c : M Bool) (f g : M Fl) : M Fl := M.bind c fun b => if b = true then f else g
theorem OkS.ife {c : TT} {t u : TS} {fc : M Bool} {f g : M Fl} (oc : OkT K E c fc) (o : OkS K E bx t f) (o' : OkS K E bx u g) : OkS K E bx (tIfS c t u) (ifS fc f g) := by
  refine ⟨?_⟩
  intro B σ H env l rs rp h D post
  refine oc.seq rp h post.exn fun b e H1 h1 r1 f1 => ?_
  cases b with
  | true => exact iteT (o.run r1 (by simpa using h1) (post.later (Fr2.of f1) fun _ => rfl))
  | false => exact iteF (o'.run r1 (by simpa using h1) (post.later (Fr2.of f1) fun _ => rfl))
/-! stores to names -/
theorem Rep.put {B : Addr → Prop} {σ : St} {H : Hp} {env : En} {l lw : List Addr} {i : Nat} {v : V} {w : Wv} (r : Rep K (un B lw) σ H env l) (hi : i < env.length) (h : RpW K H (off (un (un B lw) l) H) v w lw) (nd : lw.Nodup) (hw : ∀ b ∈ lw, b ∉ l ∧ ¬ B b) :
    ∃ l', Rep K B (σ.set i (some v)) H (env.set i (some w)) l' ∧ ∀ b ∈ l', b ∈ l ∨ b ∈ lw := by
  obtain ⟨s, a, lx, ly, q1, q2, q3, q5⟩ := r.rp.focus (List.getElem?_eq_getElem hi)
  have nd0 := r.nd
  rw [q2] at nd0
  obtain ⟨n1, n2, n3⟩ := List.nodup_append.mp nd0
  obtain ⟨n4, n5, n6⟩ := List.nodup_append.mp n2
  have mem : ∀ b ∈ lx ++ (lw ++ ly), b ∈ l ∨ b ∈ lw := fun b z => by
    rw [q2]
    rcases List.mem_append.mp z with z | z
    · exact .inl (List.mem_append_left _ z)
    · rcases List.mem_append.mp z with z | z
      · exact .inr z
      · exact .inl (List.mem_append_right _ (List.mem_append_right _ z))
  have sub : Same (off (un (un B lw) l) H) (off (un B (lx ++ (lw ++ ly))) H) := off_mono (fun b z n => absurd (z.elim (fun z => .inl (.inl z)) fun z => (mem b z).elim .inr fun z => .inl (.inr z)) n) fun b o n e => e
  refine ⟨lx ++ (lw ++ ly), ⟨q5 sub (fun _ _ => rfl) (fun _ _ => rfl) ⟨v, rfl, h.mv sub fun _ _ => rfl⟩, ?_, ?_, fun b z => r.tb b (.inl z)⟩, mem⟩
  · have inl : ∀ b ∈ ly, b ∈ l := fun b z => by rw [q2]; exact List.mem_append_right _ (List.mem_append_right _ z)
    have inx : ∀ b ∈ lx, b ∈ l := fun b z => by rw [q2]; exact List.mem_append_left _ z
    refine List.nodup_append.mpr ⟨n1, List.nodup_append.mpr ⟨nd, n5, fun x hx y hy e => (hw x hx).1 (by rw [e]; exact inl y hy)⟩, fun x hx y hy e => ?_⟩
    rcases List.mem_append.mp hy with z | z
    · exact (hw y z).1 (by rw [← e]; exact inx x hx)
    · exact n3 x hx y (List.mem_append_right _ z) e
  · intro b z y
    rcases mem b z with z | z
    · exact r.out b z (.inl y)
    · exact (hw b z).2 y
def putM (i : Nat) (w : Wv) : M Unit := fun env => if i < env.length then some (.ok () (env.set i (some w))) else none
theorem putM_some {i : Nat} {w : Wv} {env : En} {rs : Rs Unit} (h : putM i w env = some rs) : i < env.length ∧ rs = .ok () (env.set i (some w)) := by
  unfold putM at h
  split at h
  · cases h; exact ⟨by assumption, rfl⟩
  · cases h
def setS (i : Nat) (f : M Wv) : M Fl := M.bind f fun w => M.bind (putM i w) fun _ => M.pure .nx
theorem putM_step {α : Type} {i : Nat} {w : Wv} {g : Unit → M α} {env : En} {rs : Rs α} (h : (M.bind (putM i w) g) env = some rs) : i < env.length ∧ g () (env.set i (some w)) = some rs := by
  rcases bind_some h with ⟨a, e, h1, h2⟩ | ⟨C, f, d, h1, h2⟩
  · obtain ⟨z, e1⟩ := putM_some h1
    cases e1
    exact ⟨z, h2⟩
  · obtain ⟨z, e1⟩ := putM_some h1
    cases e1
theorem OkS.set {i : Nat} {t : TE} {f : M Wv} (hb : bx = true → i ≠ 0) (o : OkW K E t f) : OkS K E bx (tAsg t (gName i)) (setS i f) := by
  refine ⟨?_⟩
  intro B σ H env l rs rp h D post
  refine o.seq rp h post.exn fun w e v H' lw h1 r1 f1 q1 nd fr => ?_
  obtain ⟨hi, h2⟩ := putM_step h1
  cases h2
  obtain ⟨l', r', m⟩ := r1.put hi q1 nd fun b z => ⟨fun y => rp.fresh (fr b z) (.inr y), fun y => rp.fresh (fr b z) (.inl y)⟩
  exact post _ H' l' r' ⟨f1, fun b z => (m b z).imp id (fr b)⟩ fun z => List.getElem?_set_ne (hb z)
end
end Ov
set_option Elab.async false
set_option linter.all false
set_option maxRecDepth 100000
set_option maxHeartbeats 4000000
namespace Ov
open PySem L2
/-! targets -/
def isOwn : Option (Option Wv) → Bool
  | some (some (.own _)) => true
  | some (some (.dct _)) => true
  | some (some (.dci _)) => true
  | some (some (.dtk _)) => true
  | some (some (.dts _)) => true
  | some (some (.dtn _)) => true
  | _ => false
def free (env : En) (js : List Nat) : Prop := ∀ j ∈ js, isOwn env[j]? = false
section
variable {K : PySem.W.Frag} {E : XK} {bx : Bool}
structure OkG (K : PySem.W.Frag) (g : TG) (js : List Nat) (p : PyData → En → Option En) : Prop where
  run : ∀ {B : Addr → Prop} {σ : St} {H : Hp} {env env' : En} {l : List Addr} {v : V} {d : PyData}, Rep K B σ H env l → Da K (off (un B l) H) v d → p d env = some env' → ∀ {Q : St → Hp → Prop},
    (∀ σ' l', Rep K B σ' H env' l' → (∀ b ∈ l', b ∈ l) → (free env js → l' = l) → (∀ j, j ∉ js → σ'[j]? = σ[j]?) → Q σ' H) → g v σ H Q
  keep : ∀ {d : PyData} {env env' : En}, p d env = some env' → (∀ j, j ∉ js → env'[j]? = env[j]?) ∧ (∀ j ∈ js, isOwn env'[j]? = false) ∧ env'.length = env.length
structure OkGs (K : PySem.W.Frag) (g : TGs) (js : List Nat) (n : Nat) (p : List PyData → En → Option En) : Prop where
  run : ∀ {B : Addr → Prop} {σ : St} {H : Hp} {env env' : En} {l : List Addr} {vs : List V} {ds : List PyData}, Rep K B σ H env l → DaAll K (off (un B l) H) vs ds → p ds env = some env' → ∀ {Q : St → Hp → Prop},
    (∀ σ' l', Rep K B σ' H env' l' → (∀ b ∈ l', b ∈ l) → (free env js → l' = l) → (∀ j, j ∉ js → σ'[j]? = σ[j]?) → Q σ' H) → g vs σ H Q
  keep : ∀ {ds : List PyData} {env env' : En}, p ds env = some env' → (∀ j, j ∉ js → env'[j]? = env[j]?) ∧ (∀ j ∈ js, isOwn env'[j]? = false) ∧ env'.length = env.length
  len : ∀ {ds : List PyData} {env env' : En}, p ds env = some env' → ds.length = n
def gN (i : Nat) (d : PyData) (env : En) : Option En := if i < env.length then some (env.set i (some (.dat d))) else none
theorem Rep.putD {B : Addr → Prop} {σ : St} {H : Hp} {env : En} {l : List Addr} {i : Nat} {v : V} {d : PyData} (r : Rep K B σ H env l) (hi : i < env.length) (h : Da K (off (un B l) H) v d) :
    ∃ l', Rep K B (σ.set i (some v)) H (env.set i (some (.dat d))) l' ∧ (∀ b ∈ l', b ∈ l) ∧ (isOwn env[i]? = false → l' = l) := by
  obtain ⟨s, a, lx, ly, q1, q2, q3, q5⟩ := r.rp.focus (List.getElem?_eq_getElem hi)
  have nd0 := r.nd
  rw [q2] at nd0
  obtain ⟨n1, n2, n3⟩ := List.nodup_append.mp nd0
  obtain ⟨n4, n5, n6⟩ := List.nodup_append.mp n2
  have mem : ∀ b ∈ lx ++ ([] ++ ly), b ∈ l := fun b z => by
    rw [q2]
    rcases List.mem_append.mp z with z | z
    · exact List.mem_append_left _ z
    · exact List.mem_append_right _ (List.mem_append_right _ (by simpa using z))
  have sub : Same (off (un B l) H) (off (un B (lx ++ ([] ++ ly))) H) := off_mono (fun b z n => absurd (z.imp id (mem b)) n) fun b o n e => e
  refine ⟨lx ++ ([] ++ ly), ⟨q5 sub (fun _ _ => rfl) (fun _ _ => rfl) ⟨v, rfl, rfl, Da.same sub d h⟩, ?_, fun b z => r.out b (mem b z), r.tb⟩, mem, fun z => ?_⟩
  · rw [List.nil_append]
    exact List.nodup_append.mpr ⟨n1, n5, fun x hx y hy => n3 x hx y (List.mem_append_right _ hy)⟩
  · rw [List.getElem?_eq_getElem hi] at z
    have : a = [] := by
      cases q : env[i] with
      | none => rw [q] at q3; exact q3
      | some w =>
        rw [q] at q3 z
        obtain ⟨v', _, q3⟩ := q3
        cases w with
        | dat _ => exact q3.1
        | own xs => cases z
        | dct ks => cases z
        | dci ks => cases z
        | dtk ks => cases z
        | dts ks => cases z
        | pin _ _ => exact q3.1
        | dtn _ => cases z
        | nd _ => exact q3.1
        | exc _ _ _ => exact q3.1
    rw [q2, this]
theorem OkG.name (i : Nat) : OkG K (gName i) [i] (gN i) := by
  refine ⟨?_, ?_⟩
  · intro B σ H env env' l v d r h e Q q
    unfold gN at e
    split at e
    · rename_i hi
      cases e
      obtain ⟨l', r', m, f⟩ := r.putD hi h
      exact q _ l' r' m (fun z => f (z i (List.mem_cons_self ..))) fun j n => List.getElem?_set_ne fun z => n (by rw [z]; exact List.mem_cons_self ..)
    · cases e
  · intro d env env' e
    unfold gN at e
    split at e
    · rename_i hi
      cases e
      refine ⟨fun j n => List.getElem?_set_ne fun z => n (by rw [z]; exact List.mem_cons_self ..), fun j z => ?_, List.length_set ..⟩
      cases List.mem_singleton.mp z
      rw [List.getElem?_set_self hi]
      rfl
    · cases e
def gsN (ds : List PyData) (env : En) : Option En :=
  match ds with
  | [] => some env
  | _ => none
def gsC (p : PyData → En → Option En) (q : List PyData → En → Option En) (ds : List PyData) (env : En) : Option En :=
  match ds with
  | d :: r => (p d env).bind fun e => q r e
  | [] => none
theorem OkGs.nil : OkGs K gNil [] 0 gsN := by
  refine ⟨?_, ?_, ?_⟩
  · intro B σ H env env' l vs ds r h e Q q
    unfold gsN at e
    split at e
    · cases e; cases h; exact ⟨rfl, q σ l r (fun _ z => z) (fun _ => rfl) fun _ _ => rfl⟩
    · cases e
  · intro ds env env' e
    unfold gsN at e
    split at e
    · cases e; exact ⟨fun _ _ => rfl, fun _ z => (by cases z), rfl⟩
    · cases e
  · intro ds env env' e
    unfold gsN at e
    split at e
    · rfl
    · cases e
theorem OkGs.cons {g : TG} {gs : TGs} {is js : List Nat} {n : Nat} {p : PyData → En → Option En} {q : List PyData → En → Option En} (o : OkG K g is p) (os : OkGs K gs js n q) : OkGs K (gCons g gs) (is ++ js) (n + 1) (gsC p q) := by
  have two : ∀ {d : PyData} {env e : En}, p d env = some e → free env (is ++ js) → free env is ∧ free e js := fun {d env e} h f => by
    obtain ⟨k1, k2, _⟩ := o.keep h
    refine ⟨fun j z => f j (List.mem_append_left _ z), fun j z => ?_⟩
    by_cases y : j ∈ is
    · exact k2 j y
    · rw [k1 j y]; exact f j (List.mem_append_right _ z)
  refine ⟨?_, ?_, ?_⟩
  · intro B σ H env env' l vs ds r h e Q k
    cases ds with
    | nil => cases e
    | cons d ds =>
      obtain ⟨e1, h1, h2⟩ := Option.bind_eq_some_iff.mp (show (p d env).bind (fun e => q ds e) = some env' from e)
      cases h with
      | cons ha hr =>
        refine ⟨_, _, rfl, o.run r ha h1 fun σ1 l1 r1 m1 f1 k1 => ?_⟩
        have sub : Same (off (un B l) H) (off (un B l1) H) := off_mono (fun b z n => absurd (z.imp id (m1 b)) n) fun b o n e => e
        refine os.run r1 (DaAll.same sub ds hr) h2 fun σ2 l2 r2 m2 f2 k2 => ?_
        refine k σ2 l2 r2 (fun b z => m1 b (m2 b z)) (fun f => ?_) fun j n => ?_
        · obtain ⟨f3, f4⟩ := two h1 f
          rw [f2 f4, f1 f3]
        · rw [k2 j fun z => n (List.mem_append_right _ z), k1 j fun z => n (List.mem_append_left _ z)]
  · intro ds env env' e
    cases ds with
    | nil => cases e
    | cons d ds =>
      obtain ⟨e1, h1, h2⟩ := Option.bind_eq_some_iff.mp (show (p d env).bind (fun e => q ds e) = some env' from e)
      obtain ⟨a1, a2, a3⟩ := o.keep h1
      obtain ⟨b1, b2, b3⟩ := os.keep h2
      refine ⟨fun j n => ?_, fun j z => ?_, b3.trans a3⟩
      · rw [b1 j fun z => n (List.mem_append_right _ z), a1 j fun z => n (List.mem_append_left _ z)]
      · by_cases y : j ∈ js
        · exact b2 j y
        · rw [b1 j y]
          exact a2 j ((List.mem_append.mp z).resolve_right y)
  · intro ds env env' e
    cases ds with
    | nil => cases e
    | cons d ds =>
      obtain ⟨e1, h1, h2⟩ := Option.bind_eq_some_iff.mp (show (p d env).bind (fun e => q ds e) = some env' from e)
      rw [List.length_cons, os.len h2]
def gT (q : List PyData → En → Option En) (d : PyData) (env : En) : Option En :=
  match d with
  | .tuple ds => q ds env
  | _ => none
theorem OkG.tup {gs : TGs} {js : List Nat} {n : Nat} {q : List PyData → En → Option En} (os : OkGs K gs js n q) : OkG K (gTup K n gs) js (gT q) := by
  refine ⟨?_, ?_⟩
  · intro B σ H env env' l v d r h e Q k
    cases d with
    | tuple ds =>
      cases h with
      | tup hq ha =>
        exact ⟨_, _, rfl, hq.off.sq, (daAll_len ha).trans (os.len (show q ds env = some env' from e)), os.run r ha e k⟩
    | none => cases e
    | bool _ => cases e
    | int _ => cases e
    | str _ => cases e
    | list _ => cases e
    | dict _ => cases e
  · intro d env env' e
    cases d with
    | tuple ds => exact os.keep (show q ds env = some env' from e)
    | none => cases e
    | bool _ => cases e
    | int _ => cases e
    | str _ => cases e
    | list _ => cases e
    | dict _ => cases e
def liftE (p : En → Option En) : M Unit := fun env => (p env).map fun e => .ok () e
theorem liftE_step {α : Type} {p : En → Option En} {g : Unit → M α} {env : En} {rs : Rs α} (h : (M.bind (liftE p) g) env = some rs) : ∃ e, p env = some e ∧ g () e = some rs := by
  rcases bind_some h with ⟨a, e, h1, h2⟩ | ⟨C, f, d, h1, h2⟩
  · obtain ⟨e', h3, h4⟩ := Option.map_eq_some_iff.mp (show (p env).map (fun e => Rs.ok () e) = _ from h1)
    cases h4
    exact ⟨e, h3, h2⟩
  · obtain ⟨e', h3, h4⟩ := Option.map_eq_some_iff.mp (show (p env).map (fun e => Rs.ok () e) = _ from h1)
    cases h4
def asD : R → Option PyData
  | .dat d => some d
  | _ => none
theorem asD_some {a : R} {d : PyData} (h : asD a = some d) : a = .dat d := by
  unfold asD at h
  split at h
  · cases h; rfl
  · cases h
/-- a, b = e -/
def unS (p : PyData → En → Option En) (f : M R) : M Fl := M.bind f fun r => M.bind (lift (asD r)) fun d => M.bind (liftE (p d)) fun _ => M.pure .nx
theorem OkS.unpack {g : TG} {js : List Nat} {p : PyData → En → Option En} {t : TE} {f : M R} (og : OkG K g js p) (hb : bx = true → 0 ∉ js) (o : OkE K E t f) : OkS K E bx (tAsg t g) (unS p f) := by
  refine ⟨?_⟩
  intro B σ H env l rs rp h D post
  refine o.seq rp h post.exn fun a e v H' h1 r1 f1 q1 => ?_
  obtain ⟨d, h2, h3⟩ := lift_step h1
  obtain ⟨e2, h4, h5⟩ := liftE_step h3
  cases h5
  rw [asD_some h2] at q1
  exact og.run r1 q1 h4 fun σ' l' r' m f k => post σ' H' l' r' ⟨f1, fun b z => .inl (m b z)⟩ fun z => k 0 (hb z)
/-! what is walked -/
def PostI (K : PySem.W.Frag) (E : XK) (B : Addr → Prop) (σ : St) (H : Hp) (l : List Addr) (rs : Rs (List PyData)) (R : It → Hp → Prop) : Prop :=
  match rs with
  | .ok ds env' => ∀ J H' G Y, Rep K B σ H' env' l → Fr l H H' → Walk J ds.length G Y → (∀ H2, Fr l H' H2 → G H2) →
      (∀ i x H2 H3 d S, Fr l H' H2 → Y i H2 x H3 → ds[i]? = some d → (∀ b, S b → un B l b ∨ H' b = none) → (∀ b, S b → ∃ o, H2 b = some o ∧ NT o) → Same H2 H3 ∧ Da K (off S H3) x d) → R J H'
  | .ex C f d => Exn K E B H l C f d
structure OkI (K : PySem.W.Frag) (E : XK) (t : TI) (f : M (List PyData)) : Prop where
  run : ∀ {B : Addr → Prop} {σ : St} {H : Hp} {env : En} {l : List Addr} {rs : Rs (List PyData)}, Rep K B σ H env l → f env = some rs → ∀ {R : It → Hp → Prop}, PostI K E B σ H l rs R → t σ H R
theorem PostI.exn {B : Addr → Prop} {σ : St} {H : Hp} {l : List Addr} {rs : Rs (List PyData)} {R : It → Hp → Prop} (h : PostI K E B σ H l rs R) : ∀ C f d, rs = .ex C f d → Exn K E B H l C f d := fun C f d e => by subst e; exact h
theorem Da.walk {B S : Addr → Prop} {l : List Addr} {H H2 : Hp} {x : V} {d : PyData} (h : Da K (off (un B l) H) x d) (f : Fr l H H2) (hs : ∀ b, S b → un B l b ∨ H b = none) : Da K (off S H2) x d :=
  Da.same (off_mono (fun b z n => (hs b z).resolve_left n) fun b o n e => f b o (fun z => n (.inr z)) e) d h
/-! for -/
def forM (p : PyData → En → Option En) (body : M Fl) : List PyData → M Fl
  | [] => M.pure .nx
  | d :: ds => fun env =>
    match p d env with
    | none => none
    | some e =>
      match body e with
      | none => none
      | some (.ex C f d) => some (.ex C f d)
      | some (.ok .nx e2) => forM p body ds e2
      | some (.ok .ct e2) => forM p body ds e2
      | some (.ok .bk e2) => some (.ok .nx e2)
      | some (.ok (.rt w) e2) => some (.ok (.rt w) e2)
def forS (fi : M (List PyData)) (p : PyData → En → Option En) (body : M Fl) : M Fl := M.bind fi fun ds => forM p body ds
theorem OkS.for {wi : TI} {g : TG} {tb : TS} {fi : M (List PyData)} {js : List Nat} {p : PyData → En → Option En} {body : M Fl} (oi : OkI K E wi fi) (og : OkG K g js p) (hb : bx = true → 0 ∉ js) (ob : OkS K E bx tb body) : OkS K E bx (tFor wi g tb) (forS fi p body) := by
  refine ⟨?_⟩
  intro B σ H env l rs rp h D post
  rcases bind_some h with ⟨ds, e0, h1, h2⟩ | ⟨C, f, d, h1, h2⟩
  case inr => exact oi.run rp h1 (post.exn C f d h2)
  refine oi.run rp h1 ?_
  intro J H1 G Y r1 f1 wk hG hY
  have post1 := post.later (Fr2.of f1) (σ1 := σ) fun _ => rfl
  refine for_it wk (fun i σ' H' => ∃ env_i l_i, Rep K B σ' H' env_i l_i ∧ Fr2 l H1 l_i H' ∧ (bx = true → σ'[0]? = σ[0]?) ∧ forM p body (ds.drop i) env_i = some rs) ⟨e0, l, r1, Fr2.refl _ _, fun _ => rfl, h2⟩ (fun i σ' H' _ ⟨_, _, _, f, _⟩ => hG H' f.fr) ?_ ?_
  · rintro i x σ' H2 H3 hi ⟨ei, li, ri, fi, b0, hi2⟩ hy
    have hd : ds.drop i = ds[i] :: ds.drop (i + 1) := List.drop_eq_getElem_cons hi
    rw [hd] at hi2
    unfold forM at hi2
    obtain ⟨s3, da⟩ := hY i x H2 H3 ds[i] (un B li) fi.fr hy (List.getElem?_eq_getElem hi) (fun b z => z.elim (fun z => .inl (.inl z)) fun z => (fi.sub b z).imp .inr id) ri.tl
    have r3 := ri.same s3
    cases q : p ds[i] ei with
    | none => rw [q] at hi2; cases hi2
    | some e2 =>
      rw [q] at hi2
      simp only at hi2
      refine og.run r3 da q fun σ4 l4 r4 m4 _ k4 => ?_
      have f4 : Fr2 l H1 l4 H3 := fi.trans ⟨Fr.of s3, fun b z => .inl (m4 b z)⟩
      have b4 : bx = true → σ4[0]? = σ[0]? := fun z => (k4 0 (hb z)).trans (b0 z)
      cases q2 : body e2 with
      | none => rw [q2] at hi2; cases hi2
      | some z =>
        rw [q2] at hi2
        cases z with
        | ex C f d => cases hi2; exact ob.run r4 q2 (Exn.later2 post1 f4)
        | ok fl e3 =>
          cases fl with
          | nx => exact ob.run r4 q2 fun σ5 H5 l5 r5 f5 b5 => ⟨e3, l5, r5, f4.trans f5, fun z => (b5 z).trans (b4 z), hi2⟩
          | ct => exact ob.run r4 q2 fun σ5 H5 l5 r5 f5 b5 => ⟨e3, l5, r5, f4.trans f5, fun z => (b5 z).trans (b4 z), hi2⟩
          | bk => cases hi2; exact ob.run r4 q2 fun σ5 H5 l5 r5 f5 b5 => post1 σ5 H5 l5 r5 (f4.trans f5) fun z => (b5 z).trans (b4 z)
          | rt w => cases hi2; exact ob.run r4 q2 fun v σ5 H5 l5 lw r5 f5 b5 => post1 v σ5 H5 l5 lw r5 (f4.trans f5) fun z => (b5 z).trans (b4 z)
  · rintro σ' H' ⟨en, ln, rn, fn, b0, hn⟩
    rw [List.drop_length] at hn
    cases hn
    exact post1 σ' H' ln rn fn b0
/-! while -/
def whileM (c : M Bool) (body : M Fl) : Nat → M Fl
  | 0 => fun _ => none
  | n + 1 => fun env =>
    match c env with
    | none => none
    | some (.ex C f d) => some (.ex C f d)
    | some (.ok b e) => if b = true then
        match body e with
        | none => none
        | some (.ex C f d) => some (.ex C f d)
        | some (.ok .nx e2) => whileM c body n e2
        | some (.ok .ct e2) => whileM c body n e2
        | some (.ok .bk e2) => some (.ok .nx e2)
        | some (.ok (.rt w) e2) => some (.ok (.rt w) e2)
      else some (.ok .nx e)
theorem OkS.while {c : TT} {tb : TS} {fc : M Bool} {body : M Fl} (n : Nat) (oc : OkT K E c fc) (ob : OkS K E bx tb body) : OkS K E bx (tWhile c tb) (whileM fc body n) := by
  refine ⟨?_⟩
  intro B σ H env l rs rp h D post
  refine ⟨fun m σ' H' => ∃ en ln, Rep K B σ' H' en ln ∧ Fr2 l H ln H' ∧ (bx = true → σ'[0]? = σ[0]?) ∧ whileM fc body m en = some rs, ⟨n, env, l, rp, Fr2.refl _ _, fun _ => rfl, h⟩, ?_⟩
  rintro m σ' H' ⟨en, ln, rn, fn, b0, hm⟩
  cases m with
  | zero => cases hm
  | succ m =>
    unfold whileM at hm
    cases q : fc en with
    | none => rw [q] at hm; cases hm
    | some z =>
      rw [q] at hm
      cases z with
      | ex C f d => cases hm; exact oc.run rn q (Exn.later2 post fn)
      | ok b e =>
        refine oc.run rn q fun H1 r1 f1 => ?_
        have f1' := fn.trans (Fr2.of f1)
        cases b with
        | false =>
          refine iteF ?_
          cases hm
          exact post σ' H1 ln r1 f1' b0
        | true =>
          refine iteT ?_
          simp only [if_true] at hm
          cases q2 : body e with
          | none => rw [q2] at hm; cases hm
          | some z =>
            rw [q2] at hm
            have nx : ∀ e2, whileM fc body m e2 = some rs → ∀ σ5 H5 l5, Rep K B σ5 H5 e2 l5 → Fr2 ln H1 l5 H5 → (bx = true → σ5[0]? = σ'[0]?) → ∃ en ln, Rep K B σ5 H5 en ln ∧ Fr2 l H ln H5 ∧ (bx = true → σ5[0]? = σ[0]?) ∧ whileM fc body m en = some rs :=
              fun e2 h2 σ5 H5 l5 r5 f5 b5 => ⟨e2, l5, r5, f1'.trans f5, fun z => (b5 z).trans (b0 z), h2⟩
            refine ⟨fun σ5 H5 => ∃ en ln, Rep K B σ5 H5 en ln ∧ Fr2 l H ln H5 ∧ (bx = true → σ5[0]? = σ[0]?) ∧ whileM fc body m en = some rs, fun _ _ z => ⟨m, Nat.lt_succ_self m, z⟩, ?_⟩
            cases z with
            | ex C f d => cases hm; exact ob.run r1 q2 (Exn.later2 post f1')
            | ok fl e3 =>
              cases fl with
              | nx => exact ob.run r1 q2 (nx e3 hm)
              | ct => exact ob.run r1 q2 (nx e3 hm)
              | bk => cases hm; exact ob.run r1 q2 fun σ5 H5 l5 r5 f5 b5 => post σ5 H5 l5 r5 (f1'.trans f5) fun z => (b5 z).trans (b0 z)
              | rt w => cases hm; exact ob.run r1 q2 fun v σ5 H5 l5 lw r5 f5 b5 => post v σ5 H5 l5 lw r5 (f1'.trans f5) fun z => (b5 z).trans (b0 z)
/-! the list of a slot is data from here on -/
def frzM (i : Nat) : M Unit := fun env =>
  match env[i]? with
  | some (some (.own xs)) => some (.ok () (env.set i (some (.dat (.list (xs.map itD))))))
  | some _ => some (.ok () env)
  | none => none
theorem OkS.frz (i : Nat) {t : TS} {f : M Fl} (o : OkS K E bx t f) : OkS K E bx t (M.bind (frzM i) fun _ => f) := by
  refine ⟨?_⟩
  intro B σ H env l rs rp h D post
  rcases bind_some h with ⟨u, e, h1, h2⟩ | ⟨C, f, d, h1, h2⟩
  · unfold frzM at h1
    split at h1
    · rename_i xs hx
      cases h1
      obtain ⟨s, a, lx, ly, q1, q2, ⟨v, q3, q4⟩, q5⟩ := rp.rp.focus hx
      subst q3
      have hi : i < env.length := (List.getElem?_eq_some_iff.mp hx).1
      have nd := rp.nd
      rw [q2] at nd
      obtain ⟨n1, n2, n3⟩ := List.nodup_append.mp nd
      obtain ⟨n4, n5, n6⟩ := List.nodup_append.mp n2
      have mem : ∀ b ∈ lx ++ ([] ++ ly), b ∈ l ∧ b ∉ a := fun b z => by
        rw [q2]
        rcases List.mem_append.mp z with z | z
        · exact ⟨List.mem_append_left _ z, fun y => n3 b z b (List.mem_append_left _ y) rfl⟩
        · have z : b ∈ ly := by simpa using z
          exact ⟨List.mem_append_right _ (List.mem_append_right _ z), fun y => n6 b y b z rfl⟩
      have e : σ.set i (some v) = σ := by
        apply List.ext_getElem?
        intro j
        by_cases z : i = j
        · subst z; rw [List.getElem?_set_self (List.getElem?_eq_some_iff.mp q1).1, q1]
        · rw [List.getElem?_set_ne z]
      have sub : Same (off (un B l) H) (off (un B (lx ++ ([] ++ ly))) H) := off_mono (fun b z n => absurd (z.imp id fun z => (mem b z).1) n) fun b o n e => e
      have da : Da K (off (un B (lx ++ ([] ++ ly))) H) v (.list (xs.map itD)) := by
        have := rpW_free (σ := σ) (show ofW (.own xs) = some _ from rfl) sub (fun b z us e => (off_ne fun y => ?_).trans e) q4
        · exact this
        · rcases y with y | y
          · exact rp.out b (by rw [q2]; exact List.mem_append_right _ (List.mem_append_left _ z)) y
          · exact (mem b y).2 z
      have r' : Rep K B σ H (env.set i (some (.dat (.list (xs.map itD))))) (lx ++ ([] ++ ly)) := by
        refine ⟨?_, ?_, fun b z => rp.out b (mem b z).1, rp.tb⟩
        · have := q5 sub (fun _ _ => rfl) (fun _ _ => rfl) (show RpS K H _ (some v) (some (.dat (.list (xs.map itD)))) [] from ⟨v, rfl, rfl, da⟩)
          rw [e] at this
          exact this
        · rw [List.nil_append]
          exact List.nodup_append.mpr ⟨n1, n5, fun x hx y hy => n3 x hx y (List.mem_append_right _ hy)⟩
      exact o.run r' h2 (post.later ⟨Fr.refl _ _, fun b z => .inl (mem b z).1⟩ fun _ => rfl)
    · cases h1; exact o.run rp h2 post
    · cases h1
  · unfold frzM at h1
    split at h1 <;> cases h1
end
end Ov
set_option Elab.async false
set_option linter.all false
set_option maxRecDepth 100000
set_option maxHeartbeats 4000000
namespace Ov
open PySem L2
/-! comprehensions -/
def wipeE (env : En) : List Nat → En
  | [] => env
  | v :: vs => (wipeE env vs).set v none
def freeB (env : En) (js : List Nat) : Bool := js.all fun j => !isOwn env[j]?
theorem freeB_free {env : En} {js : List Nat} (h : freeB env js = true) : free env js := fun j z => by
  have := List.all_eq_true.mp h j z
  simpa using this
theorem wipeE_length (env : En) : ∀ vs : List Nat, (wipeE env vs).length = env.length
  | [] => rfl
  | v :: vs => by unfold wipeE; rw [List.length_set, wipeE_length env vs]
theorem wipe_get (σ : St) (j : Nat) : ∀ vs : List Nat, (wipe σ vs)[j]? = if j ∈ vs then (if j < σ.length then some none else none) else σ[j]?
  | [] => by simp [wipe]
  | v :: vs => by
    unfold wipe
    have ih := wipe_get σ j vs
    by_cases e : v = j
    · subst e
      by_cases h : v < σ.length
      · rw [List.getElem?_set_self (by rw [wipe_length]; exact h)]; simp [h]
      · rw [List.getElem?_eq_none (by rw [List.length_set, wipe_length]; omega)]; simp [h]
    · rw [List.getElem?_set_ne e, ih]
      have : (j ∈ v :: vs) ↔ j ∈ vs := ⟨fun z => (List.mem_cons.mp z).resolve_left fun z => e z.symm, List.mem_cons_of_mem _⟩
      simp only [this]
theorem wipeE_get (σ : En) (j : Nat) : ∀ vs : List Nat, (wipeE σ vs)[j]? = if j ∈ vs then (if j < σ.length then some none else none) else σ[j]?
  | [] => by simp [wipeE]
  | v :: vs => by
    unfold wipeE
    have ih := wipeE_get σ j vs
    by_cases e : v = j
    · subst e
      by_cases h : v < σ.length
      · rw [List.getElem?_set_self (by rw [wipeE_length]; exact h)]; simp [h]
      · rw [List.getElem?_eq_none (by rw [List.length_set, wipeE_length]; omega)]; simp [h]
    · rw [List.getElem?_set_ne e, ih]
      have : (j ∈ v :: vs) ↔ j ∈ vs := ⟨fun z => (List.mem_cons.mp z).resolve_left fun z => e z.symm, List.mem_cons_of_mem _⟩
      simp only [this]
theorem wipe_ext {σ τ : St} {vs : List Nat} (hl : σ.length = τ.length) (h : ∀ j, j ∉ vs → σ[j]? = τ[j]?) : wipe σ vs = wipe τ vs := by
  apply List.ext_getElem?
  intro j
  rw [wipe_get, wipe_get, hl]
  by_cases z : j ∈ vs
  · simp [z]
  · simp only [z, if_false]; exact h j z
section
variable {K : PySem.W.Frag} {E : XK} {bx : Bool} {H G : Hp}
theorem RpE.drop1 {σ : St} {env : En} {l : List Addr} {v : Nat} (h : RpE K H G σ env l) (f : isOwn env[v]? = false) : RpE K H G (σ.set v none) (env.set v none) l := by
  cases q : env[v]? with
  | none =>
    have n : env.length ≤ v := List.getElem?_eq_none_iff.mp q
    rw [List.set_eq_of_length_le n, List.set_eq_of_length_le (by rw [h.len]; exact n)]
    exact h
  | some e =>
    obtain ⟨s, a, lx, ly, q1, q2, q3, q5⟩ := h.focus q
    have ha : a = [] := by
      rw [q] at f
      cases e with
      | none => exact q3
      | some w =>
        obtain ⟨_, _, q3⟩ := q3
        cases w with
        | dat _ => exact q3.1
        | own _ => cases f
        | dct _ => cases f
        | dci _ => cases f
        | dtk _ => cases f
        | dts _ => cases f
        | pin _ _ => exact q3.1
        | dtn _ => cases f
        | nd _ => exact q3.1
        | exc _ _ _ => exact q3.1
    rw [q2, ha]
    exact q5 (fun _ _ z => z) (fun _ _ => rfl) (fun _ _ => rfl) rfl
theorem RpE.wipe {σ : St} {env : En} {l : List Addr} (h : RpE K H G σ env l) : ∀ {vs : List Nat}, free env vs → RpE K H G (L2.wipe σ vs) (wipeE env vs) l
  | [], _ => h
  | v :: vs, f => by
    refine RpE.drop1 (RpE.wipe h (vs := vs) fun j z => f j (List.mem_cons_of_mem _ z)) ?_
    rw [wipeE_get]
    by_cases z : v ∈ vs
    · simp only [z, if_true]
      by_cases y : v < env.length
      · simp [y, isOwn]
      · simp [y, isOwn]
    · simp only [z, if_false]; exact f v (List.mem_cons_self ..)
/-- what stands in empty slots does not matter -/
theorem RpE.any : ∀ {σ τ : St} {env : En} {l : List Addr}, RpE K H G σ env l → σ.length = τ.length → (∀ (j : Nat) (w : Wv), env[j]? = some (some w) → τ[j]? = σ[j]?) → RpE K H G τ env l
  | [], [], [], l, h, _, _ => h
  | s :: σ, t :: τ, e :: env, l, ⟨a, b, z, h1, h2⟩, hl, hk => by
    refine ⟨a, b, z, ?_, RpE.any h2 (by simpa using hl) fun j w q => hk (j + 1) w q⟩
    cases e with
    | none => exact h1
    | some w =>
      have : t = s := Option.some.inj (hk 0 w rfl)
      rw [this]
      exact h1
theorem Rep.wipe {B : Addr → Prop} {σ : St} {env : En} {l : List Addr} {vs : List Nat} (r : Rep K B σ H env l) (f : free env vs) : Rep K B (L2.wipe σ vs) H (wipeE env vs) l := ⟨r.rp.wipe f, r.nd, r.out, r.tb⟩
theorem Rep.amb {B : Addr → Prop} {σ : St} {env : En} {l : List Addr} {p : Addr} {o : HO} (r : Rep K B σ H env l) (hp : B p) (n : NT o) : Rep K B σ (upd H p o) env l := by
  have sub : Same (off (un B l) H) (off (un B l) (upd H p o)) := off_mono (fun b z n => absurd z n) fun b o n e => by rw [upd_ne (fun z => n (.inl (by rw [z]; exact hp)))]; exact e
  refine ⟨r.rp.mv sub fun q z => upd_ne fun y => r.out q z (y ▸ hp), r.nd, r.out, fun b z => ?_⟩
  by_cases e : b = p
  · subst e; exact ⟨o, upd_same, n⟩
  · rw [upd_ne e]; exact r.tb b z
def yesT : M Bool := M.pure true
theorem OkT.yes : OkT K E tYes yesT := by
  refine ⟨?_⟩
  intro B σ H env l rs rp h Q post
  cases h
  exact post H rp (Fr.refl _ _)
def compM (p : PyData → En → Option En) (ft : M Bool) (fe : M R) (vs : List Nat) : List PyData → List PyData → M (List PyData)
  | [], acc => M.pure acc
  | d :: ds, acc => fun env =>
    match p d env with
    | none => none
    | some e =>
      match ft e with
      | some (.ok b e2) => if b = true then
          match fe e2 with
          | some (.ok (.dat y) e3) => if freeB e3 vs = true ∧ acc.length < 1000000 then compM p ft fe vs ds (acc ++ [y]) (wipeE e3 vs) else none
          | _ => none
        else if freeB e2 vs = true then compM p ft fe vs ds acc (wipeE e2 vs) else none
      | _ => none
theorem compM_noex {p : PyData → En → Option En} {ft : M Bool} {fe : M R} {vs : List Nat} : ∀ {ds acc : List PyData} {env : En} {C : Addr} {f : Str} {d : PyData}, compM p ft fe vs ds acc env ≠ some (.ex C f d)
  | [], acc, env, C, f, d, h => by cases h
  | d :: ds, acc, env, C, f, d', h => by
    unfold compM at h
    split at h
    · cases h
    · split at h
      · split at h
        · split at h
          · split at h
            · exact compM_noex h
            · cases h
          · cases h
        · split at h
          · exact compM_noex h
          · cases h
      · cases h
def lcW (fi : M (List PyData)) (p : PyData → En → Option En) (ft : M Bool) (fe : M R) (vs : List Nat) : M Wv := M.bind fi fun ds => fun env => if freeB env vs = true then (M.bind (compM p ft fe vs ds []) fun out => M.pure (.own (dats out))) (wipeE env vs) else none
theorem OkW.lc {wi : TI} {g : TG} {tt : TT} {te : TE} {vs js : List Nat} {fi : M (List PyData)} {p : PyData → En → Option En} {ft : M Bool} {fe : M R} (oi : OkI K E wi fi) (og : OkG K g js p) (hj : ∀ j ∈ js, j ∈ vs) (ot : OkT K L2.E0 tt ft) (oe : OkE K L2.E0 te fe) :
    OkW K E (tLc wi g tt te vs) (lcW fi p ft fe vs) := by
  refine ⟨?_⟩
  intro B σ H env l rs rp h Q post
  rcases bind_some h with ⟨ds, e0, h1, h2⟩ | ⟨C, f, d, h1, h2⟩
  case inr => exact oi.run rp h1 (post.exn C f d h2)
  split at h2
  case isFalse => cases h2
  rename_i hf0
  rcases bind_some h2 with ⟨out, e9, h3, h4⟩ | ⟨C, f, d, h3, _⟩
  case inr => exact absurd h3 compM_noex
  cases h4
  refine oi.run rp h1 ?_
  intro J H1 G Y r1 f1 wk hG hY D hD
  have nD : ∀ b ∈ l, b ≠ D := fun b z e => r1.fresh hD (.inr (e ▸ z))
  have r1' : Rep K (un B [D]) σ (upd H1 D (.lst [])) e0 l := r1.grow (same_new hD _) (fun _ z => .inl z) (fun b z => z.imp id fun z => by rw [List.mem_singleton.mp z]; exact hD) fun b z => by
    by_cases e : b = D
    · subst e; exact ⟨_, upd_same, trivial⟩
    · rw [upd_ne e]; exact r1.tb b (z.resolve_right fun z => e (List.mem_singleton.mp z))
  refine lc_it wk (fun i H' => ∃ env_i acc va, Rep K (un B [D]) (L2.wipe σ vs) H' env_i l ∧ Fr l H1 H' ∧ H' D = some (.lst va) ∧ DaAll K (off (un (un B [D]) l) H') va acc ∧ (∀ j ∈ vs, ∀ w, env_i[j]? ≠ some (some w)) ∧ compM p ft fe vs (ds.drop i) acc env_i = some (.ok out e9)) ?_ (fun i H' _ ⟨_, _, _, _, f, _⟩ => hG H' f) ?_ ?_
  · refine ⟨_, [], [], r1'.wipe (freeB_free hf0), Fr.of (same_new hD _), upd_same, .nil, fun j z w => ?_, h3⟩
    rw [wipeE_get]
    simp only [z, if_true]
    split <;> exact fun q => by cases q
  · rintro i x H2 H3 hi ⟨ei, acc, va, ri, fri, hDi, dai, fre, hc⟩ hy
    have hd : ds.drop i = ds[i] :: ds.drop (i + 1) := List.drop_eq_getElem_cons hi
    rw [hd] at hc
    unfold compM at hc
    obtain ⟨s3, da⟩ := hY i x H2 H3 ds[i] (un (un B [D]) l) fri hy (List.getElem?_eq_getElem hi) (fun b z => z.elim (fun z => z.elim (fun z => .inl (.inl z)) fun z => by rw [List.mem_singleton.mp z]; exact .inr hD) fun z => .inl (.inr z)) ri.tl
    have r3 := ri.same s3
    cases q : p ds[i] ei with
    | none => rw [q] at hc; cases hc
    | some e2 =>
      rw [q] at hc
      simp only at hc
      have fr0 : free ei js := fun j z => by
        cases q0 : ei[j]? with
        | none => rfl
        | some w =>
          cases w with
          | none => rfl
          | some w => exact absurd q0 (fre j (hj j z) w)
      refine og.run r3 da q fun σ4 l4 r4 m4 le4 k4 => ?_
      have el := le4 fr0
      subst el
      have sl : σ4.length = (L2.wipe σ vs).length := by rw [r4.len, (og.keep q).2.2, ri.len]
      have wp : L2.wipe σ4 vs = L2.wipe σ vs := by
        rw [wipe_ext sl fun j z => k4 j fun y => z (hj j y)]
        refine wipe_ext (wipe_length σ vs) fun j z => ?_
        rw [wipe_get]
        simp [z]
      refine ⟨wp, ?_⟩
      cases q2 : ft e2 with
      | none => rw [q2] at hc; cases hc
      | some z2 =>
        rw [q2] at hc
        cases z2 with
        | ex C f d => cases hc
        | ok b e3 =>
          refine ot.run r4 q2 fun H4 r5 f5 => ?_
          have nx : ∀ {e5 : En} {H5 : Hp}, Rep K (un B [D]) σ4 H5 e5 l4 → freeB e5 vs = true → Rep K (un B [D]) (L2.wipe σ vs) H5 (wipeE e5 vs) l4 ∧ ∀ j ∈ vs, ∀ w, (wipeE e5 vs)[j]? ≠ some (some w) := fun {e5 H5} r fb => by
            refine ⟨by rw [← wp]; exact r.wipe (freeB_free fb), fun j z w => ?_⟩
            rw [wipeE_get]
            simp only [z, if_true]
            split <;> exact fun q => by cases q
          have f25 : Fr l4 H2 H4 := (Fr.of s3).trans f5
          have kD : ∀ {H5 : Hp}, Fr l4 H2 H5 → H5 D = some (.lst va) := fun f => f D _ (fun z => nD D z rfl) hDi
          cases b with
          | false =>
            refine iteF ?_
            simp only [Bool.false_eq_true, if_false] at hc
            split at hc
            · rename_i fb
              obtain ⟨ra, rb⟩ := nx r5 fb
              exact ⟨_, acc, va, ra, fri.trans f25, kD f25, DaAll.same f25.keep acc dai, rb, hc⟩
            · cases hc
          | true =>
            refine iteT ?_
            simp only [if_true] at hc
            cases q3 : fe e3 with
            | none => rw [q3] at hc; cases hc
            | some z3 =>
              rw [q3] at hc
              cases z3 with
              | ex C f d => cases hc
              | ok y e4 =>
                cases y with
                | slot _ => cases hc
                | exc _ _ _ => cases hc
                | dat y =>
                  simp only at hc
                  split at hc
                  · rename_i fb
                    refine oe.run r5 q3 fun v H5 r6 f6 q6 => ?_
                    have f26 := f25.trans f6
                    have sz : va.length < sizeLine := by rw [daAll_len dai]; exact Nat.lt_trans fb.2 (by decide)
                    refine ⟨va, kD f26, sz, ?_⟩
                    obtain ⟨ra, rb⟩ := nx r6 fb.1
                    have hBD : (un B [D]) D := .inr (List.mem_cons_self ..)
                    have sub : Same (off (un (un B [D]) l4) H5) (off (un (un B [D]) l4) (upd H5 D (.lst (va ++ [v])))) := off_mono (fun b z n => absurd z n) fun b o n e => by rw [upd_ne (fun z => n (.inl (by rw [z]; exact hBD)))]; exact e
                    refine ⟨_, acc ++ [y], va ++ [v], ra.amb hBD trivial, fun b o n e => ?_, upd_same, ?_, rb, hc⟩
                    · rw [upd_ne (ne_of_none e hD)]
                      exact (fri.trans f26) b o n e
                    · exact daAll_append (DaAll.same sub acc (DaAll.same f26.keep acc dai)) (.cons (Da.same sub y q6) .nil)
                  · cases hc
  · rintro H9 ⟨en, acc, va, rn, frn, hDn, dan, fre, hc⟩
    rw [List.drop_length] at hc
    cases hc
    have rr : Rep K (un B [D]) σ H9 e9 l := ⟨rn.rp.any (wipe_length σ vs) fun j w q => by
      rw [wipe_get]
      by_cases z : j ∈ vs
      · exact absurd q (fre j z w)
      · simp [z], rn.nd, rn.out, rn.tb⟩
    refine post (.ref D) H9 [D] rr (f1.trans frn) ⟨D, va, [], rfl, rfl, hDn, rp1s_of dan⟩ (List.nodup_cons.mpr ⟨by simp, List.nodup_nil⟩) fun b z => ?_
    rw [List.mem_singleton.mp z]
    cases q : H D with
    | none => rfl
    | some o =>
      rw [f1 D o (fun z => nD D z rfl) q] at hD
      cases hD
end
end Ov
set_option Elab.async false
set_option linter.all false
set_option maxRecDepth 100000
set_option maxHeartbeats 4000000
namespace Ov
open PySem L2
/-! what is walked -/
section
variable {X : Cx} {tg : Expr}
def iSeq (K : PySem.W.Frag) (tl : TE) : TI := fun σ H R => tl σ H fun x H1 => ∃ a xs, x = .ref a ∧ ((SqL K H1 a xs ∧ R (Itl K a) H1) ∨ (SqT K H1 a xs ∧ R (Itt K a) H1))
theorem pi_seq {l : Expr} {tl : TE} (hl : PE X l tl) : PI X tg l (iSeq X.K tl) := by
  refine ⟨fun pins s σ H R I h => ?_⟩
  refine thn (hl.run pins s σ H _ I h) fun v s1 ⟨x, H1, I1, r1, q1⟩ => ?_
  obtain ⟨a, xs, e, ⟨hq, q⟩ | ⟨hq, q⟩⟩ := q1
  · subst e
    cases r1
    obtain ⟨its, rv, p, hz⟩ := I1.list hq
    refine wpAny_pyIter_list p.isList ?_
    refine ⟨s1.heap.objs.size, [s1.heap.objs.size], _, _, H1, rfl, I1.kept (t' := s1.toks) fun b o e => Heap.get?_push_of_some _ e, turn_list a _, ⟨_, Heap.get?_push_size _ rfl, rfl, rfl⟩, fun b hb => ?_, q⟩
    rw [List.mem_singleton.mp hb]
    exact I1.fpOk (Nat.le_refl _) (I1.hok.fresh (Nat.le_refl _))
  · subst e
    cases r1
    obtain ⟨its, rv, p, hz⟩ := I1.tuple hq
    refine wpAny_pyIter_tuple p ?_
    refine ⟨s1.heap.objs.size, [s1.heap.objs.size], _, _, H1, rfl, I1.kept (t' := s1.toks) fun b o e => Heap.get?_push_of_some _ e, turn_tuple a _, ⟨_, Heap.get?_push_size _ rfl, rfl, rfl⟩, fun b hb => ?_, q⟩
    rw [List.mem_singleton.mp hb]
    exact I1.fpOk (Nat.le_refl _) (I1.hok.fresh (Nat.le_refl _))
end
section
variable {K : PySem.W.Frag} {E : XK} {bx : Bool}
def seqI (f : M R) : M (List PyData) := M.bind f fun r => M.bind (lift (asD r)) fun d => lift (seqD d)
theorem OkI.seq {t : TE} {f : M R} (o : OkE K E t f) : OkI K E (iSeq K t) (seqI f) := by
  refine ⟨?_⟩
  intro B σ H env l rs rp h R post
  refine o.seq rp h post.exn fun a e v H1 h1 r1 f1 q1 => ?_
  obtain ⟨d, h2, h3⟩ := lift_step h1
  rw [asD_some h2] at q1
  obtain ⟨ds, h4, h5⟩ := lift_some h3
  subst h5
  have q1 : Da K (off (un B l) H1) v d := q1
  cases d with
  | list es =>
    cases h4
    cases q1 with
    | lst hq ha =>
      refine ⟨_, _, rfl, .inl ⟨rd_sq (rd_same (off_sub _ _) hq), post _ H1 _ _ r1 f1 (by rw [← daAll_len ha]; exact walk_list) (fun H2 f => rd_sq (rd_same (off_sub _ _) (rd_same f.keep hq))) ?_⟩⟩
      rintro i x H2 H3 d S fr ⟨rfl, hx⟩ hd hs _
      obtain ⟨y, e1, e2⟩ := daAll_get ha hd
      rw [hx] at e1
      cases e1
      exact ⟨same_refl _, e2.walk fr hs⟩
  | tuple es =>
    cases h4
    cases q1 with
    | tup hq ha =>
      refine ⟨_, _, rfl, .inr ⟨seqP (off_sub _ _) hq, post _ H1 _ _ r1 f1 (by rw [← daAll_len ha]; exact walk_tup) (fun H2 f => seqT (off_sub _ _) (seqP f.keep hq)) ?_⟩⟩
      rintro i x H2 H3 d S fr ⟨rfl, hx⟩ hd hs _
      obtain ⟨y, e1, e2⟩ := daAll_get ha hd
      rw [hx] at e1
      cases e1
      exact ⟨same_refl _, e2.walk fr hs⟩
  | none => cases h4
  | bool _ => cases h4
  | int _ => cases h4
  | str _ => cases h4
  | dict _ => cases h4
/-- lo, lo + 1, .. below hi -/
def rngL (lo hi : Int) : List Int := (List.range (hi - lo).toNat).map fun (k : Nat) => lo + (k : Int)
def rngD (as : List PyData) : Option (List PyData) :=
  match as with
  | [.int j] => if -(2 ^ 62) ≤ j ∧ j < 2 ^ 62 then some ((rngL 0 j).map .int) else none
  | _ => none
def rngD2 (as : List PyData) : Option (List PyData) :=
  match as with
  | [.int i, .int j] => if -(2 ^ 62) ≤ i ∧ i < 2 ^ 62 ∧ -(2 ^ 62) ≤ j ∧ j < 2 ^ 62 then some ((rngL i j).map .int) else none
  | _ => none
def argI (fo : List PyData → Option (List PyData)) (fa : M (List R)) : M (List PyData) := M.bind fa fun rs => M.bind (lift (dds rs)) fun ds => lift (fo ds)
theorem rng_len (lo hi : Int) : ((rngL lo hi).map PyData.int).length = (hi - lo).toNat := by simp [rngL]
theorem rng_get {lo hi : Int} {i : Nat} {d : PyData} (h : ((rngL lo hi).map PyData.int)[i]? = some d) : d = .int (lo + i) := by
  unfold rngL at h
  rw [List.getElem?_map, List.getElem?_map] at h
  obtain ⟨x, h1, h2⟩ := Option.map_eq_some_iff.mp h
  obtain ⟨y, h3, h4⟩ := Option.map_eq_some_iff.mp h1
  obtain ⟨h5, h6⟩ := List.getElem?_eq_some_iff.mp h3
  rw [List.getElem_range] at h6
  subst h6 h4 h2
  rfl
theorem OkI.range1 {t : TA} {fa : M (List R)} (o : OkA K E t fa) : OkI K E (iRng1 t) (argI rngD fa) := by
  refine ⟨?_⟩
  intro B σ H env l rs rp h R post
  refine o.seq rp h post.exn fun a e v H1 h1 r1 f1 q1 => ?_
  obtain ⟨ds, h2, h3⟩ := lift_step h1
  obtain ⟨out, h4, h5⟩ := lift_some h3
  subst h5
  have da := dds_ok q1 h2
  unfold rngD at h4
  split at h4
  · split at h4
    · rename_i j hj
      cases h4
      cases da with
      | cons d1 t1 =>
        cases t1
        cases d1
        refine ⟨j, rfl, hj.1, hj.2, post _ H1 _ _ r1 f1 (by rw [rng_len, show j - 0 = j by omega]; exact walk_range) (fun _ _ => trivial) ?_⟩
        rintro i x H2 H3 d S fr ⟨rfl, rfl⟩ hd hs _
        rw [rng_get hd]
        exact ⟨same_refl _, .int _⟩
    · cases h4
  · cases h4
theorem OkI.range2 {t : TA} {fa : M (List R)} (o : OkA K E t fa) : OkI K E (iRng2 t) (argI rngD2 fa) := by
  refine ⟨?_⟩
  intro B σ H env l rs rp h R post
  refine o.seq rp h post.exn fun a e v H1 h1 r1 f1 q1 => ?_
  obtain ⟨ds, h2, h3⟩ := lift_step h1
  obtain ⟨out, h4, h5⟩ := lift_some h3
  subst h5
  have da := dds_ok q1 h2
  unfold rngD2 at h4
  split at h4
  · split at h4
    · rename_i i0 j0 hj
      cases h4
      cases da with
      | cons d1 t1 =>
        cases t1 with
        | cons d2 t2 =>
          cases t2
          cases d1
          cases d2
          refine ⟨_, _, rfl, hj, post _ H1 _ _ r1 f1 (by rw [rng_len]; exact walk_range) (fun _ _ => trivial) ?_⟩
          rintro i x H2 H3 d S fr ⟨rfl, rfl⟩ hd hs _
          rw [rng_get hd]
          exact ⟨same_refl _, .int _⟩
    · cases h4
  · cases h4
/-- pairs -/
def pairUp (a b : List PyData) : List PyData := List.zipWith (fun x y => .tuple [x, y]) a b
theorem pair_get {a b : List PyData} {i : Nat} {d : PyData} (h : (pairUp a b)[i]? = some d) : ∃ x y, a[i]? = some x ∧ b[i]? = some y ∧ d = .tuple [x, y] := by
  unfold pairUp at h
  rw [List.getElem?_zipWith] at h
  cases q : a[i]? with
  | none => rw [q] at h; cases h
  | some x =>
    cases q2 : b[i]? with
    | none => rw [q, q2] at h; cases h
    | some y => rw [q, q2] at h; cases h; exact ⟨x, y, rfl, rfl, rfl⟩
theorem pair_len (a b : List PyData) : (pairUp a b).length = min a.length b.length := List.length_zipWith ..
/-- a new pair of two data -/
theorem pair_da {B S : Addr → Prop} {l : List Addr} {H1 H2 H3 : Hp} {T : Addr} {u v : V} {x y : PyData} {o : Obj} (hS : ∀ b, S b → ∃ o, H2 b = some o ∧ NT o) (hT : H2 T = none) (od : o.dict = none) (e : H3 = upd H2 T (.frz o (.tup [u, v]))) (hu : Da K (off S H2) u x) (hv : Da K (off S H2) v y) :
    Same H2 H3 ∧ Da K (off S H3) (.ref T) (.tuple [x, y]) := by
  subst e
  exact ⟨same_new hT _, (new_dp hS hT (.cons hu (.cons hv .nil))).2 o od⟩
theorem daAll1 {G : Hp} {vs : List V} {d : PyData} (h : DaAll K G vs [d]) : ∃ v, vs = [v] ∧ Da K G v d := by
  cases h with | cons a t => cases t; exact ⟨_, rfl, a⟩
end
end Ov
set_option Elab.async false
set_option linter.all false
set_option maxRecDepth 100000
set_option maxHeartbeats 4000000
namespace Ov
open PySem L2
/-! a list that a slot owns, changed by its methods -/
section
variable {K : PySem.W.Frag} {E : XK} {bx : Bool}
theorem set_same {α : Type} {σ : List α} {i : Nat} {s : α} (h : σ[i]? = some s) : σ.set i s = σ := by
  apply List.ext_getElem?
  intro j
  by_cases z : i = j
  · subst z; rw [List.getElem?_set_self (List.getElem?_eq_some_iff.mp h).1, h]
  · rw [List.getElem?_set_ne z]
/-- the list of slot i, and any other in its place -/
theorem Rep.mut2 {B : Addr → Prop} {σ : St} {H : Hp} {env : En} {l : List Addr} {i : Nat} {ds : List PyData} (r : Rep K B σ H env l) (hx : env[i]? = some (some (.own (dats ds)))) :
    ∃ p vs, σ[i]? = some (some (.ref p)) ∧ H p = some (.lst vs) ∧ p ∈ l ∧ DaAll K (off (un B l) H) vs ds ∧ ∀ {H' : Hp} {B' : Addr → Prop} {vs' : List V} {ds' : List PyData}, (∀ q ∈ l, q ≠ p → H' q = H q) → H' p = some (.lst vs') → Same (off (un B l) H) (off (un B' l) H') →
      DaAll K (off (un B' l) H') vs' ds' → (∀ b ∈ l, ¬ B' b) → (∀ b, B' b → ∃ o, H' b = some o ∧ NT o) → Rep K B' σ H' (env.set i (some (.own (dats ds')))) l := by
  obtain ⟨s, a, lx, ly, q1, q2, ⟨v, rfl, p, vs, b, rfl, rfl, q6, q7⟩, q5⟩ := r.rp.focus hx
  obtain ⟨rfl, q8⟩ := rp1s_dats q7
  have hp : p ∈ l := by rw [q2]; exact List.mem_append_right _ (List.mem_append_left _ (List.mem_cons_self ..))
  refine ⟨p, vs, q1, q6, hp, q8, fun {H' B' vs' ds'} k1 k2 sub h' o' t' => ?_⟩
  have nd := r.nd
  rw [q2] at nd
  obtain ⟨n1, n2, n3⟩ := List.nodup_append.mp nd
  obtain ⟨n4, n5, n6⟩ := List.nodup_append.mp n2
  refine ⟨?_, r.nd, o', t'⟩
  have := q5 (H' := H') (G' := off (un B' l) H') (s' := some (.ref p)) (e' := some (.own (dats ds'))) (a' := [p]) sub
    (fun q z => k1 q (by rw [q2]; exact List.mem_append_left _ z) fun e => n3 q z p (List.mem_append_left _ (List.mem_cons_self ..)) e) (fun q z => k1 q (by rw [q2]; exact List.mem_append_right _ (List.mem_append_right _ z)) fun e => n6 p (List.mem_cons_self ..) q z e.symm)
    ⟨_, rfl, p, vs', [], rfl, rfl, k2, rp1s_of h'⟩
  rw [set_same q1] at this
  rw [q2] at this ⊢
  exact this
theorem Rep.mut {B : Addr → Prop} {σ : St} {H : Hp} {env : En} {l : List Addr} {i : Nat} {ds : List PyData} (r : Rep K B σ H env l) (hx : env[i]? = some (some (.own (dats ds)))) :
    ∃ p vs, σ[i]? = some (some (.ref p)) ∧ H p = some (.lst vs) ∧ p ∈ l ∧ DaAll K (off (un B l) H) vs ds ∧ ∀ {vs' : List V} {ds' : List PyData}, DaAll K (off (un B l) H) vs' ds' → Rep K B σ (upd H p (.lst vs')) (env.set i (some (.own (dats ds')))) l := by
  obtain ⟨p, vs, q1, q6, hp, q8, q9⟩ := r.mut2 hx
  refine ⟨p, vs, q1, q6, hp, q8, fun {vs' ds'} h' => ?_⟩
  have sub : Same (off (un B l) H) (off (un B l) (upd H p (.lst vs'))) := off_mono (fun b z n => absurd z n) fun b o n e => by rw [upd_ne (fun z => n (.inr (by rw [z]; exact hp)))]; exact e
  refine q9 (fun q _ n => upd_ne n) upd_same sub (DaAll.same sub ds' h') r.out fun b z => ?_
  obtain ⟨o, e, n⟩ := r.tb b z
  exact ⟨o, by rw [upd_ne (fun y => r.out p hp (by rw [← y]; exact z))]; exact e, n⟩
theorem fr_upd {l : List Addr} {H : Hp} {p : Addr} {o : HO} (hp : p ∈ l) : Fr l H (upd H p o) := fun b u n h => by rw [upd_ne (fun z => n (by rw [z]; exact hp))]; exact h
def ownD (i : Nat) : M (List PyData) := fun env =>
  match env[i]? with
  | some (some (.own xs)) => (itds xs).map fun ds => .ok ds env
  | _ => none
theorem ownD_step {α : Type} {i : Nat} {g : List PyData → M α} {env : En} {rs : Rs α} (h : (M.bind (ownD i) g) env = some rs) : ∃ ds, env[i]? = some (some (.own (dats ds))) ∧ g ds env = some rs := by
  have key : ∀ z, ownD i env = some z → ∃ ds, env[i]? = some (some (.own (dats ds))) ∧ z = .ok ds env := fun z hz => by
    unfold ownD at hz
    split at hz
    · rename_i xs hx
      obtain ⟨ds, e1, e2⟩ := Option.map_eq_some_iff.mp hz
      exact ⟨ds, by rw [hx, itds_eq e1], e2.symm⟩
    · cases hz
  rcases bind_some h with ⟨a, e, h1, h2⟩ | ⟨C, f, d, h1, h2⟩
  · obtain ⟨ds, e1, e2⟩ := key _ h1
    cases e2
    exact ⟨_, e1, h2⟩
  · obtain ⟨ds, e1, e2⟩ := key _ h1
    cases e2
def setOwn (i : Nat) (ds : List PyData) : M Unit := fun env => some (.ok () (env.set i (some (.own (dats ds)))))
theorem setOwn_step {α : Type} {i : Nat} {ds : List PyData} {g : Unit → M α} {env : En} {rs : Rs α} (h : (M.bind (setOwn i ds) g) env = some rs) : g () (env.set i (some (.own (dats ds)))) = some rs := h
def MtOk (K : PySem.W.Frag) (r : V → List V → Hp → VK → Prop) (fo : List PyData → List PyData → Option (List PyData × PyData)) : Prop := ∀ {S : Addr → Prop} {H : Hp} {p : Addr} {vs xs : List V} {ds as ds' : List PyData} {d : PyData},
  H p = some (.lst vs) → DaAll K (off S H) vs ds → DaAll K (off S H) xs as → fo ds as = some (ds', d) → ∀ {Q : VK}, (∀ v vs', DaAll K (off S H) vs' ds' → Da K (off S H) v d → Q v (upd H p (.lst vs'))) → r (.ref p) xs H Q
def mthE (i : Nat) (fo : List PyData → List PyData → Option (List PyData × PyData)) (fa : M (List R)) : M R := M.bind (ownD i) fun _ => M.bind fa fun rs => M.bind (lift (dds rs)) fun as => M.bind (ownD i) fun ds => M.bind (lift (fo ds as)) fun r => M.bind (setOwn i r.1) fun _ => M.pure (.dat r.2)
theorem OkE.mth {i : Nat} {r : V → List V → Hp → VK → Prop} {fo : List PyData → List PyData → Option (List PyData × PyData)} {t : TA} {fa : M (List R)} (o : MtOk K r fo) (oa : OkA K E t fa) : OkE K E (tBM K "list" r (tVar i) t) (mthE i fo fa) := by
  refine ⟨?_⟩
  intro B σ H env l rs rp h Q post
  obtain ⟨ds0, hx0, h0⟩ := ownD_step h
  obtain ⟨p, vs0, q1, q2, q3, q4, _⟩ := rp.mut hx0
  refine ⟨.ref p, q1, .inl ⟨rfl, _, SqL.of q2⟩, ?_⟩
  refine oa.seq rp h0 post.exn fun a e vs H1 h1 r1 f1 w1 => ?_
  obtain ⟨as, h2, h3⟩ := lift_step h1
  obtain ⟨ds, hx, h4⟩ := ownD_step h3
  obtain ⟨⟨ds', d⟩, h5, h6⟩ := lift_step h4
  have h7 := setOwn_step h6
  cases h7
  obtain ⟨p', vs1, s1, s2, s3, s4, s5⟩ := r1.mut hx
  rw [q1] at s1
  cases s1
  refine o s2 s4 (dds_ok w1 h2) h5 fun v vs' d1 d2 => post v _ (s5 d1) (f1.trans (fr_upd s3)) ?_
  refine Da.same (off_mono (fun b z n => absurd z n) fun b o n e => ?_) _ d2
  rw [upd_ne (fun z => n (.inr (by rw [z]; exact s3)))]
  exact e
def appD (ds as : List PyData) : Option (List PyData × PyData) :=
  match as with
  | [a] => (sz (ds.length + 1)).map fun _ => (ds ++ [a], .none)
  | _ => none
theorem sz_lt {n : Nat} {u : Unit} (h : sz (n + 1) = some u) : n < sizeLine := sz_ok h
theorem ok_app : MtOk K rAppend appD := by
  intro S H p vs xs ds as ds' d hp hd ha e Q q
  unfold appD at e
  split at e
  · obtain ⟨u, e1, e2⟩ := Option.map_eq_some_iff.mp e
    cases e2
    obtain ⟨v, rfl, h1⟩ := daAll1 ha
    exact ⟨p, vs, v, rfl, rfl, hp, by rw [daAll_len hd]; exact sz_lt e1, q _ _ (daAll_append hd (.cons h1 .nil)) .non⟩
  · cases e
def insD (ds as : List PyData) : Option (List PyData × PyData) :=
  match as with
  | [.int i, a] => if 0 ≤ i ∧ i < 2 ^ 62 then (sz (ds.length + 1)).map fun _ => (ds.take i.toNat ++ [a] ++ ds.drop i.toNat, .none) else none
  | _ => none
theorem ok_ins : MtOk K (fun x vs H Q => ∃ (l : Addr) (xs : List V) (i : Int) (y : V), x = .ref l ∧ vs = [.int i, y] ∧ H l = some (.lst xs) ∧ xs.length < sizeLine ∧ 0 ≤ i ∧ i < 2 ^ 63 ∧ Q .non (upd H l (.lst (xs.take i.toNat ++ [y] ++ xs.drop i.toNat)))) insD := by
  intro S H p vs xs ds as ds' d hp hd ha e Q q
  unfold insD at e
  split at e
  · split at e
    · rename_i hi
      obtain ⟨u, e1, e2⟩ := Option.map_eq_some_iff.mp e
      cases e2
      cases ha with
      | cons h1 t1 =>
        obtain ⟨v, rfl, h2⟩ := daAll1 t1
        cases h1
        exact ⟨p, vs, _, v, rfl, rfl, hp, by rw [daAll_len hd]; exact sz_lt e1, hi.1, by omega, q _ _ (daAll_append (daAll_append (daAll_take hd _) (.cons h2 .nil)) (daAll_drop hd _)) .non⟩
    · cases e
  · cases e
def popD (ds as : List PyData) : Option (List PyData × PyData) :=
  match as with
  | [.int i] => if 0 ≤ i ∧ i < 2 ^ 62 then ds[i.toNat]?.map fun d => (ds.eraseIdx i.toNat, d) else none
  | _ => none
theorem ok_pop : MtOk K rPopAt popD := by
  intro S H p vs xs ds as ds' d hp hd ha e Q q
  unfold popD at e
  split at e
  · split at e
    · rename_i i hi
      obtain ⟨x, e1, e2⟩ := Option.map_eq_some_iff.mp e
      cases e2
      obtain ⟨v, rfl, h2⟩ := daAll1 ha
      cases h2
      obtain ⟨y, e3, e4⟩ := daAll_get hd e1
      have lt := (List.getElem?_eq_some_iff.mp e3).1
      exact ⟨p, vs, i, i.toNat, y, rfl, rfl, hp, by omega, by omega, by rw [seqIndex_of hi.1 (by omega)], e3, q _ _ (daAll_erase hd _) e4⟩
    · cases e
  · cases e
/-! x[i] = e, the list of a slot -/
def setIx (i : Nat) (fe fk : M R) : M Fl := M.bind fe fun r => M.bind (lift (asD r)) fun d => M.bind (ownD i) fun _ => M.bind fk fun k => M.bind (lift (asI k)) fun k => M.bind (ownD i) fun ds => M.bind (lift (ixN ds.length k)) fun j => M.bind (setOwn i (ds.set j d)) fun _ => M.pure .nx
theorem OkS.setIx {i : Nat} {te tk : TE} {fe fk : M R} (oe : OkE K E te fe) (ok : OkE K E tk fk) : OkS K E bx (tAsg te (gSub (tVar i) tk rSetL)) (Ov.setIx i fe fk) := by
  refine ⟨?_⟩
  intro B σ H env l rs rp h D post
  refine oe.seq rp h post.exn fun a e v H1 h1 r1 f1 q1 => ?_
  obtain ⟨d, h2, h3⟩ := lift_step h1
  obtain ⟨ds0, hx0, h4⟩ := ownD_step h3
  obtain ⟨p, vs0, s1, s2, s3, s4, _⟩ := r1.mut hx0
  refine ⟨.ref p, s1, ?_⟩
  refine ok.seq r1 h4 (exn_later post.exn f1) fun k e2 v2 H2 h5 r2 f2 q2 => ?_
  obtain ⟨k', h6, h7⟩ := lift_step h5
  obtain ⟨ds, hx, h8⟩ := ownD_step h7
  obtain ⟨j, h9, ha⟩ := lift_step h8
  have hb := setOwn_step ha
  cases hb
  obtain ⟨p', vs, t1, t2, t3, t4, t5⟩ := r2.mut hx
  rw [s1] at t1
  cases t1
  rw [asI_some h6] at q2
  cases q2
  rw [asD_some h2] at q1
  refine ⟨p, vs, k', j, rfl, rfl, t2, by rw [daAll_len t4]; exact h9, ?_⟩
  exact post σ _ l (t5 (daAll_set (Da.same f2.keep d q1) t4 j)) (Fr2.of ((f1.trans f2).trans (fr_upd t3))) fun _ => rfl
/-! new lists of one's own -/
theorem new_own {B : Addr → Prop} {σ : St} {H1 : Hp} {env : En} {l : List Addr} {p : Addr} {vs : List V} {ds : List PyData} (r : Rep K B σ H1 env l) (hp : H1 p = none) (da : DaAll K (off (un B l) H1) vs ds) :
    Rep K (un B [p]) σ (upd H1 p (.lst vs)) env l ∧ RpW K (upd H1 p (.lst vs)) (off (un (un B [p]) l) (upd H1 p (.lst vs))) (.ref p) (.own (dats ds)) [p] := by
  refine ⟨r.grow (same_new hp _) (fun _ z => .inl z) (fun b z => z.imp id fun z => by rw [List.mem_singleton.mp z]; exact hp) fun b z => ?_, p, vs, [], rfl, rfl, upd_same, rp1s_of (DaAll.same ?_ ds da)⟩
  · by_cases e : b = p
    · subst e; exact ⟨_, upd_same, trivial⟩
    · rw [upd_ne e]; exact r.tb b (z.resolve_right fun z => e (List.mem_singleton.mp z))
  · refine off_mono (fun b z n => ?_) fun b o n e => by rw [upd_ne (ne_of_none e hp)]; exact e
    rcases z with (z | z) | z
    · exact absurd (.inl z) n
    · rw [List.mem_singleton.mp z]; exact hp
    · exact absurd (.inr z) n
theorem fresh_back {B : Addr → Prop} {σ : St} {H H1 : Hp} {env : En} {l : List Addr} {p : Addr} (r : Rep K B σ H1 env l) (f : Fr l H H1) (hp : H1 p = none) : ∀ b ∈ [p], H b = none := fun b z => by
  rw [List.mem_singleton.mp z]
  cases q : H p with
  | none => rfl
  | some o =>
    rw [f p o (fun z => r.fresh hp (.inr z)) q] at hp
    cases hp
def lstW (fa : M (List R)) : M Wv := M.bind fa fun a => M.bind (lift (dds a)) fun ds => M.bind (lift (sz ds.length)) fun _ => M.pure (.own (dats ds))
theorem OkW.lst {t : TA} {fa : M (List R)} (oa : OkA K E t fa) : OkW K E (tLst t) (lstW fa) := by
  refine ⟨?_⟩
  intro B σ H env l rs rp h Q post
  refine oa.seq rp h post.exn fun a e vs H1 h1 r1 f1 q1 => ?_
  obtain ⟨ds, e1, h2⟩ := lift_step h1
  obtain ⟨u, e2, h3⟩ := lift_step h2
  cases h3
  have dp := dds_ok q1 e1
  refine ⟨by rw [daAll_len dp]; exact sz_ok e2, fun p hp => ?_⟩
  obtain ⟨n1, n2⟩ := new_own r1 hp dp
  exact post _ _ [p] n1 (f1.trans (Fr.of (same_new hp _))) n2 (List.nodup_cons.mpr ⟨by simp, List.nodup_nil⟩) (fresh_back r1 f1 hp)
def listW (fa : M (List R)) : M Wv := M.bind fa fun a => M.bind (vws a) fun ds => M.bind (lift (match ds with | [a] => seqD a | _ => none)) fun es => M.pure (.own (dats es))
theorem OkW.list {t : TA} {fa : M (List R)} (oa : OkA K E t fa) : OkW K E (tCB (fun xs H Q => ∃ p ys, xs = [.ref p] ∧ (SqL K H p ys ∨ SqT K H p ys) ∧ ∀ l, H l = none → Q (.ref l) (upd H l (.lst ys))) t) (listW fa) := by
  refine ⟨?_⟩
  intro B σ H env l rs rp h Q post
  refine oa.seq rp h post.exn fun a e vs H1 h1 r1 f1 q1 => ?_
  obtain ⟨ds, h2, w⟩ := vws_ok r1 q1 h1
  obtain ⟨es, h5, h6⟩ := lift_step h2
  cases h6
  split at h5
  · obtain ⟨x, rfl, wx⟩ := vwAll1 w
    obtain ⟨p, ys, rfl, hq, da⟩ := vw_seq wx h5
    refine ⟨p, ys, rfl, hq, fun p hp => ?_⟩
    obtain ⟨n1, n2⟩ := new_own r1 hp da
    exact post _ _ [p] n1 (f1.trans (Fr.of (same_new hp _))) n2 (List.nodup_cons.mpr ⟨by simp, List.nodup_nil⟩) (fresh_back r1 f1 hp)
  · cases h5
end
/-! what a def keeps -/
/-- data in, a value out -/
def spA (K : PySem.W.Frag) (F : List PyData → Option Wv) : Sp := fun vs H Q _ => ∃ B ds w, DaAll K (off B H) vs ds ∧ (∀ b, B b → ∃ o, H b = some o ∧ NT o) ∧ F ds = some w ∧
  ∀ v H' lw, Same H H' → RpW K H' (off (un B lw) H') v w lw → lw.Nodup → (∀ b ∈ lw, H b = none) → Q v H'
/-- the first argument is a list that may be changed -/
def spB (K : PySem.W.Frag) (F : List PyData → List PyData → Option (Wv × List PyData)) : Sp := fun vs H Q _ => ∃ B p bv bs vs' ds w bs', vs = .ref p :: vs' ∧ H p = some (.lst bv) ∧ ¬ B p ∧ DaAll K (off (un B [p]) H) bv bs ∧ DaAll K (off (un B [p]) H) vs' ds ∧
  (∀ b, B b → ∃ o, H b = some o ∧ NT o) ∧ F bs ds = some (w, bs') ∧
  ∀ v H' lw bv', Fr [p] H H' → H' p = some (.lst bv') → DaAll K (off (un (un B lw) [p]) H') bv' bs' → RpW K H' (off (un (un B lw) [p]) H') v w lw → lw.Nodup → (∀ b ∈ lw, H b = none) → Q v H'
def env0 (ds : List PyData) (n : Nat) : En := ds.map (fun d => some (.dat d)) ++ List.replicate n none
def runA (np n : Nat) (fb : M Fl) (ds : List PyData) : Option Wv := if ds.length = np then
  match fb (env0 ds (n - ds.length)) with
  | some (.ok .nx _) => some (.dat .none)
  | some (.ok (.rt w) _) => some w
  | _ => none else none
def runB (np n : Nat) (fb : M Fl) (bs ds : List PyData) : Option (Wv × List PyData) := if ds.length + 1 = np then
  match fb (some (.own (dats bs)) :: env0 ds (n - (ds.length + 1))) with
  | some (.ok (.rt w) (some (.own xs) :: _)) => (itds xs).map fun bs' => (w, bs')
  | _ => none else none
section
variable {K : PySem.W.Frag} {G H : Hp}
theorem rpe_none : ∀ n : Nat, RpE K H G (List.replicate n none) (List.replicate n none) []
  | 0 => rfl
  | n + 1 => ⟨[], [], rfl, rfl, rpe_none n⟩
theorem rpe_args : ∀ {vs : List V} {ds : List PyData} (n : Nat), DaAll K G vs ds → RpE K H G (vs.map some ++ List.replicate n none) (env0 ds n) []
  | _, _, n, .nil => rpe_none n
  | _, _, n, .cons h t => ⟨[], [], rfl, ⟨_, rfl, rfl, h⟩, rpe_args n t⟩
theorem finA {t : TS} {fb : M Fl} {N : List Str} {vs : List V} {Q : VK} {E : XK} {np : Nat} (o : OkS K L2.E0 false t fb) (h : spA K (runA np N.length fb) vs H Q E) : t { nx := fun _ H' => Q .non H', rt := Q } (L2.start N vs) H := by
  obtain ⟨B, ds, w, da, hB, hf, q⟩ := h
  have el := daAll_len da
  have rp : Rep K B (L2.start N vs) H (env0 ds (N.length - ds.length)) [] := by
    refine ⟨?_, List.nodup_nil, fun _ z => (by cases z), hB⟩
    rw [un_nil]
    unfold L2.start
    rw [el]
    exact rpe_args _ da
  unfold runA at hf
  split at hf
  case isFalse => cases hf
  cases hz : fb (env0 ds (N.length - ds.length)) with
  | none => rw [hz] at hf; cases hf
  | some z =>
    rw [hz] at hf
    cases z with
    | ex C f d => cases hf
    | ok fl e =>
      cases fl with
      | bk => cases hf
      | ct => cases hf
      | nx =>
        cases hf
        refine o.run rp hz fun σ' H' l' r' f' _ => q .non H' [] (fun b o e => f'.fr b o (fun z => by cases z) e) ⟨rfl, .non⟩ List.nodup_nil fun _ z => by cases z
      | rt w' =>
        cases hf
        refine o.run rp hz fun v σ' H' l' lw r' f' _ rw' nd hl => q v H' lw (fun b o e => f'.fr b o (fun z => by cases z) e) ?_ nd fun b z => ?_
        · exact rw'.mv (off_mono (fun b z n => absurd (.inl z) n) fun b o n e => e) fun _ _ => rfl
        · exact (f'.sub b (List.mem_append_right _ z)).resolve_left fun z => by cases z
theorem finB {t : TS} {fb : M Fl} {N : List Str} {vs : List V} {Q : VK} {E : XK} {np : Nat} (o : OkS K L2.E0 true t fb) (h : spB K (runB np N.length fb) vs H Q E) : t { nx := fun _ H' => Q .non H', rt := Q } (L2.start N vs) H := by
  obtain ⟨B, p, bv, bs, vs', ds, w, bs', rfl, hp, nB, db, da, hB, hf, q⟩ := h
  have el := daAll_len da
  have rp : Rep K B (L2.start N (.ref p :: vs')) H (some (.own (dats bs)) :: env0 ds (N.length - (ds.length + 1))) [p] := by
    refine ⟨?_, List.nodup_cons.mpr ⟨by simp, List.nodup_nil⟩, fun b z => by rw [List.mem_singleton.mp z]; exact nB, hB⟩
    unfold L2.start
    rw [List.map_cons, List.cons_append, List.length_cons, el]
    exact ⟨[p], [], rfl, ⟨_, rfl, p, bv, [], rfl, rfl, hp, rp1s_of db⟩, rpe_args _ da⟩
  unfold runB at hf
  split at hf
  case isFalse => cases hf
  cases hz : fb (some (.own (dats bs)) :: env0 ds (N.length - (ds.length + 1))) with
  | none => rw [hz] at hf; cases hf
  | some z =>
    rw [hz] at hf
    cases z with
    | ex C f d => cases hf
    | ok fl e =>
      cases fl with
      | bk => cases hf
      | ct => cases hf
      | nx => cases hf
      | rt w' =>
        cases e with
        | nil => cases hf
        | cons e0 er =>
          cases e0 with
          | none => cases hf
          | some w0 =>
          cases w0 with
          | dat _ => cases hf
          | exc _ _ _ => cases hf
          | dct _ => cases hf
          | dci _ => cases hf
          | dtk _ => cases hf
          | dts _ => cases hf
          | pin _ _ => cases hf
          | dtn _ => cases hf
          | nd _ => cases hf
          | own xs =>
          obtain ⟨bs2, e1, e2⟩ := Option.map_eq_some_iff.mp (show (itds xs).map (fun bs' => (w', bs')) = _ from hf)
          cases e2
          have hx : (some (Wv.own xs) :: er)[0]? = some (some (.own (dats bs'))) := by rw [itds_eq e1]; rfl
          refine o.run rp hz fun v σ' H' l' lw r' f' b0 rw' nd hl => ?_
          obtain ⟨p', vs2, s1, s2, s3, s4, _⟩ := r'.mut hx
          have s0 : σ'[0]? = some (some (.ref p)) := (b0 rfl).trans rfl
          rw [s0] at s1
          cases s1
          have sub : Same (off (un (un B lw) l') H') (off (un (un B lw) [p]) H') := off_mono (fun b z n => ?_) fun b o n e => e
          · refine q v H' lw vs2 f'.fr s2 (DaAll.same sub _ s4) (rw'.mv sub fun _ _ => rfl) nd fun b z => ?_
            exact (f'.sub b (List.mem_append_right _ z)).resolve_left fun y => (hl b z).1 (by rw [List.mem_singleton.mp y]; exact s3)
          · rcases z with z | z
            · exact absurd (.inl z) n
            · rw [List.mem_singleton.mp z] at n; exact absurd (.inr s3) n
end
theorem lenA {K : PySem.W.Frag} {np n : Nat} {fb : M Fl} {vs : List V} {H : Hp} {Q : VK} {E : XK} (h : spA K (runA np n fb) vs H Q E) : vs.length = np := by
  obtain ⟨B, ds, w, da, hB, hf, q⟩ := h
  unfold runA at hf
  split at hf
  · rw [daAll_len da]; assumption
  · cases hf
theorem lenB {K : PySem.W.Frag} {np n : Nat} {fb : M Fl} {vs : List V} {H : Hp} {Q : VK} {E : XK} (h : spB K (runB np n fb) vs H Q E) : vs.length = np := by
  obtain ⟨B, p, bv, bs, vs', ds, w, bs', rfl, hp, nB, db, da, hB, hf, q⟩ := h
  unfold runB at hf
  split at hf
  · rw [List.length_cons, daAll_len da]; assumption
  · cases hf
/-! calls -/
section
variable {K : PySem.W.Frag} {E : XK} {bx : Bool}
def callA (F : List PyData → Option Wv) (fa : M (List R)) : M Wv := M.bind fa fun rs => M.bind (lift (dds rs)) fun ds => lift (F ds)
theorem callA_ok {B : Addr → Prop} {σ : St} {H H1 : Hp} {e : En} {l : List Addr} {vs : List V} {ds : List PyData} {F : List PyData → Option Wv} {w : Wv} {Q : VK} {E' : XK} (r1 : Rep K B σ H1 e l) (f1 : Fr l H H1) (da : DaAll K (off (un B l) H1) vs ds) (hw : F ds = some w)
    (post : PostW K E B σ H l (.ok w e) Q) : spA K F vs H1 Q E' := by
  refine ⟨un B l, ds, w, da, r1.tl, hw, fun v H' lw s rw' nd fr => ?_⟩
  have hl : ∀ b ∈ lw, ¬ un B l b := fun b z => r1.fresh (fr b z)
  refine post v H' lw (r1.grow s (fun _ z => .inl z) (fun b z => z.imp id (fr b)) fun b z => ?_) (f1.trans (Fr.of s)) (rw'.mv (off_mono (fun b z n => absurd (z.elim (fun z => z.elim (fun z => .inl (.inl z)) .inr) fun z => .inl (.inr z)) n) fun b o n e => e) fun _ _ => rfl) nd fun b z => ?_
  · rcases z with z | z
    · obtain ⟨o, e, n⟩ := r1.tb b z
      exact ⟨o, s _ _ e, n⟩
    · exact rw'.trk b z
  · cases q : H b with
    | none => rfl
    | some o =>
      have := f1 b o (fun y => hl b z (.inr y)) q
      rw [fr b z] at this
      cases this
theorem OkW.call {F : List PyData → Option Wv} {E' : XK} {t : TA} {fa : M (List R)} (oa : OkA K E t fa) : OkW K E (tCall (spA K F) [] E' t) (callA F fa) := by
  refine ⟨?_⟩
  intro B σ H env l rs rp h Q post
  refine oa.seq rp h post.exn fun a e vs H1 h1 r1 f1 q1 => ?_
  obtain ⟨ds, h2, h3⟩ := lift_step h1
  obtain ⟨w, h4, h5⟩ := lift_some h3
  subst h5
  rw [List.append_nil]
  exact callA_ok r1 f1 (dds_ok q1 h2) h4 post
/-- the first argument is slot i's own list -/
def callB (i : Nat) (F : List PyData → List PyData → Option (Wv × List PyData)) (fa : M (List R)) : M Wv := M.bind (ownD i) fun _ => M.bind fa fun rs => M.bind (lift (dds rs)) fun ds => M.bind (ownD i) fun bs => M.bind (lift (F bs ds)) fun r => M.bind (setOwn i r.2) fun _ => M.pure r.1
theorem un_less {B : Addr → Prop} {l : List Addr} {p : Addr} (hp : p ∈ l) : un (fun b => un B l b ∧ b ≠ p) [p] = un B l := by
  funext b
  refine propext ⟨fun z => z.elim (fun z => z.1) fun z => ?_, fun z => ?_⟩
  · rw [List.mem_singleton.mp z]; exact .inr hp
  · by_cases e : b = p
    · exact .inr (by rw [e]; exact List.mem_cons_self ..)
    · exact .inl ⟨z, e⟩
theorem OkW.callB {i : Nat} {F : List PyData → List PyData → Option (Wv × List PyData)} {E' : XK} {t : TA} {fa : M (List R)} (oa : OkA K E t fa) : OkW K E (tCall (spB K F) [] E' (tCons (tVar i) t)) (Ov.callB i F fa) := by
  refine ⟨?_⟩
  intro B σ H env l rs rp h Q post
  obtain ⟨ds0, hx0, h0⟩ := ownD_step h
  obtain ⟨p, vs0, q1, q2, q3, q4, _⟩ := rp.mut hx0
  refine ⟨.ref p, q1, ?_⟩
  refine oa.seq rp h0 post.exn fun a e vs H1 h1 r1 f1 w1 => ?_
  obtain ⟨as, h2, h3⟩ := lift_step h1
  obtain ⟨bs, hx, h4⟩ := ownD_step h3
  obtain ⟨⟨w, bs'⟩, h5, h6⟩ := lift_step h4
  have h7 := setOwn_step h6
  cases h7
  obtain ⟨p', vs1, s1, s2, s3, s4, s5⟩ := r1.mut2 hx
  rw [q1] at s1
  cases s1
  have da := dds_ok w1 h2
  rw [List.append_nil]
  refine ⟨fun b => un B l b ∧ b ≠ p, p, vs1, bs, vs, as, w, bs', rfl, s2, fun z => z.2 rfl, by rw [un_less s3]; exact s4, by rw [un_less s3]; exact da, fun b z => r1.tl b z.1, h5, fun v H' lw bv' fr hb' db' rw' nd fw => ?_⟩
  have ew : ∀ b, un (un B lw) l b → un (un (fun b => un B l b ∧ b ≠ p) lw) [p] b := fun b z => by
    by_cases e : b = p
    · exact .inr (by rw [e]; exact List.mem_cons_self ..)
    · exact .inl (z.elim (fun z => z.imp (fun z => ⟨.inl z, e⟩) id) fun z => .inl ⟨.inr z, e⟩)
  have sb : Same (off (un (un (fun b => un B l b ∧ b ≠ p) lw) [p]) H') (off (un (un B lw) l) H') := off_mono (fun b z n => absurd (ew b z) n) fun b o n e => e
  have hl : ∀ b ∈ lw, ¬ un B l b := fun b z => r1.fresh (fw b z)
  have sub : Same (off (un B l) H1) (off (un (un B lw) l) H') := off_mono (fun b z n => z.elim (fun z => z.elim (fun z => absurd (.inl z) n) (fw b)) fun z => absurd (.inr z) n) fun b o n e => fr b o (fun z => n (by rw [List.mem_singleton.mp z]; exact .inr s3)) e
  refine post v H' lw (s5 (fun q z n => ?_) hb' sub (DaAll.same sb _ db') (fun b z y => y.elim (r1.out b z) fun y => hl b y (.inr z)) fun b z => ?_) (f1.trans fun b o n e => fr b o (fun z => n (by rw [List.mem_singleton.mp z]; exact s3)) e) (rw'.mv sb fun _ _ => rfl) nd fun b z => ?_
  · obtain ⟨us, e, _⟩ := r1.rp.trk q z
    rw [e]
    exact fr q _ (fun y => n (List.mem_singleton.mp y)) e
  · rcases z with z | z
    · obtain ⟨o, e, n⟩ := r1.tb b z
      exact ⟨o, fr b o (fun y => r1.out p s3 (by rw [← List.mem_singleton.mp y]; exact z)) e, n⟩
    · exact rw'.trk b z
  · cases q : H b with
    | none => rfl
    | some o =>
      have := f1 b o (fun y => hl b z (.inr y)) q
      rw [fw b z] at this
      cases this
end
end Ov
set_option Elab.async false
set_option linter.all false
set_option maxRecDepth 100000
set_option maxHeartbeats 4000000
namespace Ov
open PySem L2
def chk (b : Bool) : Option Unit := if b = true then some () else none
theorem chk_ok {b : Bool} {u : Unit} (h : chk b = some u) : b = true := by
  unfold chk at h
  split at h
  · assumption
  · cases h
section
variable {K : PySem.W.Frag} {E : XK} {bx : Bool}
/-! isinstance of data -/
def kitD (T : String) (d : PyData) : Option Bool := kitB (tyD d) T
def isiE (T : String) (fa : M R) : M R := M.bind fa fun r => M.bind (vw r) fun d => M.bind (lift (kitD T d)) fun b => M.pure (ofB b)
def isiE2 (A B : String) (fa : M R) : M R := M.bind fa fun r => M.bind (vw r) fun d => M.bind (lift (kitD A d)) fun a => M.bind (lift (kitD B d)) fun b => M.pure (ofB (a || b))
/-! is None, is True -/
def isNR : R → Option Bool
  | .dat .none => some true
  | .dat _ => some false
  | .exc _ _ _ => some false
  | .slot _ => none
def isNE (n : Bool) (fa : M R) : M R := M.bind fa fun r => M.bind (lift (isNR r)) fun b => M.pure (ofB (n ^^ b))
theorem isNR_ok {G : Hp} {σ : St} {v : V} {r : R} {b : Bool} (q : RpR K G σ v r) (h : isNR r = some b) : decide (v = .non) = b := by
  cases r with
  | dat d =>
    have q : Da K G v d := q
    cases q with
    | non => cases h; rfl
    | bl _ => cases h; rfl
    | int _ => cases h; rfl
    | str _ => cases h; rfl
    | lst _ _ => cases h; rfl
    | tup _ _ => cases h; rfl
    | dct _ _ _ _ => cases h; rfl
    | dtk _ _ _ _ => cases h; rfl
  | slot i => cases h
  | exc C f d =>
    obtain ⟨a, u, rfl, _⟩ := q
    cases h
    rfl
theorem OkE.isN {ta : TE} {fa : M R} (oa : OkE K E ta fa) : OkE K E (tOp (fun x y H Q => y = .non ∧ Q (.bl (decide (x = .non))) H) ta (tC .non)) (isNE false fa) := by
  refine ⟨?_⟩
  intro B σ H env l rs rp h Q post
  refine oa.seq rp h post.exn fun a e v H1 h1 r1 f1 q1 => ?_
  obtain ⟨b, h3, h4⟩ := lift_step h1
  cases h4
  refine ⟨rfl, ?_⟩
  rw [isNR_ok q1 h3]
  exact post _ H1 r1 f1 (by rw [Bool.false_xor]; exact .bl b)
/-! turned round -/
def revD (a : PyData) : Option PyData :=
  match a with
  | .list ds => some (.list ds.reverse)
  | .tuple ds => some (.tuple ds.reverse)
  | _ => none
theorem OkE.rev {ta : TE} {fa : M R} (oa : OkE K E ta fa) : OkE K E (tRevW K ta) (op1 revD fa) := by
  refine ⟨?_⟩
  intro B σ H env l rs rp h Q post
  refine oa.seq rp h post.exn fun a e v H1 h1 r1 f1 q1 => ?_
  obtain ⟨x, h3, w1⟩ := vw_step r1 q1 h1
  obtain ⟨d, h5, h6⟩ := lift_step h3
  cases h6
  cases x with
  | list ds =>
    cases h5
    obtain ⟨p, vs, rfl, e2, e3⟩ := vw_list w1
    refine ⟨p, vs, rfl, .inl ⟨rd_sq e2, fun b H' s n hb => post _ H' (r1.same s) (f1.trans (Fr.of s)) ?_⟩⟩
    exact .lst (SqL.of ((off_ne (r1.fresh n)).trans hb)) (DaAll.same (off_new s) _ (daAll_reverse e3))
  | tuple ds =>
    cases h5
    obtain ⟨p, vs, rfl, e2, e3⟩ := vw_tup w1
    refine ⟨p, vs, rfl, .inr ⟨seqT (off_sub _ _) e2, fun b H' s n hb => post _ H' (r1.same s) (f1.trans (Fr.of s)) ?_⟩⟩
    exact .tup (TP.offn (r1.fresh n) hb) (DaAll.same (off_new s) _ (daAll_reverse e3))
  | none => cases h5
  | bool _ => cases h5
  | int _ => cases h5
  | str _ => cases h5
  | dict _ => cases h5
/-! len(set(t)) -/
def nub : List Int → List Int
  | [] => []
  | x :: r => if x ∈ r then nub r else x :: nub r
theorem nub_mem (k : Int) : ∀ ns : List Int, k ∈ nub ns ↔ k ∈ ns
  | [] => Iff.rfl
  | x :: r => by
    unfold nub
    have ih := nub_mem k r
    split
    · rename_i h
      rw [ih]
      exact ⟨List.mem_cons_of_mem _, fun z => (List.mem_cons.mp z).elim (fun z => z ▸ h) id⟩
    · rw [List.mem_cons, ih, List.mem_cons]
theorem nub_nodup : ∀ ns : List Int, (nub ns).Nodup
  | [] => List.nodup_nil
  | x :: r => by
    unfold nub
    split
    · exact nub_nodup r
    · rename_i h
      exact List.nodup_cons.mpr ⟨fun z => h ((nub_mem x r).mp z), nub_nodup r⟩
def lenSetD (a : PyData) : Option PyData :=
  match a with
  | .tuple ds => (intsD ds).bind fun ns => if ns.length ≤ 1000 then some (.int (nub ns).length) else none
  | _ => none
theorem OkE.lenSet {ta : TE} {fa : M R} (oa : OkE K E ta fa) : OkE K E (tLenSetT K ta) (op1 lenSetD fa) := by
  refine ⟨?_⟩
  intro B σ H env l rs rp h Q post
  refine oa.seq rp h post.exn fun a e v H1 h1 r1 f1 q1 => ?_
  obtain ⟨x, h3, w1⟩ := vw_step r1 q1 h1
  obtain ⟨d, h5, h6⟩ := lift_step h3
  cases h6
  cases x with
  | tuple ds =>
    obtain ⟨ns, h7, h8⟩ := Option.bind_eq_some_iff.mp (show (intsD ds).bind _ = some d from h5)
    split at h8
    · rename_i hn
      cases h8
      obtain ⟨p, vs, rfl, e2, e3⟩ := vw_tup w1
      rw [ints_da e3 h7] at e2
      refine ⟨p, ns, rfl, seqT (off_sub _ _) e2, hn, fun out nd hm => ?_⟩
      have : out.length = (nub ns).length := Nat.le_antisymm (sub_len _ _ nd fun x hx => (nub_mem x ns).mpr ((hm x).mp hx)) (sub_len _ _ (nub_nodup ns) fun x hx => (hm x).mpr ((nub_mem x ns).mp hx))
      rw [this]
      exact post _ H1 r1 f1 (.int _)
    · cases h8
  | none => cases h5
  | bool _ => cases h5
  | int _ => cases h5
  | str _ => cases h5
  | list _ => cases h5
  | dict _ => cases h5
/-! str of a number, range as a tuple or list -/
def rgE (fr : M (Int × Int)) : M R := M.bind fr fun r => M.bind (lift (chk (decide (-(2 ^ 62) ≤ r.1 ∧ r.1 < 2 ^ 62 ∧ -(2 ^ 62) ≤ r.2 ∧ r.2 < 2 ^ 62 ∧ (r.2 - r.1).toNat ≤ 1000000)))) fun _ => M.pure (.dat (.tuple ((rngL r.1 r.2).map .int)))
def rg2 (fa fb : M R) : M (Int × Int) := M.bind fa fun a => M.bind fb fun b => M.bind (lift (asI a)) fun i => M.bind (lift (asI b)) fun j => M.pure (i, j)
/-! a, b = x, y -/
def parS (i j : Nat) (f g : M Wv) : M Fl := M.bind f fun v => M.bind g fun w => M.bind (putM i v) fun _ => M.bind (putM j w) fun _ => M.pure .nx
theorem OkS.par {i j : Nat} {ta tb : TE} {f g : M Wv} (hb : bx = true → i ≠ 0 ∧ j ≠ 0) (o : OkW K E ta f) (o' : OkW K E tb g) : OkS K E bx (tPar i j (tCons ta (tCons tb tNil))) (parS i j f g) := by
  refine ⟨?_⟩
  intro B σ H env l rs rp h D post
  refine o.seq rp h post.exn fun w1 e1 v1 H1 l1 h1 r1 f1 q1 nd1 fr1 => ?_
  have n1 : ∀ b ∈ l1, ¬ un B l b := fun b z => rp.fresh (fr1 b z)
  have ex1 : ∀ C f d, rs = .ex C f d → Exn K E (un B l1) H1 l C f d := fun C f d e => by
    have := (post.exn C f d e).later f1
    exact this.wide
  refine o'.seq r1 h1 ex1 fun w2 e2 v2 H2 l2 h2 r2 f2 q2 nd2 fr2 => ?_
  have n2 : ∀ b ∈ l2, ¬ un (un B l1) l b := fun b z => r1.fresh (fr2 b z)
  obtain ⟨hi, h3⟩ := putM_step h2
  obtain ⟨hj, h4⟩ := putM_step h3
  cases h4
  refine ⟨v1, v2, rfl, ?_⟩
  have ec : un (un B l1) l2 = un (un B l2) l1 := by
    funext b
    exact propext ⟨fun z => z.elim (fun z => z.elim (fun z => .inl (.inl z)) .inr) fun z => .inl (.inr z), fun z => z.elim (fun z => z.elim (fun z => .inl (.inl z)) .inr) fun z => .inl (.inr z)⟩
  have q1' : RpW K H2 (off (un (un (un B l2) l1) l) H2) v1 w1 l1 := by
    refine q1.mv (off_mono (fun b z n => ?_) fun b o n e => f2 b o (fun z => n (.inr z)) e) fun b z => ?_
    · rcases z with ((z | z) | z) | z
      · exact absurd (.inl (.inl z)) n
      · exact fr2 b z
      · exact absurd (.inl (.inr z)) n
      · exact absurd (.inr z) n
    · obtain ⟨o, e, _⟩ := q1.trk b z
      rw [e]
      exact f2 b o (fun y => n1 b z (.inr y)) e
  rw [ec] at r2
  obtain ⟨l3, r3, m3⟩ := r2.put hi q1' nd1 fun b z => ⟨fun y => n1 b z (.inr y), fun y => y.elim (fun y => n1 b z (.inl y)) fun y => n2 b y (.inl (.inr z))⟩
  have sub3 : ∀ b ∈ l3, b ∈ l ∨ b ∈ l1 := m3
  have q2' : RpW K H2 (off (un (un B l2) l3) H2) v2 w2 l2 := by
    refine q2.mv (off_mono (fun b z n => ?_) fun b o n e => e) fun _ _ => rfl
    rcases z with (z | z) | z
    · exact absurd (.inl (.inl (.inl z))) n
    · exact absurd (.inl (.inr z)) n
    · rcases m3 b z with z | z
      · exact absurd (.inr z) n
      · exact absurd (.inl (.inl (.inr z))) n
  obtain ⟨l4, r4, m4⟩ := r3.put hj q2' nd2 fun b z => ⟨fun y => (m3 b y).elim (fun y => n2 b z (.inr y)) fun y => n2 b z (.inl (.inr y)), fun y => n2 b z (.inl (.inl y))⟩
  refine post _ H2 l4 r4 ⟨f1.trans f2, fun b z => ?_⟩ fun z => ?_
  · rcases m4 b z with z | z
    · exact (m3 b z).imp id (fr1 b)
    · refine .inr ?_
      cases q : H b with
      | none => rfl
      | some o =>
        have := f1 b o (fun y => n2 b z (.inr y)) q
        rw [fr2 b z] at this
        cases this
  · rw [List.getElem?_set_ne (hb z).2, List.getElem?_set_ne (hb z).1]
/-! dicts of numbers -/
def dnew : M Wv := M.pure (.dct [])
theorem OkW.dnew : OkW K E tDNewK Ov.dnew := by
  refine ⟨?_⟩
  intro B σ H env l rs rp h Q post
  cases h
  intro p hp
  refine post _ _ [p] (rp.grow (same_new hp _) (fun _ z => .inl z) (fun b z => z.imp id fun z => by rw [List.mem_singleton.mp z]; exact hp) fun b z => ?_) (Fr.of (same_new hp _)) ⟨p, rfl, rfl, upd_same⟩ (List.nodup_cons.mpr ⟨by simp, List.nodup_nil⟩) fun b z => by rw [List.mem_singleton.mp z]; exact hp
  by_cases e : b = p
  · subst e; exact ⟨_, upd_same, trivial⟩
  · rw [upd_ne e]; exact rp.tb b (z.resolve_right fun z => e (List.mem_singleton.mp z))
def dctD (i : Nat) : M (List Int) := fun env =>
  match env[i]? with
  | some (some (.dct ks)) => some (.ok ks env)
  | _ => none
theorem dctD_step {α : Type} {i : Nat} {g : List Int → M α} {env : En} {rs : Rs α} (h : (M.bind (dctD i) g) env = some rs) : ∃ ks, env[i]? = some (some (.dct ks)) ∧ g ks env = some rs := by
  have key : ∀ z, dctD i env = some z → ∃ ks, env[i]? = some (some (.dct ks)) ∧ z = .ok ks env := fun z hz => by
    unfold dctD at hz
    split at hz
    · rename_i ks hx
      cases hz
      exact ⟨ks, hx, rfl⟩
    · cases hz
  rcases bind_some h with ⟨a, e, h1, h2⟩ | ⟨C, f, d, h1, h2⟩
  · obtain ⟨ds, e1, e2⟩ := key _ h1
    cases e2
    exact ⟨_, e1, h2⟩
  · obtain ⟨ds, e1, e2⟩ := key _ h1
    cases e2
theorem Rep.dget {B : Addr → Prop} {σ : St} {H : Hp} {env : En} {l : List Addr} {i : Nat} {ks : List Int} (r : Rep K B σ H env l) (hx : env[i]? = some (some (.dct ks))) :
    ∃ p, σ[i]? = some (some (.ref p)) ∧ H p = some (.dK (kvT ks)) ∧ p ∈ l ∧ ∀ ks', Rep K B σ (upd H p (.dK (kvT ks'))) (env.set i (some (.dct ks'))) l := by
  obtain ⟨s, a, lx, ly, q1, q2, ⟨v, rfl, p, rfl, rfl, q6⟩, q5⟩ := r.rp.focus hx
  have hp : p ∈ l := by rw [q2]; exact List.mem_append_right _ (List.mem_append_left _ (List.mem_cons_self ..))
  refine ⟨p, q1, q6, hp, fun ks' => ?_⟩
  have nd := r.nd
  rw [q2] at nd
  obtain ⟨n1, n2, n3⟩ := List.nodup_append.mp nd
  obtain ⟨n4, n5, n6⟩ := List.nodup_append.mp n2
  have sub : Same (off (un B l) H) (off (un B l) (upd H p (.dK (kvT ks')))) := off_mono (fun b z n => absurd z n) fun b o n e => by rw [upd_ne (fun z => n (.inr (by rw [z]; exact hp)))]; exact e
  refine ⟨?_, r.nd, r.out, fun b z => ?_⟩
  · have := q5 (H' := upd H p (.dK (kvT ks'))) (s' := some (.ref p)) (e' := some (.dct ks')) (a' := [p]) sub
      (fun q z => upd_ne fun e => n3 q z p (List.mem_append_left _ (List.mem_cons_self ..)) e) (fun q z => upd_ne fun e => n6 p (List.mem_cons_self ..) q z e.symm) ⟨_, rfl, p, rfl, rfl, upd_same⟩
    rw [set_same q1] at this
    rw [q2] at this ⊢
    exact this
  · obtain ⟨o, e, n⟩ := r.tb b z
    exact ⟨o, by rw [upd_ne (fun y => r.out p hp (by rw [← y]; exact z))]; exact e, n⟩
theorem kvT_val (ks : List Int) (k : Int) : (valV (kvT ks) (Sum.inl k)).isSome = decide (k ∈ ks) := by
  unfold valV kvT
  rw [Option.isSome_map]
  induction ks with
  | nil => rfl
  | cons x r ih =>
    rw [List.map_cons, List.find?_cons]
    by_cases e : x = k
    · subst e; simp
    · have : decide ((Sum.inl x : L2.Key) = Sum.inl k) = false := decide_eq_false fun z => e (Sum.inl.inj z)
      simp only [this]
      rw [ih]
      simp [Ne.symm e]
def putT (ks : List Int) (k : Int) : List Int := if k ∈ ks then ks else ks ++ [k]
theorem kvT_put (ks : List Int) (k : Int) : putK (kvT ks) (Sum.inl k) (.bl true) = kvT (putT ks k) := by
  unfold putK putT
  have ha : ((kvT ks).any fun kv => decide (kv.1 = (Sum.inl k : L2.Key))) = decide (k ∈ ks) := by
    unfold kvT
    induction ks with
    | nil => rfl
    | cons x r ih =>
      rw [List.map_cons, List.any_cons, ih]
      by_cases e : x = k
      · subst e; simp
      · have : decide ((Sum.inl x : L2.Key) = Sum.inl k) = false := decide_eq_false fun z => e (Sum.inl.inj z)
        simp only [this, Bool.false_or]
        simp [Ne.symm e]
  rw [ha]
  by_cases e : k ∈ ks
  · simp only [e, decide_true, if_true]
    unfold kvT
    rw [List.map_map]
    refine List.map_congr_left fun x _ => ?_
    show (if (Sum.inl x : L2.Key) = Sum.inl k then _ else _) = _
    split <;> rfl
  · simp only [e, decide_false, if_false, Bool.false_eq_true]
    unfold kvT
    rw [List.map_append]
    rfl
def dinT (n : Bool) (i : Nat) (fk : M R) : M Bool := M.bind fk fun r => M.bind (lift (asI r)) fun k => M.bind (dctD i) fun ks => M.pure (n ^^ decide (k ∈ ks))
theorem OkT.din {i : Nat} {tk : TE} {fk : M R} (o : OkE K E tk fk) : OkT K E (tB (tDIn tk (tVar i))) (dinT false i fk) := by
  refine ⟨?_⟩
  intro B σ H env l rs rp h Q post
  refine o.seq rp h post.exn fun a e v H1 h1 r1 f1 q1 => ?_
  obtain ⟨k, h2, h3⟩ := lift_step h1
  obtain ⟨ks, hx, h4⟩ := dctD_step h3
  cases h4
  rw [asI_some h2] at q1
  cases q1
  obtain ⟨p, s1, s2, s3, _⟩ := r1.dget hx
  refine ⟨.ref p, s1, p, _, rfl, DGet.k (k := Sum.inl k) s2, _, rfl, ?_⟩
  rw [kvT_val]
  rw [Bool.false_xor] at post
  exact post H1 r1 f1
def dputS (i : Nat) (fk : M R) : M Fl := M.bind (dctD i) fun _ => M.bind fk fun r => M.bind (lift (asI r)) fun k => M.bind (dctD i) fun ks => M.bind (lift (chk (decide (ks.length < 1000)))) fun _ => M.bind (putM i (.dct (putT ks k))) fun _ => M.pure .nx
theorem OkS.dput {i : Nat} {tk : TE} {fk : M R} (o : OkE K E tk fk) : OkS K E bx (sDPut (tVar i) tk (tC (.bl true))) (dputS i fk) := by
  refine ⟨?_⟩
  intro B σ H env l rs rp h D post
  obtain ⟨ks0, hx0, h0⟩ := dctD_step h
  obtain ⟨p, s1, s2, s3, _⟩ := rp.dget hx0
  refine ⟨.ref p, s1, ?_⟩
  refine o.seq rp h0 post.exn fun a e v H1 h1 r1 f1 q1 => ?_
  obtain ⟨k, h2, h3⟩ := lift_step h1
  obtain ⟨ks, hx, h4⟩ := dctD_step h3
  obtain ⟨u, h4a, h4⟩ := lift_step h4
  have hn := of_decide_eq_true (chk_ok h4a)
  obtain ⟨_, h5⟩ := putM_step h4
  cases h5
  rw [asI_some h2] at q1
  cases q1
  obtain ⟨p', t1, t2, t3, t4⟩ := r1.dget hx
  rw [s1] at t1
  cases t1
  refine ⟨p, _, rfl, DPut.k (k := Sum.inl k) t2 ?_, ?_⟩
  · unfold kvT
    rw [List.length_map]
    exact small1000 (by omega)
  · rw [kvT_put]
    exact post σ _ l (t4 _) (Fr2.of (f1.trans (fr_upd t3))) fun _ => rfl
def sortDct (i : Nat) : M R := M.bind (dctD i) fun ks => M.bind (lift (chk (decide (ks.length < 64)))) fun _ => M.pure (.dat (.list ((sortI ks).map .int)))
theorem OkE.sortDct {i : Nat} : OkE K E (tCB (fun xs H Q => ∃ (a : Addr) (kvs : List (L2.Key × V)) (ks : List Int), xs = [.ref a] ∧ Rd H a (.dK kvs) ∧ kvs.map (·.1) = ks.map Sum.inl ∧ ks.length < 64 ∧
    ∀ (ys : List Int) (p : Addr), ys.Perm ks → ys.Pairwise (· ≤ ·) → H p = none → Q (.ref p) (upd H p (.lst (ys.map V.int)))) (tCons (tVar i) tNil)) (Ov.sortDct i) := by
  refine ⟨?_⟩
  intro B σ H env l rs rp h Q post
  obtain ⟨ks, hx, h0⟩ := dctD_step h
  obtain ⟨p, s1, s2, s3, _⟩ := rp.dget hx
  obtain ⟨u, h0a, h0⟩ := lift_step h0
  have hn := of_decide_eq_true (chk_ok h0a)
  · cases h0
    refine ⟨.ref p, s1, p, _, ks, rfl, .inl s2, ?_, hn, fun ys q pm pw hq => ?_⟩
    · unfold kvT
      rw [List.map_map]
      rfl
    · have : ys = sortI ks := sort_uniq (pm.trans (sortI_perm ks).symm) pw (sortI_pw ks)
      subst this
      exact post _ _ (rp.same (same_new hq _)) (Fr.of (same_new hq _)) (new_dp rp.tl hq (da_ints _)).1
end
end Ov
set_option Elab.async false
set_option linter.all false
set_option maxRecDepth 100000
set_option maxHeartbeats 4000000
namespace Ov
open PySem L2
theorem vacB {K : PySem.W.Frag} {vs : List V} {H : Hp} {Q : VK} {E : XK} (h : spB K (fun _ _ => none) vs H Q E) : False := by
  obtain ⟨B, p, bv, bs, vs', ds, w, bs', rfl, hp, nB, db, da, hB, hf, q⟩ := h
  cases hf
end Ov
set_option Elab.async false
set_option linter.all false
set_option maxRecDepth 100000
set_option maxHeartbeats 4000000
namespace Ov
open PySem L2
/-! the rules whose reading names the written part, with that part given (a comprehension's block has it too) -/
section
variable {X : Cx} {K : PySem.W.Frag} (hK : X.K = K)
include hK
theorem k_len : CallR X (.builtin "len") (fun xs H Q => ∃ p ys, xs = [.ref p] ∧ (SqL K H p ys ∨ SqT K H p ys) ∧ Q (.int ys.length) H) := by subst hK; exact call_len_seq
theorem k_tup : CallR X (.type "tuple") (rTupW K) := by subst hK; exact call_tupW
theorem k_list : CallR X (.type "list") (fun xs H Q => ∃ p ys, xs = [.ref p] ∧ (SqL K H p ys ∨ SqT K H p ys) ∧ ∀ l, H l = none → Q (.ref l) (upd H l (.lst ys))) := by subst hK; exact call_list_of
theorem k_all (hc : X.calm = true) : CallR X (.builtin "all") (rAll K) := by subst hK; exact cr_all hc
theorem k_sorted : CallR X (.builtin "sorted") (rSrtW K) := by subst hK; exact cr_sortedW
theorem k_in : OpR X (compareOp .In) (rIn K false) := by subst hK; exact op_in_seq
theorem k_notin : OpR X (compareOp .NotIn) (rIn K true) := by subst hK; exact op_notIn_seq
theorem k_notinD (hu : X.A.units + 65 < cLine) : OpR X (compareOp .NotIn) (rNotInD K) := by subst hK; exact op_notInD hu
theorem k_eqD (hu : X.A.units + 64 < cLine) : OpR X (compareOp .Eq) (rEqD K) := by subst hK; exact op_eqD hu
theorem k_neD (hu : X.A.units + 64 < cLine) : OpR X (compareOp .NotEq) (rNeD K) := by subst hK; exact op_neD hu
theorem k_ix : IxR X (rIx K) := by subst hK; exact ix_seq
theorem k_cut : SlR X (rCut K) := by subst hK; exact sl_cut
theorem k_catW : OpR X (binaryOp .Add) (rCatW K) := by subst hK; exact op_catW
theorem k_revW {e : Expr} {te : TE} {k : Nat} {p1 p2 p3 pos : Pos} (he : PE X e te) : PE X (.Subscript e (.Slice none none (some (.UnaryOp .USub (.Constant (.int 1) k p1) p2)) p3) pos) (tRevW K te) := by subst hK; exact pe_revW he
theorem k_lenSet {a : Expr} {ta : TE} {p p2 q pos : Pos} (hc : X.calm = true) (hg : Gl X "len") (hm : X.mg "len" = none) (hg2 : Gl X "set") (hm2 : X.mg "set" = none) (ha : PE X a ta)
    (na : starEach [a] X.env = (false, eval a X.env) :: starEach [] X.env := by rfl) : PE X (.Call (.Name "len" p) [.Call (.Name "set" p2) [a] [] q] [] pos) (tLenSetT K ta) := by subst hK; exact pe_lenSetT hc hg hm hg2 hm2 ha na
theorem k_seq {tg l : Expr} {tl : TE} (hl : PE X l tl) : PI X tg l (iSeq K tl) := by subst hK; exact pi_seq hl
theorem k_bm {T id : String} {o e : Expr} {es : List Expr} {to : TE} {t : TA} {name : Str} {apos cpos : Pos} {r : V → List V → Hp → VK → Prop} (pa : PlainAttrs T) (slot : Slot T name id) (hty : typeOf (.builtin id) = pure (.type "method_descriptor")) (hm : MtR X id r) (ho : PE X o to) (ha : PA X (e :: es) t)
    (hbase : attributeBase o name X.env (eval o X.env) = eval o X.env := by rfl)
    (hfew : ((backTo cpos (starEach (e :: es) X.env)).all (fun x => !x.1) && (backToKw cpos (keywordEach [] X.env)).all (fun x => x.1.isSome)
      && decide ((e :: es).length + ([] : List Keyword).length + (if ([] : List Keyword).isEmpty then 0 else 1) < 30)) = true := by rfl)
    (hline : (apos.endLine == cpos.line) = true := by rfl) (hs : starEach (e :: es) X.env = (false, eval e X.env) :: starEach es X.env := by rfl) (hplain : (backTo cpos (starEach es X.env)).any (·.1) = false := by rfl) :
    PE X (.Call (.Attribute o name apos) (e :: es) [] cpos) (tBM K T r to t) := by subst hK; exact pe_bm pa slot hty hm ho ha hbase hfew hline hs hplain
end
section
variable {K : PySem.W.Frag} {E : XK}
/-- xs + ys as a list of one's own -/
def catW (fa fb : M R) : M Wv := M.bind fa fun a => M.bind fb fun b => M.bind (vw a) fun x => M.bind (vw b) fun y => M.bind (lift (catD x y)) fun d => M.bind (lift (match d with | .list ds => some ds | _ => none)) fun ds => M.pure (.own (dats ds))
end
end Ov
set_option Elab.async false
set_option linter.all false
set_option maxRecDepth 100000
set_option maxHeartbeats 4000000
namespace Ov
open PySem L2
/-! methods that only read, of a list that is plain data -/
section
variable {K : PySem.W.Frag} {E : XK}
def isLD : PyData → Option Unit
  | .list _ => some ()
  | _ => none
def rmE (fo : List PyData → Option PyData) (fa : M R) (fs : M (List R)) : M R := M.bind fa fun a => M.bind (vw a) fun x0 => M.bind (lift (isLD x0)) fun _ => M.bind fs fun rs => M.bind (vw a) fun x => M.bind (vws rs) fun as => M.bind (lift (fo (x :: as))) fun d => M.pure (.dat d)
theorem OkE.rm {r : V → List V → Hp → VK → Prop} {fo : List PyData → Option PyData} {ta : TE} {t : TA} {fa : M R} {fs : M (List R)} (o : CbOk K (fun vs H Q => ∃ x xs, vs = x :: xs ∧ r x xs H Q) fo) (oa : OkE K E ta fa) (os : OkA K E t fs) : OkE K E (tBM K "list" r ta t) (rmE fo fa fs) := by
  refine ⟨?_⟩
  intro B σ H env l rs rp h Q post
  refine oa.seq rp h post.exn fun a e v1 H1 h1 r1 f1 q1 => ?_
  obtain ⟨x0, h2, w0⟩ := vw_step r1 q1 h1
  obtain ⟨u, h3, h4⟩ := lift_step h2
  have hx : ∃ ds, x0 = .list ds := by
    cases x0 with
    | list ds => exact ⟨ds, rfl⟩
    | _ => cases h3
  obtain ⟨ds, rfl⟩ := hx
  obtain ⟨p, vs0, rfl, hs, _⟩ := vw_list w0
  refine ⟨.inl ⟨rfl, _, hs⟩, ?_⟩
  refine os.seq r1 h4 (exn_later post.exn f1) fun b e2 vs H2 h5 r2 f2 q2 => ?_
  obtain ⟨x, h6, w1⟩ := vw_step r2 (q1.mv f2.keep) h5
  obtain ⟨as, h7, w2⟩ := vws_ok r2 q2 h6
  obtain ⟨d, h8, h9⟩ := lift_step h7
  cases h9
  obtain ⟨x', xs', ex, hr⟩ := o r2.tl (.cons w1 w2) h8 fun v H' s q => post v H' (r2.same s) ((f1.trans f2).trans (Fr.of s)) q
  cases ex
  exact hr
/-- l.index(x) -/
def idxD (as : List PyData) : Option PyData :=
  match as with
  | [.list ds, d] => if shp (.list ds) && shp d then (ds.findIdx? fun z => PyData.eqv z d).map fun j => .int (j : Nat) else none
  | _ => none
theorem ok_idx : CbOk K (fun vs H Q => ∃ x xs, vs = x :: xs ∧ rIndexD K x xs H Q) idxD := by
  intro S H xs as d hS w e Q q
  unfold idxD at e
  split at e
  · split at e
    · rename_i ds d0 hc
      rw [Bool.and_eq_true] at hc
      obtain ⟨j, e1, e2⟩ := Option.map_eq_some_iff.mp e
      subst e2
      cases w with
      | cons w1 w2 =>
        cases w2 with
        | cons w2 w3 =>
          cases w3
          obtain ⟨p, vs, rfl, hs, hd⟩ := vw_list w1
          rw [List.findIdx?_eq_some_iff_getElem] at e1
          obtain ⟨hj, e3, e4⟩ := e1
          refine ⟨_, _, rfl, p, _, d0, ds, j, ds[j], rfl, rfl, Da.dp _ (shp_nd hc.1) w1.da, Da.dp _ (shp_nd hc.2) w2.da, hc.1, hc.2, List.getElem?_eq_getElem hj, e3, fun m z' hm hz => ?_, q _ _ (same_refl _) (.int _)⟩
          obtain ⟨hml, rfl⟩ := List.getElem?_eq_some_iff.mp hz
          exact Bool.eq_false_iff.mpr (e4 m hm)
    · cases e
  · cases e
end
section
variable {X : Cx} {K : PySem.W.Frag} (hK : X.K = K)
include hK
theorem k_index (hu : X.A.units + 65 < cLine) : MtR X "list.index" (rIndexD K) := by subst hK; exact mt_indexD hu
end
end Ov
set_option Elab.async false
set_option linter.all false
set_option maxRecDepth 100000
set_option maxHeartbeats 4000000
namespace Ov
open PySem L2 PySem.Spec PyProof.Rows
/-! zip of two sequences, each a list or a tuple -/
def SqB (t : Bool) (K : PySem.W.Frag) (H : Hp) (a : Addr) (xs : List V) : Prop := match t with
  | true => SqT K H a xs
  | false => SqL K H a xs
def ItB (t : Bool) (h : Heap) (it l : Addr) (k : Nat) : Prop := match t with
  | true => h.IsTupleIter it l k
  | false => h.IsListIter it l k
def SeB (t : Bool) (h : Heap) (l : Addr) (its : Array Value) : Prop := match t with
  | true => h.IsTuple l its
  | false => h.IsList l its
def itO (t : Bool) (l : Addr) : Obj := { cls := .type (match t with | true => "tuple_iterator" | false => "list_iterator"), data := .fields #[.ref l, .int 0 0] }
theorem drB {P : Program} {w : World} {A : Around} (t : Bool) (no : A.handled = none) (it l : Addr) (ne : l ≠ it) (its : Array Value) :
    Draws P w A it [it, l] its.size (fun i v => its[i]? = some v) (fun i h => ItB t h it l i ∧ SeB t h l its) := by
  cases t with
  | true => exact Draws.tuple no it l ne its
  | false => exact Draws.list no it l ne its
theorem bgB (t : Bool) (l : Addr) (its : Array Value) : Begins (.ref l) (itO t l) (fun h => SeB t h l its) := by
  cases t with
  | true => exact begins_tuple l its
  | false => exact begins_list l its
theorem ItB.new {t : Bool} {h : Heap} {it l : Addr} (e : h.get? it = some (itO t l)) : ItB t h it l 0 := by
  cases t with
  | true => exact ⟨_, e, rfl, rfl⟩
  | false => exact ⟨_, e, rfl, rfl⟩
theorem ItB.up {t : Bool} {h h' : Heap} {it l : Addr} {k : Nat} (x : ItB t h it l k) (f : ∀ o, h.get? it = some o → h'.get? it = some o) : ItB t h' it l k := by
  cases t with
  | true => exact Heap.IsTupleIter.at x f
  | false => exact Heap.IsListIter.at x f
theorem ItB.ob {t : Bool} {h : Heap} {it l : Addr} {k : Nat} (x : ItB t h it l k) : ∃ o, h.get? it = some o ∧ ∀ v, o.data ≠ .cell v := by
  cases t with
  | true => obtain ⟨o, e, _, d⟩ := x; exact ⟨o, e, fun v z => by rw [d] at z; cases z⟩
  | false => obtain ⟨o, e, _, d⟩ := x; exact ⟨o, e, fun v z => by rw [d] at z; cases z⟩
theorem SeB.lt {t : Bool} {h : Heap} {l : Addr} {its : Array Value} (x : SeB t h l its) : l < h.objs.size := by
  cases t with
  | true => obtain ⟨o, e, _⟩ := x; exact Heap.lt_size e
  | false => obtain ⟨o, e, _⟩ := x; exact Heap.lt_size e
section
variable {X : Cx} {pins : List (Addr × Obj)} {σ : L2.St} {H : Hp} {s : Shared} {t : Bool} {a : Addr} {xs ys : List V}
theorem SqB.read (I : Inv X pins σ H s) (h : SqB t X.K H a xs) : ∃ its : List Value, Vals xs its ∧ SeB t s.heap a its.toArray := by
  cases t with
  | true => obtain ⟨its, r, p, _⟩ := I.tuple h; exact ⟨its, r, p⟩
  | false => obtain ⟨its, r, p, _⟩ := I.list h; exact ⟨its, r, p.isList⟩
theorem SqB.inj (I : Inv X pins σ H s) (h : SqB t X.K H a xs) (h' : SqB t X.K H a ys) : xs = ys := by
  cases t with
  | true => exact I.tuple_inj h h'
  | false => exact I.list_inj h h'
end
def ItzB (t u : Bool) (K : PySem.W.Frag) (a b : Addr) : It where
  go := fun i H => ∃ (xs ys : List V) (x y : V), SqB t K H a xs ∧ SqB u K H b ys ∧ xs[i]? = some x ∧ ys[i]? = some y
  yld := fun i H v H' => ∃ (p : Addr) (x y : V) (o : Obj), v = .ref p ∧ H p = none ∧ o.dict = none ∧ H' = upd H p (.frz o (.tup [x, y])) ∧ (∀ xs, SqB t K H a xs → xs[i]? = some x) ∧ ∀ ys, SqB u K H b ys → ys[i]? = some y
  stop := fun i H => ∃ xs ys : List V, SqB t K H a xs ∧ SqB u K H b ys ∧ i ≤ xs.length ∧ i ≤ ys.length ∧ (xs.length = i ∨ ys.length = i)
theorem turn_zipB {P : Program} {w : World} {K : PySem.W.Frag} {tgs : List Expr} {kk : Nat} {tp : Pos} {t u : Bool} {a b z m n c d : Addr} (D : ZipSep2 z m n c d [c, a] [d, b]) (na : a ≠ c) (nb : b ≠ d) :
    Turn P w K (.Tuple tgs kk tp) (ItzB t u K a b) [z, m, n, c, d] z (fun i h => IsZip h z m n .none ∧ IsTupOf2 h m (.ref c) (.ref d) ∧ (∃ x y, IsTupOf2 h n x y) ∧ ItB t h c a i ∧ ItB u h d b i) where
  mem := by simp
  obj := fun i h st e he => by
    obtain ⟨q1, q2, ⟨x, y, q3⟩, q4, q5⟩ := st
    simp only [List.mem_cons, List.not_mem_nil, or_false] at he
    rcases he with rfl | rfl | rfl | rfl | rfl
    · exact ⟨_, q1, fun v r => nomatch r⟩
    · exact ⟨_, q2, fun v r => nomatch r⟩
    · exact ⟨_, q3, fun v r => nomatch r⟩
    · exact q4.ob
    · exact q5.ob
  keep := fun i h h' st k => by
    obtain ⟨q1, q2, ⟨x, y, q3⟩, q4, q5⟩ := st
    exact ⟨k _ (by simp) _ q1, k _ (by simp) _ q2, ⟨x, y, k _ (by simp) _ q3⟩, q4.up fun o e => k _ (by simp) o e, q5.up fun o e => k _ (by simp) o e⟩
  item := by
    intro X eP ew eK calm i pins s σ H E I ff st hg
    subst eP ew eK
    obtain ⟨q1, q2, ⟨x0, y0, q3⟩, q4, q5⟩ := st
    obtain ⟨xs, ys, x, y, hX, hY, ex, ey⟩ := hg
    obtain ⟨is, rx, px⟩ := hX.read I
    obtain ⟨js, ry, py⟩ := hY.read I
    obtain ⟨v1, e1, r1⟩ := rx.get ex
    obtain ⟨v2, e2, r2⟩ := ry.get ey
    have lz : z < s.heap.objs.size := Heap.lt_size q1
    have no := I.ok.hd calm
    have b1 : i < is.toArray.size := by simpa using (List.getElem?_eq_some_iff.mp e1).1
    have b2 : i < js.toArray.size := by simpa using (List.getElem?_eq_some_iff.mp e2).1
    refine wpAny_pyNext_zipD2_item D (drB t (A := X.A.in1) no c a na is.toArray) (drB u (A := X.A.in1) no d b nb js.toArray) q1 q2 q3 ⟨q4, px⟩ ⟨q5, py⟩ b1 b2 ?_
    intro w1 w2 h' tk p1 p2 z' n' s1 s2 nw hsz hk
    have c1 : w1 = v1 := Option.some.inj ((show is.toArray[i]? = some w1 from p1).symm.trans (by simpa using e1))
    have c2 : w2 = v2 := Option.some.inj ((show js.toArray[i]? = some w2 from p2).symm.trans (by simpa using e2))
    subst c1 c2
    refine ⟨_, rfl, wpAny_letOwnedTupleGo_zip (s := { s with heap := h', toks := tk }) z' fun h'' z'' sb => ?_⟩
    have nw2 : h''.get? s.heap.objs.size = some { cls := .type "tuple", data := .seq #[w1, w2] } := (sb.2 _ (Nat.ne_of_gt lz)).trans nw
    have ok : ObjOk X.prog X.w (upd H s.heap.objs.size (.frz (bo [w1, w2]) (.tup [x, y]))) h'' s.heap.objs.size (.frz (bo [w1, w2]) (.tup [x, y])) := bo_ok nw2 (.cons r1 (.cons r2 .nil)) (by show 2 ≤ sizeLine; decide)
    have I1 : Inv X pins σ (upd H s.heap.objs.size (.frz (bo [w1, w2]) (.tup [x, y]))) { s with heap := h'', toks := tk } := by
      refine I.turnedNew (t' := tk) (ch := [z, m, n, c, d]) (fun e o he f => ?_) ff (Nat.le_refl _) ok
      simp only [List.mem_cons, List.not_mem_nil, or_false, not_or] at he
      exact (sb.2 e he.1).trans (hk e o he.1 he.2.2.1 he.2.2.2.1 he.2.2.2.2 f)
    have zc : c ≠ z := fun e => D.zi1 e.symm
    have zd : d ≠ z := fun e => D.zi2 e.symm
    refine ⟨.ref s.heap.objs.size, _, I1, rfl, ⟨_, x, y, _, rfl, I.hok.fresh (Nat.le_refl _), rfl, rfl, fun l hl => by rw [hl.inj I hX]; exact ex, fun l hl => by rw [hl.inj I hY]; exact ey⟩, ⟨z'', ?_, ⟨w1, w2, ?_⟩, ?_, ?_⟩, fun e he => ?_⟩
    · exact (sb.2 _ D.TIz).trans (hk _ _ D.TIz D.TITO D.TIi1 D.TIi2 q2)
    · exact (sb.2 _ D.TOz).trans n'
    · exact s1.1.up fun o f => (sb.2 _ zc).trans f
    · exact s2.1.up fun o f => (sb.2 _ zd).trans f
    · obtain ⟨o, f, _⟩ : ∃ o, s.heap.get? e = some o ∧ True := by
        simp only [List.mem_cons, List.not_mem_nil, or_false] at he
        rcases he with rfl | rfl | rfl | rfl | rfl
        · exact ⟨_, q1, trivial⟩
        · exact ⟨_, q2, trivial⟩
        · exact ⟨_, q3, trivial⟩
        · obtain ⟨o, f, _⟩ := q4.ob; exact ⟨o, f, trivial⟩
        · obtain ⟨o, f, _⟩ := q5.ob; exact ⟨o, f, trivial⟩
      rw [upd_ne (Nat.ne_of_lt (Heap.lt_size f))]
      exact (ff e he).1
  done := by
    intro X eP ew eK calm i pins s σ H E I ff st hg
    subst eP ew eK
    obtain ⟨q1, q2, ⟨x0, y0, q3⟩, q4, q5⟩ := st
    obtain ⟨xs, ys, hX, hY, l1, l2, over⟩ := hg
    obtain ⟨is, rx, px⟩ := hX.read I
    obtain ⟨js, ry, py⟩ := hY.read I
    have no := I.ok.hd calm
    have g1 := rx.length
    have g2 := ry.length
    refine wpAny_pyNext_zipD2_end D (drB t (A := X.A.in1) no c a na is.toArray) (drB u (A := X.A.in1) no d b nb js.toArray) q1 q2 q3 ⟨q4, px⟩ ⟨q5, py⟩ (by rw [List.size_toArray]; omega) (by rw [List.size_toArray]; omega) ?_ fun h' tk hk => ⟨rfl, ?_⟩
    · rw [List.size_toArray, List.size_toArray]
      omega
    · refine I.turnedL (t' := tk) (ch := [z, m, n, c, d]) (fun e o he f => ?_) ff
      simp only [List.mem_cons, List.not_mem_nil, or_false, not_or] at he
      exact hk e o he.1 he.2.2.1 he.2.2.2.1 he.2.2.2.2 f
  self := fun A i s Q E st h => wpAny_pyIter_zip st.1 h
end Ov
set_option Elab.async false
set_option linter.all false
set_option maxRecDepth 100000
set_option maxHeartbeats 4000000
namespace Ov
open PySem L2 PySem.Spec PyProof.Rows
def iZipB (K : PySem.W.Frag) (ta : TA) : TI := fun σ H R => ta σ H fun vs H1 => ∃ (t u : Bool) (a b : Addr) (xs ys : List V), vs = [.ref a, .ref b] ∧ SqB t K H1 a xs ∧ SqB u K H1 b ys ∧ R (ItzB t u K a b) H1
theorem pi_zipB {X : Cx} {e1 e2 : Expr} {ta : TA} {p0 p1 p2 : Pos} {tgs : List Expr} {kk : Nat} (gl : Gl X "zip") (un : X.mg "zip" = none) (ha : PA X [e1, e2] ta)
    (st : starEach [e1, e2] X.env = (false, eval e1 X.env) :: starEach [e2] X.env := by rfl) (pl : (backTo p1 (starEach [e2] X.env)).any (·.1) = false := by rfl) :
    PI X (.Tuple tgs kk p2) (.Call (.Name "zip" p0) [e1, e2] [] p1) (iZipB X.K ta) := by
  refine ⟨fun pins s σ H R I h => ?_⟩
  refine Call_ (ld_blt I gl un boot_zip (callWith_type1 (thn (ha.run p1 pins s σ H _ I h) ?_) st pl))
  rintro us s1 ⟨vs, H1, J, rel, t, u, a, b, xs, ys, rfl, hX, hY, q⟩
  obtain ⟨v1, v2, rfl, r1, r2⟩ : ∃ v1 v2, us = [v1, v2] ∧ v1 = Value.ref a ∧ v2 = Value.ref b := by
    cases rel with
    | cons r rr => cases rr with | cons r' rr => cases rr; exact ⟨_, _, rfl, r, r'⟩
  subst r1 r2
  obtain ⟨is, _, px⟩ := hX.read J
  obtain ⟨js, _, py⟩ := hY.read J
  have la := px.lt
  have lb := py.lt
  refine zip_begins2 (bgB t a is.toArray) (bgB u b js.toArray) px py fun h' z m n c d _ hk => wpAny_pyIter_zip z ?_
  have J2 : Inv X pins σ H1 { s1 with heap := h' } := J.kept (t' := s1.toks) hk
  have sep : ZipSep2 (s1.heap.objs.size + 4) (s1.heap.objs.size + 2) (s1.heap.objs.size + 3) s1.heap.objs.size (s1.heap.objs.size + 1) [s1.heap.objs.size, a] [s1.heap.objs.size + 1, b] := zip_sep2 (fp1 := [a]) (fp2 := [b]) (fun e he => by rw [List.mem_singleton.mp he]; exact la) (fun e he => by rw [List.mem_singleton.mp he]; exact lb)
  refine ⟨_, [s1.heap.objs.size + 4, s1.heap.objs.size + 2, s1.heap.objs.size + 3, s1.heap.objs.size, s1.heap.objs.size + 1], _, _, H1, rfl, J2, turn_zipB sep (Nat.ne_of_lt la) (Nat.ne_of_lt (Nat.lt_succ_of_lt lb)), ⟨z, m, ⟨_, _, n⟩, .new c, .new d⟩, fun e he => ?_, q⟩
  have le : s1.heap.objs.size ≤ e := by
    simp only [List.mem_cons, List.not_mem_nil, or_false] at he
    rcases he with rfl | rfl | rfl | rfl | rfl
    · exact Nat.le_add_right _ _
    · exact Nat.le_add_right _ _
    · exact Nat.le_add_right _ _
    · exact Nat.le_refl _
    · exact Nat.le_add_right _ _
  exact J.fpOk le (J.hok.fresh le)
section
variable {K : PySem.W.Frag} {E : XK} {t u : Bool} {a b : Addr} {xs ys : List V}
theorem SqB.same {H H' : Hp} (s : Same H H') (h : SqB t K H a xs) : SqB t K H' a xs := by
  cases t with
  | true => exact seqT s h
  | false => exact rd_same s h
theorem da_sq {G : Hp} {v : V} {d : PyData} {ds : List PyData} (h : Da K G v d) (e : seqD d = some ds) : ∃ (t : Bool) (p : Addr) (vs : List V), v = .ref p ∧ SqB t K G p vs ∧ DaAll K G vs ds := by
  cases h with
  | lst q r => cases e; exact ⟨false, _, _, rfl, q, r⟩
  | tup q r => cases e; exact ⟨true, _, _, rfl, q.sq, r⟩
  | dct _ _ _ _ => cases e
  | dtk _ _ _ _ => cases e
  | non => cases e
  | bl _ => cases e
  | int _ => cases e
  | str _ => cases e
theorem walk_zipB {n : Nat} (hn : n = min xs.length ys.length) : Walk (ItzB t u K a b) n (fun H => SqB t K H a xs ∧ SqB u K H b ys) (YPairB (fun i => xs[i]?) (fun i => ys[i]?)) := by
  subst hn
  refine ⟨fun i H hi q => ?_, fun H q => ⟨xs, ys, q.1, q.2, by omega, by omega, by omega⟩, fun i H v H' _ q y => ?_⟩
  · have k1 : i < xs.length := by omega
    have k2 : i < ys.length := by omega
    exact ⟨xs, ys, xs[i], ys[i], q.1, q.2, List.getElem?_eq_getElem k1, List.getElem?_eq_getElem k2⟩
  · obtain ⟨T, x, y', o, g1, g2, g0, g3, g4, g5⟩ := y
    exact ⟨T, x, y', o, g1, g2, g0, g3, g4 _ q.1, g5 _ q.2⟩
def zipM (as : List PyData) : Option (List PyData) :=
  match as with
  | [x, y] => (seqD x).bind fun ds => (seqD y).map fun es => pairUp ds es
  | _ => none
theorem OkI.zipB {t : TA} {fa : M (List R)} (o : OkA K E t fa) : OkI K E (iZipB K t) (argI zipM fa) := by
  refine ⟨?_⟩
  intro B σ H env l rs rp h R post
  refine o.seq rp h post.exn fun a e v H1 h1 r1 f1 q1 => ?_
  obtain ⟨ds, h2, h3⟩ := lift_step h1
  obtain ⟨out, h4, h5⟩ := lift_some h3
  subst h5
  have da := dds_ok q1 h2
  unfold zipM at h4
  split at h4
  · obtain ⟨es, e1, e2⟩ := Option.bind_eq_some_iff.mp h4
    obtain ⟨gs, e3, e4⟩ := Option.map_eq_some_iff.mp e2
    subst e4
    cases da with
    | cons d1 t1 =>
      cases t1 with
      | cons d2 t2 =>
        cases t2
        obtain ⟨k1, p, ws, rfl, qa, ha⟩ := da_sq d1 e1
        obtain ⟨k2, p', ws', rfl, qb, hb⟩ := da_sq d2 e3
        refine ⟨k1, k2, p, p', ws, ws', rfl, qa.same (off_sub _ _), qb.same (off_sub _ _), post _ H1 _ _ r1 f1 (walk_zipB (by rw [pair_len, daAll_len ha, daAll_len hb])) (fun H2 f => ⟨(qa.same f.keep).same (off_sub _ _), (qb.same f.keep).same (off_sub _ _)⟩) ?_⟩
        rintro i x H2 H3 d S fr ⟨T, u, w, o', rfl, hT, od, g3, g4, g5⟩ hd hs hS
        obtain ⟨x1, y1, j1, j2, rfl⟩ := pair_get hd
        obtain ⟨u', m1, m2⟩ := daAll_get ha j1
        obtain ⟨w', m3, m4⟩ := daAll_get hb j2
        cases m1.symm.trans g4
        cases m3.symm.trans g5
        exact pair_da (B := B) (l := l) (H1 := H1) hS hT od g3 (m2.walk fr hs) (m4.walk fr hs)
  · cases h4
end
section
variable {X : Cx} {K : PySem.W.Frag} (hK : X.K = K)
include hK
theorem k_zipB {e1 e2 : Expr} {ta : TA} {p0 p1 p2 : Pos} {tgs : List Expr} {kk : Nat} (gl : Gl X "zip") (un : X.mg "zip" = none) (ha : PA X [e1, e2] ta)
    (st : starEach [e1, e2] X.env = (false, eval e1 X.env) :: starEach [e2] X.env := by rfl) (pl : (backTo p1 (starEach [e2] X.env)).any (·.1) = false := by rfl) :
    PI X (.Tuple tgs kk p2) (.Call (.Name "zip" p0) [e1, e2] [] p1) (iZipB K ta) := by subst hK; exact pi_zipB gl un ha st pl
end
end Ov
set_option Elab.async false
set_option linter.all false
set_option maxRecDepth 100000
set_option maxHeartbeats 4000000
set_option Elab.async false
set_option linter.all false
set_option maxRecDepth 100000
set_option maxHeartbeats 4000000
namespace Ov
open PySem L2 PySem.Spec PyProof.Rows
/-! list(zip(a, b)) -/
def Zs (h : Heap) (H : Hp) (z m n : Addr) : Prop := (IsZip h z m n .none ∧ ∃ x y, IsTupOf2 h n x y) ∨ ∃ (T : Addr) (f : Bool) (x y : V), IsZipHeld h z m n T f ∧ TP H T [x, y]
structure Lz (X : Cx) (pins : List (Addr × Obj)) (σ : L2.St) (t u : Bool) (a b : Addr) (xs ys : List V) (z m n c d : Addr) (H0 : Hp) (i : Nat) (H : Hp) (s : Shared) : Prop where
  inv : Inv X pins σ H s
  fa : SqB t X.K H0 a xs
  fb : SqB u X.K H0 b ys
  base : Same H0 H
  free : ∀ e ∈ [z, m, n, c, d], FpOk X pins H e
  zs : Zs s.heap H z m n
  tm : IsTupOf2 s.heap m (.ref c) (.ref d)
  i1 : ItB t s.heap c a i
  i2 : ItB u s.heap d b i
section
variable {X : Cx} {pins : List (Addr × Obj)} {σ : L2.St} {t u : Bool} {a b z m n c d : Addr} {xs ys : List V} {H0 H : Hp} {i : Nat} {s : Shared} {A : Around} {E : Value → Shared → Prop}
/-- the list grows -/
theorem Lz.push (L : Lz X pins σ t u a b xs ys z m n c d H0 i H s) {S : Addr} {vs : List V} {v : V} {w1 : Value} (h0 : H0 S = none) (hS : H S = some (.lst vs)) (rv : RelV v w1) (hz : vs.length < sizeLine) (no : ∀ p x y, TP H p [x, y] → p ≠ S) {its : List Value} {k : Nat} (e : s.heap.get? S = some { cls := .type "list", data := .seq its.toArray k }) (r : Vals vs its) :
    Lz X pins σ t u a b xs ys z m n c d H0 i (upd H S (.lst (vs ++ [v]))) { s with heap := s.heap.update S (Obj.mapSeq (·.push w1)) } := by
  have ne : ∀ q ∈ [z, m, n, c, d], q ≠ S := fun q hq z' => by
    have := (L.free q hq).1
    rw [z', hS] at this
    cases this
  have up : ∀ q o, q ≠ S → s.heap.get? q = some o → (s.heap.update S (Obj.mapSeq (·.push w1))).get? q = some o := fun q o h k => (Heap.get?_update_other _ _ (Ne.symm h)).trans k
  refine ⟨L.inv.lset (its' := its ++ [w1]) (t' := s.toks) hS e (by simp) (r.append (.cons rv .nil)) (by rw [List.length_append, List.length_singleton]; omega), L.fa, L.fb, fun q o k => ?_, fun q hq => ⟨?_, (L.free q hq).2⟩, ?_, up _ _ (ne m (by simp)) L.tm, L.i1.up fun o k => up _ o (ne c (by simp)) k, L.i2.up fun o k => up _ o (ne d (by simp)) k⟩
  · rw [upd_ne (ne_of_none k h0)]
    exact L.base q o k
  · rw [upd_ne (ne q hq)]
    exact (L.free q hq).1
  · rcases L.zs with ⟨j, x0, y0, j0⟩ | ⟨T, f, x0, y0, j, j0⟩
    · exact .inl ⟨up _ _ (ne z (by simp)) j, x0, y0, up _ _ (ne n (by simp)) j0⟩
    · refine .inr ⟨T, f, x0, y0, up _ _ (ne z (by simp)) j, ?_⟩
      obtain ⟨o, e, d⟩ := id j0
      exact ⟨o, (upd_ne (no T x0 y0 j0)).trans e, d⟩
end
end Ov
set_option Elab.async false
set_option linter.all false
set_option maxRecDepth 100000
set_option maxHeartbeats 4000000
namespace Ov
open PySem L2 PySem.Spec PyProof.Rows
section
variable {X : Cx} {pins : List (Addr × Obj)} {σ : L2.St} {t u : Bool} {a b z m n c d : Addr} {xs ys : List V} {H0 H : Hp} {i : Nat} {s : Shared} {A : Around} {E : Value → Shared → Prop}
theorem Lz.ty (L : Lz X pins σ t u a b xs ys z m n c d H0 i H s) : s.TypeIs (.ref z) "zip" := by
  rcases L.zs with ⟨k, _⟩ | ⟨T, f, x, y, k, _⟩
  · exact ⟨_, k, rfl⟩
  · exact ⟨_, k, rfl⟩
/-- another state of the list -/
theorem Lz.at {S : Addr} {vs : List V} (L : Lz X pins σ t u a b xs ys z m n c d H0 i H s) (hS : H S = some (.lst vs)) {s' : Shared} (I' : Inv X pins σ H s') (k : ∀ q o, q ≠ S → s.heap.get? q = some o → s'.heap.get? q = some o) : Lz X pins σ t u a b xs ys z m n c d H0 i H s' := by
  have ne : ∀ q ∈ [z, m, n, c, d], q ≠ S := fun q hq e => by
    have := (L.free q hq).1
    rw [e, hS] at this
    cases this
  refine ⟨I', L.fa, L.fb, L.base, L.free, ?_, k _ _ (ne m (by simp)) L.tm, L.i1.up fun o e => k _ o (ne c (by simp)) e, L.i2.up fun o e => k _ o (ne d (by simp)) e⟩
  rcases L.zs with ⟨j, x0, y0, j0⟩ | ⟨T, f, x0, y0, j, j0⟩
  · exact .inl ⟨k _ _ (ne z (by simp)) j, x0, y0, k _ _ (ne n (by simp)) j0⟩
  · exact .inr ⟨T, f, x0, y0, k _ _ (ne z (by simp)) j, j0⟩
end
end Ov
set_option Elab.async false
set_option linter.all false
set_option maxRecDepth 100000
set_option maxHeartbeats 4000000
namespace Ov
open PySem L2
theorem units65 {k : Nat} {A : Around} (r : Room k A) : A.units + 65 < cLine := by have := r.un; omega
end Ov
set_option Elab.async false
set_option linter.all false
set_option maxRecDepth 100000
set_option maxHeartbeats 4000000
namespace Ov
open PySem L2 PySem.Spec PyProof.Rows
/-! zip of three sequences, each a list or a tuple -/
def ItzC (t u o : Bool) (K : PySem.W.Frag) (a b g : Addr) : It where
  go := fun i H => ∃ (xs ys zs : List V) (x y r : V), SqB t K H a xs ∧ SqB u K H b ys ∧ SqB o K H g zs ∧ xs[i]? = some x ∧ ys[i]? = some y ∧ zs[i]? = some r
  yld := fun i H v H' => ∃ (p : Addr) (x y r : V) (ob : Obj), v = .ref p ∧ H p = none ∧ ob.dict = none ∧ H' = upd H p (.frz ob (.tup [x, y, r])) ∧ (∀ xs, SqB t K H a xs → xs[i]? = some x) ∧ (∀ ys, SqB u K H b ys → ys[i]? = some y) ∧ ∀ zs, SqB o K H g zs → zs[i]? = some r
  stop := fun i H => ∃ xs ys zs : List V, SqB t K H a xs ∧ SqB u K H b ys ∧ SqB o K H g zs ∧ i ≤ xs.length ∧ i ≤ ys.length ∧ i ≤ zs.length ∧ (xs.length = i ∨ ys.length = i ∨ zs.length = i)
theorem turn_zipC {P : Program} {w : World} {K : PySem.W.Frag} {tgs : List Expr} {kk : Nat} {tp : Pos} {t u o : Bool} {a b g z m n c d e3 : Addr} (D : ZipSep3 z m n c d e3 [c, a] [d, b] [e3, g]) (na : a ≠ c) (nb : b ≠ d) (ng : g ≠ e3) :
    Turn P w K (.Tuple tgs kk tp) (ItzC t u o K a b g) [z, m, n, c, d, e3] z (fun i h => IsZip h z m n .none ∧ IsTupOf3 h m (.ref c) (.ref d) (.ref e3) ∧ (∃ x y r, IsTupOf3 h n x y r) ∧ ItB t h c a i ∧ ItB u h d b i ∧ ItB o h e3 g i) where
  mem := by simp
  obj := fun i h st e he => by
    obtain ⟨q1, q2, ⟨x, y, r, q3⟩, q4, q5, q6⟩ := st
    simp only [List.mem_cons, List.not_mem_nil, or_false] at he
    rcases he with rfl | rfl | rfl | rfl | rfl | rfl
    · exact ⟨_, q1, fun v r => nomatch r⟩
    · exact ⟨_, q2, fun v r => nomatch r⟩
    · exact ⟨_, q3, fun v r => nomatch r⟩
    · exact q4.ob
    · exact q5.ob
    · exact q6.ob
  keep := fun i h h' st k => by
    obtain ⟨q1, q2, ⟨x, y, r, q3⟩, q4, q5, q6⟩ := st
    exact ⟨k _ (by simp) _ q1, k _ (by simp) _ q2, ⟨x, y, r, k _ (by simp) _ q3⟩, q4.up fun o e => k _ (by simp) o e, q5.up fun o e => k _ (by simp) o e, q6.up fun o e => k _ (by simp) o e⟩
  item := by
    intro X eP ew eK calm i pins s σ H E I ff st hg
    subst eP ew eK
    obtain ⟨q1, q2, ⟨x0, y0, r0, q3⟩, q4, q5, q6⟩ := st
    obtain ⟨xs, ys, zs, x, y, r, hX, hY, hZ, ex, ey, ez⟩ := hg
    obtain ⟨is, rx, px⟩ := hX.read I
    obtain ⟨js, ry, py⟩ := hY.read I
    obtain ⟨ks, rz, pz⟩ := hZ.read I
    obtain ⟨v1, e1, r1⟩ := rx.get ex
    obtain ⟨v2, e2, r2⟩ := ry.get ey
    obtain ⟨v3, e4, r3⟩ := rz.get ez
    have lz : z < s.heap.objs.size := Heap.lt_size q1
    have no := I.ok.hd calm
    have b1 : i < is.toArray.size := by simpa using (List.getElem?_eq_some_iff.mp e1).1
    have b2 : i < js.toArray.size := by simpa using (List.getElem?_eq_some_iff.mp e2).1
    have b3 : i < ks.toArray.size := by simpa using (List.getElem?_eq_some_iff.mp e4).1
    refine wpAny_pyNext_zipD3_item D (drB t (A := X.A.in1) no c a na is.toArray) (drB u (A := X.A.in1) no d b nb js.toArray) (drB o (A := X.A.in1) no e3 g ng ks.toArray) q1 q2 q3 ⟨q4, px⟩ ⟨q5, py⟩ ⟨q6, pz⟩ b1 b2 b3 ?_
    intro w1 w2 w3 h' tk p1 p2 p3 z' n' s1 s2 s3 nw hsz hk
    have c1 : w1 = v1 := Option.some.inj ((show is.toArray[i]? = some w1 from p1).symm.trans (by simpa using e1))
    have c2 : w2 = v2 := Option.some.inj ((show js.toArray[i]? = some w2 from p2).symm.trans (by simpa using e2))
    have c3 : w3 = v3 := Option.some.inj ((show ks.toArray[i]? = some w3 from p3).symm.trans (by simpa using e4))
    subst c1 c2 c3
    refine ⟨_, rfl, wpAny_letOwnedTupleGo_zip (s := { s with heap := h', toks := tk }) z' fun h'' z'' sb => ?_⟩
    have nw2 : h''.get? s.heap.objs.size = some { cls := .type "tuple", data := .seq #[w1, w2, w3] } := (sb.2 _ (Nat.ne_of_gt lz)).trans nw
    have ok : ObjOk X.prog X.w (upd H s.heap.objs.size (.frz (bo [w1, w2, w3]) (.tup [x, y, r]))) h'' s.heap.objs.size (.frz (bo [w1, w2, w3]) (.tup [x, y, r])) := bo_ok nw2 (.cons r1 (.cons r2 (.cons r3 .nil))) (by show 3 ≤ sizeLine; decide)
    have I1 : Inv X pins σ (upd H s.heap.objs.size (.frz (bo [w1, w2, w3]) (.tup [x, y, r]))) { s with heap := h'', toks := tk } := by
      refine I.turnedNew (t' := tk) (ch := [z, m, n, c, d, e3]) (fun e o he f => ?_) ff (Nat.le_refl _) ok
      simp only [List.mem_cons, List.not_mem_nil, or_false, not_or] at he
      exact (sb.2 e he.1).trans (hk e o he.1 he.2.2.1 he.2.2.2.1 he.2.2.2.2.1 he.2.2.2.2.2 f)
    have zc : c ≠ z := fun e => D.zi1 e.symm
    have zd : d ≠ z := fun e => D.zi2 e.symm
    have ze : e3 ≠ z := fun e => D.zi3 e.symm
    refine ⟨.ref s.heap.objs.size, _, I1, rfl, ⟨_, x, y, r, _, rfl, I.hok.fresh (Nat.le_refl _), rfl, rfl, fun l hl => by rw [hl.inj I hX]; exact ex, fun l hl => by rw [hl.inj I hY]; exact ey, fun l hl => by rw [hl.inj I hZ]; exact ez⟩, ⟨z'', ?_, ⟨w1, w2, w3, ?_⟩, ?_, ?_, ?_⟩, fun e he => ?_⟩
    · exact (sb.2 _ D.TIz).trans (hk _ _ D.TIz D.TITO D.TIi1 D.TIi2 D.TIi3 q2)
    · exact (sb.2 _ D.TOz).trans n'
    · exact s1.1.up fun o f => (sb.2 _ zc).trans f
    · exact s2.1.up fun o f => (sb.2 _ zd).trans f
    · exact s3.1.up fun o f => (sb.2 _ ze).trans f
    · obtain ⟨o, f, _⟩ : ∃ o, s.heap.get? e = some o ∧ True := by
        simp only [List.mem_cons, List.not_mem_nil, or_false] at he
        rcases he with rfl | rfl | rfl | rfl | rfl | rfl
        · exact ⟨_, q1, trivial⟩
        · exact ⟨_, q2, trivial⟩
        · exact ⟨_, q3, trivial⟩
        · obtain ⟨o, f, _⟩ := q4.ob; exact ⟨o, f, trivial⟩
        · obtain ⟨o, f, _⟩ := q5.ob; exact ⟨o, f, trivial⟩
        · obtain ⟨o, f, _⟩ := q6.ob; exact ⟨o, f, trivial⟩
      rw [upd_ne (Nat.ne_of_lt (Heap.lt_size f))]
      exact (ff e he).1
  done := by
    intro X eP ew eK calm i pins s σ H E I ff st hg
    subst eP ew eK
    obtain ⟨q1, q2, ⟨x0, y0, r0, q3⟩, q4, q5, q6⟩ := st
    obtain ⟨xs, ys, zs, hX, hY, hZ, l1, l2, l3, over⟩ := hg
    obtain ⟨is, rx, px⟩ := hX.read I
    obtain ⟨js, ry, py⟩ := hY.read I
    obtain ⟨ks, rz, pz⟩ := hZ.read I
    have no := I.ok.hd calm
    have g1 := rx.length
    have g2 := ry.length
    have g3 := rz.length
    refine wpAny_pyNext_zipD3_end D (drB t (A := X.A.in1) no c a na is.toArray) (drB u (A := X.A.in1) no d b nb js.toArray) (drB o (A := X.A.in1) no e3 g ng ks.toArray) q1 q2 q3 ⟨q4, px⟩ ⟨q5, py⟩ ⟨q6, pz⟩ (by rw [List.size_toArray]; omega) (by rw [List.size_toArray]; omega) (by rw [List.size_toArray]; omega) ?_ fun h' tk hk => ⟨rfl, ?_⟩
    · rw [List.size_toArray, List.size_toArray, List.size_toArray]
      omega
    · refine I.turnedL (t' := tk) (ch := [z, m, n, c, d, e3]) (fun e o he f => ?_) ff
      simp only [List.mem_cons, List.not_mem_nil, or_false, not_or] at he
      exact hk e o he.1 he.2.2.1 he.2.2.2.1 he.2.2.2.2.1 he.2.2.2.2.2 f
  self := fun A i s Q E st h => wpAny_pyIter_zip st.1 h
def iZipC (K : PySem.W.Frag) (ta : TA) : TI := fun σ H R => ta σ H fun vs H1 => ∃ (t u o : Bool) (a b g : Addr) (xs ys zs : List V), vs = [.ref a, .ref b, .ref g] ∧ SqB t K H1 a xs ∧ SqB u K H1 b ys ∧ SqB o K H1 g zs ∧ R (ItzC t u o K a b g) H1
theorem pi_zipC {X : Cx} {e1 e2 e3 : Expr} {ta : TA} {p0 p1 p2 : Pos} {tgs : List Expr} {kk : Nat} (gl : Gl X "zip") (un : X.mg "zip" = none) (ha : PA X [e1, e2, e3] ta)
    (st : starEach [e1, e2, e3] X.env = (false, eval e1 X.env) :: starEach [e2, e3] X.env := by rfl) (pl : (backTo p1 (starEach [e2, e3] X.env)).any (·.1) = false := by rfl) :
    PI X (.Tuple tgs kk p2) (.Call (.Name "zip" p0) [e1, e2, e3] [] p1) (iZipC X.K ta) := by
  refine ⟨fun pins s σ H R I h => ?_⟩
  refine Call_ (ld_blt I gl un boot_zip (callWith_type1 (thn (ha.run p1 pins s σ H _ I h) ?_) st pl))
  rintro us s1 ⟨vs, H1, J, rel, t, u, o, a, b, g, xs, ys, zs, rfl, hX, hY, hZ, q⟩
  obtain ⟨v1, v2, v3, rfl, r1, r2, r3⟩ : ∃ v1 v2 v3, us = [v1, v2, v3] ∧ v1 = Value.ref a ∧ v2 = Value.ref b ∧ v3 = Value.ref g := by
    cases rel with
    | cons r rr => cases rr with | cons r' rr => cases rr with | cons r'' rr => cases rr; exact ⟨_, _, _, rfl, r, r', r''⟩
  subst r1 r2 r3
  obtain ⟨is, _, px⟩ := hX.read J
  obtain ⟨js, _, py⟩ := hY.read J
  obtain ⟨ks, _, pz⟩ := hZ.read J
  have la := px.lt
  have lb := py.lt
  have lg := pz.lt
  refine zip_begins3 (bgB t a is.toArray) (bgB u b js.toArray) (bgB o g ks.toArray) px py pz fun h' z m n c d e _ hk => wpAny_pyIter_zip z ?_
  have J2 : Inv X pins σ H1 { s1 with heap := h' } := J.kept (t' := s1.toks) hk
  have sep : ZipSep3 (s1.heap.objs.size + 5) (s1.heap.objs.size + 3) (s1.heap.objs.size + 4) s1.heap.objs.size (s1.heap.objs.size + 1) (s1.heap.objs.size + 2) [s1.heap.objs.size, a] [s1.heap.objs.size + 1, b] [s1.heap.objs.size + 2, g] := zip_sep3 (fp1 := [a]) (fp2 := [b]) (fp3 := [g]) (fun e he => by rw [List.mem_singleton.mp he]; exact la) (fun e he => by rw [List.mem_singleton.mp he]; exact lb) (fun e he => by rw [List.mem_singleton.mp he]; exact lg)
  refine ⟨_, [s1.heap.objs.size + 5, s1.heap.objs.size + 3, s1.heap.objs.size + 4, s1.heap.objs.size, s1.heap.objs.size + 1, s1.heap.objs.size + 2], _, _, H1, rfl, J2, turn_zipC sep (Nat.ne_of_lt la) (Nat.ne_of_lt (Nat.lt_succ_of_lt lb)) (Nat.ne_of_lt (Nat.lt_succ_of_lt (Nat.lt_succ_of_lt lg))), ⟨z, m, ⟨_, _, _, n⟩, .new c, .new d, .new e⟩, fun e he => ?_, q⟩
  have le : s1.heap.objs.size ≤ e := by
    simp only [List.mem_cons, List.not_mem_nil, or_false] at he
    rcases he with rfl | rfl | rfl | rfl | rfl | rfl
    · exact Nat.le_add_right _ _
    · exact Nat.le_add_right _ _
    · exact Nat.le_add_right _ _
    · exact Nat.le_refl _
    · exact Nat.le_add_right _ _
    · exact Nat.le_add_right _ _
  exact J.fpOk le (J.hok.fresh le)
section
variable {K : PySem.W.Frag} {E : XK} {t u o : Bool} {a b g : Addr} {xs ys zs : List V}
theorem walk_zipC {n : Nat} (hn : n = min xs.length (min ys.length zs.length)) : Walk (ItzC t u o K a b g) n (fun H => SqB t K H a xs ∧ SqB u K H b ys ∧ SqB o K H g zs) (fun i H v H' => ∃ (p : Addr) (x y r : V) (ob : Obj), v = .ref p ∧ H p = none ∧ ob.dict = none ∧ H' = upd H p (.frz ob (.tup [x, y, r])) ∧ xs[i]? = some x ∧ ys[i]? = some y ∧ zs[i]? = some r) := by
  subst hn
  refine ⟨fun i H hi q => ?_, fun H q => ⟨xs, ys, zs, q.1, q.2.1, q.2.2, by omega, by omega, by omega, by omega⟩, fun i H v H' _ q y => ?_⟩
  · have k1 : i < xs.length := by omega
    have k2 : i < ys.length := by omega
    have k3 : i < zs.length := by omega
    exact ⟨xs, ys, zs, xs[i], ys[i], zs[i], q.1, q.2.1, q.2.2, List.getElem?_eq_getElem k1, List.getElem?_eq_getElem k2, List.getElem?_eq_getElem k3⟩
  · obtain ⟨T, x, y', r, ob, g1, g2, g0, g3, g4, g5, g6⟩ := y
    exact ⟨T, x, y', r, ob, g1, g2, g0, g3, g4 _ q.1, g5 _ q.2.1, g6 _ q.2.2⟩
def tripUp : List PyData → List PyData → List PyData → List PyData
  | x :: a, y :: b, z :: c => .tuple [x, y, z] :: tripUp a b c
  | _, _, _ => []
theorem trip_len : ∀ a b c : List PyData, (tripUp a b c).length = min a.length (min b.length c.length)
  | [], _, _ => by simp [tripUp]
  | _ :: _, [], _ => by simp [tripUp]
  | _ :: _, _ :: _, [] => by simp [tripUp]
  | _ :: a, _ :: b, _ :: c => by simp only [tripUp, List.length_cons, trip_len a b c]; omega
theorem trip_get : ∀ {a b c : List PyData} {i : Nat} {d : PyData}, (tripUp a b c)[i]? = some d → ∃ x y z, a[i]? = some x ∧ b[i]? = some y ∧ c[i]? = some z ∧ d = .tuple [x, y, z]
  | [], _, _, i, d, h => by simp [tripUp] at h
  | _ :: _, [], _, i, d, h => by simp [tripUp] at h
  | _ :: _, _ :: _, [], i, d, h => by simp [tripUp] at h
  | x :: a, y :: b, z :: c, 0, d, h => by
    simp only [tripUp, List.getElem?_cons_zero, Option.some.injEq] at h
    exact ⟨x, y, z, rfl, rfl, rfl, h.symm⟩
  | x :: a, y :: b, z :: c, i + 1, d, h => by
    simp only [tripUp, List.getElem?_cons_succ] at h
    exact trip_get (a := a) (b := b) (c := c) (i := i) h
def zip3M (as : List PyData) : Option (List PyData) :=
  match as with
  | [x, y, z] => (seqD x).bind fun ds => (seqD y).bind fun es => (seqD z).map fun gs => tripUp ds es gs
  | _ => none
theorem OkI.zipC {t : TA} {fa : M (List R)} (o : OkA K E t fa) : OkI K E (iZipC K t) (argI zip3M fa) := by
  refine ⟨?_⟩
  intro B σ H env l rs rp h R post
  refine o.seq rp h post.exn fun a e v H1 h1 r1 f1 q1 => ?_
  obtain ⟨ds, h2, h3⟩ := lift_step h1
  obtain ⟨out, h4, h5⟩ := lift_some h3
  subst h5
  have da := dds_ok q1 h2
  unfold zip3M at h4
  split at h4
  · obtain ⟨es, e1, e2⟩ := Option.bind_eq_some_iff.mp h4
    obtain ⟨fs, e5, e6⟩ := Option.bind_eq_some_iff.mp e2
    obtain ⟨gs, e3, e4⟩ := Option.map_eq_some_iff.mp e6
    subst e4
    cases da with
    | cons d1 t1 =>
      cases t1 with
      | cons d2 t2 =>
        cases t2 with
        | cons d3 t3 =>
          cases t3
          obtain ⟨k1, p, ws, rfl, qa, ha⟩ := da_sq d1 e1
          obtain ⟨k2, p', ws', rfl, qb, hb⟩ := da_sq d2 e5
          obtain ⟨k3, p'', ws'', rfl, qc, hc⟩ := da_sq d3 e3
          refine ⟨k1, k2, k3, p, p', p'', ws, ws', ws'', rfl, qa.same (off_sub _ _), qb.same (off_sub _ _), qc.same (off_sub _ _), post _ H1 _ _ r1 f1 (walk_zipC (by rw [trip_len, daAll_len ha, daAll_len hb, daAll_len hc])) (fun H2 f => ⟨(qa.same f.keep).same (off_sub _ _), (qb.same f.keep).same (off_sub _ _), (qc.same f.keep).same (off_sub _ _)⟩) ?_⟩
          rintro i x H2 H3 d S fr ⟨T, u, w, r, ob, rfl, hT, od, g3, g4, g5, g6⟩ hd hs hS
          obtain ⟨x1, y1, z1, j1, j2, j3, rfl⟩ := trip_get hd
          obtain ⟨u', m1, m2⟩ := daAll_get ha j1
          obtain ⟨w', m3, m4⟩ := daAll_get hb j2
          obtain ⟨r', m5, m6⟩ := daAll_get hc j3
          cases m1.symm.trans g4
          cases m3.symm.trans g5
          cases m5.symm.trans g6
          subst g3
          exact ⟨same_new hT _, (new_dp hS hT (.cons (m2.walk fr hs) (.cons (m4.walk fr hs) (.cons (m6.walk fr hs) .nil)))).2 ob od⟩
  · cases h4
/-- a statement that the data never come to -/
def stuckS {α : Type} : M α := fun _ => none
theorem OkS.stuck {E : XK} {bx : Bool} : OkS K E bx tNever stuckS := ⟨fun _ h => by cases h⟩
end
section
variable {X : Cx} {K : PySem.W.Frag} (hK : X.K = K)
include hK
theorem k_zipC {e1 e2 e3 : Expr} {ta : TA} {p0 p1 p2 : Pos} {tgs : List Expr} {kk : Nat} (gl : Gl X "zip") (un : X.mg "zip" = none) (ha : PA X [e1, e2, e3] ta)
    (st : starEach [e1, e2, e3] X.env = (false, eval e1 X.env) :: starEach [e2, e3] X.env := by rfl) (pl : (backTo p1 (starEach [e2, e3] X.env)).any (·.1) = false := by rfl) :
    PI X (.Tuple tgs kk p2) (.Call (.Name "zip" p0) [e1, e2, e3] [] p1) (iZipC K ta) := by subst hK; exact pi_zipC gl un ha st pl
end
end Ov
set_option Elab.async false
set_option linter.all false
set_option maxRecDepth 100000
set_option maxHeartbeats 4000000
namespace Ov
open PySem L2
/-! the plain functions, evaluated: every word applied to the slots -/
def cont {α β : Type} (o : Option (Rs α)) (f : α → M β) : Option (Rs β) :=
  match o with
  | none => none
  | some (.ok a e) => f a e
  | some (.ex C g d) => some (.ex C g d)
section
variable {α β : Type} {env e : En}
theorem v_bind (x : M α) (f : α → M β) : M.bind x f env = cont (x env) f := rfl
theorem v_ok (a : α) (f : α → M β) : cont (some (.ok a e)) f = f a e := rfl
theorem v_none (f : α → M β) : cont none f = none := rfl
theorem v_pure (a : α) : M.pure a env = some (.ok a env) := rfl
theorem v_lift (a : α) : lift (some a) env = some (.ok a env) := rfl
theorem v_liftN : lift (none : Option α) env = none := rfl
theorem v_con (d : PyData) : con d env = some (.ok (.dat d) env) := rfl
def gk (o : Option (Option Wv)) (i : Nat) : Option R :=
  match o with
  | some (some (.dat d)) => some (.dat d)
  | some (some (.own _)) => some (.slot i)
  | some (some (.exc C f d)) => some (.exc C f d)
  | some (some (.dct _)) => some (.slot i)
  | some (some (.dci _)) => some (.slot i)
  | some (some (.dtk _)) => some (.slot i)
  | some (some (.dts _)) => some (.slot i)
  | some (some (.pin _ d)) => some (.dat d)
  | _ => none
theorem v_get (i : Nat) : get i env = lift (gk env[i]? i) env := by
  unfold get gk
  cases env[i]? with
  | none => rfl
  | some o => cases o with
    | none => rfl
    | some w => cases w <;> rfl
theorem v_gkd (d : PyData) (i : Nat) : gk (some (some (.dat d))) i = some (.dat d) := rfl
theorem v_gko (xs : List It1) (i : Nat) : gk (some (some (.own xs))) i = some (.slot i) := rfl
theorem v_gkc (xs : List Int) (i : Nat) : gk (some (some (.dct xs))) i = some (.slot i) := rfl
theorem v_vwd (d : PyData) : vw (.dat d) env = some (.ok d env) := rfl
def ok1 (o : Option (Option Wv)) : Option (List PyData) :=
  match o with
  | some (some (.own xs)) => itds xs
  | _ => none
theorem v_vws (i : Nat) : vw (.slot i) env = lift ((ok1 env[i]?).map .list) env := by
  unfold vw ok1 lift
  simp only
  cases env[i]? with
  | none => rfl
  | some o => cases o with
    | none => rfl
    | some w =>
      cases w with
      | own xs => simp only; cases itds xs <;> rfl
      | dat _ => rfl
      | exc _ _ _ => rfl
      | dct _ => rfl
      | dci _ => rfl
      | dtk _ => rfl
      | dts _ => rfl
      | pin _ _ => rfl
      | dtn _ => rfl
      | nd _ => rfl
theorem v_ok1 (ds : List PyData) : ok1 (some (some (.own (dats ds)))) = some ds := itds_dats ds
theorem v_ownD (i : Nat) : ownD i env = lift (ok1 env[i]?) env := by
  unfold ownD ok1 lift
  cases env[i]? with
  | none => rfl
  | some o => cases o with
    | none => rfl
    | some w =>
      cases w with
      | own xs => simp only
      | dat _ => rfl
      | exc _ _ _ => rfl
      | dct _ => rfl
      | dci _ => rfl
      | dtk _ => rfl
      | dts _ => rfl
      | pin _ _ => rfl
      | dtn _ => rfl
      | nd _ => rfl
def dk1 (o : Option (Option Wv)) : Option (List Int) :=
  match o with
  | some (some (.dct xs)) => some xs
  | _ => none
theorem v_dctD (i : Nat) : dctD i env = lift (dk1 env[i]?) env := by
  unfold dctD dk1 lift
  cases env[i]? with
  | none => rfl
  | some o => cases o with
    | none => rfl
    | some w => cases w <;> rfl
theorem v_dk1 (ks : List Int) : dk1 (some (some (.dct ks))) = some ks := rfl
theorem v_setOwn (i : Nat) (ds : List PyData) : setOwn i ds env = some (.ok () (env.set i (some (.own (dats ds))))) := rfl
theorem v_putM (i : Nat) (w : Wv) (h : i < env.length) : putM i w env = some (.ok () (env.set i (some w))) := if_pos h
theorem v_op2 (fo : PyData → PyData → Option PyData) (fa fb : M R) : op2 fo fa fb env = cont (fa env) fun a => M.bind fb fun b => M.bind (vw a) fun x => M.bind (vw b) fun y => M.bind (lift (fo x y)) fun d => M.pure (.dat d) := rfl
theorem v_op1 (fo : PyData → Option PyData) (fa : M R) : op1 fo fa env = cont (fa env) fun a => M.bind (vw a) fun x => M.bind (lift (fo x)) fun d => M.pure (.dat d) := rfl
theorem v_anil : anil env = some (.ok [] env) := rfl
theorem v_acons (fa : M R) (fr : M (List R)) : acons fa fr env = cont (fa env) fun a => M.bind fr fun r => M.pure (a :: r) := rfl
theorem v_vws0 : vws [] env = some (.ok [] env) := rfl
theorem v_vwsC (r : R) (rs : List R) : vws (r :: rs) env = cont (vw r env) fun d => M.bind (vws rs) fun ds => M.pure (d :: ds) := rfl
theorem v_cb (fo : List PyData → Option PyData) (fa : M (List R)) : cb fo fa env = cont (fa env) fun a => M.bind (vws a) fun ds => M.bind (lift (fo ds)) fun d => M.pure (.dat d) := rfl
theorem v_tupD (fa : M (List R)) : tupD fa env = cont (fa env) fun a => M.bind (lift (dds a)) fun ds => M.bind (lift (sz ds.length)) fun _ => M.pure (.dat (.tuple ds)) := rfl
theorem v_lstD (fa : M (List R)) : lstD fa env = cont (fa env) fun a => M.bind (lift (dds a)) fun ds => M.bind (lift (sz ds.length)) fun _ => M.pure (.dat (.list ds)) := rfl
theorem v_lstW (fa : M (List R)) : lstW fa env = cont (fa env) fun a => M.bind (lift (dds a)) fun ds => M.bind (lift (sz ds.length)) fun _ => M.pure (.own (dats ds)) := rfl
theorem v_listW (fa : M (List R)) : listW fa env = cont (fa env) fun a => M.bind (vws a) fun ds => M.bind (lift (match ds with | [a] => seqD a | _ => none)) fun es => M.pure (.own (dats es)) := rfl
theorem v_dds0 : dds [] = some [] := rfl
theorem v_ddsC (d : PyData) (r : List R) : dds (.dat d :: r) = (dds r).map (d :: ·) := rfl
def asB : PyData → Option Bool
  | .bool b => some b
  | _ => none
theorem v_asB (b : Bool) : asB (.bool b) = some b := rfl
theorem v_tb1 (fa : M R) : tb1 fa env = cont (fa env) fun a => M.bind (vw a) fun d => lift (asB d) := by
  unfold tb1
  rw [v_bind]
  congr 1
  funext a
  congr 1
  funext d
  cases d <;> rfl
theorem v_andT (fa fb : M Bool) : andT fa fb env = cont (fa env) fun a => if a = true then fb else M.pure false := rfl
theorem v_orT (fa fb : M Bool) : orT fa fb env = cont (fa env) fun a => if a = true then M.pure true else fb := rfl
theorem v_notT (fa : M Bool) : notT fa env = cont (fa env) fun a => M.pure (!a) := rfl
theorem v_andV (fa fb : M R) : andV fa fb env = cont (tb1 fa env) fun a => if a = true then fb else M.pure (ofB false) := rfl
theorem v_orV (fa fb : M R) : orV fa fb env = cont (tb1 fa env) fun a => if a = true then M.pure (ofB true) else fb := rfl
theorem v_notV (fa : M R) : notV fa env = cont (tb1 fa env) fun a => M.pure (ofB !a) := rfl
theorem v_ofB (b : Bool) : ofB b = .dat (.bool b) := rfl
theorem v_ifE (ft : M Bool) (fa fb : M R) : ifE ft fa fb env = cont (ft env) fun c => if c = true then fa else fb := rfl
theorem v_pl (f : M R) : pl f env = cont (f env) fun r => lift (toW r) := rfl
theorem v_toW (d : PyData) : toW (.dat d) = some (.dat d) := rfl
theorem v_fz (f : M Wv) : fz f env = cont (f env) fun w => lift (ofW w) := rfl
theorem v_ofWd (d : PyData) : ofW (.dat d) = some (.dat d) := rfl
theorem itD_dats (ds : List PyData) : (dats ds).map itD = ds := by
  unfold dats
  rw [List.map_map]
  exact List.map_id ds
theorem v_ofWo (ds : List PyData) : ofW (.own (dats ds)) = some (.dat (.list ds)) := by
  show some (R.dat (.list ((dats ds).map itD))) = _
  rw [itD_dats]
theorem v_nxt : nxt env = some (.ok .nx env) := rfl
theorem v_thenS (f g : M Fl) : thenS f g env = cont (f env) fun fl => match fl with | .nx => g | o => M.pure o := rfl
theorem v_exprS (f : M R) : exprS f env = cont (f env) fun _ => M.pure .nx := rfl
theorem v_retS (f : M Wv) : retS f env = cont (f env) fun w => M.pure (.rt w) := rfl
theorem v_retN : retN env = some (.ok (.rt (.dat .none)) env) := rfl
theorem v_ifS (c : M Bool) (f g : M Fl) : ifS c f g env = cont (c env) fun b => if b = true then f else g := rfl
theorem v_setS (i : Nat) (f : M Wv) : setS i f env = cont (f env) fun w => M.bind (putM i w) fun _ => M.pure .nx := rfl
theorem v_parS (i j : Nat) (f g : M Wv) : parS i j f g env = cont (f env) fun v => M.bind g fun w => M.bind (putM i v) fun _ => M.bind (putM j w) fun _ => M.pure .nx := rfl
theorem v_setIx (i : Nat) (fe fk : M R) : setIx i fe fk env = cont (fe env) fun r => M.bind (lift (asD r)) fun d => M.bind (ownD i) fun _ => M.bind fk fun k => M.bind (lift (asI k)) fun k => M.bind (ownD i) fun ds => M.bind (lift (ixN ds.length k)) fun j => M.bind (setOwn i (ds.set j d)) fun _ => M.pure .nx := rfl
theorem v_asD (d : PyData) : asD (.dat d) = some d := rfl
theorem v_asI (i : Int) : asI (.dat (.int i)) = some i := rfl
theorem v_mthE (i : Nat) (fo : List PyData → List PyData → Option (List PyData × PyData)) (fa : M (List R)) : mthE i fo fa env = cont (ownD i env) fun _ => M.bind fa fun rs => M.bind (lift (dds rs)) fun as => M.bind (ownD i) fun ds => M.bind (lift (fo ds as)) fun r => M.bind (setOwn i r.1) fun _ => M.pure (.dat r.2) := rfl
theorem v_callA (F : List PyData → Option Wv) (fa : M (List R)) : callA F fa env = cont (fa env) fun rs => M.bind (lift (dds rs)) fun ds => lift (F ds) := rfl
theorem v_callB (i : Nat) (F : List PyData → List PyData → Option (Wv × List PyData)) (fa : M (List R)) : callB i F fa env = cont (ownD i env) fun _ => M.bind fa fun rs => M.bind (lift (dds rs)) fun ds => M.bind (ownD i) fun bs => M.bind (lift (F bs ds)) fun r => M.bind (setOwn i r.2) fun _ => M.pure r.1 := rfl
theorem v_moveS (i : Nat) (xs : List It1) (h : env[i]? = some (some (.own xs))) : moveS i env = some (.ok (.rt (.own xs)) (env.set i none)) := by
  unfold moveS
  rw [h]
theorem v_forS (fi : M (List PyData)) (p : PyData → En → Option En) (body : M Fl) : forS fi p body env = cont (fi env) fun ds => forM p body ds := rfl
theorem v_argI (fo : List PyData → Option (List PyData)) (fa : M (List R)) : argI fo fa env = cont (fa env) fun rs => M.bind (lift (dds rs)) fun ds => lift (fo ds) := rfl
theorem v_seqI (f : M R) : seqI f env = cont (f env) fun r => M.bind (lift (asD r)) fun d => lift (seqD d) := rfl
theorem v_slD (fa : M R) (fl fh : M (Option Int)) : slD fa fl fh env = cont (fa env) fun a => M.bind fl fun lo => M.bind fh fun hi => M.bind (vw a) fun x => M.bind (lift (cutD x lo hi)) fun d => M.pure (.dat d) := rfl
theorem v_poN : poN env = some (.ok none env) := rfl
theorem v_poS (fa : M R) : poS fa env = cont (fa env) fun a => M.bind (lift (asI a)) fun i => M.pure (some i) := rfl
theorem v_isiE (T : String) (fa : M R) : isiE T fa env = cont (fa env) fun r => M.bind (vw r) fun d => M.bind (lift (kitD T d)) fun b => M.pure (ofB b) := rfl
theorem v_isiE2 (A B : String) (fa : M R) : isiE2 A B fa env = cont (fa env) fun r => M.bind (vw r) fun d => M.bind (lift (kitD A d)) fun a => M.bind (lift (kitD B d)) fun b => M.pure (ofB (a || b)) := rfl
theorem v_isNE (n : Bool) (fa : M R) : isNE n fa env = cont (fa env) fun r => M.bind (lift (isNR r)) fun b => M.pure (ofB (n ^^ b)) := rfl
theorem v_dnew : dnew env = some (.ok (.dct []) env) := rfl
theorem v_dinT (n : Bool) (i : Nat) (fk : M R) : dinT n i fk env = cont (fk env) fun r => M.bind (lift (asI r)) fun k => M.bind (dctD i) fun ks => M.pure (n ^^ decide (k ∈ ks)) := rfl
theorem v_dputS (i : Nat) (fk : M R) : dputS i fk env = cont (dctD i env) fun _ => M.bind fk fun r => M.bind (lift (asI r)) fun k => M.bind (dctD i) fun ks => M.bind (lift (chk (decide (ks.length < 1000)))) fun _ => M.bind (putM i (.dct (putT ks k))) fun _ => M.pure .nx := rfl
theorem v_sortDct (i : Nat) : sortDct i env = cont (dctD i env) fun ks => M.bind (lift (chk (decide (ks.length < 64)))) fun _ => M.pure (.dat (.list ((sortI ks).map .int))) := rfl
theorem v_rgE (fr : M (Int × Int)) : rgE fr env = cont (fr env) fun r => M.bind (lift (chk (decide (-(2 ^ 62) ≤ r.1 ∧ r.1 < 2 ^ 62 ∧ -(2 ^ 62) ≤ r.2 ∧ r.2 < 2 ^ 62 ∧ (r.2 - r.1).toNat ≤ 1000000)))) fun _ => M.pure (.dat (.tuple ((rngL r.1 r.2).map .int))) := rfl
theorem v_rg2 (fa fb : M R) : rg2 fa fb env = cont (fa env) fun a => M.bind fb fun b => M.bind (lift (asI a)) fun i => M.bind (lift (asI b)) fun j => M.pure (i, j) := rfl
theorem v_unS (p : PyData → En → Option En) (f : M R) : unS p f env = cont (f env) fun r => M.bind (lift (asD r)) fun d => M.bind (liftE (p d)) fun _ => M.pure .nx := rfl
theorem v_frz (i : Nat) (ds : List PyData) (h : env[i]? = some (some (.own (dats ds)))) : frzM i env = some (.ok () (env.set i (some (.dat (.list ds))))) := by
  unfold frzM
  rw [h]
  simp only
  rw [itD_dats]
theorem v_catW (fa fb : M R) : catW fa fb env = cont (fa env) fun a => M.bind fb fun b => M.bind (vw a) fun x => M.bind (vw b) fun y => M.bind (lift (catD x y)) fun d => M.bind (lift (match d with | .list ds => some ds | _ => none)) fun ds => M.pure (.own (dats ds)) := rfl
theorem v_chainE (fo fo' : PyData → PyData → Option PyData) (fa fb fc : M R) : chainE fo fo' fa fb fc env = cont (fa env) fun a => M.bind fb fun b => M.bind (vw a) fun x => M.bind (vw b) fun y => M.bind (lift (fo x y)) fun d => M.bind (lift (asB d)) fun k => if k = true then M.bind fc fun c => M.bind (vw b) fun y' => M.bind (vw c) fun z => M.bind (lift (fo' y' z)) fun d' => M.pure (.dat d') else M.pure (ofB false) := by
  unfold chainE
  have : (fun (b : R) (d : PyData) => (match d with | .bool k => if k = true then M.bind fc fun c => M.bind (vw b) fun y' => M.bind (vw c) fun z => M.bind (lift (fo' y' z)) fun d' => M.pure (.dat d') else M.pure (ofB false) | _ => fun _ => none : M R)) = fun b d => M.bind (lift (asB d)) fun k => if k = true then M.bind fc fun c => M.bind (vw b) fun y' => M.bind (vw c) fun z => M.bind (lift (fo' y' z)) fun d' => M.pure (.dat d') else M.pure (ofB false) := by
    funext b d
    cases d <;> rfl
  have h2 : ∀ b, (fun (d : PyData) => (match d with | .bool k => if k = true then M.bind fc fun c => M.bind (vw b) fun y' => M.bind (vw c) fun z => M.bind (lift (fo' y' z)) fun d' => M.pure (.dat d') else M.pure (ofB false) | _ => fun _ => none : M R)) = fun d => M.bind (lift (asB d)) fun k => if k = true then M.bind fc fun c => M.bind (vw b) fun y' => M.bind (vw c) fun z => M.bind (lift (fo' y' z)) fun d' => M.pure (.dat d') else M.pure (ofB false) := fun b => congrFun this b
  show M.bind _ _ env = _
  rw [v_bind]
  congr 1
  funext a
  congr 1
  funext b
  congr 1
  funext x
  congr 1
  funext y
  congr 1
  exact h2 b
/-! operators on numbers -/
theorem v_add (i j : Int) : addD (.int i) (.int j) = some (.int (i + j)) := rfl
theorem v_sub (i j : Int) : subD (.int i) (.int j) = some (.int (i - j)) := rfl
theorem v_mul (i j : Int) (h : pMul i j = true) : mulD (.int i) (.int j) = some (.int (i * j)) := if_pos h
theorem v_div (i j : Int) (h : pDiv i j = true) : divD (.int i) (.int j) = some (.int (i / j)) := if_pos h
theorem v_mod (i j : Int) (h : pMod i j = true) : modD (.int i) (.int j) = some (.int (i % j)) := if_pos h
theorem v_pow (i j : Int) (h : pPow i j = true) : powD (.int i) (.int j) = some (.int (i ^ j.toNat)) := if_pos h
theorem v_lt (i j : Int) : ltD (.int i) (.int j) = some (.bool (decide (i < j))) := rfl
theorem v_le (i j : Int) : leD (.int i) (.int j) = some (.bool (decide (i ≤ j))) := rfl
theorem v_gt (i j : Int) : gtD (.int i) (.int j) = some (.bool (decide (j < i))) := rfl
theorem v_ge (i j : Int) : geD (.int i) (.int j) = some (.bool (decide (j ≤ i))) := rfl
theorem v_eqI (n : Bool) (i j : Int) : eqA n (.int i) (.int j) = some (.bool (n ^^ decide (i = j))) := rfl
theorem v_eqB (n : Bool) (i j : Bool) : eqA n (.bool i) (.bool j) = some (.bool (n ^^ decide (i = j))) := rfl
theorem v_eqS (n : Bool) (i j : Str) : eqA n (.str i) (.str j) = some (.bool (n ^^ decide (i = j))) := rfl
theorem v_ixL (ds : List PyData) (i : Int) : ixD (.list ds) (.int i) = atI ds i := rfl
theorem v_ixT (ds : List PyData) (i : Int) : ixD (.tuple ds) (.int i) = atI ds i := rfl
theorem v_lenL (ds : List PyData) : lenD [.list ds] = some (.int ds.length) := rfl
theorem v_lenT (ds : List PyData) : lenD [.tuple ds] = some (.int ds.length) := rfl
theorem v_abs (i : Int) : absD [.int i] = some (.int (if i < 0 then -i else i)) := rfl
theorem v_intI (i : Int) : intD [.int i] = some (.int i) := rfl
theorem v_intB (k : Bool) : intD [.bool k] = some (.int (if k then 1 else 0)) := rfl
theorem v_min (i j : Int) : minD [.int i, .int j] = some (.int (if j < i then j else i)) := rfl
theorem v_max (i j : Int) : maxD [.int i, .int j] = some (.int (if j > i then j else i)) := rfl
theorem v_sz (n : Nat) (h : n ≤ 1000000) : sz n = some () := if_pos h
theorem v_chk : chk true = some () := rfl
theorem v_app (ds : List PyData) (a : PyData) (h : ds.length + 1 ≤ 1000000) : appD ds [a] = some (ds ++ [a], .none) := by
  show (sz (ds.length + 1)).map _ = _
  rw [v_sz _ h]
  rfl
end
theorem v_cat (xs ys : List PyData) (h : xs.length + ys.length ≤ 1000000) : catD (.list xs) (.list ys) = some (.list (xs ++ ys)) := by
  show (sz _).map _ = _
  rw [v_sz _ h]
  rfl
theorem v_catT (xs ys : List PyData) (h : xs.length + ys.length ≤ 1000000) : catT (.tuple xs) (.tuple ys) = some (.tuple (xs ++ ys)) := by
  show (sz _).map _ = _
  rw [v_sz _ h]
  rfl
theorem then_nx {f g : M Fl} {env e : En} (h : f env = some (.ok .nx e)) : thenS f g env = g e := by
  rw [v_thenS, h]
  rfl
theorem then_rt {f g : M Fl} {env e : En} {w : Wv} (h : f env = some (.ok (.rt w) e)) : thenS f g env = some (.ok (.rt w) e) := by
  rw [v_thenS, h]
  rfl
/-- a function's run, by its body's -/
theorem runA_eq {np n : Nat} {fb : M Fl} {ds : List PyData} {w : Wv} (hl : ds.length = np) (h : ∃ e, fb (env0 ds (n - ds.length)) = some (.ok (.rt w) e)) : runA np n fb ds = some w := by
  obtain ⟨e, h⟩ := h
  unfold runA
  rw [if_pos hl, h]
theorem runB_eq {np n : Nat} {fb : M Fl} {bs ds bs' : List PyData} {w : Wv} (hl : ds.length + 1 = np) (h : ∃ e, fb (some (.own (dats bs)) :: env0 ds (n - (ds.length + 1))) = some (.ok (.rt w) (some (.own (dats bs')) :: e))) : runB np n fb bs ds = some (w, bs') := by
  obtain ⟨e, h⟩ := h
  unfold runB
  rw [if_pos hl, h]
  show (itds (dats bs')).map _ = _
  rw [itds_dats]
  rfl
end Ov
set_option Elab.async false
set_option linter.all false
set_option maxRecDepth 100000
set_option maxHeartbeats 4000000
namespace Ov
open PySem L2
/-! loops and comprehensions, a turn at a time -/
section
variable {env e e2 : En}
theorem while_go {c : M Bool} {b : M Fl} {k : Nat} (h1 : c env = some (.ok true e)) (h2 : b e = some (.ok .nx e2)) : whileM c b (k + 1) env = whileM c b k e2 := by
  simp only [whileM, h1, h2, if_true]
theorem while_end {c : M Bool} {b : M Fl} {k : Nat} (h1 : c env = some (.ok false e)) : whileM c b (k + 1) env = some (.ok .nx e) := by
  simp only [whileM, h1, Bool.false_eq_true, if_false]
theorem for_nil {p : PyData → En → Option En} {b : M Fl} : forM p b [] env = some (.ok .nx env) := rfl
theorem for_go {p : PyData → En → Option En} {b : M Fl} {d : PyData} {ds : List PyData} (h1 : p d env = some e) (h2 : b e = some (.ok .nx e2)) : forM p b (d :: ds) env = forM p b ds e2 := by
  simp only [forM, h1, h2]
theorem comp_yes {p : PyData → En → Option En} {ft : M Bool} {fe : M R} {vs : List Nat} {d y : PyData} {ds acc : List PyData} {e3 : En} (h1 : p d env = some e) (h2 : ft e = some (.ok true e2)) (h3 : fe e2 = some (.ok (.dat y) e3)) (h4 : freeB e3 vs = true) (h5 : acc.length < 1000000) :
    compM p ft fe vs (d :: ds) acc env = compM p ft fe vs ds (acc ++ [y]) (wipeE e3 vs) := by
  simp only [compM, h1, h2, h3, h4, h5, if_true, true_and, and_self]
theorem comp_no {p : PyData → En → Option En} {ft : M Bool} {fe : M R} {vs : List Nat} {d : PyData} {ds acc : List PyData} (h1 : p d env = some e) (h2 : ft e = some (.ok false e2)) (h4 : freeB e2 vs = true) :
    compM p ft fe vs (d :: ds) acc env = compM p ft fe vs ds acc (wipeE e2 vs) := by
  simp only [compM, h1, h2, h4, if_true, Bool.false_eq_true, if_false]
/-- nothing changes but the list -/
theorem comp_all {p : PyData → En → Option En} {ft : M Bool} {fe : M R} {vs : List Nat} (g : PyData → PyData) (t : PyData → Bool) : ∀ (ds acc : List PyData), acc.length + ds.length < 1000000 →
    (∀ d ∈ ds, ∃ e, p d env = some e ∧ ft e = some (.ok (t d) e) ∧ (t d = true → fe e = some (.ok (.dat (g d)) e)) ∧ freeB e vs = true ∧ wipeE e vs = env) → compM p ft fe vs ds acc env = some (.ok (acc ++ (ds.filter t).map g) env)
  | [], acc, _, _ => by simp [compM, M.pure]
  | d :: ds, acc, hl, h => by
    obtain ⟨e, h1, h2, h3, h4, h5⟩ := h d (List.mem_cons_self ..)
    rw [List.length_cons] at hl
    cases q : t d with
    | true =>
      rw [q] at h2
      rw [comp_yes h1 h2 (h3 q) h4 (by omega), h5, comp_all g t ds (acc ++ [g d]) (by rw [List.length_append]; show acc.length + 1 + _ < _; omega) fun x hx => h x (List.mem_cons_of_mem _ hx)]
      simp [q]
    | false =>
      rw [q] at h2
      rw [comp_no h1 h2 h4, h5, comp_all g t ds acc (by omega) fun x hx => h x (List.mem_cons_of_mem _ hx)]
      simp [q]
theorem comp_map {p : PyData → En → Option En} {ft : M Bool} {fe : M R} {vs : List Nat} (g : PyData → PyData) (ds acc : List PyData) (hl : acc.length + ds.length < 1000000)
    (h : ∀ d ∈ ds, ∃ e, p d env = some e ∧ ft e = some (.ok true e) ∧ fe e = some (.ok (.dat (g d)) e) ∧ freeB e vs = true ∧ wipeE e vs = env) : compM p ft fe vs ds acc env = some (.ok (acc ++ ds.map g) env) := by
  have := comp_all (env := env) (p := p) (ft := ft) (fe := fe) (vs := vs) g (fun _ => true) ds acc hl fun d hd => by
    obtain ⟨e, h1, h2, h3, h4, h5⟩ := h d hd
    exact ⟨e, h1, h2, fun _ => h3, h4, h5⟩
  rw [List.filter_eq_self.mpr fun _ _ => rfl] at this
  exact this
theorem lc_eq {fi : M (List PyData)} {p : PyData → En → Option En} {ft : M Bool} {fe : M R} {vs : List Nat} {ds out : List PyData} {e3 : En} (h1 : fi env = some (.ok ds e)) (h2 : freeB e vs = true) (h3 : wipeE e vs = e2) (h4 : compM p ft fe vs ds [] e2 = some (.ok out e3)) :
    lcW fi p ft fe vs env = some (.ok (.own (dats out)) e3) := by
  show cont (fi env) _ = _
  rw [h1]
  show (if freeB e vs = true then (M.bind (compM p ft fe vs ds []) fun out => M.pure (Wv.own (dats out))) (wipeE e vs) else none) = _
  rw [if_pos h2, h3]
  show cont (compM p ft fe vs ds [] e2) _ = _
  rw [h4]
  rfl
end
theorem free_le (ks : List Int) (a M : Int) (hM : (ks.length : Int) < M) : ∃ m : Nat, m ≤ ks.length ∧ (a + m) % M + 1 ∉ ks := by
  refine Classical.byContradiction fun no => ?_
  have all : ∀ m : Nat, m ≤ ks.length → (a + m) % M + 1 ∈ ks := fun m hm => Classical.byContradiction fun h => no ⟨m, hm, h⟩
  have nd : ((List.range (ks.length + 1)).map fun m : Nat => (a + m) % M + 1).Nodup := by
    refine List.pairwise_map.mpr ?_
    refine List.Pairwise.imp_of_mem ?_ List.pairwise_lt_range
    intro i j hi hj hij e
    have hj' := List.mem_range.mp hj
    exact emod_ne (a := a) (M := M) (by omega) hij (by omega)
  have h := sub_len _ ks nd fun x hx => by
    obtain ⟨m, hm, rfl⟩ := List.mem_map.mp hx
    exact all m (by have := List.mem_range.mp hm; omega)
  rw [List.length_map, List.length_range] at h
  omega
/-- the first such step -/
theorem free_first (ks : List Int) (a M : Int) (hM : (ks.length : Int) < M) : ∃ m : Nat, m ≤ ks.length ∧ (a + m) % M + 1 ∉ ks ∧ ∀ j : Nat, j < m → (a + j) % M + 1 ∈ ks := by
  obtain ⟨m, hm, h⟩ := free_le ks a M hM
  have key : ∀ n : Nat, n ≤ ks.length → (a + n) % M + 1 ∉ ks → ∃ m : Nat, m ≤ ks.length ∧ (a + m) % M + 1 ∉ ks ∧ ∀ j : Nat, j < m → (a + j) % M + 1 ∈ ks := by
    intro n
    induction n using Nat.strongRecOn with
    | _ n ih =>
      intro hn h
      by_cases q : ∃ j, j < n ∧ (a + (j : Nat)) % M + 1 ∉ ks
      · obtain ⟨j, hj, hq⟩ := q
        exact ih j hj (by omega) hq
      · exact ⟨n, hn, h, fun j hj => Classical.byContradiction fun z => q ⟨j, hj, z⟩⟩
  exact key m hm h
theorem erase_map {α β : Type} (f : α → β) : ∀ (l : List α) (j : Nat), (l.map f).eraseIdx j = (l.eraseIdx j).map f
  | [], j => by simp
  | a :: r, 0 => by simp
  | a :: r, j + 1 => by
    rw [List.map_cons, List.eraseIdx_cons_succ, List.eraseIdx_cons_succ, List.map_cons, erase_map f r j]
theorem shp_list (ns : List Int) : shp (.list (ns.map .int)) = true := sh_ints ns
theorem shp_tup (ns : List Int) : shp (.tuple (ns.map .int)) = true := sh_intsT ns
theorem ne_nil (ns : List Int) : eqvD true (.list (ns.map .int)) (.list []) = some (.bool (!ns.isEmpty)) := by
  unfold eqvD
  rw [shp_list, show shp (.list []) = true by decide]
  show some (PyData.bool (true ^^ PyData.eqv (dInts ns) (.list []))) = _
  rw [eqv_nil, Bool.true_xor]
theorem shp_int (i : Int) : shp (.int i) = true := by simp [shp, SeqAt.shaped, PyData.canLay0, PyData.depth]
end Ov
set_option Elab.async false
set_option linter.all false
set_option maxRecDepth 100000
set_option maxHeartbeats 4000000
namespace Ov
open PySem L2
/-! a comprehension of two clauses, the second one over a range -/
section
variable {K : PySem.W.Frag} {E : XK}
def PostJ (K : PySem.W.Frag) (E : XK) (B : Addr → Prop) (σ : St) (H : Hp) (l : List Addr) (rs : Rs (List PyData)) (R : It → Hp → Prop) : Prop :=
  match rs with
  | .ok ds env' => ∀ J H' Y, Rep K B σ H' env' l → Fr l H H' → Walk J ds.length (fun _ => True) Y → (∀ i x H2 H3 d, Y i H2 x H3 → ds[i]? = some d → H3 = H2 ∧ ∃ k : Int, x = .int k ∧ d = .int k) → R J H'
  | .ex C f d => Exn K E B H l C f d
theorem PostJ.exn {B : Addr → Prop} {σ : St} {H : Hp} {l : List Addr} {rs : Rs (List PyData)} {R : It → Hp → Prop} (h : PostJ K E B σ H l rs R) : ∀ C f d, rs = .ex C f d → Exn K E B H l C f d := fun C f d e => by subst e; exact h
/-! what it does -/
end
end Ov
set_option Elab.async false
set_option linter.all false
set_option maxRecDepth 100000
set_option maxHeartbeats 4000000
namespace Ov
open PySem L2
/-! x op= e of numbers; two items of a list change places -/
section
variable {K : PySem.W.Frag} {E : XK} {bx : Bool}
def augS (i : Nat) (fo : PyData → PyData → Option PyData) (fe : M R) : M Fl :=
  M.bind (get i) fun a => M.bind (lift (asI a)) fun x => M.bind fe fun b => M.bind (lift (asI b)) fun y => M.bind (lift (fo (.int x) (.int y))) fun d => M.bind (putM i (.dat d)) fun _ => M.pure .nx
theorem OkS.aug {i : Nat} {te : TE} {ti : TIp} {fo : PyData → PyData → Option PyData} {fe : M R} (hb : bx = true → i ≠ 0) (ht : ∀ (x y : Int) (d : PyData), fo (.int x) (.int y) = some d → ∃ z : Int, d = .int z ∧ ∀ (H : Hp) (Q : VK), Q (.int z) H → ti (.int x) (.int y) H Q) (oe : OkE K E te fe) :
    OkS K E bx (tAug i te ti) (augS i fo fe) := by
  refine ⟨?_⟩
  intro B σ H env l rs rp h D post
  show tVar i σ H (fun x H0 => te σ H0 fun y H1 => ti x y H1 fun z H2 => D.nx (σ.set i (some z)) H2)
  refine (OkE.var i).seq rp h post.exn fun a e v H1 h1 r1 f1 q1 => ?_
  obtain ⟨x, h2, h3⟩ := lift_step h1
  rw [asI_some h2] at q1
  cases q1
  refine oe.seq r1 h3 (exn_later post.exn f1) fun b e2 v2 H2 h4 r2 f2 q2 => ?_
  obtain ⟨y, h5, h6⟩ := lift_step h4
  rw [asI_some h5] at q2
  cases q2
  obtain ⟨d, h7, h8⟩ := lift_step h6
  obtain ⟨z, rfl, hz⟩ := ht x y d h7
  obtain ⟨hi, h9⟩ := putM_step h8
  cases h9
  obtain ⟨l', r', m1, m2⟩ := r2.putD hi (.int z)
  exact hz H2 _ (post _ H2 l' r' ⟨f1.trans f2, fun b z => .inl (m1 b z)⟩ fun z => List.getElem?_set_ne (hb z))
def ipM : TIp := fun x y H Q => ∃ i j, x = .int i ∧ y = .int j ∧ CMul i j ∧ Q (.int (i * j)) H
theorem ip_mul {X : Cx} : PIp X .Mult ipM := by
  intro pins s σ H x y v u Q I r1 r2 h
  obtain ⟨i, j, e1, e2, c, q⟩ := h
  subst e1; subst e2
  obtain ⟨t, rfl⟩ := r1
  obtain ⟨t', rfl⟩ := r2
  exact PySem.P.imul_int ⟨.int _, H, I.tok _, ⟨_, rfl⟩, q⟩ c.ok
theorem v_mulD (x y : Int) (h : pMul x y = true) : mulD (.int x) (.int y) = some (.int (x * y)) := by
  show (if pMul x y = true then some (PyData.int (x * y)) else none) = _
  rw [if_pos h]
theorem aug_mul (x y : Int) (d : PyData) (h : mulD (.int x) (.int y) = some d) : ∃ z : Int, d = .int z ∧ ∀ (H : Hp) (Q : VK), Q (.int z) H → ipM (.int x) (.int y) H Q := by
  have h' : (if pMul x y = true then some (PyData.int (x * y)) else none) = some d := h
  split at h'
  · rename_i c
    cases h'
    exact ⟨_, rfl, fun H Q q => ⟨x, y, rfl, rfl, (Bool.or_eq_true_iff.mp c).imp of_decide_eq_true of_decide_eq_true, q⟩⟩
  · cases h'
end
end Ov
set_option Elab.async false
set_option linter.all false
set_option maxRecDepth 100000
set_option maxHeartbeats 4000000
namespace Ov
open PySem L2
theorem law_sp {K : PySem.W.Frag} {H : Hp} {a : Addr} {ns : List Int} {E : XK} (F : List PyData → Option Wv) (hF : F [.list (ns.map .int)] = some (.dat (.bool true))) (h : SqL K H a (ns.map V.int)) : spA K F [.ref a] H (fun v _ => v = .bl true) E := by
  refine ⟨fun _ => False, [.list (ns.map .int)], .dat (.bool true), .cons (.lst (rd_same (fun b o e => (off_ne (fun z => z)).trans e) h) (da_ints _)) .nil, fun _ z => z.elim, hF, fun v H' lw s q nd no => ?_⟩
  obtain ⟨_, d⟩ := q
  cases d
  rfl
end Ov
set_option Elab.async false
set_option linter.all false
set_option maxRecDepth 100000
set_option maxHeartbeats 4000000
namespace Ov
open PySem L2
/-! what pieces that change nothing give, piece by piece -/
def Gv (f : M R) (env : En) (d : PyData) : Prop := f env = some (.ok (.dat d) env)
section
variable {env : En} {f g h : M R} {a b c d : PyData} {F : List PyData → Option Wv} {t u : M Bool} {x y : Bool} {s s2 : M Fl} {i : Nat}
theorem get_ok (e : env[i]? = some (some (.dat d))) : Gv (get i) env d := by
  unfold Gv
  simp [v_bind, v_ok, v_none, v_pure, v_lift, v_liftN, v_con, v_get, v_gkd, v_gko, v_gkc, v_vwd, v_vws, v_ok1, v_ownD, v_dctD, v_dk1, v_setOwn, v_putM, v_op2, v_op1, v_anil, v_acons, v_vws0, v_vwsC, v_cb, v_tupD, v_lstD, v_lstW, v_listW, v_dds0, v_ddsC, v_asB, v_tb1, v_andT, v_orT, v_notT, v_andV, v_orV, v_notV, v_ofB, v_ifE, v_pl, v_toW, v_fz, v_ofWd, v_ofWo, v_nxt, v_thenS, v_exprS, v_retS, v_retN, v_ifS, v_setS, v_parS, v_setIx, v_asD, v_asI, v_mthE, v_callA, v_callB, v_forS, v_argI, v_seqI, v_slD, v_poN, v_poS, v_isiE, v_isiE2, v_isNE, v_dnew, v_dinT, v_dputS, v_sortDct, v_rgE, v_rg2, v_unS, v_catW, v_chainE, v_add, v_sub, v_lt, v_le, v_gt, v_ge, v_eqI, v_eqB, v_eqS, v_ixL, v_ixT, v_lenL, v_lenT, v_abs, v_intI, v_intB, v_min, v_max, v_chk, e]
theorem con_ok : Gv (con d) env d := rfl
theorem op2_ok {fo : PyData → PyData → Option PyData} (h1 : Gv f env a) (h2 : Gv g env b) (h3 : fo a b = some c) : Gv (op2 fo f g) env c := by
  unfold Gv at *
  simp [v_bind, v_ok, v_none, v_pure, v_lift, v_liftN, v_con, v_get, v_gkd, v_gko, v_gkc, v_vwd, v_vws, v_ok1, v_ownD, v_dctD, v_dk1, v_setOwn, v_putM, v_op2, v_op1, v_anil, v_acons, v_vws0, v_vwsC, v_cb, v_tupD, v_lstD, v_lstW, v_listW, v_dds0, v_ddsC, v_asB, v_tb1, v_andT, v_orT, v_notT, v_andV, v_orV, v_notV, v_ofB, v_ifE, v_pl, v_toW, v_fz, v_ofWd, v_ofWo, v_nxt, v_thenS, v_exprS, v_retS, v_retN, v_ifS, v_setS, v_parS, v_setIx, v_asD, v_asI, v_mthE, v_callA, v_callB, v_forS, v_argI, v_seqI, v_slD, v_poN, v_poS, v_isiE, v_isiE2, v_isNE, v_dnew, v_dinT, v_dputS, v_sortDct, v_rgE, v_rg2, v_unS, v_catW, v_chainE, v_add, v_sub, v_lt, v_le, v_gt, v_ge, v_eqI, v_eqB, v_eqS, v_ixL, v_ixT, v_lenL, v_lenT, v_abs, v_intI, v_intB, v_min, v_max, v_chk, h1, h2, h3]
theorem call1 (h1 : Gv f env a) (e : F [a] = some (.dat c)) : Gv (fz (callA F (acons f anil))) env c := by
  unfold Gv at *
  simp [v_bind, v_ok, v_none, v_pure, v_lift, v_liftN, v_con, v_get, v_gkd, v_gko, v_gkc, v_vwd, v_vws, v_ok1, v_ownD, v_dctD, v_dk1, v_setOwn, v_putM, v_op2, v_op1, v_anil, v_acons, v_vws0, v_vwsC, v_cb, v_tupD, v_lstD, v_lstW, v_listW, v_dds0, v_ddsC, v_asB, v_tb1, v_andT, v_orT, v_notT, v_andV, v_orV, v_notV, v_ofB, v_ifE, v_pl, v_toW, v_fz, v_ofWd, v_ofWo, v_nxt, v_thenS, v_exprS, v_retS, v_retN, v_ifS, v_setS, v_parS, v_setIx, v_asD, v_asI, v_mthE, v_callA, v_callB, v_forS, v_argI, v_seqI, v_slD, v_poN, v_poS, v_isiE, v_isiE2, v_isNE, v_dnew, v_dinT, v_dputS, v_sortDct, v_rgE, v_rg2, v_unS, v_catW, v_chainE, v_add, v_sub, v_lt, v_le, v_gt, v_ge, v_eqI, v_eqB, v_eqS, v_ixL, v_ixT, v_lenL, v_lenT, v_abs, v_intI, v_intB, v_min, v_max, v_chk, h1, e]
theorem call1o (h1 : Gv f env a) {C : List PyData} (e : F [a] = some (.own (dats C))) : Gv (fz (callA F (acons f anil))) env (.list C) := by
  unfold Gv at *
  simp [v_bind, v_ok, v_none, v_pure, v_lift, v_liftN, v_con, v_get, v_gkd, v_gko, v_gkc, v_vwd, v_vws, v_ok1, v_ownD, v_dctD, v_dk1, v_setOwn, v_putM, v_op2, v_op1, v_anil, v_acons, v_vws0, v_vwsC, v_cb, v_tupD, v_lstD, v_lstW, v_listW, v_dds0, v_ddsC, v_asB, v_tb1, v_andT, v_orT, v_notT, v_andV, v_orV, v_notV, v_ofB, v_ifE, v_pl, v_toW, v_fz, v_ofWd, v_ofWo, v_nxt, v_thenS, v_exprS, v_retS, v_retN, v_ifS, v_setS, v_parS, v_setIx, v_asD, v_asI, v_mthE, v_callA, v_callB, v_forS, v_argI, v_seqI, v_slD, v_poN, v_poS, v_isiE, v_isiE2, v_isNE, v_dnew, v_dinT, v_dputS, v_sortDct, v_rgE, v_rg2, v_unS, v_catW, v_chainE, v_add, v_sub, v_lt, v_le, v_gt, v_ge, v_eqI, v_eqB, v_eqS, v_ixL, v_ixT, v_lenL, v_lenT, v_abs, v_intI, v_intB, v_min, v_max, v_chk, h1, e]
theorem call2 (h1 : Gv f env a) (h2 : Gv g env b) (e : F [a, b] = some (.dat c)) : Gv (fz (callA F (acons f (acons g anil)))) env c := by
  unfold Gv at *
  simp [v_bind, v_ok, v_none, v_pure, v_lift, v_liftN, v_con, v_get, v_gkd, v_gko, v_gkc, v_vwd, v_vws, v_ok1, v_ownD, v_dctD, v_dk1, v_setOwn, v_putM, v_op2, v_op1, v_anil, v_acons, v_vws0, v_vwsC, v_cb, v_tupD, v_lstD, v_lstW, v_listW, v_dds0, v_ddsC, v_asB, v_tb1, v_andT, v_orT, v_notT, v_andV, v_orV, v_notV, v_ofB, v_ifE, v_pl, v_toW, v_fz, v_ofWd, v_ofWo, v_nxt, v_thenS, v_exprS, v_retS, v_retN, v_ifS, v_setS, v_parS, v_setIx, v_asD, v_asI, v_mthE, v_callA, v_callB, v_forS, v_argI, v_seqI, v_slD, v_poN, v_poS, v_isiE, v_isiE2, v_isNE, v_dnew, v_dinT, v_dputS, v_sortDct, v_rgE, v_rg2, v_unS, v_catW, v_chainE, v_add, v_sub, v_lt, v_le, v_gt, v_ge, v_eqI, v_eqB, v_eqS, v_ixL, v_ixT, v_lenL, v_lenT, v_abs, v_intI, v_intB, v_min, v_max, v_chk, h1, h2, e]
/-! tests -/
def Tv (t : M Bool) (env : En) (x : Bool) : Prop := t env = some (.ok x env)
theorem tb_ok (e : Gv f env (.bool x)) : Tv (tb1 f) env x := by
  unfold Gv Tv at *
  simp [v_bind, v_ok, v_none, v_pure, v_lift, v_liftN, v_con, v_get, v_gkd, v_gko, v_gkc, v_vwd, v_vws, v_ok1, v_ownD, v_dctD, v_dk1, v_setOwn, v_putM, v_op2, v_op1, v_anil, v_acons, v_vws0, v_vwsC, v_cb, v_tupD, v_lstD, v_lstW, v_listW, v_dds0, v_ddsC, v_asB, v_tb1, v_andT, v_orT, v_notT, v_andV, v_orV, v_notV, v_ofB, v_ifE, v_pl, v_toW, v_fz, v_ofWd, v_ofWo, v_nxt, v_thenS, v_exprS, v_retS, v_retN, v_ifS, v_setS, v_parS, v_setIx, v_asD, v_asI, v_mthE, v_callA, v_callB, v_forS, v_argI, v_seqI, v_slD, v_poN, v_poS, v_isiE, v_isiE2, v_isNE, v_dnew, v_dinT, v_dputS, v_sortDct, v_rgE, v_rg2, v_unS, v_catW, v_chainE, v_add, v_sub, v_lt, v_le, v_gt, v_ge, v_eqI, v_eqB, v_eqS, v_ixL, v_ixT, v_lenL, v_lenT, v_abs, v_intI, v_intB, v_min, v_max, v_chk, e]
/-! statements -/
theorem if_no (e : Tv t env false) : ifS t s s2 env = s2 env := by
  unfold Tv at *
  simp [v_bind, v_ok, v_none, v_pure, v_lift, v_liftN, v_con, v_get, v_gkd, v_gko, v_gkc, v_vwd, v_vws, v_ok1, v_ownD, v_dctD, v_dk1, v_setOwn, v_putM, v_op2, v_op1, v_anil, v_acons, v_vws0, v_vwsC, v_cb, v_tupD, v_lstD, v_lstW, v_listW, v_dds0, v_ddsC, v_asB, v_tb1, v_andT, v_orT, v_notT, v_andV, v_orV, v_notV, v_ofB, v_ifE, v_pl, v_toW, v_fz, v_ofWd, v_ofWo, v_nxt, v_thenS, v_exprS, v_retS, v_retN, v_ifS, v_setS, v_parS, v_setIx, v_asD, v_asI, v_mthE, v_callA, v_callB, v_forS, v_argI, v_seqI, v_slD, v_poN, v_poS, v_isiE, v_isiE2, v_isNE, v_dnew, v_dinT, v_dputS, v_sortDct, v_rgE, v_rg2, v_unS, v_catW, v_chainE, v_add, v_sub, v_lt, v_le, v_gt, v_ge, v_eqI, v_eqB, v_eqS, v_ixL, v_ixT, v_lenL, v_lenT, v_abs, v_intI, v_intB, v_min, v_max, v_chk, e]
theorem if_nx (e : Tv t env false) : ifS t s nxt env = some (.ok .nx env) := (if_no e).trans rfl
theorem ret_ok (e : Gv f env d) : retS (pl f) env = some (.ok (.rt (.dat d)) env) := by
  unfold Gv at *
  simp [v_bind, v_ok, v_none, v_pure, v_lift, v_liftN, v_con, v_get, v_gkd, v_gko, v_gkc, v_vwd, v_vws, v_ok1, v_ownD, v_dctD, v_dk1, v_setOwn, v_putM, v_op2, v_op1, v_anil, v_acons, v_vws0, v_vwsC, v_cb, v_tupD, v_lstD, v_lstW, v_listW, v_dds0, v_ddsC, v_asB, v_tb1, v_andT, v_orT, v_notT, v_andV, v_orV, v_notV, v_ofB, v_ifE, v_pl, v_toW, v_fz, v_ofWd, v_ofWo, v_nxt, v_thenS, v_exprS, v_retS, v_retN, v_ifS, v_setS, v_parS, v_setIx, v_asD, v_asI, v_mthE, v_callA, v_callB, v_forS, v_argI, v_seqI, v_slD, v_poN, v_poS, v_isiE, v_isiE2, v_isNE, v_dnew, v_dinT, v_dputS, v_sortDct, v_rgE, v_rg2, v_unS, v_catW, v_chainE, v_add, v_sub, v_lt, v_le, v_gt, v_ge, v_eqI, v_eqB, v_eqS, v_ixL, v_ixT, v_lenL, v_lenT, v_abs, v_intI, v_intB, v_min, v_max, v_chk, e]
theorem expr_ok (e : Gv f env d) : exprS f env = some (.ok .nx env) := by
  unfold Gv at *
  simp [v_bind, v_ok, v_none, v_pure, v_lift, v_liftN, v_con, v_get, v_gkd, v_gko, v_gkc, v_vwd, v_vws, v_ok1, v_ownD, v_dctD, v_dk1, v_setOwn, v_putM, v_op2, v_op1, v_anil, v_acons, v_vws0, v_vwsC, v_cb, v_tupD, v_lstD, v_lstW, v_listW, v_dds0, v_ddsC, v_asB, v_tb1, v_andT, v_orT, v_notT, v_andV, v_orV, v_notV, v_ofB, v_ifE, v_pl, v_toW, v_fz, v_ofWd, v_ofWo, v_nxt, v_thenS, v_exprS, v_retS, v_retN, v_ifS, v_setS, v_parS, v_setIx, v_asD, v_asI, v_mthE, v_callA, v_callB, v_forS, v_argI, v_seqI, v_slD, v_poN, v_poS, v_isiE, v_isiE2, v_isNE, v_dnew, v_dinT, v_dputS, v_sortDct, v_rgE, v_rg2, v_unS, v_catW, v_chainE, v_add, v_sub, v_lt, v_le, v_gt, v_ge, v_eqI, v_eqB, v_eqS, v_ixL, v_ixT, v_lenL, v_lenT, v_abs, v_intI, v_intB, v_min, v_max, v_chk, e]
theorem set_ok (e : Gv f env d) (hi : i < env.length) : setS i (pl f) env = some (.ok .nx (env.set i (some (.dat d)))) := by
  unfold Gv at *
  rw [v_setS, v_pl, e, v_ok, v_toW, v_lift, v_ok, v_bind, v_putM _ _ hi, v_ok, v_pure]
theorem un_ok {p : PyData → En → Option En} {e3 : En} (e : Gv f env d) (hp : p d env = some e3) : unS p f env = some (.ok .nx e3) := by
  unfold Gv at e
  rw [v_unS, e, v_ok]
  show cont ((p d env).map fun e => Rs.ok () e) _ = _
  rw [hp]
  rfl
theorem seq_ok {ds : List PyData} (e : Gv f env d) (hs : seqD d = some ds) : seqI f env = some (.ok ds env) := by
  unfold Gv at e
  simp [v_bind, v_ok, v_none, v_pure, v_lift, v_liftN, v_con, v_get, v_gkd, v_gko, v_gkc, v_vwd, v_vws, v_ok1, v_ownD, v_dctD, v_dk1, v_setOwn, v_putM, v_op2, v_op1, v_anil, v_acons, v_vws0, v_vwsC, v_cb, v_tupD, v_lstD, v_lstW, v_listW, v_dds0, v_ddsC, v_asB, v_tb1, v_andT, v_orT, v_notT, v_andV, v_orV, v_notV, v_ofB, v_ifE, v_pl, v_toW, v_fz, v_ofWd, v_ofWo, v_nxt, v_thenS, v_exprS, v_retS, v_retN, v_ifS, v_setS, v_parS, v_setIx, v_asD, v_asI, v_mthE, v_callA, v_callB, v_forS, v_argI, v_seqI, v_slD, v_poN, v_poS, v_isiE, v_isiE2, v_isNE, v_dnew, v_dinT, v_dputS, v_sortDct, v_rgE, v_rg2, v_unS, v_catW, v_chainE, v_add, v_sub, v_lt, v_le, v_gt, v_ge, v_eqI, v_eqB, v_eqS, v_ixL, v_ixT, v_lenL, v_lenT, v_abs, v_intI, v_intB, v_min, v_max, v_chk, e, hs]
theorem for_ok {e : En} {fi : M (List PyData)} {p : PyData → En → Option En} {l : List PyData} {r : Option (Rs Fl)} (e1 : fi env = some (.ok l e)) (h2 : forM p s l e = r) : forS fi p s env = r := by
  rw [v_forS, e1, v_ok]
  exact h2
theorem aug_ok {fo : PyData → PyData → Option PyData} {p q : Int} (e : env[i]? = some (some (.dat (.int p)))) (h1 : Gv f env (.int q)) (h2 : fo (.int p) (.int q) = some d) (hi : i < env.length) : augS i fo f env = some (.ok .nx (env.set i (some (.dat d)))) := by
  have g1 := get_ok e
  unfold Gv at g1 h1
  show cont (get i env) _ = _
  rw [g1, v_ok, v_bind, v_asI, v_lift, v_ok, v_bind, h1, v_ok, v_bind, v_asI, v_lift, v_ok, v_bind, h2, v_lift, v_ok, v_bind, v_putM _ _ hi, v_ok, v_pure]
end
end Ov
set_option Elab.async false
set_option linter.all false
set_option maxRecDepth 100000
set_option maxHeartbeats 4000000
namespace Ov
open PySem L2
/-! errors: raised, handed on, caught and kept -/
section
variable {K : PySem.W.Frag} {E : XK} {bx : Bool}
/-! try: x = ..; except (A, B, ..) as error: caught = error -/
def noOwn (env : En) : Bool := env.all fun s => !isOwn (some s)
theorem rpe_nil {H G : Hp} : ∀ {σ : St} {env : En} {l : List Addr}, RpE K H G σ env l → noOwn env = true → l = []
  | [], [], l, h, _ => h
  | s :: σ, e :: env, l, ⟨a, b, z, h1, h2⟩, hn => by
    have hn : (!isOwn (some e) && env.all fun s => !isOwn (some s)) = true := by rw [← hn]; rfl
    obtain ⟨n1, n2⟩ := (Bool.and_eq_true _ _).mp hn
    have hb := rpe_nil h2 n2
    subst hb
    have ha : a = [] := by
      cases e with
      | none => exact h1
      | some w =>
        obtain ⟨v, _, h1⟩ := h1
        cases w with
        | dat d => exact h1.1
        | own xs => cases n1
        | exc C f d => exact h1.1
        | dct ks => cases n1
        | dci ks => cases n1
        | dtk ks => cases n1
        | dts ks => cases n1
        | pin _ _ => exact h1.1
        | dtn _ => cases n1
        | nd _ => exact h1.1
    rw [z, ha]
    rfl
def isEmp : Option (Option Wv) → Bool
  | some none => true
  | _ => false
theorem isEmp_ok {x : Option (Option Wv)} (h : isEmp x = true) : x = some none := by
  cases x with
  | none => cases h
  | some y => cases y with
    | none => rfl
    | some _ => cases h
def keepS (i j m : Nat) (cs : List Addr) (f : M Wv) : M Fl := fun env =>
  match f env with
  | some (.ok w e) => (M.bind (putM i w) fun _ => M.pure Fl.nx) e
  | some (.ex C fl d) => if C ∈ cs ∧ noOwn env = true ∧ m < env.length ∧ j < env.length ∧ j ≠ m ∧ isEmp env[j]? = true then some (.ok .nx (env.set m (some (.exc C fl d)))) else none
  | none => none
/-- as OkW, at given slots -/
structure OkWat (K : PySem.W.Frag) (E : XK) (σ : St) (t : TE) (f : M Wv) : Prop where
  run : ∀ {B : Addr → Prop} {H : Hp} {env : En} {l : List Addr} {rs : Rs Wv}, Rep K B σ H env l → f env = some rs → ∀ {Q : VK}, PostW K E B σ H l rs Q → t σ H Q
theorem OkS.keep {i j m : Nat} {cs : List Addr} {te : WX → TE} {tt : Value → Value → Bool} {f : M Wv} (o : ∀ (W : WX) (σ : St), OkWat K (fun cls d H' => W cls d σ H') σ (te W) f)
    (hc : ∀ C ∈ cs, ∃ k, Cl K C k) (hx : ∀ C ∈ cs, ∀ c ∈ cs.map Value.ref, PySem.W.exmOne K (.ref C) c = some (tt (.ref C) c)) (ht : ∀ C ∈ cs, (cs.map Value.ref).any (tt (.ref C)) = true) :
    OkS K E false (fun D σ H => tAsg (te (wKeep tt K (cs.map Value.ref) j (fun _ _ _ => tAsg (tVar j) (gName m)) D)) (gName i) D σ H) (keepS i j m cs f) := by
  refine ⟨?_⟩
  intro B σ H env l rs rp h D post
  unfold keepS at h
  cases hf : f env with
  | none => rw [hf] at h; cases h
  | some z =>
    rw [hf] at h
    cases z with
    | ok w e =>
      refine (o _ _).run rp hf fun v H' lw r1 f1 q1 nd fr => ?_
      obtain ⟨hi, h2⟩ := putM_step h
      cases h2
      obtain ⟨l', r', mm⟩ := r1.put hi q1 nd fun b z => ⟨fun y => rp.fresh (fr b z) (.inr y), fun y => rp.fresh (fr b z) (.inl y)⟩
      exact post _ H' l' r' ⟨f1, fun b z => (mm b z).imp id (fr b)⟩ fun z => by cases z
    | ex C fl d =>
      simp only at h
      split at h
      case isFalse => cases h
      rename_i hh
      obtain ⟨hC, hn, hm, hj, jm, ej⟩ := hh
      cases h
      have l0 := rpe_nil rp.rp hn
      subst l0
      obtain ⟨k, cl⟩ := hc C hC
      have sl : σ.length = env.length := rp.len
      have tail : ∀ (od : Option Addr) (H' : Hp) (v : V), Fr [] H H' → (∀ a, H' a = none → CauF K (off B (upd H' a (exg a C od))) a C fl v) → (fl ≠ "" → Da K (off B H') v d) → wKeep tt K (cs.map Value.ref) j (fun _ _ _ => tAsg (tVar j) (gName m)) D (.ref C) od σ H' := by
        intro od H' v f1 ca dv
        have s1 : Same H H' := fun b o e => f1 b o (fun z => by cases z) e
        refine ⟨C, rfl, hx C hC, ht C hC, fun a na => ?_⟩
        have sj : (σ.set j (some (.ref a)))[j]? = some (some (.ref a)) := by rw [List.getElem?_set_self (by omega)]
        refine ⟨.ref a, sj, ?_⟩
        have s2 : Same H' (upd H' a (exg a C od)) := same_new na _
        have r2 : Rep K B σ (upd H' a (exg a C od)) env [] := (rp.same s1).same s2
        show D.nx ((((σ.set j (some (.ref a))).set m (some (.ref a))).set j none)) (upd H' a (exg a C od))
        refine post _ _ [] ?_ (Fr2.of (fun b o n e => s2 _ _ (s1 _ _ e))) fun z => by cases z
        have sub : Same (off B H') (off (un (un B []) []) (upd H' a (exg a C od))) := by
          rw [un_nil, un_nil]
          exact off_mono (fun b z n => absurd z n) fun b o n e => s2 _ _ e
        have r3 : Rep K (un B []) σ (upd H' a (exg a C od)) env [] := by rw [un_nil]; exact r2
        obtain ⟨l', r4, mm⟩ := r3.put (i := m) (v := .ref a) (w := .exc C fl d) hm ⟨rfl, a, v, rfl, by rw [un_nil, un_nil]; exact ca a na, fun z => Da.same sub d (dv z)⟩ List.nodup_nil fun b z => by cases z
        have e' : l' = [] := by
          cases l' with
          | nil => rfl
          | cons b _ => rcases mm b (List.mem_cons_self ..) with z | z <;> cases z
        subst e'
        refine ⟨r4.rp.any (by simp) fun p w hp => ?_, r4.nd, r4.out, r4.tb⟩
        by_cases pj : p = j
        · subst pj
          rw [List.getElem?_set_ne (fun z => jm z.symm), isEmp_ok ej] at hp
          cases hp
        · rw [List.getElem?_set_ne (fun z => pj z.symm)]
          by_cases pm : p = m
          · subst pm
            rw [List.getElem?_set_self (by rw [List.length_set]; omega), List.getElem?_set_self (by omega)]
          · rw [List.getElem?_set_ne (fun z => pm z.symm), List.getElem?_set_ne (fun z => pj z.symm), List.getElem?_set_ne (fun z => pm z.symm)]
      refine (o _ _).run rp hf ⟨fun hne dx H' v f1 nB hd dv => tail (some dx) H' v f1 (fun a na => .inl ⟨hne, k, dx, cl, ?_, ?_⟩) fun _ => dv, fun he H' f1 => tail none H' .non f1 (fun a na => .inr ⟨he, k, cl, ?_⟩) fun z => absurd he z⟩
      · exact (off_ne fun z => ((rp.same fun b o e => f1 b o (fun z => by cases z) e).fresh na) (.inl z)).trans upd_same
      · exact (off_ne nB).trans ((upd_ne fun z => by rw [z, na] at hd; cases hd).trans hd)
      · exact (off_ne fun z => ((rp.same fun b o e => f1 b o (fun z => by cases z) e).fresh na) (.inl z)).trans upd_same
end
end Ov
set_option Elab.async false
set_option linter.all false
set_option maxRecDepth 100000
set_option maxHeartbeats 4000000
set_option Elab.async false
set_option linter.all false
set_option maxRecDepth 100000
set_option maxHeartbeats 4000000
set_option Elab.async false
set_option linter.all false
set_option maxRecDepth 100000
set_option maxHeartbeats 4000000
namespace Ov
open PySem L2
/-! several values at once, some of them lists of their own -/
inductive RvAll (K : PySem.W.Frag) (H G : Hp) : List V → List Wv → List Addr → Prop
  | nil : RvAll K H G [] [] []
  | cons {v : V} {w : Wv} {vs : List V} {ws : List Wv} {a b : List Addr} : RpW K H G v w a → RvAll K H G vs ws b → RvAll K H G (v :: vs) (w :: ws) (a ++ b)
section
variable {K : PySem.W.Frag} {E : XK} {bx : Bool}
theorem RvAll.mv {H H' G G' : Hp} (s : Same G G') : ∀ {vs : List V} {ws : List Wv} {l : List Addr}, RvAll K H G vs ws l → (∀ q ∈ l, H' q = H q) → RvAll K H' G' vs ws l
  | _, _, _, .nil, _ => .nil
  | _, _, _, .cons q r, k => .cons (q.mv s fun c z => k c (List.mem_append_left _ z)) (RvAll.mv s r fun c z => k c (List.mem_append_right _ z))
theorem RvAll.trk {H G : Hp} : ∀ {vs : List V} {ws : List Wv} {l : List Addr}, RvAll K H G vs ws l → ∀ q ∈ l, ∃ o, H q = some o ∧ NT o
  | _, _, _, .nil, q, z => by cases z
  | _, _, _, .cons h r, q, z => (List.mem_append.mp z).elim (fun z => RpW.trk h q z) fun z => RvAll.trk r q z
theorem RvAll.len {H G : Hp} : ∀ {vs : List V} {ws : List Wv} {l : List Addr}, RvAll K H G vs ws l → vs.length = ws.length
  | _, _, _, .nil => rfl
  | _, _, _, .cons _ r => by rw [List.length_cons, List.length_cons, RvAll.len r]
def PostV (K : PySem.W.Frag) (E : XK) (B : Addr → Prop) (σ : St) (H : Hp) (l : List Addr) (rs : Rs (List Wv)) (Q : List V → Hp → Prop) : Prop :=
  match rs with
  | .ok ws env' => ∀ vs H' lw, Rep K (un B lw) σ H' env' l → Fr l H H' → RvAll K H' (off (un (un B lw) l) H') vs ws lw → lw.Nodup → (∀ b ∈ lw, H b = none) → Q vs H'
  | .ex C f d => Exn K E B H l C f d
structure OkV (K : PySem.W.Frag) (E : XK) (t : TA) (f : M (List Wv)) : Prop where
  run : ∀ {B : Addr → Prop} {σ : St} {H : Hp} {env : En} {l : List Addr} {rs : Rs (List Wv)}, Rep K B σ H env l → f env = some rs → ∀ {Q : List V → Hp → Prop}, PostV K E B σ H l rs Q → t σ H Q
theorem PostV.exn {B : Addr → Prop} {σ : St} {H : Hp} {l : List Addr} {rs : Rs (List Wv)} {Q : List V → Hp → Prop} (h : PostV K E B σ H l rs Q) : ∀ C f d, rs = .ex C f d → Exn K E B H l C f d := fun C f d e => by subst e; exact h
theorem OkV.seq {α : Type} {ta : TA} {fa : M (List Wv)} {g : List Wv → M α} (oa : OkV K E ta fa) {B : Addr → Prop} {σ : St} {H : Hp} {env : En} {l : List Addr} {rs : Rs α} (r : Rep K B σ H env l) (h : (M.bind fa g) env = some rs) {Q : List V → Hp → Prop}
    (hx : ∀ C f d, rs = .ex C f d → Exn K E B H l C f d) (hq : ∀ a e v H' lw, g a e = some rs → Rep K (un B lw) σ H' e l → Fr l H H' → RvAll K H' (off (un (un B lw) l) H') v a lw → lw.Nodup → (∀ b ∈ lw, H b = none) → Q v H') : ta σ H Q := by
  rcases bind_some h with ⟨a, e, h1, h2⟩ | ⟨C, f, d, h1, h2⟩
  · exact oa.run r h1 (fun v H' lw r' fr q n1 n2 => hq a e v H' lw h2 r' fr q n1 n2)
  · exact oa.run r h1 (hx C f d h2)
def wnil : M (List Wv) := M.pure []
def wcons (f : M Wv) (g : M (List Wv)) : M (List Wv) := M.bind f fun a => M.bind g fun as => M.pure (a :: as)
theorem OkV.nil : OkV K E tNil wnil := by
  refine ⟨?_⟩
  intro B σ H env l rs rp h Q post
  cases h
  exact post [] H [] (by rw [un_nil]; exact rp) (Fr.refl _ _) .nil List.nodup_nil fun b z => by cases z
theorem OkV.cons {ta : TE} {tr : TA} {fa : M Wv} {fr : M (List Wv)} (oa : OkW K E ta fa) (or : OkV K E tr fr) : OkV K E (tCons ta tr) (wcons fa fr) := by
  refine ⟨?_⟩
  intro B σ H env l rs rp h Q post
  refine oa.seq rp h post.exn fun w1 e1 v1 H1 l1 h1 r1 f1 q1 nd1 fr1 => ?_
  have n1 : ∀ b ∈ l1, ¬ un B l b := fun b z => rp.fresh (fr1 b z)
  have ex1 : ∀ C f d, rs = .ex C f d → Exn K E (un B l1) H1 l C f d := fun C f d e => by
    have := (post.exn C f d e).later f1
    exact this.wide
  refine or.seq r1 h1 ex1 fun ws e2 vs H2 l2 h2 r2 f2 q2 nd2 fr2 => ?_
  cases h2
  have n2 : ∀ b ∈ l2, ¬ un (un B l1) l b := fun b z => r1.fresh (fr2 b z)
  refine post (v1 :: vs) H2 (l1 ++ l2) (by rw [← un_app]; exact r2) (f1.trans f2) (.cons ?_ (by rw [← un_app]; exact q2)) ?_ fun b z => ?_
  · rw [← un_app]
    refine q1.mv (off_mono (fun b z n => ?_) fun b o n e => f2 b o (fun z => n (.inr z)) e) fun b z => ?_
    · rcases z with (z | z) | z
      · exact absurd (.inl z) n
      · exact fr2 b z
      · exact absurd (.inr z) n
    · obtain ⟨o, e, _⟩ := q1.trk b z
      rw [e]
      exact f2 b o (fun y => n1 b z (.inr y)) e
  · exact List.nodup_append.mpr ⟨nd1, nd2, fun x hx y hy e => n2 y hy (.inl (.inr (e ▸ hx)))⟩
  · rcases List.mem_append.mp z with z | z
    · exact fr1 b z
    · cases q : H b with
      | none => rfl
      | some o =>
        have := f1 b o (fun y => n2 b z (.inr y)) q
        rw [fr2 b z] at this
        cases this
end
end Ov
set_option Elab.async false
set_option linter.all false
set_option maxRecDepth 100000
set_option maxHeartbeats 4000000
namespace L2
open PySem PySem.Spec PyProof.Rows
end L2
set_option Elab.async false
set_option linter.all false
set_option maxRecDepth 100000
set_option maxHeartbeats 4000000
set_option Elab.async false
set_option linter.all false
set_option maxRecDepth 100000
set_option maxHeartbeats 4000000
set_option Elab.async false
set_option linter.all false
set_option maxRecDepth 100000
set_option maxHeartbeats 4000000
namespace Ov
open PySem L2
/-! what each piece does, as equations to be put together by a tool -/
section
variable {α : Type} {env e e1 e2 e3 : En} {f g h : M R} {r s q : R} {rs : List R} {fa fr : M (List R)} {a b c d : PyData} {ds : List PyData} {F : List PyData → Option Wv} {t u : M Bool} {x y : Bool} {st su : M Fl} {i j : Nat} {W W2 : M Wv} {w w2 : Wv} {X : Option (Rs Fl)}
theorem get_x (h : env[i]? = some (some (.dat d))) : get i env = some (.ok (.dat d) env) := by rw [v_get, h]; rfl
theorem getO_x {xs : List It1} (h : env[i]? = some (some (.own xs))) : get i env = some (.ok (.slot i) env) := by rw [v_get, h]; rfl
theorem con_x : con d env = some (.ok (.dat d) env) := rfl
theorem vwd_x : vw (.dat d) env = some (.ok d env) := rfl
theorem vws_x (h : env[i]? = some (some (.own (dats ds)))) : vw (.slot i) env = some (.ok (.list ds) env) := by
  rw [v_vws, h]
  show lift ((itds (dats ds)).map PyData.list) env = _
  rw [itds_dats]
  rfl
theorem op2_x {fo : PyData → PyData → Option PyData} (h1 : f env = some (.ok r e1)) (h2 : g e1 = some (.ok s e2)) (v1 : vw r e2 = some (.ok a e2)) (v2 : vw s e2 = some (.ok b e2)) (h3 : fo a b = some c) : op2 fo f g env = some (.ok (.dat c) e2) := by
  rw [v_op2, h1, v_ok, v_bind, h2, v_ok, v_bind, v1, v_ok, v_bind, v2, v_ok, v_bind, h3]
  rfl
theorem op1_x {fo : PyData → Option PyData} (h1 : f env = some (.ok r e1)) (v1 : vw r e1 = some (.ok a e1)) (h3 : fo a = some c) : op1 fo f env = some (.ok (.dat c) e1) := by
  rw [v_op1, h1, v_ok, v_bind, v1, v_ok, v_bind, h3]
  rfl
theorem anil_x : anil env = some (.ok [] env) := rfl
theorem acons_x (h1 : f env = some (.ok r e1)) (h2 : fr e1 = some (.ok rs e2)) : acons f fr env = some (.ok (r :: rs) e2) := by
  rw [v_acons, h1, v_ok, v_bind, h2]
  rfl
theorem vw0_x : vws [] env = some (.ok [] env) := rfl
theorem vwC_x (h1 : vw r env = some (.ok d env)) (h2 : vws rs env = some (.ok ds env)) : vws (r :: rs) env = some (.ok (d :: ds) env) := by
  rw [v_vwsC, h1, v_ok, v_bind, h2]
  rfl
theorem cb_x {fo : List PyData → Option PyData} (h1 : fa env = some (.ok rs e1)) (v : vws rs e1 = some (.ok ds e1)) (h : fo ds = some d) : cb fo fa env = some (.ok (.dat d) e1) := by
  rw [v_cb, h1, v_ok, v_bind, v, v_ok, v_bind, h]
  rfl
theorem tup_x (h1 : fa env = some (.ok rs e1)) (h2 : dds rs = some ds) (h3 : ds.length ≤ 1000000) : tupD fa env = some (.ok (.dat (.tuple ds)) e1) := by
  rw [v_tupD, h1, v_ok, v_bind, h2, v_lift, v_ok, v_bind, v_sz _ h3]
  rfl
theorem lst_x (h1 : fa env = some (.ok rs e1)) (h2 : dds rs = some ds) (h3 : ds.length ≤ 1000000) : lstD fa env = some (.ok (.dat (.list ds)) e1) := by
  rw [v_lstD, h1, v_ok, v_bind, h2, v_lift, v_ok, v_bind, v_sz _ h3]
  rfl
theorem lstW_x (h1 : fa env = some (.ok rs e1)) (h2 : dds rs = some ds) (h3 : ds.length ≤ 1000000) : lstW fa env = some (.ok (.own (dats ds)) e1) := by
  rw [v_lstW, h1, v_ok, v_bind, h2, v_lift, v_ok, v_bind, v_sz _ h3]
  rfl
theorem callA_x (h1 : fa env = some (.ok rs e1)) (h2 : dds rs = some ds) (h3 : F ds = some w) : callA F fa env = some (.ok w e1) := by
  rw [v_callA, h1, v_ok, v_bind, h2, v_lift, v_ok, h3]
  rfl
theorem ownD_x (h : env[i]? = some (some (.own (dats ds)))) : ownD i env = some (.ok ds env) := by
  rw [v_ownD, h]
  show lift (itds (dats ds)) env = _
  rw [itds_dats]
  rfl
theorem callB_x {FB : List PyData → List PyData → Option (Wv × List PyData)} {b0 bs bs' : List PyData} (h0 : env[i]? = some (some (.own (dats b0)))) (h1 : fa env = some (.ok rs e1)) (h2 : dds rs = some ds) (hb : e1[i]? = some (some (.own (dats bs)))) (h3 : FB bs ds = some (w, bs')) : callB i FB fa env = some (.ok w (e1.set i (some (.own (dats bs'))))) := by
  rw [v_callB, ownD_x h0, v_ok, v_bind, h1, v_ok, v_bind, h2, v_lift, v_ok, v_bind, ownD_x hb, v_ok, v_bind, h3]
  rfl
theorem fz_x (h : W env = some (.ok w e)) (hw : ofW w = some r) : fz W env = some (.ok r e) := by
  rw [v_fz, h, v_ok, hw]
  rfl
theorem pl_x (h : f env = some (.ok r e)) (hw : toW r = some w) : pl f env = some (.ok w e) := by
  rw [v_pl, h, v_ok, hw]
  rfl
theorem tb_x (h : f env = some (.ok r e)) (v : vw r e = some (.ok (.bool x) e)) : tb1 f env = some (.ok x e) := by
  rw [v_tb1, h, v_ok, v_bind, v]
  rfl
theorem orT_f (h : t env = some (.ok false e1)) (h2 : u e1 = some (.ok x e2)) : orT t u env = some (.ok x e2) := by rw [v_orT, h, v_ok, if_neg (by decide), h2]
theorem notT_x (h : t env = some (.ok x e1)) : notT t env = some (.ok (!x) e1) := by rw [v_notT, h]; rfl
theorem andV_t (h : tb1 f env = some (.ok true e1)) (h2 : g e1 = some (.ok r e2)) : andV f g env = some (.ok r e2) := by rw [v_andV, h, v_ok, if_pos rfl, h2]
theorem poN_x : poN env = some (.ok none env) := rfl
theorem poS_x {k : Int} (h : f env = some (.ok (.dat (.int k)) e)) : poS f env = some (.ok (some k) e) := by rw [v_poS, h]; rfl
theorem sl_x {fl fh : M (Option Int)} {lo hi : Option Int} (h1 : f env = some (.ok r e1)) (h2 : fl e1 = some (.ok lo e2)) (h3 : fh e2 = some (.ok hi e3)) (v : vw r e3 = some (.ok a e3)) (h4 : cutD a lo hi = some c) : slD f fl fh env = some (.ok (.dat c) e3) := by
  rw [v_slD, h1, v_ok, v_bind, h2, v_ok, v_bind, h3, v_ok, v_bind, v, v_ok, v_bind, h4]
  rfl
theorem mth_x {fo : List PyData → List PyData → Option (List PyData × PyData)} {b0 bs : List PyData} {z : List PyData × PyData} (h0 : env[i]? = some (some (.own (dats b0)))) (h1 : fa env = some (.ok rs e1)) (h2 : dds rs = some ds) (hb : e1[i]? = some (some (.own (dats bs)))) (h3 : fo bs ds = some z) : mthE i fo fa env = some (.ok (.dat z.2) (e1.set i (some (.own (dats z.1))))) := by
  rw [v_mthE, ownD_x h0, v_ok, v_bind, h1, v_ok, v_bind, h2, v_lift, v_ok, v_bind, ownD_x hb, v_ok, v_bind, h3]
  rfl
theorem then_x (h1 : st env = some (.ok .nx e)) (h2 : su e = X) : thenS st su env = X := (then_nx h1).trans h2
theorem then_r (h1 : st env = some (.ok (.rt w) e)) : thenS st su env = some (.ok (.rt w) e) := then_rt h1
theorem expr_x (h : f env = some (.ok r e)) : exprS f env = some (.ok .nx e) := by rw [v_exprS, h]; rfl
theorem ret_x (h : W env = some (.ok w e)) : retS W env = some (.ok (.rt w) e) := by rw [v_retS, h]; rfl
theorem ifS_t (h : t env = some (.ok true e)) (h2 : st e = X) : ifS t st su env = X := by rw [v_ifS, h, v_ok, if_pos rfl, h2]
theorem ifS_f (h : t env = some (.ok false e)) (h2 : su e = X) : ifS t st su env = X := by rw [v_ifS, h, v_ok, if_neg (by decide), h2]
theorem nxt_x : nxt env = some (.ok .nx env) := rfl
theorem set_x (h : W env = some (.ok w e)) (hi : i < e.length) : setS i W env = some (.ok .nx (e.set i (some w))) := by
  rw [v_setS, h, v_ok, v_bind, v_putM _ _ hi]
  rfl
theorem par_x (h : W env = some (.ok w e)) (h2 : W2 e = some (.ok w2 e2)) (hi : i < e2.length) (hj : j < e2.length) : parS i j W W2 env = some (.ok .nx ((e2.set i (some w)).set j (some w2))) := by
  rw [v_parS, h, v_ok, v_bind, h2, v_ok, v_bind, v_putM _ _ hi, v_ok, v_bind, v_putM _ _ (by rw [List.length_set]; exact hj)]
  rfl
theorem un_x {p : PyData → En → Option En} (h : f env = some (.ok (.dat d) e1)) (hp : p d e1 = some e2) : unS p f env = some (.ok .nx e2) := by
  rw [v_unS, h, v_ok]
  show cont ((p d e1).map fun e => Rs.ok () e) _ = _
  rw [hp]
  rfl
theorem for_x {fi : M (List PyData)} {p : PyData → En → Option En} (h : fi env = some (.ok ds e)) (h2 : forM p st ds e = X) : forS fi p st env = X := by
  rw [v_forS, h, v_ok]
  exact h2
theorem seq_x (h : f env = some (.ok (.dat d) e)) (hs : seqD d = some ds) : seqI f env = some (.ok ds e) := by
  rw [v_seqI, h, v_ok, v_bind, v_asD, v_lift, v_ok, hs]
  rfl
theorem argI_x {fo : List PyData → Option (List PyData)} {es : List PyData} (h : fa env = some (.ok rs e)) (h2 : dds rs = some ds) (h3 : fo ds = some es) : argI fo fa env = some (.ok es e) := by
  rw [v_argI, h, v_ok, v_bind, h2, v_lift, v_ok, h3]
  rfl
theorem frz_x (h : env[i]? = some (some (.own (dats ds)))) (h2 : st (env.set i (some (.dat (.list ds)))) = X) : (M.bind (frzM i) fun _ => st) env = X := by
  rw [v_bind, v_frz i ds h, v_ok, h2]
theorem eqI_f (k l : Int) : eqA false (.int k) (.int l) = some (.bool (decide (k = l))) := by rw [v_eqI, Bool.false_xor]
theorem eqI_t (k l : Int) : eqA true (.int k) (.int l) = some (.bool (!decide (k = l))) := by rw [v_eqI, Bool.true_xor]
theorem min_x (k l : Int) : minD [.int k, .int l] = some (.int (min k l)) := by rw [v_min]; congr 2; split <;> omega
theorem lenTm_x {β : Type} (l : List β) (z : β → PyData) : lenD [.tuple (l.map z)] = some (.int (l.length : Nat)) := by rw [v_lenT, List.length_map]
theorem sortLm_x (l : List Int) : sortD [.list (l.map .int)] = some (.list ((sortI l).map .int)) := by
  show ((intsD (l.map .int)).map fun ns => PyData.list ((sortI ns).map .int)) = _
  have : intsD (l.map PyData.int) = some l := by
    induction l with
    | nil => rfl
    | cons a r ih => show (intsD (r.map PyData.int)).map (a :: ·) = _; rw [ih]; rfl
  rw [this]
  rfl
theorem sortTm_x (l : List Int) : sortD [.tuple (l.map .int)] = some (.list ((sortI l).map .int)) := sortLm_x l
theorem addI_x (k l : Int) : addD (.int k) (.int l) = some (.int (k + l)) := rfl
theorem subI_x (k l : Int) : subD (.int k) (.int l) = some (.int (k - l)) := rfl
theorem ltI_x (k l : Int) : ltD (.int k) (.int l) = some (.bool (decide (k < l))) := rfl
theorem gtI_x (k l : Int) : gtD (.int k) (.int l) = some (.bool (decide (l < k))) := rfl
theorem geI_x (k l : Int) : geD (.int k) (.int l) = some (.bool (decide (l ≤ k))) := rfl
end
/-- a comprehension over pictures, each element by what it gives -/
theorem comp_x {β : Type} {env : En} {p : PyData → En → Option En} {ft : M Bool} {fe : M R} {vs : List Nat} {z : β → PyData} (g : β → PyData) (t : β → Bool) : ∀ (l : List β) (acc : List PyData), acc.length + l.length < 1000000 →
    (∀ x ∈ l, ∃ e, p (z x) env = some e ∧ ft e = some (.ok (t x) e) ∧ (t x = true → fe e = some (.ok (.dat (g x)) e)) ∧ freeB e vs = true ∧ wipeE e vs = env) → compM p ft fe vs (l.map z) acc env = some (.ok (acc ++ (l.filter t).map g) env)
  | [], acc, _, _ => by simp [compM, M.pure]
  | x :: l, acc, hl, h => by
    obtain ⟨e, h1, h2, h3, h4, h5⟩ := h x (List.mem_cons_self ..)
    rw [List.length_cons] at hl
    rw [List.map_cons]
    cases q : t x with
    | true =>
      rw [q] at h2
      rw [comp_yes h1 h2 (h3 q) h4 (by omega), h5, comp_x g t l (acc ++ [g x]) (by rw [List.length_append]; show acc.length + 1 + _ < _; omega) fun y hy => h y (List.mem_cons_of_mem _ hy)]
      simp [q]
    | false =>
      rw [q] at h2
      rw [comp_no h1 h2 h4, h5, comp_x g t l acc (by omega) fun y hy => h y (List.mem_cons_of_mem _ hy)]
      simp [q]
theorem compM_x {β : Type} {env : En} {p : PyData → En → Option En} {ft : M Bool} {fe : M R} {vs : List Nat} {z : β → PyData} (g : β → PyData) (l : List β) (hl : l.length < 1000000)
    (h : ∀ x ∈ l, ∃ e, p (z x) env = some e ∧ ft e = some (.ok true e) ∧ fe e = some (.ok (.dat (g x)) e) ∧ freeB e vs = true ∧ wipeE e vs = env) : compM p ft fe vs (l.map z) [] env = some (.ok (l.map g) env) := by
  have := comp_x (env := env) (p := p) (ft := ft) (fe := fe) (vs := vs) (z := z) g (fun _ => true) l [] (by show 0 + _ < _; omega) fun x hx => by
    obtain ⟨e, h1, h2, h3, h4, h5⟩ := h x hx
    exact ⟨e, h1, h2, fun _ => h3, h4, h5⟩
  rw [List.filter_eq_self.mpr fun _ _ => rfl, List.nil_append] at this
  exact this
end Ov
set_option Elab.async false
set_option linter.all false
set_option maxRecDepth 100000
set_option maxHeartbeats 4000000
namespace Ov
open PySem L2
/-! general facts for the values of defs -/
def nI (i : Nat) : PyData := .int (i : Int)
/-! ranges -/
theorem rng_int (a b : Nat) : (rngL (a : Int) (b : Int)).map PyData.int = (List.range' a (b - a)).map nI := by
  unfold rngL nI
  rw [List.map_map, List.range'_eq_map_range, List.map_map, show ((b : Int) - (a : Int)).toNat = b - a by omega]
  refine List.map_congr_left fun k _ => ?_
  show PyData.int ((a : Int) + (k : Int)) = .int ((a + k : Nat) : Int)
  rw [Int.natCast_add]
theorem rng1N {n : Nat} (h : n ≤ 1000000) : rngD [.int (n : Int)] = some ((List.range' 0 n).map nI) := by
  have g : -(2 ^ 62) ≤ (n : Int) ∧ (n : Int) < 2 ^ 62 := ⟨by omega, by omega⟩
  have := rng_int 0 n
  rw [Nat.sub_zero] at this
  rw [← this]
  show rngD [.int (n : Int)] = some ((rngL 0 (n : Int)).map .int)
  generalize (n : Int) = N at g ⊢
  exact if_pos g
theorem rng2N {a b : Nat} (h : a ≤ 1000000) (h2 : b ≤ 1000000) : rngD2 [.int (a : Int), .int (b : Int)] = some ((List.range' a (b - a)).map nI) := by
  have g : -(2 ^ 62) ≤ (a : Int) ∧ (a : Int) < 2 ^ 62 ∧ -(2 ^ 62) ≤ (b : Int) ∧ (b : Int) < 2 ^ 62 := ⟨by omega, by omega, by omega, by omega⟩
  rw [← rng_int]
  generalize (a : Int) = A at g ⊢
  generalize (b : Int) = N at g ⊢
  exact if_pos g
/-! shapes -/
def Sh (k : Nat) (d : PyData) : Prop := PyData.canLay0 d = true ∧ PyData.depth d ≤ k
theorem Sh.shp {k : Nat} {d : PyData} (h : Sh k d) (hk : k ≤ 64) : shp d = true := by
  unfold Ov.shp SeqAt.shaped
  rw [h.1, decide_eq_true (show PyData.depth d ≤ 64 from Nat.le_trans h.2 hk)]
  rfl
theorem Sh.int (i : Int) {k : Nat} : Sh (k + 1) (.int i) := ⟨rfl, by show 0 ≤ _; omega⟩
theorem Sh.none {k : Nat} : Sh (k + 1) .none := ⟨rfl, by show 0 ≤ _; omega⟩
theorem Sh.bool (b : Bool) {k : Nat} : Sh (k + 1) (.bool b) := ⟨rfl, by show 0 ≤ _; omega⟩
theorem sh_all : ∀ {k : Nat} {l : List PyData}, (∀ x ∈ l, Sh k x) → PyData.canLayAll0 l = true ∧ PyData.depthAll l ≤ k
  | k, [], _ => ⟨rfl, Nat.zero_le _⟩
  | k, x :: l, h => by
    have h1 := h x (List.mem_cons_self ..)
    have h2 := sh_all fun y hy => h y (List.mem_cons_of_mem _ hy)
    constructor
    · show (PyData.canLay0 x && PyData.canLayAll0 l) = true
      rw [h1.1, h2.1]
      rfl
    · show max (PyData.depth x) (PyData.depthAll l) ≤ k
      have := h1.2
      have := h2.2
      omega
theorem Sh.lst {k : Nat} {l : List PyData} (h : ∀ x ∈ l, Sh k x) : Sh (k + 1) (.list l) := ⟨(sh_all h).1, by show PyData.depthAll l + 1 ≤ k + 1; have := (sh_all h).2; omega⟩
theorem Sh.tup {k : Nat} {l : List PyData} (h : ∀ x ∈ l, Sh k x) : Sh (k + 1) (.tuple l) := ⟨(sh_all h).1, by show PyData.depthAll l + 1 ≤ k + 1; have := (sh_all h).2; omega⟩
theorem Sh.mono {k m : Nat} {d : PyData} (h : Sh k d) (e : k ≤ m) : Sh m d := ⟨h.1, Nat.le_trans h.2 e⟩
theorem Sh.ints (l : List Int) {k : Nat} : ∀ x ∈ l.map PyData.int, Sh (k + 1) x := fun x hx => by
  obtain ⟨i, _, rfl⟩ := List.mem_map.mp hx
  exact .int i
theorem eq_yes {n : Bool} {d : PyData} (h : shp d = true) : eqvD n d d = some (.bool (!n)) := by
  unfold eqvD
  have h' : (d.canLay0 && decide (d.depth ≤ 64)) = true := h
  rw [h, PySem.SeqAt.eqv_refl d ((Bool.and_eq_true _ _).mp h').1]
  cases n <;> rfl
/-! data without bools: equal by == only if the same -/
/-! items and parts of pictures -/
theorem ixT_map {β : Type} {z : β → PyData} {l : List β} {k : Nat} {x : β} (h : l[k]? = some x) : ixD (.tuple (l.map z)) (.int (k : Int)) = some (z x) := by
  have hk := (List.getElem?_eq_some_iff.mp h).1
  show (L2.ixN (l.map z).length (k : Int)).bind (fun j => (l.map z)[j]?) = _
  unfold L2.ixN
  rw [if_pos (by omega), if_pos (by rw [List.length_map]; omega)]
  show (l.map z)[(k : Int).toNat]? = _
  rw [Int.toNat_natCast, List.getElem?_map, h]
  rfl
theorem atI_neg1 {β : Type} {z : β → PyData} {l : List β} {x : β} (h : l.getLast? = some x) : ixD (.tuple (l.map z)) (.int (-1)) = some (z x) := by
  have hl : l.length ≠ 0 := fun e => by rw [List.length_eq_zero_iff.mp e] at h; cases h
  show (L2.ixN (l.map z).length (-1)).bind (fun j => (l.map z)[j]?) = _
  unfold L2.ixN
  rw [if_neg (by omega), if_pos (by rw [List.length_map]; omega)]
  show (l.map z)[(-1 + ((l.map z).length : Int)).toNat]? = _
  rw [List.length_map, show (-1 + (l.length : Int)).toNat = l.length - 1 by omega, List.getElem?_map, ← List.getLast?_eq_getElem?, h]
  rfl
theorem cutT_from {β : Type} {z : β → PyData} {l : List β} {k : Nat} : cutD (.tuple (l.map z)) (some (k : Int)) none = some (.tuple ((l.drop k).map z)) := by
  show some (PyData.tuple (cutL _ _ _)) = _
  unfold cutL
  rw [HT.sIx_nat, HT.sIx_none, List.length_map, List.map_drop]
  congr 2
  by_cases h : k ≤ l.length
  · rw [Nat.min_eq_left h, List.take_of_length_le (by rw [List.length_drop, List.length_map]; omega)]
  · rw [Nat.min_eq_right (by omega), Nat.sub_self, List.take_zero, List.drop_eq_nil_of_le (by rw [List.length_map]; omega)]
theorem cutT_to {β : Type} {z : β → PyData} {l : List β} {k : Nat} : cutD (.tuple (l.map z)) none (some (k : Int)) = some (.tuple ((l.take k).map z)) := by
  show some (PyData.tuple (cutL _ _ _)) = _
  unfold cutL
  rw [HT.sIx_nat, HT.sIx_none, List.length_map, List.map_take, List.drop_zero, Nat.sub_zero]
  congr 2
  by_cases h : k ≤ l.length
  · rw [Nat.min_eq_left h]
  · rw [Nat.min_eq_right (by omega), List.take_of_length_le (by rw [List.length_map]; omega), List.take_of_length_le (by rw [List.length_map]; omega)]
theorem zip_map {β γ : Type} {z : β → PyData} {y : γ → PyData} : ∀ (a : List β) (b : List γ), pairUp (a.map z) (b.map y) = (a.zip b).map fun p => .tuple [z p.1, y p.2]
  | [], _ => by simp [pairUp]
  | _ :: _, [] => by simp [pairUp]
  | x :: a, w :: b => by
    show .tuple [z x, y w] :: pairUp (a.map z) (b.map y) = _
    rw [zip_map a b]
    rfl
end Ov
set_option Elab.async false
set_option linter.all false
set_option maxRecDepth 100000
set_option maxHeartbeats 4000000
namespace Ov
section
open PySem PySem.Spec PyProof.Rows L2
/-! sorted of pairs of numbers, whatever they stand in -/
def PrsV (K : PySem.W.Frag) (H : Hp) (xs : List V) (ps : List (Int × Int)) : Prop := xs.length = ps.length ∧ ∀ (i : Nat) (x : V) (p : Int × Int), xs[i]? = some x → ps[i]? = some p → ∃ t, x = .ref t ∧ TP H t [.int p.1, .int p.2]
end
open PySem L2
/-! the same over data -/
section
variable {K : PySem.W.Frag} {E : XK}
theorem PrsV.same {H H' : Hp} (s : Same H H') {xs : List V} {ps : List (Int × Int)} (h : PrsV K H xs ps) : PrsV K H' xs ps :=
  ⟨h.1, fun i x p hx hp => by obtain ⟨t, e, q⟩ := h.2 i x p hx hp; exact ⟨t, e, q.same s⟩⟩
/-! [..] * n -/
end
end Ov
set_option Elab.async false
set_option linter.all false
set_option maxRecDepth 100000
set_option maxHeartbeats 4000000
set_option Elab.async false
set_option linter.all false
set_option maxRecDepth 100000
set_option maxHeartbeats 4000000
set_option Elab.async false
set_option linter.all false
set_option maxRecDepth 100000
set_option maxHeartbeats 4000000
namespace Ov
open PySem L2
/-! a def that may raise beside its reading in which nothing is raised -/
theorem FnG.imp {P : Program} {w : World} {K : PySem.W.Frag} {mg : Str → Option Value} {base : Heap} {k : Nat} {f : Addr} {fd : FuncData} {ps : List Str} {sp sp' : Sp} (F : FnG P w K mg base k f fd ps sp) (h : ∀ vs H Q E, sp' vs H Q E → sp vs H Q E) : FnG P w K mg base k f fd ps sp' :=
  ⟨fun q => F.count (h _ _ _ _ q), fun hg hr he hb hv hs => F.go hg hr he hb hv (h _ _ _ _ hs)⟩
/-! the one reading goes as far as the other -/
def Le {α : Type} (x y : M α) : Prop := ∀ env v, x env = some v → y env = some v
section
variable {α β : Type} {env e e1 e2 : En} {C : Addr} {fl : Str} {d : PyData}
theorem Le.refl (x : M α) : Le x x := fun _ _ h => h
/-! an error on its way -/
end
end Ov
set_option Elab.async false
set_option linter.all false
set_option maxRecDepth 100000
set_option maxHeartbeats 4000000
namespace Ov
open PySem L2
/-! what is shown, by its size -/
def FL (L dep : Nat) (d : PyData) : Prop := d.hasDict = false ∧ d.depth ≤ dep ∧ d.showable = true ∧ d.shown.length ≤ L
theorem FL.int {i : Int} (h : -(10 ^ 30) ≤ i ∧ i ≤ 10 ^ 30) : FL 2000 1 (.int i) := leaf_fits (m := 0) (by decide) (show -(10 ^ 30 + ((0 : Nat) : Int)) ≤ i ∧ i ≤ 10 ^ 30 + ((0 : Nat) : Int) from ⟨by omega, by omega⟩)
theorem FL.none : FL 2000 1 .none := leaf_fits (m := 0) (by decide) trivial
theorem FL.mono {L L' dep dep' : Nat} {d : PyData} (h : FL L dep d) (e : L ≤ L') (e' : dep ≤ dep') : FL L' dep' d := ⟨h.1, Nat.le_trans h.2.1 e', h.2.2.1, Nat.le_trans h.2.2.2 e⟩
theorem FL.ints {l : List Int} (h : ∀ x ∈ l, -(10 ^ 30) ≤ x ∧ x ≤ 10 ^ 30) : ∀ e ∈ l.map PyData.int, FL 2000 1 e := fun e he => by
  obtain ⟨i, hi, rfl⟩ := List.mem_map.mp he
  exact .int (h i hi)
/-! which class an error is of -/
/-! loops that end in an error -/
end Ov
set_option Elab.async false
set_option linter.all false
set_option maxRecDepth 100000
set_option maxHeartbeats 4000000
namespace Ov
open PySem L2
/-- x in numbers -/
theorem inF_ints (n : Bool) (h : Int) (ms : List Int) {d : PyData} (hd : seqD d = some (ms.map .int)) : inF n (.int h) d = some (.bool (n ^^ decide (h ∈ ms))) := by
  have at_ : (ms.map PyData.int).all atomD = true := List.all_eq_true.mpr fun d hd => by
    obtain ⟨i, _, rfl⟩ := List.mem_map.mp hd
    rfl
  have an : ((ms.map PyData.int).any fun z => PyData.eqv z (.int h)) = decide (h ∈ ms) := by
    rw [Bool.eq_iff_iff, List.any_eq_true, decide_eq_true_iff]
    constructor
    · rintro ⟨x, hx, e⟩
      obtain ⟨i, hi, rfl⟩ := List.mem_map.mp hx
      have : i = h := by simpa [PyData.eqv] using e
      exact this ▸ hi
    · exact fun hm => ⟨.int h, List.mem_map.mpr ⟨h, hm, rfl⟩, by simp [PyData.eqv]⟩
  unfold inF
  rw [hd]
  simp only
  rw [at_, an]
  rfl
end Ov
set_option Elab.async false
set_option linter.all false
set_option maxRecDepth 100000
set_option maxHeartbeats 4000000
namespace Ov
open PySem L2
/-! lists of own lists -/
section
variable {K : PySem.W.Frag} {E : XK}
/-! own lists lent to a call that gives back something plain -/
/-! x[k].append(v) -/
theorem Rp1s.focus : ∀ {H G : Hp} {vs : List V} {xs : List It1} {l : List Addr} {k : Nat} {x : It1}, Rp1s K H G vs xs l → xs[k]? = some x → ∃ v a lx ly, vs[k]? = some v ∧ l = lx ++ (a ++ ly) ∧ Rp1 K H G v x a ∧
    ∀ {H' G' : Hp} {x' : It1} {a' : List Addr}, Same G G' → (∀ q ∈ lx, H' q = H q) → (∀ q ∈ ly, H' q = H q) → Rp1 K H' G' v x' a' → Rp1s K H' G' vs (xs.set k x') (lx ++ (a' ++ ly))
  | H, G, [], [], l, k, x, h, q => by simp at q
  | H, G, v :: vs, x :: xs, l, 0, _, ⟨a, b, z, h1, h2⟩, q => by
    cases q
    exact ⟨v, a, [], b, rfl, z, h1, fun {H' G' x' a'} sg kx ky h' => ⟨a', b, rfl, h', h2.mv sg ky⟩⟩
  | H, G, v :: vs, x :: xs, l, k + 1, x0, ⟨a, b, z, h1, h2⟩, q => by
    obtain ⟨v0, a0, lx, ly, q1, q2, q3, q4⟩ := Rp1s.focus (k := k) (x := x0) h2 q
    refine ⟨v0, a0, a ++ lx, ly, q1, by rw [z, q2, List.append_assoc], q3, fun {H' G' x' a'} sg kx ky h' => ?_⟩
    refine ⟨a, lx ++ (a' ++ ly), by rw [List.append_assoc], h1.mv sg fun q y => kx q (List.mem_append_left _ y), q4 sg (fun q y => kx q (List.mem_append_right _ y)) ky h'⟩
end
end Ov
set_option Elab.async false
set_option linter.all false
set_option maxRecDepth 100000
set_option maxHeartbeats 4000000
set_option Elab.async false
set_option linter.all false
set_option maxRecDepth 100000
set_option maxHeartbeats 4000000
set_option Elab.async false
set_option linter.all false
set_option maxRecDepth 100000
set_option maxHeartbeats 4000000
set_option Elab.async false
set_option linter.all false
set_option maxRecDepth 100000
set_option maxHeartbeats 4000000
namespace Ov
open PySem L2
section
variable {K : PySem.W.Frag} {E : XK} {bx : Bool}
theorem OkWat.seq {α : Type} {σ : St} {ta : TE} {fa : M Wv} {g : Wv → M α} (oa : OkWat K E σ ta fa) {B : Addr → Prop} {H : Hp} {env : En} {l : List Addr} {rs : Rs α} (r : Rep K B σ H env l) (h : (M.bind fa g) env = some rs) {Q : VK}
    (hx : ∀ C f d, rs = .ex C f d → Exn K E B H l C f d) (hq : ∀ a e v H' lw, g a e = some rs → Rep K (un B lw) σ H' e l → Fr l H H' → RpW K H' (off (un (un B lw) l) H') v a lw → lw.Nodup → (∀ b ∈ lw, H b = none) → Q v H') : ta σ H Q := by
  rcases bind_some h with ⟨a, e, h1, h2⟩ | ⟨C, f, d, h1, h2⟩
  · exact oa.run r h1 (fun v H' lw r' fr q n1 n2 => hq a e v H' lw h2 r' fr q n1 n2)
  · exact oa.run r h1 (hx C f d h2)
end
end Ov
set_option Elab.async false
set_option linter.all false
set_option maxRecDepth 100000
set_option maxHeartbeats 4000000
set_option Elab.async false
set_option linter.all false
set_option maxRecDepth 100000
set_option maxHeartbeats 4000000
set_option Elab.async false
set_option linter.all false
set_option maxRecDepth 100000
set_option maxHeartbeats 4000000
namespace Ov
open PySem L2 PySem.Spec PyProof.Rows
/-! dict(zip(a, b)), each of them a list or a tuple -/
theorem SeB.ob {t : Bool} {h : Heap} {l : Addr} {its : Array Value} (x : SeB t h l its) : ∃ o, h.get? l = some o := by
  cases t with
  | true => obtain ⟨o, e, _⟩ := x; exact ⟨o, e⟩
  | false => obtain ⟨o, e, _⟩ := x; exact ⟨o, e⟩
theorem SeB.up {t : Bool} {h h' : Heap} {l : Addr} {its : Array Value} (x : SeB t h l its) (f : ∀ o, h.get? l = some o → h'.get? l = some o) : SeB t h' l its := by
  cases t with
  | true => obtain ⟨o, e, r⟩ := x; exact ⟨o, f _ e, r⟩
  | false => obtain ⟨o, e, r⟩ := x; exact ⟨o, f _ e, r⟩
/-! as data -/
end Ov
set_option Elab.async false
set_option linter.all false
set_option maxRecDepth 100000
set_option maxHeartbeats 4000000
set_option Elab.async false
set_option linter.all false
set_option maxRecDepth 100000
set_option maxHeartbeats 4000000
namespace Ov
open PySem L2
/-! equations of the pieces of Q48 -/
theorem catTi {z : Int → PyData} (a b : List Int) (h : a.length + b.length ≤ 1000000) : catT (.tuple (a.map z)) (.tuple (b.map z)) = some (.tuple ((a ++ b).map z)) := by
  rw [v_catT _ _ (by rw [List.length_map, List.length_map]; exact h), List.map_append]
end Ov
set_option Elab.async false
set_option linter.all false
set_option maxRecDepth 100000
set_option maxHeartbeats 4000000
namespace Ov
section
open PySem PySem.Spec PySem.Calls PyProof.Rows L2
/-! sorted of tuples of numbers: all of them with items, or all without -/
/-- sorted(xs), xs a list of tuples of numbers -/
def NsV (K : PySem.W.Frag) (H : Hp) (xs : List V) (nss : List (List Int)) : Prop := xs.length = nss.length ∧ ∀ (i : Nat) (x : V) (ns : List Int), xs[i]? = some x → nss[i]? = some ns → ∃ t, x = .ref t ∧ TP H t (ns.map V.int)
end
open PySem L2
/-! the same over data -/
section
variable {K : PySem.W.Frag} {E : XK}
theorem NsV.same {H H' : Hp} (s : Same H H') {xs : List V} {nss : List (List Int)} (h : NsV K H xs nss) : NsV K H' xs nss :=
  ⟨h.1, fun i x p hx hp => by obtain ⟨t, e, q⟩ := h.2 i x p hx hp; exact ⟨t, e, q.same s⟩⟩
end
end Ov
set_option Elab.async false
set_option linter.all false
set_option maxRecDepth 100000
set_option maxHeartbeats 4000000
namespace Ov
section
open PySem PySem.Spec L2
variable {K : PySem.W.Frag} {E : XK}
/-! list(range(n)) that a slot owns -/
/-! x.pop() -/
/-! max and min of a list of numbers -/
def minI (ns : List Int) : Int := ns.foldr min (ns.headD 0)
theorem foldr_min : ∀ (ns : List Int) (a : Int), (ns.foldr min a = a ∨ ns.foldr min a ∈ ns) ∧ ns.foldr min a ≤ a ∧ ∀ y ∈ ns, ns.foldr min a ≤ y
  | [], a => ⟨.inl rfl, Int.le_refl _, fun y h => by cases h⟩
  | x :: r, a => by
    obtain ⟨h1, h2, h3⟩ := foldr_min r a
    rw [List.foldr_cons]
    refine ⟨?_, by omega, fun y hy => ?_⟩
    · rcases Int.le_total x (r.foldr min a) with k | k
      · rw [Int.min_eq_left k]
        exact .inr (List.mem_cons_self ..)
      · rw [Int.min_eq_right k]
        exact h1.imp id fun z => List.mem_cons_of_mem _ z
    · rcases List.mem_cons.mp hy with rfl | hy
      · omega
      · have := h3 y hy; omega
theorem minI_ok {ns : List Int} (h : 0 < ns.length) : minI ns ∈ ns ∧ ∀ y ∈ ns, minI ns ≤ y := by
  cases ns with
  | nil => cases h
  | cons x r =>
    obtain ⟨h1, h2, h3⟩ := foldr_min (x :: r) x
    exact ⟨h1.elim (fun z => by unfold minI; rw [show (x :: r).headD 0 = x from rfl, z]; exact List.mem_cons_self ..) id, h3⟩
/-! range(i, j, -1) -/
end
end Ov
set_option Elab.async false
set_option linter.all false
set_option maxRecDepth 100000
set_option maxHeartbeats 4000000
set_option Elab.async false
set_option linter.all false
set_option maxRecDepth 100000
set_option maxHeartbeats 4000000
namespace Ov
section
open PySem PySem.Spec L2
variable {K : PySem.W.Frag} {E : XK}
/-! x[k].append(y), k and y numbers in slots -/
theorem Rep.int {B : Addr → Prop} {σ : St} {H : Hp} {env : En} {l : List Addr} {j : Nat} {k : Int} (r : Rep K B σ H env l) (h : env[j]? = some (some (.dat (.int k)))) : σ[j]? = some (some (.int k)) := by
  obtain ⟨s, a, lx, ly, q1, q2, ⟨v, q3, q4⟩, _⟩ := r.rp.focus h
  subst q3
  have := q4.2
  cases this
  exact q1
/-! [[] for x in ..] -/
end
end Ov
set_option Elab.async false
set_option linter.all false
set_option maxRecDepth 100000
set_option maxHeartbeats 4000000
set_option Elab.async false
set_option linter.all false
set_option maxRecDepth 100000
set_option maxHeartbeats 4000000
set_option Elab.async false
set_option linter.all false
set_option maxRecDepth 100000
set_option maxHeartbeats 4000000
namespace L2
open PySem PySem.Spec PyProof.Rows
end L2
set_option Elab.async false
set_option linter.all false
set_option maxRecDepth 100000
set_option maxHeartbeats 4000000
namespace L2
open PySem PySem.Spec PyProof.Rows
/-! min of a list of pairs of numbers; the greatest value of a dict of tuples -/
end L2
set_option Elab.async false
set_option linter.all false
set_option maxRecDepth 100000
set_option maxHeartbeats 4000000
namespace L2
open PySem PySem.Spec PyProof.Rows
end L2
set_option Elab.async false
set_option linter.all false
set_option maxRecDepth 100000
set_option maxHeartbeats 4000000
set_option Elab.async false
set_option linter.all false
set_option maxRecDepth 100000
set_option maxHeartbeats 4000000
set_option Elab.async false
set_option linter.all false
set_option maxRecDepth 100000
set_option maxHeartbeats 4000000
set_option Elab.async false
set_option linter.all false
set_option maxRecDepth 100000
set_option maxHeartbeats 4000000
set_option Elab.async false
set_option linter.all false
set_option maxRecDepth 100000
set_option maxHeartbeats 4000000
set_option Elab.async false
set_option linter.all false
set_option maxRecDepth 100000
set_option maxHeartbeats 4000000
set_option Elab.async false
set_option linter.all false
set_option maxRecDepth 100000
set_option maxHeartbeats 4000000
set_option Elab.async false
set_option linter.all false
set_option maxRecDepth 100000
set_option maxHeartbeats 4000000
set_option Elab.async false
set_option linter.all false
set_option maxRecDepth 100000
set_option maxHeartbeats 4000000
set_option Elab.async false
set_option linter.all false
set_option maxRecDepth 100000
set_option maxHeartbeats 4000000
set_option Elab.async false
set_option linter.all false
set_option maxRecDepth 100000
set_option maxHeartbeats 4000000
set_option Elab.async false
set_option linter.all false
set_option maxRecDepth 100000
set_option maxHeartbeats 4000000
set_option Elab.async false
set_option linter.all false
set_option maxRecDepth 100000
set_option maxHeartbeats 4000000
set_option Elab.async false
set_option linter.all false
set_option maxRecDepth 100000
set_option maxHeartbeats 4000000
set_option Elab.async false
set_option linter.all false
set_option maxRecDepth 100000
set_option maxHeartbeats 4000000
set_option Elab.async false
set_option linter.all false
set_option maxRecDepth 100000
set_option maxHeartbeats 4000000
set_option Elab.async false
set_option linter.all false
set_option maxRecDepth 100000
set_option maxHeartbeats 4000000
set_option Elab.async false
set_option linter.all false
set_option maxRecDepth 100000
set_option maxHeartbeats 4000000
set_option Elab.async false
set_option linter.all false
set_option maxRecDepth 100000
set_option maxHeartbeats 4000000
set_option Elab.async false
set_option linter.all false
set_option maxRecDepth 100000
set_option maxHeartbeats 4000000
set_option Elab.async false
set_option linter.all false
set_option maxRecDepth 100000
set_option maxHeartbeats 4000000
set_option Elab.async false
set_option linter.all false
set_option maxRecDepth 100000
set_option maxHeartbeats 4000000
set_option Elab.async false
set_option linter.all false
set_option maxRecDepth 100000
set_option maxHeartbeats 4000000
set_option Elab.async false
set_option linter.all false
set_option maxRecDepth 100000
set_option maxHeartbeats 4000000
namespace L2
open PySem PySem.Spec PyProof.Rows
end L2
set_option Elab.async false
set_option linter.all false
set_option maxRecDepth 100000
set_option maxHeartbeats 4000000
namespace L2
open PySem PySem.Spec PyProof.Rows
end L2
set_option Elab.async false
set_option linter.all false
set_option maxRecDepth 100000
set_option maxHeartbeats 4000000
set_option Elab.async false
set_option linter.all false
set_option maxRecDepth 100000
set_option maxHeartbeats 4000000
set_option Elab.async false
set_option linter.all false
set_option maxRecDepth 100000
set_option maxHeartbeats 4000000
namespace L2
open PySem PySem.Spec PyProof.Rows
/-! sorted(d.items()), d a dict of numbers with numbers as values -/
end L2
set_option Elab.async false
set_option linter.all false
set_option maxRecDepth 100000
set_option maxHeartbeats 4000000
set_option Elab.async false
set_option linter.all false
set_option maxRecDepth 100000
set_option maxHeartbeats 4000000
namespace L2
open PySem PySem.Spec PyProof.Rows
/-! more of dicts with nested keys: their values in order, a walk over the keys, len; sets out of lists of numbers -/
end L2
set_option Elab.async false
set_option linter.all false
set_option maxRecDepth 100000
set_option maxHeartbeats 4000000
set_option Elab.async false
set_option linter.all false
set_option maxRecDepth 100000
set_option maxHeartbeats 4000000
namespace L2
open PySem PySem.Spec PyProof.Rows
/-! the sum of a tuple of numbers -/
end L2
set_option Elab.async false
set_option linter.all false
set_option maxRecDepth 100000
set_option maxHeartbeats 4000000
set_option Elab.async false
set_option linter.all false
set_option maxRecDepth 100000
set_option maxHeartbeats 4000000
namespace L2
open PySem PySem.Spec PyProof.Rows
/-! e.index(x): e a list of numbers, or a tuple of numbers whose object has no dict of its own; x is in it -/
def tIdx (K : PySem.W.Frag) (to : TE) (t : TA) : TE := fun σ H Q => to σ H fun x H1 => ∃ a : Addr, x = .ref a ∧
  (((∃ xs, SqL K H1 a xs) ∧ t σ H1 fun vs H2 => ∃ (ns : List Int) (k : Int), vs = [.int k] ∧ SqL K H2 a (ns.map V.int) ∧ k ∈ ns ∧ Q (.int (ns.idxOf k : Nat)) H2) ∨
   ((∃ xs, Ov.TP H1 a xs) ∧ t σ H1 fun vs H2 => ∃ (ns : List Int) (k : Int), vs = [.int k] ∧ SqT K H2 a (ns.map V.int) ∧ k ∈ ns ∧ Q (.int (ns.idxOf k : Nat)) H2))
theorem vals_intsAre : ∀ {ns : List Int} {us : List Value}, Vals (ns.map V.int) us → IntsAre us ns
  | [], _, r => by cases r; exact .nil
  | n :: r, us, h => by
    cases h with
    | cons a b =>
      obtain ⟨t, rfl⟩ := a
      exact .cons _ _ (vals_intsAre b)
section
variable {X : Cx} {o e : Expr} {to : TE} {t : TA} {apos cpos : Pos}
theorem pe_idx (ho : PE X o to) (ha : PA X [e] t) (hbase : attributeBase o "index" X.env (eval o X.env) = eval o X.env := by rfl)
    (hfew : ((backTo cpos (starEach [e] X.env)).all (fun x => !x.1) && (backToKw cpos (keywordEach [] X.env)).all (fun x => x.1.isSome)
      && decide (([e] : List Expr).length + ([] : List Keyword).length + (if ([] : List Keyword).isEmpty then 0 else 1) < 30)) = true := by rfl)
    (hline : (apos.endLine == cpos.line) = true := by rfl) (hs : starEach [e] X.env = (false, eval e X.env) :: starEach [] X.env := by rfl) :
    PE X (.Call (.Attribute o "index" apos) [e] [] cpos) (tIdx X.K to t) := by
  refine ⟨fun pins s σ H Q I h => wpAny_Call_method_late hbase hfew hline rfl (thn (ho.run pins s σ H _ I h) ?_)⟩
  rintro v s1 ⟨x, H1, I1, r1, a, rfl, h⟩
  cases r1
  rcases h with ⟨⟨xs, hq⟩, q⟩ | ⟨⟨xs, ob, he, hd⟩, q⟩
  · obtain ⟨its, _, pl, _⟩ := I1.list hq
    refine ⟨"list", "list.index", PySem.F.plainAttrs_list, PySem.F.slot_list_index, PySem.F.type_list_index, pl.isList.typeIs, fun b z => ?_, ?_⟩
    · cases z
      obtain ⟨ob, n, e1, c, hd, _⟩ := pl
      exact ⟨ob, e1, hd⟩
    have hA := ha.run cpos pins s1 σ H1 _ I1 q
    rw [hs] at hA ⊢
    refine Calls.callWith_builtin rfl (Calls.evalArgs_plain (thn hA ?_))
    rintro us s2 ⟨vs, H2, I2, r2, ns, k, rfl, hq2, hk, q2⟩
    obtain ⟨u, rfl, t, rfl⟩ := vals1 r2
    obtain ⟨its2, rv, pl2, hz⟩ := I2.list hq2
    exact SeqAt.list_index_ints pl2.isList (vals_intsAre rv) (by rw [List.length_map] at hz; exact hz) hk ⟨.int _, H2, I2.tok _, ⟨_, rfl⟩, q2⟩
  · have ok := (show ObjOk X.prog X.w H1 s1.heap a (.frz ob (.tup xs)) from I1.hok a _ he)
    obtain ⟨g, _, its, _, o2, g2, c2, n2, d2⟩ := ok
    cases g.symm.trans g2
    refine ⟨"tuple", "tuple.index", PySem.F.plainAttrs_tuple, PySem.F.slot_tuple_index, PySem.F.type_tuple_index, ⟨_, g, c2⟩, fun b z => ?_, ?_⟩
    · cases z
      exact ⟨_, g, hd⟩
    have hA := ha.run cpos pins s1 σ H1 _ I1 q
    rw [hs] at hA ⊢
    refine Calls.callWith_builtin rfl (Calls.evalArgs_plain (thn hA ?_))
    rintro us s2 ⟨vs, H2, I2, r2, ns, k, rfl, hq2, hk, q2⟩
    obtain ⟨u, rfl, t, rfl⟩ := vals1 r2
    obtain ⟨its2, rv, pl2, hz⟩ := I2.tuple hq2
    exact SeqAt.tuple_index_ints pl2 (vals_intsAre rv) hk ⟨.int _, H2, I2.tok _, ⟨_, rfl⟩, q2⟩
end
end L2
namespace Ov
open PySem L2
section
variable {X : Cx} {K : PySem.W.Frag} (hK : X.K = K)
include hK
theorem k_idx {o e : Expr} {to : TE} {t : TA} {apos cpos : Pos} (ho : PE X o to) (ha : PA X [e] t) (hbase : attributeBase o "index" X.env (eval o X.env) = eval o X.env := by rfl)
    (hfew : ((backTo cpos (starEach [e] X.env)).all (fun x => !x.1) && (backToKw cpos (keywordEach [] X.env)).all (fun x => x.1.isSome)
      && decide (([e] : List Expr).length + ([] : List Keyword).length + (if ([] : List Keyword).isEmpty then 0 else 1) < 30)) = true := by rfl)
    (hline : (apos.endLine == cpos.line) = true := by rfl) (hs : starEach [e] X.env = (false, eval e X.env) :: starEach [] X.env := by rfl) :
    PE X (.Call (.Attribute o "index" apos) [e] [] cpos) (tIdx K to t) := by subst hK; exact pe_idx ho ha hbase hfew hline hs
end
section
variable {K : PySem.W.Frag} {E : XK}
def seqU (d : PyData) : Option Unit := (seqD d).map fun _ => ()
def ixSD (as : List PyData) : Option PyData :=
  match as with
  | [s, .int k] => (seqD s).bind fun ds => (intsD ds).bind fun ns => if k ∈ ns then some (.int (ns.idxOf k : Nat)) else none
  | _ => none
def ixE (fa : M R) (fs : M (List R)) : M R := M.bind fa fun a => M.bind (lift (asD a)) fun x => M.bind (lift (seqU x)) fun _ => M.bind fs fun rs => M.bind (vws rs) fun as => M.bind (lift (ixSD (x :: as))) fun d => M.pure (.dat d)
theorem ixSD_some {ds : List PyData} {x d : PyData} {as : List PyData} (hx : seqD x = some ds) (h : ixSD (x :: as) = some d) : ∃ (ns : List Int) (k : Int), as = [.int k] ∧ intsD ds = some ns ∧ k ∈ ns ∧ d = .int (ns.idxOf k : Nat) := by
  unfold ixSD at h
  split at h
  · rename_i s k heq
    cases heq
    rw [hx] at h
    obtain ⟨ns, g3, g4⟩ := Option.bind_eq_some_iff.mp (show (intsD ds).bind _ = _ from h)
    split at g4
    · rename_i hk
      cases g4
      exact ⟨ns, k, rfl, g3, hk, rfl⟩
    · cases g4
  · cases h
theorem OkE.ix {ta : TE} {t : TA} {fa : M R} {fs : M (List R)} (oa : OkE K E ta fa) (os : OkA K E t fs) : OkE K E (tIdx K ta t) (ixE fa fs) := by
  refine ⟨?_⟩
  intro B σ H env l rs rp h Q post
  refine oa.seq rp h post.exn fun a e v1 H1 h1 r1 f1 q1 => ?_
  obtain ⟨x, h2, h3⟩ := lift_step h1
  rw [asD_some h2] at q1
  have q1 : Da K (off (Ov.un B l) H1) v1 x := q1
  obtain ⟨u, h4, h5⟩ := lift_step h3
  obtain ⟨ds0, h6, _⟩ := Option.map_eq_some_iff.mp h4
  have tail : ∀ {b : List R} {e2 : En} {vs : List V} {H2 : Hp}, (M.bind (vws b) fun as => M.bind (lift (ixSD (x :: as))) fun d => M.pure (R.dat d)) e2 = some rs → Rep K B σ H2 e2 l → Fr l H1 H2 → RpRs K (off (Ov.un B l) H2) σ vs b →
      ∃ (ns : List Int) (k : Int), intsD ds0 = some ns ∧ vs = [.int k] ∧ k ∈ ns ∧ Q (.int (ns.idxOf k : Nat)) H2 := fun {b e2 vs H2} h5 r2 f2 q2 => by
    obtain ⟨as, h7, w2⟩ := vws_ok r2 q2 h5
    obtain ⟨d, h8, h9⟩ := lift_step h7
    cases h9
    obtain ⟨ns, k, rfl, g1, g2, rfl⟩ := ixSD_some h6 h8
    cases w2 with
    | cons w3 w4 =>
      cases w4
      cases vw_int w3
      exact ⟨ns, k, g1, rfl, g2, post _ _ r2 (f1.trans f2) (.int _)⟩
  cases q1 with
  | @lst p xs ds hq ha =>
    cases h6
    refine ⟨p, rfl, .inl ⟨⟨xs, rd_same (off_sub _ _) hq⟩, ?_⟩⟩
    refine os.seq r1 h5 (exn_later post.exn f1) fun b e2 vs H2 h7 r2 f2 q2 => ?_
    obtain ⟨ns, k, g1, g2, g3, g4⟩ := tail h7 r2 f2 q2
    exact ⟨ns, k, g2, by rw [← ints_da ha g1]; exact rd_same (off_sub _ _) (rd_same f2.keep hq), g3, g4⟩
  | @tup p xs ds hq ha =>
    cases h6
    refine ⟨p, rfl, .inr ⟨⟨xs, hq.off⟩, ?_⟩⟩
    refine os.seq r1 h5 (exn_later post.exn f1) fun b e2 vs H2 h7 r2 f2 q2 => ?_
    obtain ⟨ns, k, g1, g2, g3, g4⟩ := tail h7 r2 f2 q2
    exact ⟨ns, k, g2, by rw [← ints_da ha g1]; exact (hq.same f2.keep).off.sq, g3, g4⟩
  | _ => cases h6
theorem ix_x {env e e2 : En} {fa : M R} {fs : M (List R)} {s : PyData} {rs : List R} {ns : List Int} {k : Int} {ds : List PyData} (h1 : fa env = some (.ok (.dat s) e)) (hs : seqD s = some ds) (hn : intsD ds = some ns) (h2 : fs e = some (.ok rs e2)) (h3 : vws rs e2 = some (.ok [.int k] e2)) (hk : k ∈ ns) :
    ixE fa fs env = some (.ok (.dat (.int (ns.idxOf k : Nat))) e2) := by
  unfold ixE
  rw [v_bind, h1, v_ok, v_bind]
  show cont (lift (some s) e) _ = _
  rw [v_lift, v_ok, v_bind, show seqU s = some () by unfold seqU; rw [hs]; rfl, v_lift, v_ok, v_bind, h2, v_ok, v_bind, h3, v_ok, v_bind]
  rw [show ixSD [s, .int k] = some (.int (ns.idxOf k : Nat)) by unfold ixSD; simp [hs, hn, hk], v_lift, v_ok]
  rfl
end
end Ov
set_option Elab.async false
set_option linter.all false
set_option maxRecDepth 100000
set_option maxHeartbeats 4000000
namespace Ov
open PySem L2
/-! min of a tuple of numbers -/
def rMinT (K : PySem.W.Frag) : List V → Hp → VK → Prop := fun vs H Q => ∃ (a : Addr) (ns : List Int), vs = [V.ref a] ∧ SqT K H a (ns.map V.int) ∧ 0 < ns.length ∧ Q (.int (minI ns)) H
theorem foldl_min : ∀ (ns : List Int) (a : Int), (ns.foldl min a = a ∨ ns.foldl min a ∈ ns) ∧ ns.foldl min a ≤ a ∧ ∀ y ∈ ns, ns.foldl min a ≤ y
  | [], a => ⟨.inl rfl, Int.le_refl _, fun y h => by cases h⟩
  | x :: r, a => by
    obtain ⟨h1, h2, h3⟩ := foldl_min r (min a x)
    rw [List.foldl_cons]
    refine ⟨?_, by omega, fun y hy => ?_⟩
    · rcases h1 with h1 | h1
      · rcases Int.le_total a x with k | k
        · rw [Int.min_eq_left k] at h1
          rw [Int.min_eq_left k, h1]
          exact .inl rfl
        · rw [Int.min_eq_right k] at h1
          rw [Int.min_eq_right k, h1]
          exact .inr (List.mem_cons_self ..)
      · exact .inr (List.mem_cons_of_mem _ h1)
    · rcases List.mem_cons.mp hy with rfl | hy
      · omega
      · exact h3 y hy
theorem foldl_minI (n : Int) (r : List Int) : r.foldl min n = minI (n :: r) := by
  obtain ⟨h1, h2, h3⟩ := foldl_min r n
  obtain ⟨g1, g2⟩ := minI_ok (ns := n :: r) (by simp)
  refine Int.le_antisymm ?_ (g2 _ (h1.elim (fun z => by rw [z]; exact List.mem_cons_self ..) fun z => List.mem_cons_of_mem _ z))
  rcases List.mem_cons.mp g1 with z | z
  · rw [z]; exact h2
  · exact h3 _ z
section
variable {X : Cx}
theorem dp_intsA (K : PySem.W.Frag) (H : Hp) : ∀ ns : List Int, DpAll K H (ns.map V.int) (ns.map PyData.int)
  | [] => .nil
  | n :: r => .cons (.int n) (dp_intsA K H r)
theorem cr_minT (hc : X.calm = true) (hu : X.A.units + 65 < cLine) : CallR X (.builtin "min") (rMinT X.K) := by
  intro pins s σ H vs us Q I r h
  obtain ⟨a, ns, rfl, hs, h0, q⟩ := h
  cases ns with
  | nil => cases h0
  | cons n ns =>
  obtain ⟨its, rv, hl, _⟩ := I.tuple hs
  rw [Vals.ref1 r]
  obtain ⟨as, rd⟩ := Dp.readsAll I _ _ _ (dp_intsA X.K H (n :: ns)) rv
  have rd' : ReadsAll s.heap its.toArray.toList (PyData.int n :: ns.map PyData.int) as := by simpa using rd
  have al : PySem.W.AlikeAll (PyData.int n :: ns.map PyData.int) := by
    rw [← List.map_cons]
    refine ⟨fun x hx y hy => ?_, fun x hx => ?_⟩
    · obtain ⟨p, _, rfl⟩ := List.mem_map.mp hx
      obtain ⟨p', _, rfl⟩ := List.mem_map.mp hy
      rfl
    · obtain ⟨p, _, rfl⟩ := List.mem_map.mp hx
      intro z
      cases z
  have dep : ∀ l : List Int, PyData.depthAll (l.map PyData.int) ≤ 1 := fun l => by
    induction l with
    | nil => exact Nat.zero_le _
    | cons p r ih =>
      show max (PyData.int p).depth (PyData.depthAll (r.map _)) ≤ 1
      have : (PyData.int p).depth = 0 := rfl
      omega
  have dd := dep (n :: ns)
  rw [List.map_cons] at dd
  refine PySem.W.min_tuple_data (I.ok.hd hc) hl rd' al (by omega) fun i v h' tk bs hv hr hk => ?_
  rw [PySem.W.minD_ints, foldl_minI] at hr
  obtain ⟨t, rfl⟩ : ∃ t, v = Value.int (minI (n :: ns)) t := by
    cases hr
    exact ⟨_, rfl⟩
  exact ⟨.int _, H, I.kept (t' := tk) hk, ⟨t, rfl⟩, q⟩
end
section
variable {X : Cx} {K : PySem.W.Frag} (hK : X.K = K)
include hK
theorem k_minT (hc : X.calm = true) (hu : X.A.units + 65 < cLine) : CallR X (.builtin "min") (rMinT K) := by subst hK; exact cr_minT hc hu
end
def minTD (as : List PyData) : Option PyData :=
  match as with
  | [.tuple ds] => (intsD ds).bind fun ns => if 0 < ns.length then some (.int (minI ns)) else none
  | _ => none
theorem ok_minT {K : PySem.W.Frag} : CbOk K (rMinT K) minTD := by
  intro S H xs as d hS w e Q q
  unfold minTD at e
  split at e
  · obtain ⟨ns, e1, e2⟩ := Option.bind_eq_some_iff.mp e
    split at e2
    · rename_i h0
      cases e2
      obtain ⟨x, rfl, wx⟩ := vwAll1 w
      obtain ⟨p, vs, rfl, h2, h3⟩ := vw_tupP wx
      rw [ints_da h3 e1] at h2
      exact ⟨p, ns, rfl, h2.off.sq, h0, q _ _ (same_refl _) (.int _)⟩
    · cases e2
  · cases e
theorem minT_x {ns : List Int} (h : 0 < ns.length) : minTD [.tuple (ns.map .int)] = some (.int (minI ns)) := by
  show (intsD (ns.map PyData.int)).bind _ = _
  rw [intsD_map]
  exact if_pos h
end Ov
set_option Elab.async false
set_option linter.all false
set_option maxRecDepth 100000
set_option maxHeartbeats 4000000
namespace Ov
open PySem L2
def top (i : Nat) : Stmt := PySem.Challenge.pw_overlooks_k65_whole_people_who_come_and.main.body.getD i (.Pass ⟨0, 0, 0, 0⟩)
abbrev S_check_person : Stmt := top 6
abbrev N_check_person : List Str := ["row", "height"]
abbrev P_check_person : List Str := ["row", "height"]
theorem sc_check_person : FnScope N_check_person P_check_person (defScope S_check_person) := ⟨rfl, rfl, rfl, by decide +kernel, rfl, by decide +kernel, by decide +kernel⟩
abbrev S_with_person : Stmt := top 7
abbrev N_with_person : List Str := ["row", "place", "height"]
abbrev P_with_person : List Str := ["row", "place", "height"]
theorem sc_with_person : FnScope N_with_person P_with_person (defScope S_with_person) := ⟨rfl, rfl, rfl, by decide +kernel, rfl, by decide +kernel, by decide +kernel⟩
abbrev S_without : Stmt := top 8
abbrev N_without : List Str := ["row", "height", "other"]
abbrev P_without : List Str := ["row", "height"]
theorem sc_without : FnScope N_without P_without (defScope S_without) := ⟨rfl, rfl, rfl, by decide +kernel, rfl, by decide +kernel, by decide +kernel⟩
abbrev S_code_of : Stmt := top 10
abbrev N_code_of : List Str := ["row", "height", "other"]
abbrev P_code_of : List Str := ["row", "height"]
theorem sc_code_of : FnScope N_code_of P_code_of (defScope S_code_of) := ⟨rfl, rfl, rfl, by decide +kernel, rfl, by decide +kernel, by decide +kernel⟩
abbrev S_codes : Stmt := top 11
abbrev N_codes : List Str := ["row", "height"]
abbrev P_codes : List Str := ["row"]
theorem sc_codes : FnScope N_codes P_codes (defScope S_codes) := ⟨rfl, rfl, rfl, by decide +kernel, rfl, by decide +kernel, by decide +kernel⟩
abbrev S_first_intervals : Stmt := top 13
abbrev N_first_intervals : List Str := ["many", "index"]
abbrev P_first_intervals : List Str := ["many"]
theorem sc_first_intervals : FnScope N_first_intervals P_first_intervals (defScope S_first_intervals) := ⟨rfl, rfl, rfl, by decide +kernel, rfl, by decide +kernel, by decide +kernel⟩
abbrev S_run_size : Stmt := top 14
abbrev N_run_size : List Str := ["interval", "first", "last"]
abbrev P_run_size : List Str := ["interval"]
theorem sc_run_size : FnScope N_run_size P_run_size (defScope S_run_size) := ⟨rfl, rfl, rfl, by decide +kernel, rfl, by decide +kernel, by decide +kernel⟩
abbrev S_run_index : Stmt := top 15
abbrev N_run_index : List Str := ["intervals", "code", "first", "last"]
abbrev P_run_index : List Str := ["intervals", "code"]
theorem sc_run_index : FnScope N_run_index P_run_index (defScope S_run_index) := ⟨rfl, rfl, rfl, by decide +kernel, rfl, by decide +kernel, by decide +kernel⟩
abbrev S_next_intervals : Stmt := top 16
abbrev N_next_intervals : List Str := ["intervals", "code", "at", "left", "right", "united", "above", "first", "last"]
abbrev P_next_intervals : List Str := ["intervals", "code"]
theorem sc_next_intervals : FnScope N_next_intervals P_next_intervals (defScope S_next_intervals) := ⟨rfl, rfl, rfl, by decide +kernel, rfl, by decide +kernel, by decide +kernel⟩
abbrev S_run_lists : Stmt := top 17
abbrev N_run_lists : List Str := ["row", "lists", "intervals", "code"]
abbrev P_run_lists : List Str := ["row"]
theorem sc_run_lists : FnScope N_run_lists P_run_lists (defScope S_run_lists) := ⟨rfl, rfl, rfl, by decide +kernel, rfl, by decide +kernel, by decide +kernel⟩
abbrev S_runs : Stmt := top 18
abbrev N_runs : List Str := ["row", "intervals", "code"]
abbrev P_runs : List Str := ["row"]
theorem sc_runs : FnScope N_runs P_runs (defScope S_runs) := ⟨rfl, rfl, rfl, by decide +kernel, rfl, by decide +kernel, by decide +kernel⟩
abbrev S_run_list : Stmt := top 19
abbrev N_run_list : List Str := ["row", "height"]
abbrev P_run_list : List Str := ["row", "height"]
theorem sc_run_list : FnScope N_run_list P_run_list (defScope S_run_list) := ⟨rfl, rfl, rfl, by decide +kernel, rfl, by decide +kernel, by decide +kernel⟩
abbrev S_check_same_people : Stmt := top 21
abbrev N_check_same_people : List Str := ["one", "other"]
abbrev P_check_same_people : List Str := ["one", "other"]
theorem sc_check_same_people : FnScope N_check_same_people P_check_same_people (defScope S_check_same_people) := ⟨rfl, rfl, rfl, by decide +kernel, rfl, by decide +kernel, by decide +kernel⟩
abbrev S_leads : Stmt := top 22
abbrev N_leads : List Str := ["one", "other"]
abbrev P_leads : List Str := ["one", "other"]
theorem sc_leads : FnScope N_leads P_leads (defScope S_leads) := ⟨rfl, rfl, rfl, by decide +kernel, rfl, by decide +kernel, by decide +kernel⟩
abbrev S_bar : Stmt := top 23
abbrev N_bar : List Str := ["one", "other", "height", "here", "there"]
abbrev P_bar : List Str := ["one", "other"]
theorem sc_bar : FnScope N_bar P_bar (defScope S_bar) := ⟨rfl, rfl, rfl, by decide +kernel, rfl, by decide +kernel, by decide +kernel⟩
abbrev S_count_rows : Stmt := top 25
abbrev N_count_rows : List Str := ["row", "total", "interval"]
abbrev P_count_rows : List Str := ["row"]
theorem sc_count_rows : FnScope N_count_rows P_count_rows (defScope S_count_rows) := ⟨rfl, rfl, rfl, by decide +kernel, rfl, by decide +kernel, by decide +kernel⟩
abbrev S_cell_at : Stmt := top 27
abbrev N_cell_at : List Str := ["_law_script", "_law_k"]
abbrev P_cell_at : List Str := ["_law_script", "_law_k"]
theorem sc_cell_at : FnScope N_cell_at P_cell_at (defScope S_cell_at) := ⟨rfl, rfl, rfl, by decide +kernel, rfl, by decide +kernel, by decide +kernel⟩
abbrev S_box : Stmt := top 28
abbrev N_box : List Str := ["_law_script", "_law_k", "_law_core"]
abbrev P_box : List Str := ["_law_script", "_law_k"]
theorem sc_box : FnScope N_box P_box (defScope S_box) := ⟨rfl, rfl, rfl, by decide +kernel, rfl, by decide +kernel, by decide +kernel⟩
abbrev S_take : Stmt := top 29
abbrev N_take : List Str := ["_law_box_here", "_law_below", "_law_found", "_law_once", "_law_twice"]
abbrev P_take : List Str := ["_law_box_here", "_law_below"]
theorem sc_take : FnScope N_take P_take (defScope S_take) := ⟨rfl, rfl, rfl, by decide +kernel, rfl, by decide +kernel, by decide +kernel⟩
abbrev S_of : Stmt := top 30
abbrev N_of : List Str := ["_law_box_here", "_law_some"]
abbrev P_of : List Str := ["_law_box_here", "_law_some"]
theorem sc_of : FnScope N_of P_of (defScope S_of) := ⟨rfl, rfl, rfl, by decide +kernel, rfl, by decide +kernel, by decide +kernel⟩
abbrev S_strewn : Stmt := top 31
abbrev N_strewn : List Str := ["_law_box_here", "_law_some", "_law_left", "_law_found"]
abbrev P_strewn : List Str := ["_law_box_here", "_law_some"]
theorem sc_strewn : FnScope N_strewn P_strewn (defScope S_strewn) := ⟨rfl, rfl, rfl, by decide +kernel, rfl, by decide +kernel, by decide +kernel⟩
abbrev S_souls : Stmt := top 32
abbrev N_souls : List Str := ["_law_box_here", "_law_count", "_law_found", "_law_top", "_law_k", "_law_soul"]
abbrev P_souls : List Str := ["_law_box_here", "_law_count"]
theorem sc_souls : FnScope N_souls P_souls (defScope S_souls) := ⟨rfl, rfl, rfl, by decide +kernel, rfl, by decide +kernel, by decide +kernel⟩
abbrev S_crowd : Stmt := top 33
abbrev N_crowd : List Str := ["_law_box_here", "_law_most", "_law_souls_here", "_law_found", "_law_soul"]
abbrev P_crowd : List Str := ["_law_box_here", "_law_most"]
theorem sc_crowd : FnScope N_crowd P_crowd (defScope S_crowd) := ⟨rfl, rfl, rfl, by decide +kernel, rfl, by decide +kernel, by decide +kernel⟩
abbrev S_sees : Stmt := top 34
abbrev N_sees : List Str := ["_law_crowd_here", "_law_i", "_law_j", "_law_soul"]
abbrev P_sees : List Str := ["_law_crowd_here", "_law_i", "_law_j"]
theorem sc_sees : FnScope N_sees P_sees (defScope S_sees) := ⟨rfl, rfl, rfl, by decide +kernel, rfl, by decide +kernel, by decide +kernel⟩
abbrev S_swaps : Stmt := top 35
abbrev N_swaps : List Str := ["_law_crowd_here", "_law_found", "_law_i", "_law_j"]
abbrev P_swaps : List Str := ["_law_crowd_here"]
theorem sc_swaps : FnScope N_swaps P_swaps (defScope S_swaps) := ⟨rfl, rfl, rfl, by decide +kernel, rfl, by decide +kernel, by decide +kernel⟩
abbrev S_turned : Stmt := top 36
abbrev N_turned : List Str := ["_law_crowd_here", "_law_swap", "_law_i", "_law_j"]
abbrev P_turned : List Str := ["_law_crowd_here", "_law_swap"]
theorem sc_turned : FnScope N_turned P_turned (defScope S_turned) := ⟨rfl, rfl, rfl, by decide +kernel, rfl, by decide +kernel, by decide +kernel⟩
abbrev S_wandered : Stmt := top 37
abbrev N_wandered : List Str := ["_law_box_here", "_law_crowd_here", "_law_most", "_law_tour", "_law_turn", "_law_some"]
abbrev P_wandered : List Str := ["_law_box_here", "_law_crowd_here", "_law_most"]
theorem sc_wandered : FnScope N_wandered P_wandered (defScope S_wandered) := ⟨rfl, rfl, rfl, by decide +kernel, rfl, by decide +kernel, by decide +kernel⟩
abbrev S_tall_right : Stmt := top 38
abbrev N_tall_right : List Str := ["_law_box_here", "_law_crowd_here", "_law_top", "_law_souls_here", "_law_spot", "_law_wide", "_law_ahead", "_law_soul", "_law_code", "_law_more", "_law_end"]
abbrev P_tall_right : List Str := ["_law_box_here", "_law_crowd_here"]
theorem sc_tall_right : FnScope N_tall_right P_tall_right (defScope S_tall_right) := ⟨rfl, rfl, rfl, by decide +kernel, rfl, by decide +kernel, by decide +kernel⟩
abbrev S_short_right : Stmt := top 39
abbrev N_short_right : List Str := ["_law_box_here", "_law_crowd_here", "_law_raised", "_law_soul", "_law_spot", "_law_wide", "_law_low"]
abbrev P_short_right : List Str := ["_law_box_here", "_law_crowd_here"]
theorem sc_short_right : FnScope N_short_right P_short_right (defScope S_short_right) := ⟨rfl, rfl, rfl, by decide +kernel, rfl, by decide +kernel, by decide +kernel⟩
abbrev S_right : Stmt := top 40
abbrev N_right : List Str := ["_law_box_here", "_law_crowd_here", "_law_soul"]
abbrev P_right : List Str := ["_law_box_here"]
theorem sc_right : FnScope N_right P_right (defScope S_right) := ⟨rfl, rfl, rfl, by decide +kernel, rfl, by decide +kernel, by decide +kernel⟩
abbrev S_law : Stmt := top 41
abbrev N_law : List Str := ["_law_script", "_law_k", "_law_box_here", "_law_turn"]
abbrev P_law : List Str := ["_law_script"]
theorem sc_law : FnScope N_law P_law (defScope S_law) := ⟨rfl, rfl, rfl, by decide +kernel, rfl, by decide +kernel, by decide +kernel⟩
def s_cell_at_0 : M Fl :=
    (ifS (tb1 (op2 ltD (get 1) (cb lenD (acons (get 0) anil)))) (retS (pl (op2 ixD (get 0) (get 1)))) nxt)
def s_cell_at_1 : M Fl :=
    (retS (pl (con (.int 0))))
def f_cell_at : M Fl :=
    (thenS s_cell_at_0 s_cell_at_1)
def F_cell_at : List PyData → Option Wv := runA 2 2 f_cell_at
section
variable {P : Program} {w : World} {K : PySem.W.Frag} {mg : Str → Option Value} {base : Heap} {f : Addr} {fd : FuncData}
theorem dk_cell_at (F : Fun K "_law_cell_at" "_law_cell_at" S_cell_at f fd)  (B : Blt mg) : FnOk P w K mg base CX0 1 f fd P_cell_at (spA K F_cell_at) := by
  refine F.ok sc_cell_at (fun vs H Q E h => lenA h) (fun cdv A outer s H vs Q E hr h => ⟨_, (Evl.pss_cut (ps_if (pt_cmpR op_lt (pv 1) (pe_callB (k_len (K := K) rfl) rfl B.len PySem.boot_len (pa_cons (pv 0) pa_nil)) (nomark _)) (pss_one (ps_ret (pe_ix (k_ix (K := K) rfl) (pv 0) (pv 1) (fun _ _ => rfl)))) pss_nil)
      (pss_one (ps_ret pe_int))), ?_⟩)
  exact finA (N := N_cell_at) (by unfold f_cell_at s_cell_at_1 s_cell_at_0; exact (OkS.cut (OkS.ife (OkT.test (OkE.op ok_lt (OkE.var 1) (OkE.cb ok_len (OkA.cons (OkE.var 0) OkA.nil)))) (OkS.ret (OkE.w (OkE.op ok_ix (OkE.var 0) (OkE.var 1)))) OkS.nil)
      (OkS.ret (OkE.w (OkE.con fun _ => .int _))))) h
end
def s_box_0 : M Fl :=
    (setS 2 (pl (fz (callA F_cell_at (acons (get 0) (acons (get 1) anil))))))
def s_box_1 : M Fl :=
    (retS (lstW (acons (op2 mulD (cb absD (acons (get 2) anil)) (cb intD (acons (op2 geD (cb absD (acons (get 2) anil)) (op2 powD (con (.int 10)) (con (.int 18)))) anil))) (acons (op2 addD (op2 addD (op2 modD (get 2) (con (.int 2305843009213693951))) (op2 mulD (con (.int 39373)) (get 1))) (con (.int 29))) (acons (con (.int 0)) anil)))))
def f_box : M Fl :=
    (thenS s_box_0 s_box_1)
def F_box : List PyData → Option Wv := runA 2 3 f_box
section
variable {P : Program} {w : World} {K : PySem.W.Frag} {mg : Str → Option Value} {base : Heap} {f : Addr} {fd : FuncData}
theorem dk_box (F : Fun K "_law_box" "_law_box" S_box f fd) {g_cell_at : Addr} {d_cell_at : FuncData} (G_cell_at : FnOk P w K mg base CX0 1 g_cell_at d_cell_at P_cell_at (spA K F_cell_at)) (b_cell_at : Binds K d_cell_at P_cell_at []) (k_cell_at : PySem.W.keepIn K (.ref g_cell_at) = true) (m_cell_at : mg "_law_cell_at" = some (.ref g_cell_at)) (B : Blt mg) : FnOk P w K mg base CX0 2 f fd P_box (spA K F_box) := by
  refine F.ok sc_box (fun vs H Q E h => lenA h) (fun cdv A outer s H vs Q E hr h => ⟨_, (Evl.pss_cut (ps_set (i := 2) sc_box.nd rfl (by first | exact Or.inl rfl | exact Or.inr rfl) (pe_call G_cell_at (hr.mono (by decide)) rfl m_cell_at k_cell_at b_cell_at .nil pass0 (pa_cons (pv 0) (pa_cons (pv 1) pa_nil))))
      (pss_one (ps_ret (pe_lst (pa_cons (pe_op op_mul (pe_callB call_abs rfl B.abs (by decide +kernel) (pa_cons (pv 2) pa_nil)) (pe_callTy call_int1 rfl B.int (by decide +kernel) (pa_cons (pe_cmpR op_ge (pe_callB call_abs rfl B.abs (by decide +kernel) (pa_cons (pv 2) pa_nil)) (pe_op op_pow pe_int pe_int) (nomark _)) pa_nil))) (pa_cons (pe_op op_add (pe_op op_add (pe_op op_mod (pv 2) pe_int) (pe_op op_mul pe_int (pv 1))) pe_int) (pa_cons pe_int pa_nil))))))), ?_⟩)
  exact finA (N := N_box) (by unfold f_box s_box_1 s_box_0; exact (OkS.cut (OkS.set (fun z => by cases z) (OkE.w (OkW.e (OkW.call (OkA.cons (OkE.var 0) (OkA.cons (OkE.var 1) OkA.nil))))))
      (OkS.ret (OkW.lst (OkA.cons (OkE.op ok_mul (OkE.cb ok_abs (OkA.cons (OkE.var 2) OkA.nil)) (OkE.cb ok_int (OkA.cons (OkE.op ok_ge (OkE.cb ok_abs (OkA.cons (OkE.var 2) OkA.nil)) (OkE.op ok_pow (OkE.con fun _ => .int _) (OkE.con fun _ => .int _))) OkA.nil))) (OkA.cons (OkE.op ok_add (OkE.op ok_add (OkE.op ok_mod (OkE.var 2) (OkE.con fun _ => .int _)) (OkE.op ok_mul (OkE.con fun _ => .int _) (OkE.var 1))) (OkE.con fun _ => .int _)) (OkA.cons (OkE.con fun _ => .int _) OkA.nil))))))) h
end
def f_take (rec : List PyData → List PyData → Option (Wv × List PyData)) : M Fl :=
    (thenS (ifS (tb1 (op2 gtD (op2 ixD (get 0) (con (.int 0))) (con (.int 0)))) (thenS (setS 2 (pl (op2 modD (op2 ixD (get 0) (con (.int 0))) (get 1))))
    (thenS (setIx 0 (op2 divD (op2 ixD (get 0) (con (.int 0))) (get 1)) (con (.int 0)))
    (retS (pl (get 2))))) nxt)
    (thenS (ifS (tb1 (op2 gtD (get 1) (op2 powD (con (.int 10)) (con (.int 7))))) (retS (pl (op2 modD (op2 addD (fz (callB 0 rec (acons (op2 powD (con (.int 10)) (con (.int 7))) anil))) (op2 mulD (op2 powD (con (.int 10)) (con (.int 7))) (fz (callB 0 rec (acons (op2 addD (op2 divD (get 1) (op2 powD (con (.int 10)) (con (.int 7)))) (con (.int 1))) anil))))) (get 1)))) nxt)
    (thenS (setIx 0 (op2 addD (op2 ixD (get 0) (con (.int 2))) (con (.int 1))) (con (.int 2)))
    (thenS (setS 3 (pl (op2 modD (op2 mulD (op2 addD (op2 ixD (get 0) (con (.int 1))) (op2 mulD (con (.int 48271)) (op2 ixD (get 0) (con (.int 2))))) (op2 addD (con (.int 39373)) (op2 ixD (get 0) (con (.int 2))))) (con (.int 2147483647)))))
    (thenS (setS 4 (pl (op2 modD (op2 mulD (op2 addD (op2 addD (get 3) (op2 ixD (get 0) (con (.int 2)))) (op2 divD (op2 ixD (get 0) (con (.int 1))) (con (.int 1000003)))) (op2 addD (op2 modD (get 3) (con (.int 40009))) (con (.int 7)))) (con (.int 2147483629)))))
    (retS (pl (op2 modD (op2 divD (op2 modD (op2 addD (op2 mulD (get 4) (con (.int 48271))) (get 3)) (con (.int 2147483587))) (con (.int 64))) (get 1)))))))))
def F_take : Nat → List PyData → List PyData → Option (Wv × List PyData)
  | 0 => fun _ _ => none
  | n + 1 => runB 2 5 (f_take (F_take n))
section
variable {P : Program} {w : World} {K : PySem.W.Frag} {mg : Str → Option Value} {base : Heap} {f : Addr} {fd : FuncData}
theorem dk_take (F : Fun K "_law_take" "_law_take" S_take f fd)  (b : Binds K fd P_take []) (m : mg "_law_take" = some (.ref f)) (B : Blt mg) : ∀ n, FnOk P w K mg base CX0 (0 + n) f fd P_take (spB K (F_take n))
  | 0 => ⟨fun vs H Q E h => (vacB h).elim, fun A outer s H args us vs Q E hr he hb hv h => (vacB h).elim⟩
  | n + 1 => by
    have G := dk_take F  b m B n
    refine F.ok sc_take (fun vs H Q E h => lenB h) (fun cdv A outer s H vs Q E hr h => ⟨_, (Evl.pss_cut (ps_if (pt_cmpR op_gt (pe_ix (k_ix (K := K) rfl) (pv 0) pe_int (fun _ _ => rfl)) pe_int (nomark _)) (Evl.pss_cut (ps_set (i := 2) sc_take.nd rfl (by first | exact Or.inl rfl | exact Or.inr rfl) (pe_op op_mod (pe_ix (k_ix (K := K) rfl) (pv 0) pe_int (fun _ _ => rfl)) (pv 1)))
      (Evl.pss_cut (ps_asg (pe_op op_fdiv (pe_ix (k_ix (K := K) rfl) (pv 0) pe_int (fun _ _ => rfl)) (pv 1)) (pg_sub (pv 0) pe_int set_list))
      (pss_one (ps_ret (pv 2))))) pss_nil)
      (Evl.pss_cut (ps_if (pt_cmpR op_gt (pv 1) (pe_op op_pow pe_int pe_int) (nomark _)) (pss_one (ps_ret (pe_op op_mod (pe_op op_add (pe_call G hr rfl m F.kp b .nil pass0 (pa_cons (pv 0) (pa_cons (pe_op op_pow pe_int pe_int) pa_nil))) (pe_op op_mul (pe_op op_pow pe_int pe_int) (pe_call G hr rfl m F.kp b .nil pass0 (pa_cons (pv 0) (pa_cons (pe_op op_add (pe_op op_fdiv (pv 1) (pe_op op_pow pe_int pe_int)) pe_int) pa_nil))))) (pv 1)))) pss_nil)
      (Evl.pss_cut (ps_asg (pe_op op_add (pe_ix (k_ix (K := K) rfl) (pv 0) pe_int (fun _ _ => rfl)) pe_int) (pg_sub (pv 0) pe_int set_list))
      (Evl.pss_cut (ps_set (i := 3) sc_take.nd rfl (by first | exact Or.inl rfl | exact Or.inr rfl) (pe_op op_mod (pe_op op_mul (pe_op op_add (pe_ix (k_ix (K := K) rfl) (pv 0) pe_int (fun _ _ => rfl)) (pe_op op_mul pe_int (pe_ix (k_ix (K := K) rfl) (pv 0) pe_int (fun _ _ => rfl)))) (pe_op op_add pe_int (pe_ix (k_ix (K := K) rfl) (pv 0) pe_int (fun _ _ => rfl)))) pe_int))
      (Evl.pss_cut (ps_set (i := 4) sc_take.nd rfl (by first | exact Or.inl rfl | exact Or.inr rfl) (pe_op op_mod (pe_op op_mul (pe_op op_add (pe_op op_add (pv 3) (pe_ix (k_ix (K := K) rfl) (pv 0) pe_int (fun _ _ => rfl))) (pe_op op_fdiv (pe_ix (k_ix (K := K) rfl) (pv 0) pe_int (fun _ _ => rfl)) pe_int)) (pe_op op_add (pe_op op_mod (pv 3) pe_int) pe_int)) pe_int))
      (pss_one (ps_ret (pe_op op_mod (pe_op op_fdiv (pe_op op_mod (pe_op op_add (pe_op op_mul (pv 4) pe_int) (pv 3)) pe_int) pe_int) (pv 1))))))))), ?_⟩)
    exact finB (N := N_take) (by unfold f_take; exact (OkS.cut (OkS.ife (OkT.test (OkE.op ok_gt (OkE.op ok_ix (OkE.var 0) (OkE.con fun _ => .int _)) (OkE.con fun _ => .int _))) (OkS.cut (OkS.set (fun _ => by decide) (OkE.w (OkE.op ok_mod (OkE.op ok_ix (OkE.var 0) (OkE.con fun _ => .int _)) (OkE.var 1))))
      (OkS.cut (OkS.setIx (OkE.op ok_div (OkE.op ok_ix (OkE.var 0) (OkE.con fun _ => .int _)) (OkE.var 1)) (OkE.con fun _ => .int _))
      (OkS.ret (OkE.w (OkE.var 2))))) OkS.nil)
      (OkS.cut (OkS.ife (OkT.test (OkE.op ok_gt (OkE.var 1) (OkE.op ok_pow (OkE.con fun _ => .int _) (OkE.con fun _ => .int _)))) (OkS.ret (OkE.w (OkE.op ok_mod (OkE.op ok_add (OkW.e (OkW.callB (OkA.cons (OkE.op ok_pow (OkE.con fun _ => .int _) (OkE.con fun _ => .int _)) OkA.nil))) (OkE.op ok_mul (OkE.op ok_pow (OkE.con fun _ => .int _) (OkE.con fun _ => .int _)) (OkW.e (OkW.callB (OkA.cons (OkE.op ok_add (OkE.op ok_div (OkE.var 1) (OkE.op ok_pow (OkE.con fun _ => .int _) (OkE.con fun _ => .int _))) (OkE.con fun _ => .int _)) OkA.nil))))) (OkE.var 1)))) OkS.nil)
      (OkS.cut (OkS.setIx (OkE.op ok_add (OkE.op ok_ix (OkE.var 0) (OkE.con fun _ => .int _)) (OkE.con fun _ => .int _)) (OkE.con fun _ => .int _))
      (OkS.cut (OkS.set (fun _ => by decide) (OkE.w (OkE.op ok_mod (OkE.op ok_mul (OkE.op ok_add (OkE.op ok_ix (OkE.var 0) (OkE.con fun _ => .int _)) (OkE.op ok_mul (OkE.con fun _ => .int _) (OkE.op ok_ix (OkE.var 0) (OkE.con fun _ => .int _)))) (OkE.op ok_add (OkE.con fun _ => .int _) (OkE.op ok_ix (OkE.var 0) (OkE.con fun _ => .int _)))) (OkE.con fun _ => .int _))))
      (OkS.cut (OkS.set (fun _ => by decide) (OkE.w (OkE.op ok_mod (OkE.op ok_mul (OkE.op ok_add (OkE.op ok_add (OkE.var 3) (OkE.op ok_ix (OkE.var 0) (OkE.con fun _ => .int _))) (OkE.op ok_div (OkE.op ok_ix (OkE.var 0) (OkE.con fun _ => .int _)) (OkE.con fun _ => .int _))) (OkE.op ok_add (OkE.op ok_mod (OkE.var 3) (OkE.con fun _ => .int _)) (OkE.con fun _ => .int _))) (OkE.con fun _ => .int _))))
      (OkS.ret (OkE.w (OkE.op ok_mod (OkE.op ok_div (OkE.op ok_mod (OkE.op ok_add (OkE.op ok_mul (OkE.var 4) (OkE.con fun _ => .int _)) (OkE.var 3)) (OkE.con fun _ => .int _)) (OkE.con fun _ => .int _)) (OkE.var 1)))))))))) h
end
def f_of : M Fl :=
    (retS (pl (op2 ixD (get 1) (fz (callB 0 (F_take 2) (acons (cb lenD (acons (get 1) anil)) anil))))))
def F_of : List PyData → List PyData → Option (Wv × List PyData) := runB 2 2 f_of
section
variable {P : Program} {w : World} {K : PySem.W.Frag} {mg : Str → Option Value} {base : Heap} {f : Addr} {fd : FuncData}
theorem dk_of (F : Fun K "_law_of" "_law_of" S_of f fd) {g_take : Addr} {d_take : FuncData} (G_take : FnOk P w K mg base CX0 2 g_take d_take P_take (spB K (F_take 2))) (b_take : Binds K d_take P_take []) (k_take : PySem.W.keepIn K (.ref g_take) = true) (m_take : mg "_law_take" = some (.ref g_take)) (B : Blt mg) : FnOk P w K mg base CX0 3 f fd P_of (spB K F_of) := by
  refine F.ok sc_of (fun vs H Q E h => lenB h) (fun cdv A outer s H vs Q E hr h => ⟨_, (pss_one (ps_ret (pe_ix (k_ix (K := K) rfl) (pv 1) (pe_call G_take (hr.mono (by decide)) rfl m_take k_take b_take .nil pass0 (pa_cons (pv 0) (pa_cons (pe_callB (k_len (K := K) rfl) rfl B.len PySem.boot_len (pa_cons (pv 1) pa_nil)) pa_nil))) (fun _ _ => rfl)))), ?_⟩)
  exact finB (N := N_of) (by unfold f_of; exact (OkS.ret (OkE.w (OkE.op ok_ix (OkE.var 1) (OkW.e (OkW.callB (OkA.cons (OkE.cb ok_len (OkA.cons (OkE.var 1) OkA.nil)) OkA.nil))))))) h
end
def s_strewn_0 : M Fl :=
    (parS 2 3 (listW (acons (get 1) anil)) (lstW anil))
def s_strewn_1 : M Fl :=
    (whileM (tb1 (op2 (eqvD true) (get 2) (lstD anil))) (exprS (mthE 3 appD (acons (mthE 2 popD (acons (fz (callB 0 (F_take 2) (acons (cb lenD (acons (get 2) anil)) anil))) anil)) anil))) 100)
def s_strewn_2 : M Fl :=
    (moveS 3)
def f_strewn : M Fl :=
    (thenS s_strewn_0 (thenS s_strewn_1 s_strewn_2))
def F_strewn : List PyData → List PyData → Option (Wv × List PyData) := runB 2 4 f_strewn
section
variable {P : Program} {w : World} {K : PySem.W.Frag} {mg : Str → Option Value} {base : Heap} {f : Addr} {fd : FuncData}
theorem dk_strewn (F : Fun K "_law_strewn" "_law_strewn" S_strewn f fd) {g_take : Addr} {d_take : FuncData} (G_take : FnOk P w K mg base CX0 2 g_take d_take P_take (spB K (F_take 2))) (b_take : Binds K d_take P_take []) (k_take : PySem.W.keepIn K (.ref g_take) = true) (m_take : mg "_law_take" = some (.ref g_take)) (B : Blt mg) : FnOk P w K mg base CX0 3 f fd P_strewn (spB K F_strewn) := by
  refine F.ok sc_strewn (fun vs H Q E h => lenB h) (fun cdv A outer s H vs Q E hr h => ⟨_, (Evl.pss_cut (ps_par (i := 2) (j := 3) rfl sc_strewn.nd rfl rfl (by decide) rfl rfl (pa_cons (pe_callTy (k_list (K := K) rfl) rfl B.list (by decide +kernel) (pa_cons (pv 1) pa_nil)) (pa_cons (pe_lst pa_nil) pa_nil)) rfl)
      (Evl.pss_cut (ps_while PassesOwn.never (pt_cmpR (k_neD (K := K) rfl hr.units) (pv 2) (pe_lst pa_nil) (nomark _))
      (pss_one (ps_expr (k_bm (K := K) rfl PySem.F.plainAttrs_list PySem.F.slot_list_append PySem.F.type_list_append mt_append (pv 3) (pa_cons (k_bm (K := K) rfl PySem.F.plainAttrs_list PySem.F.slot_list_pop PySem.F.type_list_pop mt_popAt (pv 2) (pa_cons (pe_call G_take (hr.mono (by decide)) rfl m_take k_take b_take .nil pass0 (pa_cons (pv 0) (pa_cons (pe_callB (k_len (K := K) rfl) rfl B.len PySem.boot_len (pa_cons (pv 2) pa_nil)) pa_nil))) pa_nil)) pa_nil)))))
      (pss_one (ps_ret (pv 3))))), ?_⟩)
  exact finB (N := N_strewn) (by unfold f_strewn s_strewn_2 s_strewn_1 s_strewn_0; exact (OkS.cut (OkS.par (fun _ => ⟨by decide, by decide⟩) (OkW.list (OkA.cons (OkE.var 1) OkA.nil)) (OkW.lst OkA.nil))
      (OkS.cut (OkS.while 100 (OkT.test (OkE.op ok_neD (OkE.var 2) (OkE.lst OkA.nil))) (OkS.expr (OkE.mth ok_app (OkA.cons (OkE.mth ok_pop (OkA.cons (OkW.e (OkW.callB (OkA.cons (OkE.cb ok_len (OkA.cons (OkE.var 2) OkA.nil)) OkA.nil))) OkA.nil)) OkA.nil))))
      (OkS.move 3)))) h
end
def s_souls_0 : M Fl :=
    (parS 2 3 dnew (pl (fz (callB 0 F_of (acons (lstD (acons (get 1) (acons (op2 addD (op2 mulD (con (.int 3)) (get 1)) (con (.int 1))) (acons (op2 powD (con (.int 10)) (con (.int 9))) anil)))) anil)))))
def b_souls_1 : M Fl :=
    (thenS (setS 5 (pl (op2 addD (con (.int 1)) (fz (callB 0 (F_take 2) (acons (cb maxD (acons (con (.int 1)) (acons (get 3) anil))) anil))))))
    (thenS (whileM (dinT false 2 (get 5)) (setS 5 (pl (op2 addD (op2 modD (get 5) (cb maxD (acons (get 3) (acons (get 1) anil)))) (con (.int 1))))) 100)
    (dputS 2 (get 5))))
def s_souls_1 : M Fl :=
    (forS (argI rngD (acons (get 1) anil)) (gN 4) b_souls_1)
def s_souls_2 : M Fl :=
    (retS (pl (sortDct 2)))
def f_souls : M Fl :=
    (thenS s_souls_0 (thenS s_souls_1 s_souls_2))
def F_souls : List PyData → List PyData → Option (Wv × List PyData) := runB 2 6 f_souls
section
variable {P : Program} {w : World} {K : PySem.W.Frag} {mg : Str → Option Value} {base : Heap} {f : Addr} {fd : FuncData}
theorem dk_souls (F : Fun K "_law_souls" "_law_souls" S_souls f fd) {g_take : Addr} {d_take : FuncData} (G_take : FnOk P w K mg base CX0 2 g_take d_take P_take (spB K (F_take 2))) (b_take : Binds K d_take P_take []) (k_take : PySem.W.keepIn K (.ref g_take) = true) (m_take : mg "_law_take" = some (.ref g_take)) {g_of : Addr} {d_of : FuncData} (G_of : FnOk P w K mg base CX0 3 g_of d_of P_of (spB K F_of)) (b_of : Binds K d_of P_of []) (k_of : PySem.W.keepIn K (.ref g_of) = true) (m_of : mg "_law_of" = some (.ref g_of)) (B : Blt mg) : FnOk P w K mg base CX0 4 f fd P_souls (spB K F_souls) := by
  refine F.ok sc_souls (fun vs H Q E h => lenB h) (fun cdv A outer s H vs Q E hr h => ⟨_, (Evl.pss_cut (ps_par (i := 2) (j := 3) rfl sc_souls.nd rfl rfl (by decide) rfl rfl (pa_cons pe_dnewK (pa_cons (pe_call G_of (hr.mono (by decide)) rfl m_of k_of b_of .nil pass0 (pa_cons (pv 0) (pa_cons (pe_lst (pa_cons (pv 1) (pa_cons (pe_op op_add (pe_op op_mul pe_int (pv 1)) pe_int) (pa_cons (pe_op op_pow pe_int pe_int) pa_nil)))) pa_nil))) pa_nil)) rfl)
      (Evl.pss_cut (ps_for PassesOwn.never rfl (pi_range1 rfl B.range (pa_cons (pv 1) pa_nil)) (pg_name (i := 4) sc_souls.nd rfl (by first | exact Or.inl rfl | exact Or.inr rfl))
      (Evl.pss_cut (ps_set (i := 5) sc_souls.nd rfl (by first | exact Or.inl rfl | exact Or.inr rfl) (pe_op op_add pe_int (pe_call G_take (hr.mono (by decide)) rfl m_take k_take b_take .nil pass0 (pa_cons (pv 0) (pa_cons (pe_callB (call_max2 rfl) rfl B.max (by decide +kernel) (pa_cons pe_int (pa_cons (pv 3) pa_nil))) pa_nil)))))
      (Evl.pss_cut (ps_while PassesOwn.never (pt_cmp (pc_din (hu_of hr) (pv 5) (pv 2)))
      (pss_one (ps_set (i := 5) sc_souls.nd rfl (by first | exact Or.inl rfl | exact Or.inr rfl) (pe_op op_add (pe_op op_mod (pv 5) (pe_callB (call_max2 rfl) rfl B.max (by decide +kernel) (pa_cons (pv 3) (pa_cons (pv 1) pa_nil)))) pe_int))))
      (pss_one (ps_dput (hu_of hr) (pv 2) (pv 5) pe_bl rfl)))))
      (pss_one (ps_ret (pe_callB (call_sortedDI rfl) rfl B.sorted (by decide +kernel) (pa_cons (pv 2) pa_nil)))))), ?_⟩)
  exact finB (N := N_souls) (by unfold f_souls s_souls_2 s_souls_1 b_souls_1 s_souls_0; exact (OkS.cut (OkS.par (fun _ => ⟨by decide, by decide⟩) OkW.dnew (OkE.w (OkW.e (OkW.callB (OkA.cons (OkE.lst (OkA.cons (OkE.var 1) (OkA.cons (OkE.op ok_add (OkE.op ok_mul (OkE.con fun _ => .int _) (OkE.var 1)) (OkE.con fun _ => .int _)) (OkA.cons (OkE.op ok_pow (OkE.con fun _ => .int _) (OkE.con fun _ => .int _)) OkA.nil)))) OkA.nil)))))
      (OkS.cut (OkS.for (OkI.range1 (OkA.cons (OkE.var 1) OkA.nil)) (OkG.name 4) (fun _ => by decide) (OkS.cut (OkS.set (fun _ => by decide) (OkE.w (OkE.op ok_add (OkE.con fun _ => .int _) (OkW.e (OkW.callB (OkA.cons (OkE.cb ok_max (OkA.cons (OkE.con fun _ => .int _) (OkA.cons (OkE.var 3) OkA.nil))) OkA.nil))))))
      (OkS.cut (OkS.while 100 (OkT.din (OkE.var 5)) (OkS.set (fun _ => by decide) (OkE.w (OkE.op ok_add (OkE.op ok_mod (OkE.var 5) (OkE.cb ok_max (OkA.cons (OkE.var 3) (OkA.cons (OkE.var 1) OkA.nil)))) (OkE.con fun _ => .int _)))))
      (OkS.dput (OkE.var 5)))))
      (OkS.ret (OkE.w OkE.sortDct))))) h
end
def s_crowd_0 : M Fl :=
    (setS 2 (pl (fz (callB 0 F_souls (acons (fz (callB 0 (F_take 2) (acons (op2 addD (get 1) (con (.int 1))) anil))) anil)))))
def s_crowd_1 : M Fl :=
    (ifS (tb1 (op2 (eqA false) (fz (callB 0 (F_take 2) (acons (con (.int 2)) anil))) (con (.int 0)))) (retS (pl (cb tupleD (acons (fz (callB 0 F_strewn (acons (get 2) anil))) anil)))) nxt)
def s_crowd_2 : M Fl :=
    (setS 3 (lstW anil))
def b_crowd_3 : M Fl :=
    (exprS (mthE 3 insD (acons (ifE (tb1 (op2 gtD (fz (callB 0 (F_take 2) (acons (con (.int 3)) anil))) (con (.int 0)))) (op2 divD (cb lenD (acons (get 3) anil)) (con (.int 2))) (fz (callB 0 (F_take 2) (acons (op2 addD (cb lenD (acons (get 3) anil)) (con (.int 1))) anil)))) (acons (get 4) anil))))
def s_crowd_3 : M Fl :=
    (forS (seqI (op1 revD (get 2))) (gN 4) b_crowd_3)
def s_crowd_4 : M Fl :=
    (retS (pl (cb tupleD (acons (get 3) anil))))
def f_crowd : M Fl :=
    (thenS s_crowd_0 (thenS s_crowd_1 (thenS s_crowd_2 (thenS s_crowd_3 s_crowd_4))))
def F_crowd : List PyData → List PyData → Option (Wv × List PyData) := runB 2 5 f_crowd
section
variable {P : Program} {w : World} {K : PySem.W.Frag} {mg : Str → Option Value} {base : Heap} {f : Addr} {fd : FuncData}
theorem dk_crowd (F : Fun K "_law_crowd" "_law_crowd" S_crowd f fd) {g_take : Addr} {d_take : FuncData} (G_take : FnOk P w K mg base CX0 2 g_take d_take P_take (spB K (F_take 2))) (b_take : Binds K d_take P_take []) (k_take : PySem.W.keepIn K (.ref g_take) = true) (m_take : mg "_law_take" = some (.ref g_take)) {g_souls : Addr} {d_souls : FuncData} (G_souls : FnOk P w K mg base CX0 4 g_souls d_souls P_souls (spB K F_souls)) (b_souls : Binds K d_souls P_souls []) (k_souls : PySem.W.keepIn K (.ref g_souls) = true) (m_souls : mg "_law_souls" = some (.ref g_souls)) {g_strewn : Addr} {d_strewn : FuncData} (G_strewn : FnOk P w K mg base CX0 3 g_strewn d_strewn P_strewn (spB K F_strewn)) (b_strewn : Binds K d_strewn P_strewn []) (k_strewn : PySem.W.keepIn K (.ref g_strewn) = true) (m_strewn : mg "_law_strewn" = some (.ref g_strewn)) (B : Blt mg) : FnOk P w K mg base CX0 5 f fd P_crowd (spB K F_crowd) := by
  refine F.ok sc_crowd (fun vs H Q E h => lenB h) (fun cdv A outer s H vs Q E hr h => ⟨_, (Evl.pss_cut (ps_set (i := 2) sc_crowd.nd rfl (by first | exact Or.inl rfl | exact Or.inr rfl) (pe_call G_souls (hr.mono (by decide)) rfl m_souls k_souls b_souls .nil pass0 (pa_cons (pv 0) (pa_cons (pe_call G_take (hr.mono (by decide)) rfl m_take k_take b_take .nil pass0 (pa_cons (pv 0) (pa_cons (pe_op op_add (pv 1) pe_int) pa_nil))) pa_nil))))
      (Evl.pss_cut (ps_if (pt_cmpR op_eq (pe_call G_take (hr.mono (by decide)) rfl m_take k_take b_take .nil pass0 (pa_cons (pv 0) (pa_cons pe_int pa_nil))) pe_int (nomark _)) (pss_one (ps_ret (pe_callTy (k_tup (K := K) rfl) rfl B.tuple (by decide +kernel) (pa_cons (pe_call G_strewn (hr.mono (by decide)) rfl m_strewn k_strewn b_strewn .nil pass0 (pa_cons (pv 0) (pa_cons (pv 2) pa_nil))) pa_nil)))) pss_nil)
      (Evl.pss_cut (ps_set (i := 3) sc_crowd.nd rfl (by first | exact Or.inl rfl | exact Or.inr rfl) (pe_lst pa_nil))
      (Evl.pss_cut (ps_for PassesOwn.never rfl (k_seq (K := K) rfl (k_revW (K := K) rfl (pv 2))) (pg_name (i := 4) sc_crowd.nd rfl (by first | exact Or.inl rfl | exact Or.inr rfl))
      (pss_one (ps_expr (k_bm (K := K) rfl PySem.F.plainAttrs_list PySem.F.slot_list_insert PySem.F.type_list_insert mt_insert (pv 3) (pa_cons (pe_ifExp (pt_cmpR op_gt (pe_call G_take (hr.mono (by decide)) rfl m_take k_take b_take .nil pass0 (pa_cons (pv 0) (pa_cons pe_int pa_nil))) pe_int (nomark _)) (pe_op op_fdiv (pe_callB (k_len (K := K) rfl) rfl B.len PySem.boot_len (pa_cons (pv 3) pa_nil)) pe_int) (pe_call G_take (hr.mono (by decide)) rfl m_take k_take b_take .nil pass0 (pa_cons (pv 0) (pa_cons (pe_op op_add (pe_callB (k_len (K := K) rfl) rfl B.len PySem.boot_len (pa_cons (pv 3) pa_nil)) pe_int) pa_nil)))) (pa_cons (pv 4) pa_nil))))))
      (pss_one (ps_ret (pe_callTy (k_tup (K := K) rfl) rfl B.tuple (by decide +kernel) (pa_cons (pv 3) pa_nil)))))))), ?_⟩)
  exact finB (N := N_crowd) (by unfold f_crowd s_crowd_4 s_crowd_3 b_crowd_3 s_crowd_2 s_crowd_1 s_crowd_0; exact (OkS.cut (OkS.set (fun _ => by decide) (OkE.w (OkW.e (OkW.callB (OkA.cons (OkW.e (OkW.callB (OkA.cons (OkE.op ok_add (OkE.var 1) (OkE.con fun _ => .int _)) OkA.nil))) OkA.nil)))))
      (OkS.cut (OkS.ife (OkT.test (OkE.op ok_eq (OkW.e (OkW.callB (OkA.cons (OkE.con fun _ => .int _) OkA.nil))) (OkE.con fun _ => .int _))) (OkS.ret (OkE.w (OkE.cb ok_tuple (OkA.cons (OkW.e (OkW.callB (OkA.cons (OkE.var 2) OkA.nil))) OkA.nil)))) OkS.nil)
      (OkS.cut (OkS.set (fun _ => by decide) (OkW.lst OkA.nil))
      (OkS.cut (OkS.for (OkI.seq (OkE.rev (OkE.var 2))) (OkG.name 4) (fun _ => by decide) (OkS.expr (OkE.mth ok_ins (OkA.cons (OkE.ife (OkT.test (OkE.op ok_gt (OkW.e (OkW.callB (OkA.cons (OkE.con fun _ => .int _) OkA.nil))) (OkE.con fun _ => .int _))) (OkE.op ok_div (OkE.cb ok_len (OkA.cons (OkE.var 3) OkA.nil)) (OkE.con fun _ => .int _)) (OkW.e (OkW.callB (OkA.cons (OkE.op ok_add (OkE.cb ok_len (OkA.cons (OkE.var 3) OkA.nil)) (OkE.con fun _ => .int _)) OkA.nil)))) (OkA.cons (OkE.var 4) OkA.nil)))))
      (OkS.ret (OkE.w (OkE.cb ok_tuple (OkA.cons (OkE.var 3) OkA.nil))))))))) h
end
def f_check_person : M Fl :=
    (ifS (tb1 (op2 (inF true) (get 1) (get 0))) stuckS nxt)
def F_check_person : List PyData → Option Wv := runA 2 2 f_check_person
section
variable {P : Program} {w : World} {K : PySem.W.Frag} {mg : Str → Option Value} {base : Heap} {f : Addr} {fd : FuncData}
theorem dk_check_person (F : Fun K "check_person" "check_person" S_check_person f fd)  (B : Blt mg) : FnOk P w K mg base CX0 1 f fd P_check_person (spA K F_check_person) := by
  refine F.ok sc_check_person (fun vs H Q E h => lenA h) (fun cdv A outer s H vs Q E hr h => ⟨_, (pss_one (ps_if (pt_cmpR (k_notin (K := K) rfl) (pv 1) (pv 0) (by rfl)) (pss_one ps_never) pss_nil)), ?_⟩)
  exact finA (N := N_check_person) (by unfold f_check_person; exact (OkS.ife (OkT.test (OkE.op ok_inF (OkE.var 1) (OkE.var 0))) OkS.stuck OkS.nil)) h
end
def f_code_of : M Fl :=
    (retS (pl (rmE idxD (fz (lcW (seqI (get 0)) (gN 2) (tb1 (op2 geD (get 2) (get 1))) (get 2) [2])) (acons (get 1) anil))))
def F_code_of : List PyData → Option Wv := runA 2 3 f_code_of
section
variable {P : Program} {w : World} {K : PySem.W.Frag} {mg : Str → Option Value} {base : Heap} {f : Addr} {fd : FuncData}
theorem dk_code_of (F : Fun K "code_of" "code_of" S_code_of f fd)  (B : Blt mg) : FnOk P w K mg base CX0 1 f fd P_code_of (spA K F_code_of) := by
  refine F.ok sc_code_of (fun vs H Q E h => lenA h) (fun cdv A outer s H vs Q E hr h => ⟨_, (pss_one (ps_ret (k_bm (K := K) rfl PySem.F.plainAttrs_list PySem.F.slot_list_index PySem.F.type_list_index (k_index (K := K) rfl (units65 hr)) (pe_lc (own := [("other", 2)]) (g := (gName 2)) rfl sc_code_of.nd (k_seq (K := K) rfl (pv 0)) (blkOk_by (own := [("other", 2)]) (N := ["row", "height", "other"]) (sc := defScope S_code_of) (by decide +kernel)) (fun _ _ _ _ _ => by exact (pg_name (i := 2) sc_code_of.nd rfl (by first | exact Or.inl rfl | exact Or.inr rfl))) (fun _ _ _ _ _ => (pts_one (pt_cmpR op_ge (pv 2) (pv 1) (nomark _)))) (fun _ _ _ _ _ => (pv 2))) (pa_cons (pv 1) pa_nil)))), ?_⟩)
  exact finA (N := N_code_of) (by unfold f_code_of; exact (OkS.ret (OkE.w (OkE.rm ok_idx (OkW.e (OkW.lc (vs := [2]) (OkI.seq (OkE.var 0)) (OkG.name 2) (by decide) (OkT.test (OkE.op ok_ge (OkE.var 2) (OkE.var 1))) (OkE.var 2))) (OkA.cons (OkE.var 1) OkA.nil))))) h
end
def f_codes : M Fl :=
    (retS (pl (cb tupleD (acons (fz (lcW (seqI (cb sortD (acons (get 0) anil))) (gN 1) yesT (fz (callA F_code_of (acons (get 0) (acons (get 1) anil)))) [1])) anil))))
def F_codes : List PyData → Option Wv := runA 1 2 f_codes
section
variable {P : Program} {w : World} {K : PySem.W.Frag} {mg : Str → Option Value} {base : Heap} {f : Addr} {fd : FuncData}
theorem dk_codes (F : Fun K "codes" "codes" S_codes f fd) {g_code_of : Addr} {d_code_of : FuncData} (G_code_of : FnOk P w K mg base CX0 1 g_code_of d_code_of P_code_of (spA K F_code_of)) (b_code_of : Binds K d_code_of P_code_of []) (k_code_of : PySem.W.keepIn K (.ref g_code_of) = true) (m_code_of : mg "code_of" = some (.ref g_code_of)) (B : Blt mg) : FnOk P w K mg base CX0 2 f fd P_codes (spA K F_codes) := by
  refine F.ok sc_codes (fun vs H Q E h => lenA h) (fun cdv A outer s H vs Q E hr h => ⟨_, (pss_one (ps_ret (pe_callTy (k_tup (K := K) rfl) rfl B.tuple (by decide +kernel) (pa_cons (pe_lc (own := [("height", 1)]) (g := (gName 1)) rfl sc_codes.nd (k_seq (K := K) rfl (pe_callB (k_sorted (K := K) rfl) rfl B.sorted (by decide +kernel) (pa_cons (pv 0) pa_nil))) (blkOk_by (own := [("height", 1)]) (N := ["row", "height"]) (sc := defScope S_codes) (by decide +kernel)) (fun _ _ _ _ _ => by exact (pg_name (i := 1) sc_codes.nd rfl (by first | exact Or.inl rfl | exact Or.inr rfl))) (fun _ _ _ _ _ => pts_nil) (fun _ _ _ _ _ => (pe_call G_code_of (hr.mono (by decide)) rfl m_code_of k_code_of b_code_of .nil pass0 (pa_cons (pv 0) (pa_cons (pv 1) pa_nil))))) pa_nil)))), ?_⟩)
  exact finA (N := N_codes) (by unfold f_codes; exact (OkS.ret (OkE.w (OkE.cb ok_tuple (OkA.cons (OkW.e (OkW.lc (vs := [1]) (OkI.seq (OkE.cb ok_sort (OkA.cons (OkE.var 0) OkA.nil))) (OkG.name 1) (by decide) OkT.yes (OkW.e (OkW.call (OkA.cons (OkE.var 0) (OkA.cons (OkE.var 1) OkA.nil)))))) OkA.nil))))) h
end
def f_first_intervals : M Fl :=
    (retS (pl (fz (lcW (argI rngD (acons (get 0) anil)) (gN 1) yesT (tupD (acons (get 1) (acons (get 1) anil))) [1]))))
def F_first_intervals : List PyData → Option Wv := runA 1 2 f_first_intervals
section
variable {P : Program} {w : World} {K : PySem.W.Frag} {mg : Str → Option Value} {base : Heap} {f : Addr} {fd : FuncData}
theorem dk_first_intervals (F : Fun K "first_intervals" "first_intervals" S_first_intervals f fd)  (B : Blt mg) : FnOk P w K mg base CX0 1 f fd P_first_intervals (spA K F_first_intervals) := by
  refine F.ok sc_first_intervals (fun vs H Q E h => lenA h) (fun cdv A outer s H vs Q E hr h => ⟨_, (pss_one (ps_ret (pe_lc (own := [("index", 1)]) (g := (gName 1)) rfl sc_first_intervals.nd (pi_range1 rfl B.range (pa_cons (pv 0) pa_nil)) (blkOk_by (own := [("index", 1)]) (N := ["many", "index"]) (sc := defScope S_first_intervals) (by decide +kernel)) (fun _ _ _ _ _ => by exact (pg_name (i := 1) sc_first_intervals.nd rfl (by first | exact Or.inl rfl | exact Or.inr rfl))) (fun _ _ _ _ _ => pts_nil) (fun _ _ _ _ _ => (pe_tupB (pa_cons (pv 1) (pa_cons (pv 1) pa_nil))))))), ?_⟩)
  exact finA (N := N_first_intervals) (by unfold f_first_intervals; exact (OkS.ret (OkE.w (OkW.e (OkW.lc (vs := [1]) (OkI.range1 (OkA.cons (OkE.var 0) OkA.nil)) (OkG.name 1) (by decide) OkT.yes (OkE.tup (OkA.cons (OkE.var 1) (OkA.cons (OkE.var 1) OkA.nil)))))))) h
end
def s_run_size_0 : M Fl :=
    (unS (gT (gsC (gN 1) (gsC (gN 2) gsN))) (get 0))
def s_run_size_1 : M Fl :=
    (retS (pl (op2 addD (op2 subD (get 2) (get 1)) (con (.int 1)))))
def f_run_size : M Fl :=
    (thenS s_run_size_0 s_run_size_1)
def F_run_size : List PyData → Option Wv := runA 1 3 f_run_size
section
variable {P : Program} {w : World} {K : PySem.W.Frag} {mg : Str → Option Value} {base : Heap} {f : Addr} {fd : FuncData}
theorem dk_run_size (F : Fun K "run_size" "run_size" S_run_size f fd)  (B : Blt mg) : FnOk P w K mg base CX0 1 f fd P_run_size (spA K F_run_size) := by
  refine F.ok sc_run_size (fun vs H Q E h => lenA h) (fun cdv A outer s H vs Q E hr h => ⟨_, (Evl.pss_cut (ps_asg (pv 0) (pg_tup rfl (pgs_cons (pg_name (i := 1) sc_run_size.nd rfl (by first | exact Or.inl rfl | exact Or.inr rfl)) (pgs_cons (pg_name (i := 2) sc_run_size.nd rfl (by first | exact Or.inl rfl | exact Or.inr rfl)) pgs_nil))))
      (pss_one (ps_ret (pe_op op_add (pe_op op_sub (pv 2) (pv 1)) pe_int)))), ?_⟩)
  exact finA (N := N_run_size) (by unfold f_run_size s_run_size_1 s_run_size_0; exact (OkS.cut (OkS.unpack (OkG.tup (OkGs.cons (OkG.name 1) (OkGs.cons (OkG.name 2) OkGs.nil))) (fun z => by cases z) (OkE.var 0))
      (OkS.ret (OkE.w (OkE.op ok_add (OkE.op ok_sub (OkE.var 2) (OkE.var 1)) (OkE.con fun _ => .int _)))))) h
end
def f_run_index : M Fl :=
    (retS (pl (cb lenD (acons (fz (lcW (seqI (get 0)) (gT (gsC (gN 2) (gsC (gN 3) gsN))) (tb1 (op2 ltD (get 3) (get 1))) (get 3) [2, 3])) anil))))
def F_run_index : List PyData → Option Wv := runA 2 4 f_run_index
section
variable {P : Program} {w : World} {K : PySem.W.Frag} {mg : Str → Option Value} {base : Heap} {f : Addr} {fd : FuncData}
theorem dk_run_index (F : Fun K "run_index" "run_index" S_run_index f fd)  (B : Blt mg) : FnOk P w K mg base CX0 1 f fd P_run_index (spA K F_run_index) := by
  refine F.ok sc_run_index (fun vs H Q E h => lenA h) (fun cdv A outer s H vs Q E hr h => ⟨_, (pss_one (ps_ret (pe_callB (k_len (K := K) rfl) rfl B.len PySem.boot_len (pa_cons (pe_lc (own := [("first", 2), ("last", 3)]) (g := (gTup K 2 (gCons (gName 2) (gCons (gName 3) gNil)))) rfl sc_run_index.nd (k_seq (K := K) rfl (pv 0)) (blkOk_by (own := [("first", 2), ("last", 3)]) (N := ["intervals", "code", "first", "last"]) (sc := defScope S_run_index) (by decide +kernel)) (fun _ _ _ _ _ => by exact (pg_tup rfl (pgs_cons (pg_name (i := 2) sc_run_index.nd rfl (by first | exact Or.inl rfl | exact Or.inr rfl)) (pgs_cons (pg_name (i := 3) sc_run_index.nd rfl (by first | exact Or.inl rfl | exact Or.inr rfl)) pgs_nil)))) (fun _ _ _ _ _ => (pts_one (pt_cmpR op_lt (pv 3) (pv 1) (nomark _)))) (fun _ _ _ _ _ => (pv 3))) pa_nil)))), ?_⟩)
  exact finA (N := N_run_index) (by unfold f_run_index; exact (OkS.ret (OkE.w (OkE.cb ok_len (OkA.cons (OkW.e (OkW.lc (vs := [2, 3]) (OkI.seq (OkE.var 0)) (OkG.tup (OkGs.cons (OkG.name 2) (OkGs.cons (OkG.name 3) OkGs.nil))) (by decide) (OkT.test (OkE.op ok_lt (OkE.var 3) (OkE.var 1))) (OkE.var 3))) OkA.nil))))) h
end
def s_next_intervals_0 : M Fl :=
    (setS 2 (pl (fz (callA F_run_index (acons (get 0) (acons (get 1) anil))))))
def s_next_intervals_1 : M Fl :=
    (setS 3 (pl (cb maxD (acons (op2 subD (get 2) (con (.int 1))) (acons (con (.int 0)) anil)))))
def s_next_intervals_2 : M Fl :=
    (setS 4 (pl (cb minD (acons (op2 addD (get 2) (con (.int 1))) (acons (op2 subD (cb lenD (acons (get 0) anil)) (con (.int 1))) anil)))))
def s_next_intervals_3 : M Fl :=
    (setS 5 (pl (tupD (acons (op2 ixD (op2 ixD (get 0) (get 3)) (con (.int 0))) (acons (op2 subD (op2 ixD (op2 ixD (get 0) (get 4)) (con (.int 1))) (con (.int 1))) anil)))))
def s_next_intervals_4 : M Fl :=
    (setS 6 (pl (fz (lcW (seqI (slD (get 0) (poS (op2 addD (get 4) (con (.int 1)))) poN)) (gT (gsC (gN 7) (gsC (gN 8) gsN))) yesT (tupD (acons (op2 subD (get 7) (con (.int 1))) (acons (op2 subD (get 8) (con (.int 1))) anil))) [7, 8]))))
def s_next_intervals_5 : M Fl :=
    (retS (pl (op2 catD (op2 catD (slD (get 0) poN (poS (get 3))) (lstD (acons (get 5) anil))) (get 6))))
def f_next_intervals : M Fl :=
    (thenS s_next_intervals_0 (thenS s_next_intervals_1 (thenS s_next_intervals_2 (thenS s_next_intervals_3 (thenS s_next_intervals_4 s_next_intervals_5)))))
def F_next_intervals : List PyData → Option Wv := runA 2 9 f_next_intervals
section
variable {P : Program} {w : World} {K : PySem.W.Frag} {mg : Str → Option Value} {base : Heap} {f : Addr} {fd : FuncData}
theorem dk_next_intervals (F : Fun K "next_intervals" "next_intervals" S_next_intervals f fd) {g_run_index : Addr} {d_run_index : FuncData} (G_run_index : FnOk P w K mg base CX0 1 g_run_index d_run_index P_run_index (spA K F_run_index)) (b_run_index : Binds K d_run_index P_run_index []) (k_run_index : PySem.W.keepIn K (.ref g_run_index) = true) (m_run_index : mg "run_index" = some (.ref g_run_index)) (B : Blt mg) : FnOk P w K mg base CX0 2 f fd P_next_intervals (spA K F_next_intervals) := by
  refine F.ok sc_next_intervals (fun vs H Q E h => lenA h) (fun cdv A outer s H vs Q E hr h => ⟨_, (Evl.pss_cut (ps_set (i := 2) sc_next_intervals.nd rfl (by first | exact Or.inl rfl | exact Or.inr rfl) (pe_call G_run_index (hr.mono (by decide)) rfl m_run_index k_run_index b_run_index .nil pass0 (pa_cons (pv 0) (pa_cons (pv 1) pa_nil))))
      (Evl.pss_cut (ps_set (i := 3) sc_next_intervals.nd rfl (by first | exact Or.inl rfl | exact Or.inr rfl) (pe_callB (call_max2 rfl) rfl B.max (by decide +kernel) (pa_cons (pe_op op_sub (pv 2) pe_int) (pa_cons pe_int pa_nil))))
      (Evl.pss_cut (ps_set (i := 4) sc_next_intervals.nd rfl (by first | exact Or.inl rfl | exact Or.inr rfl) (pe_callB (call_min2 rfl) rfl B.min (by decide +kernel) (pa_cons (pe_op op_add (pv 2) pe_int) (pa_cons (pe_op op_sub (pe_callB (k_len (K := K) rfl) rfl B.len PySem.boot_len (pa_cons (pv 0) pa_nil)) pe_int) pa_nil))))
      (Evl.pss_cut (ps_set (i := 5) sc_next_intervals.nd rfl (by first | exact Or.inl rfl | exact Or.inr rfl) (pe_tupB (pa_cons (pe_ix (k_ix (K := K) rfl) (pe_ix (k_ix (K := K) rfl) (pv 0) (pv 3) (fun _ _ => rfl)) pe_int (fun _ _ => rfl)) (pa_cons (pe_op op_sub (pe_ix (k_ix (K := K) rfl) (pe_ix (k_ix (K := K) rfl) (pv 0) (pv 4) (fun _ _ => rfl)) pe_int (fun _ _ => rfl)) pe_int) pa_nil))))
      (Evl.pss_cut (by first | exact (ps_setLc (i := 6) (own := [("first", 7), ("last", 8)]) (g := (gTup K 2 (gCons (gName 7) (gCons (gName 8) gNil)))) rfl sc_next_intervals.nd rfl rfl (sw_true rfl rfl rfl (by decide +kernel)) (k_seq (K := K) rfl (pe_slice (k_cut (K := K) rfl) (pv 0) (po_some (pe_op op_add (pv 4) pe_int)) po_none)) (blkOk_by (own := [("first", 7), ("last", 8)]) (N := ["intervals", "code", "at", "left", "right", "united", "above", "first", "last"]) (sc := defScope S_next_intervals) (by decide +kernel)) (fun _ _ _ _ _ => by exact (pg_tup rfl (pgs_cons (pg_name (i := 7) sc_next_intervals.nd rfl (by first | exact Or.inl rfl | exact Or.inr rfl)) (pgs_cons (pg_name (i := 8) sc_next_intervals.nd rfl (by first | exact Or.inl rfl | exact Or.inr rfl)) pgs_nil)))) (fun _ _ _ _ _ => pts_nil) (fun _ _ _ _ _ => (pe_tupB (pa_cons (pe_op op_sub (pv 7) pe_int) (pa_cons (pe_op op_sub (pv 8) pe_int) pa_nil))))) | exact (ps_set (i := 6) sc_next_intervals.nd rfl (by first | exact Or.inl rfl | exact Or.inr rfl) (pe_lc (own := [("first", 7), ("last", 8)]) (g := (gTup K 2 (gCons (gName 7) (gCons (gName 8) gNil)))) rfl sc_next_intervals.nd (k_seq (K := K) rfl (pe_slice (k_cut (K := K) rfl) (pv 0) (po_some (pe_op op_add (pv 4) pe_int)) po_none)) (blkOk_by (own := [("first", 7), ("last", 8)]) (N := ["intervals", "code", "at", "left", "right", "united", "above", "first", "last"]) (sc := defScope S_next_intervals) (by decide +kernel)) (fun _ _ _ _ _ => by exact (pg_tup rfl (pgs_cons (pg_name (i := 7) sc_next_intervals.nd rfl (by first | exact Or.inl rfl | exact Or.inr rfl)) (pgs_cons (pg_name (i := 8) sc_next_intervals.nd rfl (by first | exact Or.inl rfl | exact Or.inr rfl)) pgs_nil)))) (fun _ _ _ _ _ => pts_nil) (fun _ _ _ _ _ => (pe_tupB (pa_cons (pe_op op_sub (pv 7) pe_int) (pa_cons (pe_op op_sub (pv 8) pe_int) pa_nil)))))))
      (pss_one (ps_ret (pe_op op_catL (pe_op op_catL (pe_slice (k_cut (K := K) rfl) (pv 0) po_none (po_some (pv 3))) (pe_lst (pa_cons (pv 5) pa_nil))) (pv 6))))))))), ?_⟩)
  exact finA (N := N_next_intervals) (by unfold f_next_intervals s_next_intervals_5 s_next_intervals_4 s_next_intervals_3 s_next_intervals_2 s_next_intervals_1 s_next_intervals_0; exact (OkS.cut (OkS.set (fun z => by cases z) (OkE.w (OkW.e (OkW.call (OkA.cons (OkE.var 0) (OkA.cons (OkE.var 1) OkA.nil))))))
      (OkS.cut (OkS.set (fun z => by cases z) (OkE.w (OkE.cb ok_max (OkA.cons (OkE.op ok_sub (OkE.var 2) (OkE.con fun _ => .int _)) (OkA.cons (OkE.con fun _ => .int _) OkA.nil)))))
      (OkS.cut (OkS.set (fun z => by cases z) (OkE.w (OkE.cb ok_min (OkA.cons (OkE.op ok_add (OkE.var 2) (OkE.con fun _ => .int _)) (OkA.cons (OkE.op ok_sub (OkE.cb ok_len (OkA.cons (OkE.var 0) OkA.nil)) (OkE.con fun _ => .int _)) OkA.nil)))))
      (OkS.cut (OkS.set (fun z => by cases z) (OkE.w (OkE.tup (OkA.cons (OkE.op ok_ix (OkE.op ok_ix (OkE.var 0) (OkE.var 3)) (OkE.con fun _ => .int _)) (OkA.cons (OkE.op ok_sub (OkE.op ok_ix (OkE.op ok_ix (OkE.var 0) (OkE.var 4)) (OkE.con fun _ => .int _)) (OkE.con fun _ => .int _)) OkA.nil)))))
      (OkS.cut (OkS.set (fun z => by cases z) (OkE.w (OkW.e (OkW.lc (vs := [7, 8]) (OkI.seq (OkE.sl (OkE.var 0) (OkP.some (OkE.op ok_add (OkE.var 4) (OkE.con fun _ => .int _))) OkP.none)) (OkG.tup (OkGs.cons (OkG.name 7) (OkGs.cons (OkG.name 8) OkGs.nil))) (by decide) OkT.yes (OkE.tup (OkA.cons (OkE.op ok_sub (OkE.var 7) (OkE.con fun _ => .int _)) (OkA.cons (OkE.op ok_sub (OkE.var 8) (OkE.con fun _ => .int _)) OkA.nil)))))))
      (OkS.ret (OkE.w (OkE.op ok_catL (OkE.op ok_catL (OkE.sl (OkE.var 0) OkP.none (OkP.some (OkE.var 3))) (OkE.lst (OkA.cons (OkE.var 5) OkA.nil))) (OkE.var 6)))))))))) h
end
def s_run_lists_0 : M Fl :=
    (setS 1 (lstW anil))
def s_run_lists_1 : M Fl :=
    (setS 2 (pl (fz (callA F_first_intervals (acons (cb lenD (acons (get 0) anil)) anil)))))
def b_run_lists_2 : M Fl :=
    (thenS (exprS (mthE 1 appD (acons (get 2) anil)))
    (setS 2 (pl (fz (callA F_next_intervals (acons (get 2) (acons (get 3) anil)))))))
def s_run_lists_2 : M Fl :=
    (forS (seqI (fz (callA F_codes (acons (get 0) anil)))) (gN 3) b_run_lists_2)
def s_run_lists_3 : M Fl :=
    (moveS 1)
def f_run_lists : M Fl :=
    (thenS s_run_lists_0 (thenS s_run_lists_1 (thenS s_run_lists_2 s_run_lists_3)))
def F_run_lists : List PyData → Option Wv := runA 1 4 f_run_lists
section
variable {P : Program} {w : World} {K : PySem.W.Frag} {mg : Str → Option Value} {base : Heap} {f : Addr} {fd : FuncData}
theorem dk_run_lists (F : Fun K "run_lists" "run_lists" S_run_lists f fd) {g_codes : Addr} {d_codes : FuncData} (G_codes : FnOk P w K mg base CX0 2 g_codes d_codes P_codes (spA K F_codes)) (b_codes : Binds K d_codes P_codes []) (k_codes : PySem.W.keepIn K (.ref g_codes) = true) (m_codes : mg "codes" = some (.ref g_codes)) {g_first_intervals : Addr} {d_first_intervals : FuncData} (G_first_intervals : FnOk P w K mg base CX0 1 g_first_intervals d_first_intervals P_first_intervals (spA K F_first_intervals)) (b_first_intervals : Binds K d_first_intervals P_first_intervals []) (k_first_intervals : PySem.W.keepIn K (.ref g_first_intervals) = true) (m_first_intervals : mg "first_intervals" = some (.ref g_first_intervals)) {g_next_intervals : Addr} {d_next_intervals : FuncData} (G_next_intervals : FnOk P w K mg base CX0 2 g_next_intervals d_next_intervals P_next_intervals (spA K F_next_intervals)) (b_next_intervals : Binds K d_next_intervals P_next_intervals []) (k_next_intervals : PySem.W.keepIn K (.ref g_next_intervals) = true) (m_next_intervals : mg "next_intervals" = some (.ref g_next_intervals)) (B : Blt mg) : FnOk P w K mg base CX0 3 f fd P_run_lists (spA K F_run_lists) := by
  refine F.ok sc_run_lists (fun vs H Q E h => lenA h) (fun cdv A outer s H vs Q E hr h => ⟨_, (Evl.pss_cut (ps_set (i := 1) sc_run_lists.nd rfl (by first | exact Or.inl rfl | exact Or.inr rfl) (pe_lst pa_nil))
      (Evl.pss_cut (ps_set (i := 2) sc_run_lists.nd rfl (by first | exact Or.inl rfl | exact Or.inr rfl) (pe_call G_first_intervals (hr.mono (by decide)) rfl m_first_intervals k_first_intervals b_first_intervals .nil pass0 (pa_cons (pe_callB (k_len (K := K) rfl) rfl B.len PySem.boot_len (pa_cons (pv 0) pa_nil)) pa_nil)))
      (Evl.pss_cut (ps_for PassesOwn.never rfl (k_seq (K := K) rfl (pe_call G_codes (hr.mono (by decide)) rfl m_codes k_codes b_codes .nil pass0 (pa_cons (pv 0) pa_nil))) (pg_name (i := 3) sc_run_lists.nd rfl (by first | exact Or.inl rfl | exact Or.inr rfl))
      (Evl.pss_cut (ps_expr (k_bm (K := K) rfl PySem.F.plainAttrs_list PySem.F.slot_list_append PySem.F.type_list_append mt_append (pv 1) (pa_cons (pv 2) pa_nil)))
      (pss_one (ps_set (i := 2) sc_run_lists.nd rfl (by first | exact Or.inl rfl | exact Or.inr rfl) (pe_call G_next_intervals (hr.mono (by decide)) rfl m_next_intervals k_next_intervals b_next_intervals .nil pass0 (pa_cons (pv 2) (pa_cons (pv 3) pa_nil)))))))
      (pss_one (ps_ret (pv 1)))))), ?_⟩)
  exact finA (N := N_run_lists) (by unfold f_run_lists s_run_lists_3 s_run_lists_2 b_run_lists_2 s_run_lists_1 s_run_lists_0; exact (OkS.cut (OkS.set (fun z => by cases z) (OkW.lst OkA.nil))
      (OkS.cut (OkS.set (fun z => by cases z) (OkE.w (OkW.e (OkW.call (OkA.cons (OkE.cb ok_len (OkA.cons (OkE.var 0) OkA.nil)) OkA.nil)))))
      (OkS.cut (OkS.for (OkI.seq (OkW.e (OkW.call (OkA.cons (OkE.var 0) OkA.nil)))) (OkG.name 3) (fun z => by cases z) (OkS.cut (OkS.expr (OkE.mth ok_app (OkA.cons (OkE.var 2) OkA.nil)))
      (OkS.set (fun z => by cases z) (OkE.w (OkW.e (OkW.call (OkA.cons (OkE.var 2) (OkA.cons (OkE.var 3) OkA.nil))))))))
      (OkS.move 1))))) h
end
def f_runs : M Fl :=
    (retS (pl (cb tupleD (acons (fz (lcW (argI zipM (acons (fz (callA F_run_lists (acons (get 0) anil))) (acons (fz (callA F_codes (acons (get 0) anil))) anil))) (gT (gsC (gN 1) (gsC (gN 2) gsN))) yesT (op2 ixD (get 1) (fz (callA F_run_index (acons (get 1) (acons (get 2) anil))))) [1, 2])) anil))))
def F_runs : List PyData → Option Wv := runA 1 3 f_runs
section
variable {P : Program} {w : World} {K : PySem.W.Frag} {mg : Str → Option Value} {base : Heap} {f : Addr} {fd : FuncData}
theorem dk_runs (F : Fun K "runs" "runs" S_runs f fd) {g_codes : Addr} {d_codes : FuncData} (G_codes : FnOk P w K mg base CX0 2 g_codes d_codes P_codes (spA K F_codes)) (b_codes : Binds K d_codes P_codes []) (k_codes : PySem.W.keepIn K (.ref g_codes) = true) (m_codes : mg "codes" = some (.ref g_codes)) {g_run_lists : Addr} {d_run_lists : FuncData} (G_run_lists : FnOk P w K mg base CX0 3 g_run_lists d_run_lists P_run_lists (spA K F_run_lists)) (b_run_lists : Binds K d_run_lists P_run_lists []) (k_run_lists : PySem.W.keepIn K (.ref g_run_lists) = true) (m_run_lists : mg "run_lists" = some (.ref g_run_lists)) {g_run_index : Addr} {d_run_index : FuncData} (G_run_index : FnOk P w K mg base CX0 1 g_run_index d_run_index P_run_index (spA K F_run_index)) (b_run_index : Binds K d_run_index P_run_index []) (k_run_index : PySem.W.keepIn K (.ref g_run_index) = true) (m_run_index : mg "run_index" = some (.ref g_run_index)) (B : Blt mg) : FnOk P w K mg base CX0 4 f fd P_runs (spA K F_runs) := by
  refine F.ok sc_runs (fun vs H Q E h => lenA h) (fun cdv A outer s H vs Q E hr h => ⟨_, (pss_one (ps_ret (pe_callTy (k_tup (K := K) rfl) rfl B.tuple (by decide +kernel) (pa_cons (pe_lc (own := [("intervals", 1), ("code", 2)]) (g := (gTup K 2 (gCons (gName 1) (gCons (gName 2) gNil)))) rfl sc_runs.nd (k_zipB (K := K) rfl rfl B.zip (pa_cons (pe_call G_run_lists (hr.mono (by decide)) rfl m_run_lists k_run_lists b_run_lists .nil pass0 (pa_cons (pv 0) pa_nil)) (pa_cons (pe_call G_codes (hr.mono (by decide)) rfl m_codes k_codes b_codes .nil pass0 (pa_cons (pv 0) pa_nil)) pa_nil))) (blkOk_by (own := [("intervals", 1), ("code", 2)]) (N := ["row", "intervals", "code"]) (sc := defScope S_runs) (by decide +kernel)) (fun _ _ _ _ _ => by exact (pg_tup rfl (pgs_cons (pg_name (i := 1) sc_runs.nd rfl (by first | exact Or.inl rfl | exact Or.inr rfl)) (pgs_cons (pg_name (i := 2) sc_runs.nd rfl (by first | exact Or.inl rfl | exact Or.inr rfl)) pgs_nil)))) (fun _ _ _ _ _ => pts_nil) (fun _ _ _ _ _ => (pe_ix (k_ix (K := K) rfl) (pv 1) (pe_call G_run_index (hr.mono (by decide)) rfl m_run_index k_run_index b_run_index .nil pass0 (pa_cons (pv 1) (pa_cons (pv 2) pa_nil))) (fun _ _ => rfl)))) pa_nil)))), ?_⟩)
  exact finA (N := N_runs) (by unfold f_runs; exact (OkS.ret (OkE.w (OkE.cb ok_tuple (OkA.cons (OkW.e (OkW.lc (vs := [1, 2]) (OkI.zipB (OkA.cons (OkW.e (OkW.call (OkA.cons (OkE.var 0) OkA.nil))) (OkA.cons (OkW.e (OkW.call (OkA.cons (OkE.var 0) OkA.nil))) OkA.nil))) (OkG.tup (OkGs.cons (OkG.name 1) (OkGs.cons (OkG.name 2) OkGs.nil))) (by decide) OkT.yes (OkE.op ok_ix (OkE.var 1) (OkW.e (OkW.call (OkA.cons (OkE.var 1) (OkA.cons (OkE.var 2) OkA.nil))))))) OkA.nil))))) h
end
def s_run_list_0 : M Fl :=
    (exprS (fz (callA F_check_person (acons (get 0) (acons (get 1) anil)))))
def s_run_list_1 : M Fl :=
    (retS (pl (op2 ixD (fz (callA F_run_lists (acons (get 0) anil))) (rmE idxD (cb sortD (acons (get 0) anil)) (acons (get 1) anil)))))
def f_run_list : M Fl :=
    (thenS s_run_list_0 s_run_list_1)
def F_run_list : List PyData → Option Wv := runA 2 2 f_run_list
section
variable {P : Program} {w : World} {K : PySem.W.Frag} {mg : Str → Option Value} {base : Heap} {f : Addr} {fd : FuncData}
theorem dk_run_list (F : Fun K "run_list" "run_list" S_run_list f fd) {g_check_person : Addr} {d_check_person : FuncData} (G_check_person : FnOk P w K mg base CX0 1 g_check_person d_check_person P_check_person (spA K F_check_person)) (b_check_person : Binds K d_check_person P_check_person []) (k_check_person : PySem.W.keepIn K (.ref g_check_person) = true) (m_check_person : mg "check_person" = some (.ref g_check_person)) {g_run_lists : Addr} {d_run_lists : FuncData} (G_run_lists : FnOk P w K mg base CX0 3 g_run_lists d_run_lists P_run_lists (spA K F_run_lists)) (b_run_lists : Binds K d_run_lists P_run_lists []) (k_run_lists : PySem.W.keepIn K (.ref g_run_lists) = true) (m_run_lists : mg "run_lists" = some (.ref g_run_lists)) (B : Blt mg) : FnOk P w K mg base CX0 4 f fd P_run_list (spA K F_run_list) := by
  refine F.ok sc_run_list (fun vs H Q E h => lenA h) (fun cdv A outer s H vs Q E hr h => ⟨_, (Evl.pss_cut (ps_expr (pe_call G_check_person (hr.mono (by decide)) rfl m_check_person k_check_person b_check_person .nil pass0 (pa_cons (pv 0) (pa_cons (pv 1) pa_nil))))
      (pss_one (ps_ret (pe_ix (k_ix (K := K) rfl) (pe_call G_run_lists (hr.mono (by decide)) rfl m_run_lists k_run_lists b_run_lists .nil pass0 (pa_cons (pv 0) pa_nil)) (k_bm (K := K) rfl PySem.F.plainAttrs_list PySem.F.slot_list_index PySem.F.type_list_index (k_index (K := K) rfl (units65 hr)) (pe_callB (k_sorted (K := K) rfl) rfl B.sorted (by decide +kernel) (pa_cons (pv 0) pa_nil)) (pa_cons (pv 1) pa_nil)) (fun _ _ => rfl))))), ?_⟩)
  exact finA (N := N_run_list) (by unfold f_run_list s_run_list_1 s_run_list_0; exact (OkS.cut (OkS.expr (OkW.e (OkW.call (OkA.cons (OkE.var 0) (OkA.cons (OkE.var 1) OkA.nil)))))
      (OkS.ret (OkE.w (OkE.op ok_ix (OkW.e (OkW.call (OkA.cons (OkE.var 0) OkA.nil))) (OkE.rm ok_idx (OkE.cb ok_sort (OkA.cons (OkE.var 0) OkA.nil)) (OkA.cons (OkE.var 1) OkA.nil))))))) h
end
def f_check_same_people : M Fl :=
    (ifS (tb1 (op2 (eqvD true) (cb sortD (acons (get 0) anil)) (cb sortD (acons (get 1) anil)))) stuckS nxt)
def F_check_same_people : List PyData → Option Wv := runA 2 2 f_check_same_people
section
variable {P : Program} {w : World} {K : PySem.W.Frag} {mg : Str → Option Value} {base : Heap} {f : Addr} {fd : FuncData}
theorem dk_check_same_people (F : Fun K "check_same_people" "check_same_people" S_check_same_people f fd)  (B : Blt mg) : FnOk P w K mg base CX0 1 f fd P_check_same_people (spA K F_check_same_people) := by
  refine F.ok sc_check_same_people (fun vs H Q E h => lenA h) (fun cdv A outer s H vs Q E hr h => ⟨_, (pss_one (ps_if (pt_cmpR (k_neD (K := K) rfl hr.units) (pe_callB (k_sorted (K := K) rfl) rfl B.sorted (by decide +kernel) (pa_cons (pv 0) pa_nil)) (pe_callB (k_sorted (K := K) rfl) rfl B.sorted (by decide +kernel) (pa_cons (pv 1) pa_nil)) (nomark _)) (pss_one ps_never) pss_nil)), ?_⟩)
  exact finA (N := N_check_same_people) (by unfold f_check_same_people; exact (OkS.ife (OkT.test (OkE.op ok_neD (OkE.cb ok_sort (OkA.cons (OkE.var 0) OkA.nil)) (OkE.cb ok_sort (OkA.cons (OkE.var 1) OkA.nil)))) OkS.stuck OkS.nil)) h
end
def s_bar_0 : M Fl :=
    (exprS (fz (callA F_check_same_people (acons (get 0) (acons (get 1) anil)))))
def b_bar_1 : M Fl :=
    (ifS (tb1 (op2 (eqvD true) (get 3) (get 4))) (retS (pl (get 2))) nxt)
def s_bar_1 : M Fl :=
    (forS (argI zip3M (acons (cb sortD (acons (get 0) anil)) (acons (fz (callA F_runs (acons (get 0) anil))) (acons (fz (callA F_runs (acons (get 1) anil))) anil)))) (gT (gsC (gN 2) (gsC (gN 3) (gsC (gN 4) gsN)))) b_bar_1)
def s_bar_2 : M Fl :=
    (retS (pl (con .none)))
def f_bar : M Fl :=
    (thenS s_bar_0 (thenS s_bar_1 s_bar_2))
def F_bar : List PyData → Option Wv := runA 2 5 f_bar
section
variable {P : Program} {w : World} {K : PySem.W.Frag} {mg : Str → Option Value} {base : Heap} {f : Addr} {fd : FuncData}
theorem dk_bar (F : Fun K "bar" "bar" S_bar f fd) {g_check_same_people : Addr} {d_check_same_people : FuncData} (G_check_same_people : FnOk P w K mg base CX0 1 g_check_same_people d_check_same_people P_check_same_people (spA K F_check_same_people)) (b_check_same_people : Binds K d_check_same_people P_check_same_people []) (k_check_same_people : PySem.W.keepIn K (.ref g_check_same_people) = true) (m_check_same_people : mg "check_same_people" = some (.ref g_check_same_people)) {g_runs : Addr} {d_runs : FuncData} (G_runs : FnOk P w K mg base CX0 4 g_runs d_runs P_runs (spA K F_runs)) (b_runs : Binds K d_runs P_runs []) (k_runs : PySem.W.keepIn K (.ref g_runs) = true) (m_runs : mg "runs" = some (.ref g_runs)) (B : Blt mg) : FnOk P w K mg base CX0 5 f fd P_bar (spA K F_bar) := by
  refine F.ok sc_bar (fun vs H Q E h => lenA h) (fun cdv A outer s H vs Q E hr h => ⟨_, (Evl.pss_cut (ps_expr (pe_call G_check_same_people (hr.mono (by decide)) rfl m_check_same_people k_check_same_people b_check_same_people .nil pass0 (pa_cons (pv 0) (pa_cons (pv 1) pa_nil))))
      (Evl.pss_cut (ps_for PassesOwn.never rfl (k_zipC (K := K) rfl rfl B.zip (pa_cons (pe_callB (k_sorted (K := K) rfl) rfl B.sorted (by decide +kernel) (pa_cons (pv 0) pa_nil)) (pa_cons (pe_call G_runs (hr.mono (by decide)) rfl m_runs k_runs b_runs .nil pass0 (pa_cons (pv 0) pa_nil)) (pa_cons (pe_call G_runs (hr.mono (by decide)) rfl m_runs k_runs b_runs .nil pass0 (pa_cons (pv 1) pa_nil)) pa_nil)))) (pg_tup rfl (pgs_cons (pg_name (i := 2) sc_bar.nd rfl (by first | exact Or.inl rfl | exact Or.inr rfl)) (pgs_cons (pg_name (i := 3) sc_bar.nd rfl (by first | exact Or.inl rfl | exact Or.inr rfl)) (pgs_cons (pg_name (i := 4) sc_bar.nd rfl (by first | exact Or.inl rfl | exact Or.inr rfl)) pgs_nil))))
      (pss_one (ps_if (pt_cmpR (k_neD (K := K) rfl hr.units) (pv 3) (pv 4) (nomark _)) (pss_one (ps_ret (pv 2))) pss_nil)))
      (pss_one (ps_ret pe_non)))), ?_⟩)
  exact finA (N := N_bar) (by unfold f_bar s_bar_2 s_bar_1 b_bar_1 s_bar_0; exact (OkS.cut (OkS.expr (OkW.e (OkW.call (OkA.cons (OkE.var 0) (OkA.cons (OkE.var 1) OkA.nil)))))
      (OkS.cut (OkS.for (OkI.zipC (OkA.cons (OkE.cb ok_sort (OkA.cons (OkE.var 0) OkA.nil)) (OkA.cons (OkW.e (OkW.call (OkA.cons (OkE.var 0) OkA.nil))) (OkA.cons (OkW.e (OkW.call (OkA.cons (OkE.var 1) OkA.nil))) OkA.nil)))) (OkG.tup (OkGs.cons (OkG.name 2) (OkGs.cons (OkG.name 3) (OkGs.cons (OkG.name 4) OkGs.nil)))) (fun z => by cases z) (OkS.ife (OkT.test (OkE.op ok_neD (OkE.var 3) (OkE.var 4))) (OkS.ret (OkE.w (OkE.var 2))) OkS.nil))
      (OkS.ret (OkE.w (OkE.con fun _ => .non)))))) h
end
def f_leads : M Fl :=
    (retS (pl (isNE false (fz (callA F_bar (acons (get 0) (acons (get 1) anil)))))))
def F_leads : List PyData → Option Wv := runA 2 2 f_leads
section
variable {P : Program} {w : World} {K : PySem.W.Frag} {mg : Str → Option Value} {base : Heap} {f : Addr} {fd : FuncData}
theorem dk_leads (F : Fun K "leads" "leads" S_leads f fd) {g_bar : Addr} {d_bar : FuncData} (G_bar : FnOk P w K mg base CX0 5 g_bar d_bar P_bar (spA K F_bar)) (b_bar : Binds K d_bar P_bar []) (k_bar : PySem.W.keepIn K (.ref g_bar) = true) (m_bar : mg "bar" = some (.ref g_bar)) (B : Blt mg) : FnOk P w K mg base CX0 6 f fd P_leads (spA K F_leads) := by
  refine F.ok sc_leads (fun vs H Q E h => lenA h) (fun cdv A outer s H vs Q E hr h => ⟨_, (pss_one (ps_ret (pe_cmpR op_isN (pe_call G_bar (hr.mono (by decide)) rfl m_bar k_bar b_bar .nil pass0 (pa_cons (pv 0) (pa_cons (pv 1) pa_nil))) pe_non (nomark _)))), ?_⟩)
  exact finA (N := N_leads) (by unfold f_leads; exact (OkS.ret (OkE.w (OkE.isN (OkW.e (OkW.call (OkA.cons (OkE.var 0) (OkA.cons (OkE.var 1) OkA.nil)))))))) h
end
def s_count_rows_0 : M Fl :=
    (setS 1 (pl (con (.int 1))))
def b_count_rows_1 : M Fl :=
    (augS 1 mulD (fz (callA F_run_size (acons (get 2) anil))))
def s_count_rows_1 : M Fl :=
    (forS (seqI (fz (callA F_runs (acons (get 0) anil)))) (gN 2) b_count_rows_1)
def s_count_rows_2 : M Fl :=
    (retS (pl (get 1)))
def f_count_rows : M Fl :=
    (thenS s_count_rows_0 (thenS s_count_rows_1 s_count_rows_2))
def F_count_rows : List PyData → Option Wv := runA 1 3 f_count_rows
section
variable {P : Program} {w : World} {K : PySem.W.Frag} {mg : Str → Option Value} {base : Heap} {f : Addr} {fd : FuncData}
theorem dk_count_rows (F : Fun K "count_rows" "count_rows" S_count_rows f fd) {g_run_size : Addr} {d_run_size : FuncData} (G_run_size : FnOk P w K mg base CX0 1 g_run_size d_run_size P_run_size (spA K F_run_size)) (b_run_size : Binds K d_run_size P_run_size []) (k_run_size : PySem.W.keepIn K (.ref g_run_size) = true) (m_run_size : mg "run_size" = some (.ref g_run_size)) {g_runs : Addr} {d_runs : FuncData} (G_runs : FnOk P w K mg base CX0 4 g_runs d_runs P_runs (spA K F_runs)) (b_runs : Binds K d_runs P_runs []) (k_runs : PySem.W.keepIn K (.ref g_runs) = true) (m_runs : mg "runs" = some (.ref g_runs)) (B : Blt mg) : FnOk P w K mg base CX0 5 f fd P_count_rows (spA K F_count_rows) := by
  refine F.ok sc_count_rows (fun vs H Q E h => lenA h) (fun cdv A outer s H vs Q E hr h => ⟨_, (Evl.pss_cut (ps_set (i := 1) sc_count_rows.nd rfl (by first | exact Or.inl rfl | exact Or.inr rfl) pe_int)
      (Evl.pss_cut (ps_for PassesOwn.never rfl (k_seq (K := K) rfl (pe_call G_runs (hr.mono (by decide)) rfl m_runs k_runs b_runs .nil pass0 (pa_cons (pv 0) pa_nil))) (pg_name (i := 2) sc_count_rows.nd rfl (by first | exact Or.inl rfl | exact Or.inr rfl))
      (pss_one (ps_aug (i := 1) sc_count_rows.nd rfl (by first | exact Or.inl rfl | exact Or.inr rfl) (pe_call G_run_size (hr.mono (by decide)) rfl m_run_size k_run_size b_run_size .nil pass0 (pa_cons (pv 2) pa_nil)) ip_mul)))
      (pss_one (ps_ret (pv 1))))), ?_⟩)
  exact finA (N := N_count_rows) (by unfold f_count_rows s_count_rows_2 s_count_rows_1 b_count_rows_1 s_count_rows_0; exact (OkS.cut (OkS.set (fun z => by cases z) (OkE.w (OkE.con fun _ => .int _)))
      (OkS.cut (OkS.for (OkI.seq (OkW.e (OkW.call (OkA.cons (OkE.var 0) OkA.nil)))) (OkG.name 2) (fun z => by cases z) (OkS.aug (fun z => by cases z) aug_mul (OkW.e (OkW.call (OkA.cons (OkE.var 2) OkA.nil)))))
      (OkS.ret (OkE.w (OkE.var 1)))))) h
end
def s_with_person_0 : M Fl :=
    (ifS (orT (tb1 (op2 ltD (get 1) (con (.int 0)))) (tb1 (op2 gtD (get 1) (cb lenD (acons (get 0) anil))))) stuckS nxt)
def s_with_person_1 : M Fl :=
    (ifS (tb1 (op2 (inF false) (get 2) (get 0))) stuckS nxt)
def s_with_person_2 : M Fl :=
    (retS (pl (op2 catT (op2 catT (cb tupleD (acons (slD (get 0) poN (poS (get 1))) anil)) (tupD (acons (get 2) anil))) (cb tupleD (acons (slD (get 0) (poS (get 1)) poN) anil)))))
def f_with_person : M Fl :=
    (thenS s_with_person_0 (thenS s_with_person_1 s_with_person_2))
def F_with_person : List PyData → Option Wv := runA 3 3 f_with_person
section
variable {P : Program} {w : World} {K : PySem.W.Frag} {mg : Str → Option Value} {base : Heap} {f : Addr} {fd : FuncData}
theorem dk_with_person (F : Fun K "with_person" "with_person" S_with_person f fd)  (B : Blt mg) : FnOk P w K mg base CX0 1 f fd P_with_person (spA K F_with_person) := by
  refine F.ok sc_with_person (fun vs H Q E h => lenA h) (fun cdv A outer s H vs Q E hr h => ⟨_, (Evl.pss_cut (ps_if (PW.pt (pw_or (pt_cmpR op_lt (pv 1) pe_int (nomark _)) (pw_or1 (pt_cmpR op_gt (pv 1) (pe_callB (k_len (K := K) rfl) rfl B.len PySem.boot_len (pa_cons (pv 0) pa_nil)) (nomark _))))) (pss_one ps_never) pss_nil)
      (Evl.pss_cut (ps_if (pt_cmpR (k_in (K := K) rfl) (pv 2) (pv 0) (by rfl)) (pss_one ps_never) pss_nil)
      (pss_one (ps_ret (pe_op (k_catW (K := K) rfl) (pe_op (k_catW (K := K) rfl) (pe_callTy (k_tup (K := K) rfl) rfl B.tuple (by decide +kernel) (pa_cons (pe_slice (k_cut (K := K) rfl) (pv 0) po_none (po_some (pv 1))) pa_nil)) (pe_tupB (pa_cons (pv 2) pa_nil))) (pe_callTy (k_tup (K := K) rfl) rfl B.tuple (by decide +kernel) (pa_cons (pe_slice (k_cut (K := K) rfl) (pv 0) (po_some (pv 1)) po_none) pa_nil))))))), ?_⟩)
  exact finA (N := N_with_person) (by unfold f_with_person s_with_person_2 s_with_person_1 s_with_person_0; exact (OkS.cut (OkS.ife (OkT.or (OkT.test (OkE.op ok_lt (OkE.var 1) (OkE.con fun _ => .int _))) (OkT.test (OkE.op ok_gt (OkE.var 1) (OkE.cb ok_len (OkA.cons (OkE.var 0) OkA.nil))))) OkS.stuck OkS.nil)
      (OkS.cut (OkS.ife (OkT.test (OkE.op ok_inF (OkE.var 2) (OkE.var 0))) OkS.stuck OkS.nil)
      (OkS.ret (OkE.w (OkE.op ok_catT (OkE.op ok_catT (OkE.cb ok_tuple (OkA.cons (OkE.sl (OkE.var 0) OkP.none (OkP.some (OkE.var 1))) OkA.nil)) (OkE.tup (OkA.cons (OkE.var 2) OkA.nil))) (OkE.cb ok_tuple (OkA.cons (OkE.sl (OkE.var 0) (OkP.some (OkE.var 1)) OkP.none) OkA.nil)))))))) h
end
def s_without_0 : M Fl :=
    (exprS (fz (callA F_check_person (acons (get 0) (acons (get 1) anil)))))
def s_without_1 : M Fl :=
    (retS (pl (cb tupleD (acons (fz (lcW (seqI (get 0)) (gN 2) (tb1 (op2 (eqA true) (get 2) (get 1))) (get 2) [2])) anil))))
def f_without : M Fl :=
    (thenS s_without_0 s_without_1)
def F_without : List PyData → Option Wv := runA 2 3 f_without
section
variable {P : Program} {w : World} {K : PySem.W.Frag} {mg : Str → Option Value} {base : Heap} {f : Addr} {fd : FuncData}
theorem dk_without (F : Fun K "without" "without" S_without f fd) {g_check_person : Addr} {d_check_person : FuncData} (G_check_person : FnOk P w K mg base CX0 1 g_check_person d_check_person P_check_person (spA K F_check_person)) (b_check_person : Binds K d_check_person P_check_person []) (k_check_person : PySem.W.keepIn K (.ref g_check_person) = true) (m_check_person : mg "check_person" = some (.ref g_check_person)) (B : Blt mg) : FnOk P w K mg base CX0 2 f fd P_without (spA K F_without) := by
  refine F.ok sc_without (fun vs H Q E h => lenA h) (fun cdv A outer s H vs Q E hr h => ⟨_, (Evl.pss_cut (ps_expr (pe_call G_check_person (hr.mono (by decide)) rfl m_check_person k_check_person b_check_person .nil pass0 (pa_cons (pv 0) (pa_cons (pv 1) pa_nil))))
      (pss_one (ps_ret (pe_callTy (k_tup (K := K) rfl) rfl B.tuple (by decide +kernel) (pa_cons (pe_lc (own := [("other", 2)]) (g := (gName 2)) rfl sc_without.nd (k_seq (K := K) rfl (pv 0)) (blkOk_by (own := [("other", 2)]) (N := ["row", "height", "other"]) (sc := defScope S_without) (by decide +kernel)) (fun _ _ _ _ _ => by exact (pg_name (i := 2) sc_without.nd rfl (by first | exact Or.inl rfl | exact Or.inr rfl))) (fun _ _ _ _ _ => (pts_one (pt_cmpR op_ne (pv 2) (pv 1) (nomark _)))) (fun _ _ _ _ _ => (pv 2))) pa_nil))))), ?_⟩)
  exact finA (N := N_without) (by unfold f_without s_without_1 s_without_0; exact (OkS.cut (OkS.expr (OkW.e (OkW.call (OkA.cons (OkE.var 0) (OkA.cons (OkE.var 1) OkA.nil)))))
      (OkS.ret (OkE.w (OkE.cb ok_tuple (OkA.cons (OkW.e (OkW.lc (vs := [2]) (OkI.seq (OkE.var 0)) (OkG.name 2) (by decide) (OkT.test (OkE.op ok_ne (OkE.var 2) (OkE.var 1))) (OkE.var 2))) OkA.nil)))))) h
end
def f_sees : M Fl :=
    (retS (pl (cb allD (acons (fz (lcW (seqI (slD (get 0) (poS (op2 addD (get 1) (con (.int 1)))) (poS (get 2)))) (gN 3) yesT (op2 ltD (get 3) (cb minD (acons (op2 ixD (get 0) (get 1)) (acons (op2 ixD (get 0) (get 2)) anil)))) [3])) anil))))
def F_sees : List PyData → Option Wv := runA 3 4 f_sees
section
variable {P : Program} {w : World} {K : PySem.W.Frag} {mg : Str → Option Value} {base : Heap} {f : Addr} {fd : FuncData}
theorem dk_sees (F : Fun K "_law_sees" "_law_sees" S_sees f fd)  (B : Blt mg) : FnOk P w K mg base CX0 1 f fd P_sees (spA K F_sees) := by
  refine F.ok sc_sees (fun vs H Q E h => lenA h) (fun cdv A outer s H vs Q E hr h => ⟨_, (pss_one (ps_ret (pe_callB (k_all (K := K) rfl rfl) rfl B.all (by decide +kernel) (pa_cons (pe_lc (own := [("_law_soul", 3)]) (g := (gName 3)) rfl sc_sees.nd (k_seq (K := K) rfl (pe_slice (k_cut (K := K) rfl) (pv 0) (po_some (pe_op op_add (pv 1) pe_int)) (po_some (pv 2)))) (blkOk_by (own := [("_law_soul", 3)]) (N := ["_law_crowd_here", "_law_i", "_law_j", "_law_soul"]) (sc := defScope S_sees) (by decide +kernel)) (fun _ _ _ _ _ => by exact (pg_name (i := 3) sc_sees.nd rfl (by first | exact Or.inl rfl | exact Or.inr rfl))) (fun _ _ _ _ _ => pts_nil) (fun _ _ _ _ _ => (pe_cmpR op_lt (pv 3) (pe_callB (call_min2 rfl) rfl B.min (by decide +kernel) (pa_cons (pe_ix (k_ix (K := K) rfl) (pv 0) (pv 1) (fun _ _ => rfl)) (pa_cons (pe_ix (k_ix (K := K) rfl) (pv 0) (pv 2) (fun _ _ => rfl)) pa_nil))) (nomark _)))) pa_nil)))), ?_⟩)
  exact finA (N := N_sees) (by unfold f_sees; exact (OkS.ret (OkE.w (OkE.cb ok_all (OkA.cons (OkW.e (OkW.lc (vs := [3]) (OkI.seq (OkE.sl (OkE.var 0) (OkP.some (OkE.op ok_add (OkE.var 1) (OkE.con fun _ => .int _))) (OkP.some (OkE.var 2)))) (OkG.name 3) (by decide) OkT.yes (OkE.op ok_lt (OkE.var 3) (OkE.cb ok_min (OkA.cons (OkE.op ok_ix (OkE.var 0) (OkE.var 1)) (OkA.cons (OkE.op ok_ix (OkE.var 0) (OkE.var 2)) OkA.nil)))))) OkA.nil))))) h
end
def s_swaps_0 : M Fl :=
    (setS 1 (pl (lstD anil)))
def b_swaps_1 : M Fl :=
    (setS 1 (pl (op2 catD (get 1) (fz (lcW (argI rngD2 (acons (op2 addD (get 2) (con (.int 2))) (acons (cb lenD (acons (get 0) anil)) anil))) (gN 3) (tb1 (fz (callA F_sees (acons (get 0) (acons (get 2) (acons (get 3) anil)))))) (tupD (acons (get 2) (acons (get 3) anil))) [3])))))
def s_swaps_1 : M Fl :=
    (forS (argI rngD (acons (cb lenD (acons (get 0) anil)) anil)) (gN 2) b_swaps_1)
def s_swaps_2 : M Fl :=
    (retS (pl (get 1)))
def f_swaps : M Fl :=
    (thenS s_swaps_0 (thenS s_swaps_1 s_swaps_2))
def F_swaps : List PyData → Option Wv := runA 1 4 f_swaps
section
variable {P : Program} {w : World} {K : PySem.W.Frag} {mg : Str → Option Value} {base : Heap} {f : Addr} {fd : FuncData}
theorem dk_swaps (F : Fun K "_law_swaps" "_law_swaps" S_swaps f fd) {g_sees : Addr} {d_sees : FuncData} (G_sees : FnOk P w K mg base CX0 1 g_sees d_sees P_sees (spA K F_sees)) (b_sees : Binds K d_sees P_sees []) (k_sees : PySem.W.keepIn K (.ref g_sees) = true) (m_sees : mg "_law_sees" = some (.ref g_sees)) (B : Blt mg) : FnOk P w K mg base CX0 2 f fd P_swaps (spA K F_swaps) := by
  refine F.ok sc_swaps (fun vs H Q E h => lenA h) (fun cdv A outer s H vs Q E hr h => ⟨_, (Evl.pss_cut (ps_set (i := 1) sc_swaps.nd rfl (by first | exact Or.inl rfl | exact Or.inr rfl) (pe_lst pa_nil))
      (Evl.pss_cut (ps_for PassesOwn.never rfl (pi_range1 rfl B.range (pa_cons (pe_callB (k_len (K := K) rfl) rfl B.len PySem.boot_len (pa_cons (pv 0) pa_nil)) pa_nil)) (pg_name (i := 2) sc_swaps.nd rfl (by first | exact Or.inl rfl | exact Or.inr rfl))
      (pss_one (ps_set (i := 1) sc_swaps.nd rfl (by first | exact Or.inl rfl | exact Or.inr rfl) (pe_op op_catL (pv 1) (pe_lc (own := [("_law_j", 3)]) (g := (gName 3)) rfl sc_swaps.nd (pi_range2 rfl B.range (pa_cons (pe_op op_add (pv 2) pe_int) (pa_cons (pe_callB (k_len (K := K) rfl) rfl B.len PySem.boot_len (pa_cons (pv 0) pa_nil)) pa_nil))) (blkOk_by (own := [("_law_j", 3)]) (N := ["_law_crowd_here", "_law_found", "_law_i", "_law_j"]) (sc := defScope S_swaps) (by decide +kernel)) (fun _ _ _ _ _ => by exact (pg_name (i := 3) sc_swaps.nd rfl (by first | exact Or.inl rfl | exact Or.inr rfl))) (fun _ _ _ _ _ => (pts_one (pt_val (pe_call G_sees (hr.mono (by decide)) rfl m_sees k_sees b_sees .nil pass0 (pa_cons (pv 0) (pa_cons (pv 2) (pa_cons (pv 3) pa_nil))))))) (fun _ _ _ _ _ => (pe_tupB (pa_cons (pv 2) (pa_cons (pv 3) pa_nil)))))))))
      (pss_one (ps_ret (pv 1))))), ?_⟩)
  exact finA (N := N_swaps) (by unfold f_swaps s_swaps_2 s_swaps_1 b_swaps_1 s_swaps_0; exact (OkS.cut (OkS.set (fun z => by cases z) (OkE.w (OkE.lst OkA.nil)))
      (OkS.cut (OkS.for (OkI.range1 (OkA.cons (OkE.cb ok_len (OkA.cons (OkE.var 0) OkA.nil)) OkA.nil)) (OkG.name 2) (fun z => by cases z) (OkS.set (fun z => by cases z) (OkE.w (OkE.op ok_catL (OkE.var 1) (OkW.e (OkW.lc (vs := [3]) (OkI.range2 (OkA.cons (OkE.op ok_add (OkE.var 2) (OkE.con fun _ => .int _)) (OkA.cons (OkE.cb ok_len (OkA.cons (OkE.var 0) OkA.nil)) OkA.nil))) (OkG.name 3) (by decide) (OkT.val (OkW.e (OkW.call (OkA.cons (OkE.var 0) (OkA.cons (OkE.var 2) (OkA.cons (OkE.var 3) OkA.nil)))))) (OkE.tup (OkA.cons (OkE.var 2) (OkA.cons (OkE.var 3) OkA.nil)))))))))
      (OkS.ret (OkE.w (OkE.var 1)))))) h
end
def s_turned_0 : M Fl :=
    (unS (gT (gsC (gN 2) (gsC (gN 3) gsN))) (get 1))
def s_turned_1 : M Fl :=
    (retS (pl (op2 catT (op2 catT (op2 catT (op2 catT (slD (get 0) poN (poS (get 2))) (tupD (acons (op2 ixD (get 0) (get 3)) anil))) (slD (get 0) (poS (op2 addD (get 2) (con (.int 1)))) (poS (get 3)))) (tupD (acons (op2 ixD (get 0) (get 2)) anil))) (slD (get 0) (poS (op2 addD (get 3) (con (.int 1)))) poN))))
def f_turned : M Fl :=
    (thenS s_turned_0 s_turned_1)
def F_turned : List PyData → Option Wv := runA 2 4 f_turned
section
variable {P : Program} {w : World} {K : PySem.W.Frag} {mg : Str → Option Value} {base : Heap} {f : Addr} {fd : FuncData}
theorem dk_turned (F : Fun K "_law_turned" "_law_turned" S_turned f fd)  (B : Blt mg) : FnOk P w K mg base CX0 1 f fd P_turned (spA K F_turned) := by
  refine F.ok sc_turned (fun vs H Q E h => lenA h) (fun cdv A outer s H vs Q E hr h => ⟨_, (Evl.pss_cut (ps_asg (pv 1) (pg_tup rfl (pgs_cons (pg_name (i := 2) sc_turned.nd rfl (by first | exact Or.inl rfl | exact Or.inr rfl)) (pgs_cons (pg_name (i := 3) sc_turned.nd rfl (by first | exact Or.inl rfl | exact Or.inr rfl)) pgs_nil))))
      (pss_one (ps_ret (pe_op (k_catW (K := K) rfl) (pe_op (k_catW (K := K) rfl) (pe_op (k_catW (K := K) rfl) (pe_op (k_catW (K := K) rfl) (pe_slice (k_cut (K := K) rfl) (pv 0) po_none (po_some (pv 2))) (pe_tupB (pa_cons (pe_ix (k_ix (K := K) rfl) (pv 0) (pv 3) (fun _ _ => rfl)) pa_nil))) (pe_slice (k_cut (K := K) rfl) (pv 0) (po_some (pe_op op_add (pv 2) pe_int)) (po_some (pv 3)))) (pe_tupB (pa_cons (pe_ix (k_ix (K := K) rfl) (pv 0) (pv 2) (fun _ _ => rfl)) pa_nil))) (pe_slice (k_cut (K := K) rfl) (pv 0) (po_some (pe_op op_add (pv 3) pe_int)) po_none))))), ?_⟩)
  exact finA (N := N_turned) (by unfold f_turned s_turned_1 s_turned_0; exact (OkS.cut (OkS.unpack (OkG.tup (OkGs.cons (OkG.name 2) (OkGs.cons (OkG.name 3) OkGs.nil))) (fun z => by cases z) (OkE.var 1))
      (OkS.ret (OkE.w (OkE.op ok_catT (OkE.op ok_catT (OkE.op ok_catT (OkE.op ok_catT (OkE.sl (OkE.var 0) OkP.none (OkP.some (OkE.var 2))) (OkE.tup (OkA.cons (OkE.op ok_ix (OkE.var 0) (OkE.var 3)) OkA.nil))) (OkE.sl (OkE.var 0) (OkP.some (OkE.op ok_add (OkE.var 2) (OkE.con fun _ => .int _))) (OkP.some (OkE.var 3)))) (OkE.tup (OkA.cons (OkE.op ok_ix (OkE.var 0) (OkE.var 2)) OkA.nil))) (OkE.sl (OkE.var 0) (OkP.some (OkE.op ok_add (OkE.var 3) (OkE.con fun _ => .int _))) OkP.none)))))) h
end
def s_wandered_0 : M Fl :=
    (setS 3 (lstW anil))
def b_wandered_1 : M Fl :=
    (thenS (setS 5 (pl (fz (callA F_swaps (acons (get 1) anil)))))
    (ifS (tb1 (op2 (eqvD true) (get 5) (lstD anil))) (thenS (exprS (mthE 3 appD (acons (fz (callB 0 F_of (acons (get 5) anil))) anil)))
    (setS 1 (pl (fz (callA F_turned (acons (get 1) (acons (op2 ixD (get 3) (op1 negD (con (.int 1)))) anil))))))) nxt))
def s_wandered_1 : M Fl :=
    (forS (argI rngD (acons (fz (callB 0 (F_take 2) (acons (op2 addD (get 2) (con (.int 1))) anil))) anil)) (gN 4) b_wandered_1)
def s_wandered_2 : M Fl :=
    (M.bind (frzM 3) fun _ => (retS (pl (tupD (acons (get 1) (acons (get 3) anil))))))
def f_wandered : M Fl :=
    (thenS s_wandered_0 (thenS s_wandered_1 s_wandered_2))
def F_wandered : List PyData → List PyData → Option (Wv × List PyData) := runB 3 6 f_wandered
section
variable {P : Program} {w : World} {K : PySem.W.Frag} {mg : Str → Option Value} {base : Heap} {f : Addr} {fd : FuncData}
theorem dk_wandered (F : Fun K "_law_wandered" "_law_wandered" S_wandered f fd) {g_take : Addr} {d_take : FuncData} (G_take : FnOk P w K mg base CX0 2 g_take d_take P_take (spB K (F_take 2))) (b_take : Binds K d_take P_take []) (k_take : PySem.W.keepIn K (.ref g_take) = true) (m_take : mg "_law_take" = some (.ref g_take)) {g_swaps : Addr} {d_swaps : FuncData} (G_swaps : FnOk P w K mg base CX0 2 g_swaps d_swaps P_swaps (spA K F_swaps)) (b_swaps : Binds K d_swaps P_swaps []) (k_swaps : PySem.W.keepIn K (.ref g_swaps) = true) (m_swaps : mg "_law_swaps" = some (.ref g_swaps)) {g_of : Addr} {d_of : FuncData} (G_of : FnOk P w K mg base CX0 3 g_of d_of P_of (spB K F_of)) (b_of : Binds K d_of P_of []) (k_of : PySem.W.keepIn K (.ref g_of) = true) (m_of : mg "_law_of" = some (.ref g_of)) {g_turned : Addr} {d_turned : FuncData} (G_turned : FnOk P w K mg base CX0 1 g_turned d_turned P_turned (spA K F_turned)) (b_turned : Binds K d_turned P_turned []) (k_turned : PySem.W.keepIn K (.ref g_turned) = true) (m_turned : mg "_law_turned" = some (.ref g_turned)) (B : Blt mg) : FnOk P w K mg base CX0 4 f fd P_wandered (spB K F_wandered) := by
  refine F.ok sc_wandered (fun vs H Q E h => lenB h) (fun cdv A outer s H vs Q E hr h => ⟨_, (Evl.pss_cut (ps_set (i := 3) sc_wandered.nd rfl (by first | exact Or.inl rfl | exact Or.inr rfl) (pe_lst pa_nil))
      (Evl.pss_cut (ps_for PassesOwn.never rfl (pi_range1 rfl B.range (pa_cons (pe_call G_take (hr.mono (by decide)) rfl m_take k_take b_take .nil pass0 (pa_cons (pv 0) (pa_cons (pe_op op_add (pv 2) pe_int) pa_nil))) pa_nil)) (pg_name (i := 4) sc_wandered.nd rfl (by first | exact Or.inl rfl | exact Or.inr rfl))
      (Evl.pss_cut (ps_set (i := 5) sc_wandered.nd rfl (by first | exact Or.inl rfl | exact Or.inr rfl) (pe_call G_swaps (hr.mono (by decide)) rfl m_swaps k_swaps b_swaps .nil pass0 (pa_cons (pv 1) pa_nil)))
      (pss_one (ps_if (pt_cmpR (k_neD (K := K) rfl hr.units) (pv 5) (pe_lst pa_nil) (nomark _)) (Evl.pss_cut (ps_expr (k_bm (K := K) rfl PySem.F.plainAttrs_list PySem.F.slot_list_append PySem.F.type_list_append mt_append (pv 3) (pa_cons (pe_call G_of (hr.mono (by decide)) rfl m_of k_of b_of .nil pass0 (pa_cons (pv 0) (pa_cons (pv 5) pa_nil))) pa_nil)))
      (pss_one (ps_set (i := 1) sc_wandered.nd rfl (by first | exact Or.inl rfl | exact Or.inr rfl) (pe_call G_turned (hr.mono (by decide)) rfl m_turned k_turned b_turned .nil pass0 (pa_cons (pv 1) (pa_cons (pe_ix (k_ix (K := K) rfl) (pv 3) (pe_un un_neg pe_int) (fun _ _ => rfl)) pa_nil)))))) pss_nil))))
      (pss_one (ps_ret (pe_tupB (pa_cons (pv 1) (pa_cons (pv 3) pa_nil))))))), ?_⟩)
  exact finB (N := N_wandered) (by unfold f_wandered s_wandered_2 s_wandered_1 b_wandered_1 s_wandered_0; exact (OkS.cut (OkS.set (fun _ => by decide) (OkW.lst OkA.nil))
      (OkS.cut (OkS.for (OkI.range1 (OkA.cons (OkW.e (OkW.callB (OkA.cons (OkE.op ok_add (OkE.var 2) (OkE.con fun _ => .int _)) OkA.nil))) OkA.nil)) (OkG.name 4) (fun _ => by decide) (OkS.cut (OkS.set (fun _ => by decide) (OkE.w (OkW.e (OkW.call (OkA.cons (OkE.var 1) OkA.nil)))))
      (OkS.ife (OkT.test (OkE.op ok_neD (OkE.var 5) (OkE.lst OkA.nil))) (OkS.cut (OkS.expr (OkE.mth ok_app (OkA.cons (OkW.e (OkW.callB (OkA.cons (OkE.var 5) OkA.nil))) OkA.nil)))
      (OkS.set (fun _ => by decide) (OkE.w (OkW.e (OkW.call (OkA.cons (OkE.var 1) (OkA.cons (OkE.op ok_ix (OkE.var 3) (OkE.un ok_neg (OkE.con fun _ => .int _))) OkA.nil))))))) OkS.nil)))
      (OkS.frz 3 (OkS.ret (OkE.w (OkE.tup (OkA.cons (OkE.var 1) (OkA.cons (OkE.var 3) OkA.nil))))))))) h
end
def s_tall_right_0 : M Fl :=
    (parS 2 3 (pl (op2 powD (con (.int 10)) (con (.int 9)))) (pl (cb sortD (acons (get 1) anil))))
def s_tall_right_1 : M Fl :=
    (setS 4 (pl (fz (callB 0 (F_take 2) (acons (op2 addD (cb lenD (acons (get 1) anil)) (con (.int 1))) anil)))))
def s_tall_right_2 : M Fl :=
    (setS 5 (pl (fz (callA F_with_person (acons (get 1) (acons (get 4) (acons (get 2) anil)))))))
def s_tall_right_3 : M Fl :=
    (setS 6 (pl (fz (lcW (seqI (get 3)) (gN 7) yesT (cb intD (acons (op2 geD (ixE (get 1) (acons (get 7) anil)) (get 4)) anil)) [7]))))
def s_tall_right_4 : M Fl :=
    (ifS (tb1 (op2 (eqvD true) (slD (fz (callA F_codes (acons (get 5) anil))) poN (poS (op1 negD (con (.int 1))))) (cb tupleD (acons (fz (lcW (argI zipM (acons (fz (callA F_codes (acons (get 1) anil))) (acons (get 6) anil))) (gT (gsC (gN 8) (gsC (gN 9) gsN))) yesT (op2 addD (get 8) (get 9)) [8, 9])) anil)))) (retS (pl (con (.bool false)))) nxt)
def s_tall_right_5 : M Fl :=
    (ifS (orT (tb1 (op2 (eqvD true) (fz (callA F_without (acons (get 5) (acons (get 2) anil)))) (get 1))) (tb1 (op2 (eqvD true) (op2 ixD (fz (callA F_runs (acons (get 5) anil))) (op1 negD (con (.int 1)))) (tupD (acons (con (.int 0)) (acons (con (.int 0)) anil)))))) (retS (pl (con (.bool false)))) nxt)
def s_tall_right_6 : M Fl :=
    (setS 10 (pl (op2 ixD (fz (callB 0 F_wandered (acons (get 5) (acons (con (.int 25)) anil)))) (con (.int 0)))))
def s_tall_right_7 : M Fl :=
    (retS (pl (andV (fz (callA F_leads (acons (get 5) (acons (get 10) anil)))) (andV (op2 (eqA false) (op2 ixD (fz (callA F_codes (acons (get 10) anil))) (op1 negD (con (.int 1)))) (con (.int 0))) (op2 (eqvD false) (cb sortD (acons (fz (callA F_without (acons (get 10) (acons (get 2) anil)))) anil)) (get 3))))))
def f_tall_right : M Fl :=
    (thenS s_tall_right_0 (thenS s_tall_right_1 (thenS s_tall_right_2 (thenS s_tall_right_3 (thenS s_tall_right_4 (thenS s_tall_right_5 (thenS s_tall_right_6 s_tall_right_7)))))))
def F_tall_right : List PyData → List PyData → Option (Wv × List PyData) := runB 2 11 f_tall_right
section
variable {P : Program} {w : World} {K : PySem.W.Frag} {mg : Str → Option Value} {base : Heap} {f : Addr} {fd : FuncData}
theorem dk_tall_right (F : Fun K "_law_tall_right" "_law_tall_right" S_tall_right f fd) {g_take : Addr} {d_take : FuncData} (G_take : FnOk P w K mg base CX0 2 g_take d_take P_take (spB K (F_take 2))) (b_take : Binds K d_take P_take []) (k_take : PySem.W.keepIn K (.ref g_take) = true) (m_take : mg "_law_take" = some (.ref g_take)) {g_with_person : Addr} {d_with_person : FuncData} (G_with_person : FnOk P w K mg base CX0 1 g_with_person d_with_person P_with_person (spA K F_with_person)) (b_with_person : Binds K d_with_person P_with_person []) (k_with_person : PySem.W.keepIn K (.ref g_with_person) = true) (m_with_person : mg "with_person" = some (.ref g_with_person)) {g_codes : Addr} {d_codes : FuncData} (G_codes : FnOk P w K mg base CX0 2 g_codes d_codes P_codes (spA K F_codes)) (b_codes : Binds K d_codes P_codes []) (k_codes : PySem.W.keepIn K (.ref g_codes) = true) (m_codes : mg "codes" = some (.ref g_codes)) {g_without : Addr} {d_without : FuncData} (G_without : FnOk P w K mg base CX0 2 g_without d_without P_without (spA K F_without)) (b_without : Binds K d_without P_without []) (k_without : PySem.W.keepIn K (.ref g_without) = true) (m_without : mg "without" = some (.ref g_without)) {g_runs : Addr} {d_runs : FuncData} (G_runs : FnOk P w K mg base CX0 4 g_runs d_runs P_runs (spA K F_runs)) (b_runs : Binds K d_runs P_runs []) (k_runs : PySem.W.keepIn K (.ref g_runs) = true) (m_runs : mg "runs" = some (.ref g_runs)) {g_wandered : Addr} {d_wandered : FuncData} (G_wandered : FnOk P w K mg base CX0 4 g_wandered d_wandered P_wandered (spB K F_wandered)) (b_wandered : Binds K d_wandered P_wandered []) (k_wandered : PySem.W.keepIn K (.ref g_wandered) = true) (m_wandered : mg "_law_wandered" = some (.ref g_wandered)) {g_leads : Addr} {d_leads : FuncData} (G_leads : FnOk P w K mg base CX0 6 g_leads d_leads P_leads (spA K F_leads)) (b_leads : Binds K d_leads P_leads []) (k_leads : PySem.W.keepIn K (.ref g_leads) = true) (m_leads : mg "leads" = some (.ref g_leads)) (B : Blt mg) : FnOk P w K mg base CX0 7 f fd P_tall_right (spB K F_tall_right) := by
  refine F.ok sc_tall_right (fun vs H Q E h => lenB h) (fun cdv A outer s H vs Q E hr h => ⟨_, (Evl.pss_cut (ps_par (i := 2) (j := 3) rfl sc_tall_right.nd rfl rfl (by decide) rfl rfl (pa_cons (pe_op op_pow pe_int pe_int) (pa_cons (pe_callB (k_sorted (K := K) rfl) rfl B.sorted (by decide +kernel) (pa_cons (pv 1) pa_nil)) pa_nil)) rfl)
      (Evl.pss_cut (ps_set (i := 4) sc_tall_right.nd rfl (by first | exact Or.inl rfl | exact Or.inr rfl) (pe_call G_take (hr.mono (by decide)) rfl m_take k_take b_take .nil pass0 (pa_cons (pv 0) (pa_cons (pe_op op_add (pe_callB (k_len (K := K) rfl) rfl B.len PySem.boot_len (pa_cons (pv 1) pa_nil)) pe_int) pa_nil))))
      (Evl.pss_cut (ps_set (i := 5) sc_tall_right.nd rfl (by first | exact Or.inl rfl | exact Or.inr rfl) (pe_call G_with_person (hr.mono (by decide)) rfl m_with_person k_with_person b_with_person .nil pass0 (pa_cons (pv 1) (pa_cons (pv 4) (pa_cons (pv 2) pa_nil)))))
      (Evl.pss_cut (by first | exact (ps_setLc (i := 6) (own := [("_law_soul", 7)]) (g := (gName 7)) rfl sc_tall_right.nd rfl rfl (sw_true rfl rfl rfl (by decide +kernel)) (k_seq (K := K) rfl (pv 3)) (blkOk_by (own := [("_law_soul", 7)]) (N := ["_law_box_here", "_law_crowd_here", "_law_top", "_law_souls_here", "_law_spot", "_law_wide", "_law_ahead", "_law_soul", "_law_code", "_law_more", "_law_end"]) (sc := defScope S_tall_right) (by decide +kernel)) (fun _ _ _ _ _ => by exact (pg_name (i := 7) sc_tall_right.nd rfl (by first | exact Or.inl rfl | exact Or.inr rfl))) (fun _ _ _ _ _ => pts_nil) (fun _ _ _ _ _ => (pe_callTy call_int1 rfl B.int (by decide +kernel) (pa_cons (pe_cmpR op_ge (k_idx (K := K) rfl (pv 1) (pa_cons (pv 7) pa_nil)) (pv 4) (nomark _)) pa_nil)))) | exact (ps_set (i := 6) sc_tall_right.nd rfl (by first | exact Or.inl rfl | exact Or.inr rfl) (pe_lc (own := [("_law_soul", 7)]) (g := (gName 7)) rfl sc_tall_right.nd (k_seq (K := K) rfl (pv 3)) (blkOk_by (own := [("_law_soul", 7)]) (N := ["_law_box_here", "_law_crowd_here", "_law_top", "_law_souls_here", "_law_spot", "_law_wide", "_law_ahead", "_law_soul", "_law_code", "_law_more", "_law_end"]) (sc := defScope S_tall_right) (by decide +kernel)) (fun _ _ _ _ _ => by exact (pg_name (i := 7) sc_tall_right.nd rfl (by first | exact Or.inl rfl | exact Or.inr rfl))) (fun _ _ _ _ _ => pts_nil) (fun _ _ _ _ _ => (pe_callTy call_int1 rfl B.int (by decide +kernel) (pa_cons (pe_cmpR op_ge (k_idx (K := K) rfl (pv 1) (pa_cons (pv 7) pa_nil)) (pv 4) (nomark _)) pa_nil))))))
      (Evl.pss_cut (ps_if (pt_cmpR (k_neD (K := K) rfl hr.units) (pe_slice (k_cut (K := K) rfl) (pe_call G_codes (hr.mono (by decide)) rfl m_codes k_codes b_codes .nil pass0 (pa_cons (pv 5) pa_nil)) po_none (po_some (pe_un un_neg pe_int))) (pe_callTy (k_tup (K := K) rfl) rfl B.tuple (by decide +kernel) (pa_cons (pe_lc (own := [("_law_code", 8), ("_law_more", 9)]) (g := (gTup K 2 (gCons (gName 8) (gCons (gName 9) gNil)))) rfl sc_tall_right.nd (k_zipB (K := K) rfl rfl B.zip (pa_cons (pe_call G_codes (hr.mono (by decide)) rfl m_codes k_codes b_codes .nil pass0 (pa_cons (pv 1) pa_nil)) (pa_cons (pv 6) pa_nil))) (blkOk_by (own := [("_law_code", 8), ("_law_more", 9)]) (N := ["_law_box_here", "_law_crowd_here", "_law_top", "_law_souls_here", "_law_spot", "_law_wide", "_law_ahead", "_law_soul", "_law_code", "_law_more", "_law_end"]) (sc := defScope S_tall_right) (by decide +kernel)) (fun _ _ _ _ _ => by exact (pg_tup rfl (pgs_cons (pg_name (i := 8) sc_tall_right.nd rfl (by first | exact Or.inl rfl | exact Or.inr rfl)) (pgs_cons (pg_name (i := 9) sc_tall_right.nd rfl (by first | exact Or.inl rfl | exact Or.inr rfl)) pgs_nil)))) (fun _ _ _ _ _ => pts_nil) (fun _ _ _ _ _ => (pe_op op_add (pv 8) (pv 9)))) pa_nil)) (nomark _)) (pss_one (ps_ret pe_bl)) pss_nil)
      (Evl.pss_cut (ps_if (PW.pt (pw_or (pt_cmpR (k_neD (K := K) rfl hr.units) (pe_call G_without (hr.mono (by decide)) rfl m_without k_without b_without .nil pass0 (pa_cons (pv 5) (pa_cons (pv 2) pa_nil))) (pv 1) (nomark _)) (pw_or1 (pt_cmpR (k_neD (K := K) rfl hr.units) (pe_ix (k_ix (K := K) rfl) (pe_call G_runs (hr.mono (by decide)) rfl m_runs k_runs b_runs .nil pass0 (pa_cons (pv 5) pa_nil)) (pe_un un_neg pe_int) (fun _ _ => rfl)) (pe_tupB (pa_cons pe_int (pa_cons pe_int pa_nil))) (nomark _))))) (pss_one (ps_ret pe_bl)) pss_nil)
      (Evl.pss_cut (ps_set (i := 10) sc_tall_right.nd rfl (by first | exact Or.inl rfl | exact Or.inr rfl) (pe_ix (k_ix (K := K) rfl) (pe_call G_wandered (hr.mono (by decide)) rfl m_wandered k_wandered b_wandered .nil pass0 (pa_cons (pv 0) (pa_cons (pv 5) (pa_cons pe_int pa_nil)))) pe_int (fun _ _ => rfl)))
      (pss_one (ps_ret (pe_and (pe_call G_leads (hr.mono (by decide)) rfl m_leads k_leads b_leads .nil pass0 (pa_cons (pv 5) (pa_cons (pv 10) pa_nil))) (pe_and (pe_cmpR op_eq (pe_ix (k_ix (K := K) rfl) (pe_call G_codes (hr.mono (by decide)) rfl m_codes k_codes b_codes .nil pass0 (pa_cons (pv 10) pa_nil)) (pe_un un_neg pe_int) (fun _ _ => rfl)) pe_int (nomark _)) (pe_one (pe_cmpR (k_eqD (K := K) rfl hr.units) (pe_callB (k_sorted (K := K) rfl) rfl B.sorted (by decide +kernel) (pa_cons (pe_call G_without (hr.mono (by decide)) rfl m_without k_without b_without .nil pass0 (pa_cons (pv 10) (pa_cons (pv 2) pa_nil))) pa_nil)) (pv 3) (nomark _)))))))))))))), ?_⟩)
  exact finB (N := N_tall_right) (by unfold f_tall_right s_tall_right_7 s_tall_right_6 s_tall_right_5 s_tall_right_4 s_tall_right_3 s_tall_right_2 s_tall_right_1 s_tall_right_0; exact (OkS.cut (OkS.par (fun _ => ⟨by decide, by decide⟩) (OkE.w (OkE.op ok_pow (OkE.con fun _ => .int _) (OkE.con fun _ => .int _))) (OkE.w (OkE.cb ok_sort (OkA.cons (OkE.var 1) OkA.nil))))
      (OkS.cut (OkS.set (fun _ => by decide) (OkE.w (OkW.e (OkW.callB (OkA.cons (OkE.op ok_add (OkE.cb ok_len (OkA.cons (OkE.var 1) OkA.nil)) (OkE.con fun _ => .int _)) OkA.nil)))))
      (OkS.cut (OkS.set (fun _ => by decide) (OkE.w (OkW.e (OkW.call (OkA.cons (OkE.var 1) (OkA.cons (OkE.var 4) (OkA.cons (OkE.var 2) OkA.nil)))))))
      (OkS.cut (OkS.set (fun _ => by decide) (OkE.w (OkW.e (OkW.lc (vs := [7]) (OkI.seq (OkE.var 3)) (OkG.name 7) (by decide) OkT.yes (OkE.cb ok_int (OkA.cons (OkE.op ok_ge (OkE.ix (OkE.var 1) (OkA.cons (OkE.var 7) OkA.nil)) (OkE.var 4)) OkA.nil))))))
      (OkS.cut (OkS.ife (OkT.test (OkE.op ok_neD (OkE.sl (OkW.e (OkW.call (OkA.cons (OkE.var 5) OkA.nil))) OkP.none (OkP.some (OkE.un ok_neg (OkE.con fun _ => .int _)))) (OkE.cb ok_tuple (OkA.cons (OkW.e (OkW.lc (vs := [8, 9]) (OkI.zipB (OkA.cons (OkW.e (OkW.call (OkA.cons (OkE.var 1) OkA.nil))) (OkA.cons (OkE.var 6) OkA.nil))) (OkG.tup (OkGs.cons (OkG.name 8) (OkGs.cons (OkG.name 9) OkGs.nil))) (by decide) OkT.yes (OkE.op ok_add (OkE.var 8) (OkE.var 9)))) OkA.nil)))) (OkS.ret (OkE.w (OkE.con fun _ => .bl _))) OkS.nil)
      (OkS.cut (OkS.ife (OkT.or (OkT.test (OkE.op ok_neD (OkW.e (OkW.call (OkA.cons (OkE.var 5) (OkA.cons (OkE.var 2) OkA.nil)))) (OkE.var 1))) (OkT.test (OkE.op ok_neD (OkE.op ok_ix (OkW.e (OkW.call (OkA.cons (OkE.var 5) OkA.nil))) (OkE.un ok_neg (OkE.con fun _ => .int _))) (OkE.tup (OkA.cons (OkE.con fun _ => .int _) (OkA.cons (OkE.con fun _ => .int _) OkA.nil)))))) (OkS.ret (OkE.w (OkE.con fun _ => .bl _))) OkS.nil)
      (OkS.cut (OkS.set (fun _ => by decide) (OkE.w (OkE.op ok_ix (OkW.e (OkW.callB (OkA.cons (OkE.var 5) (OkA.cons (OkE.con fun _ => .int _) OkA.nil)))) (OkE.con fun _ => .int _))))
      (OkS.ret (OkE.w (OkE.and (OkW.e (OkW.call (OkA.cons (OkE.var 5) (OkA.cons (OkE.var 10) OkA.nil)))) (OkE.and (OkE.op ok_eq (OkE.op ok_ix (OkW.e (OkW.call (OkA.cons (OkE.var 10) OkA.nil))) (OkE.un ok_neg (OkE.con fun _ => .int _))) (OkE.con fun _ => .int _)) (OkE.op ok_eqD (OkE.cb ok_sort (OkA.cons (OkW.e (OkW.call (OkA.cons (OkE.var 10) (OkA.cons (OkE.var 2) OkA.nil)))) OkA.nil)) (OkE.var 3)))))))))))))) h
end
def s_short_right_0 : M Fl :=
    (setS 2 (pl (cb tupleD (acons (fz (lcW (seqI (get 1)) (gN 3) yesT (op2 addD (get 3) (con (.int 1))) [3])) anil))))
def b_short_right_1 : M Fl :=
    (thenS (setS 5 (pl (fz (callA F_with_person (acons (get 2) (acons (get 4) (acons (con (.int 1)) anil)))))))
    (ifS (orT (tb1 (op2 (eqvD true) (op2 ixD (fz (callA F_runs (acons (get 5) anil))) (con (.int 0))) (tupD (acons (get 4) (acons (get 4) anil))))) (orT (tb1 (op2 (eqvD true) (slD (fz (callA F_runs (acons (get 5) anil))) (poS (con (.int 1))) poN) (fz (callA F_runs (acons (get 2) anil))))) (tb1 (op2 (eqA true) (fz (callA F_count_rows (acons (get 5) anil))) (fz (callA F_count_rows (acons (get 2) anil))))))) (retS (pl (con (.bool false)))) nxt))
def s_short_right_1 : M Fl :=
    (forS (seqI (tupD (acons (con (.int 0)) (acons (cb lenD (acons (get 1) anil)) anil)))) (gN 4) b_short_right_1)
def s_short_right_2 : M Fl :=
    (ifS (tb1 (op2 gtD (cb lenD (acons (get 1) anil)) (con (.int 1)))) (thenS (setS 4 (pl (op2 addD (con (.int 1)) (fz (callB 0 (F_take 2) (acons (op2 subD (cb lenD (acons (get 1) anil)) (con (.int 1))) anil))))))
    (thenS (setS 5 (pl (fz (callA F_with_person (acons (get 2) (acons (get 4) (acons (con (.int 1)) anil)))))))
    (thenS (setS 6 (pl (cb minTD (acons (get 2) anil))))
    (ifS (orT (tb1 (op2 (inD true) (tupD (acons (op2 subD (get 4) (con (.int 1))) (acons (get 4) anil))) (fz (callA F_run_list (acons (get 5) (acons (get 6) anil)))))) (tb1 (op2 ltD (fz (callA F_count_rows (acons (get 5) anil))) (fz (callA F_count_rows (acons (get 2) anil)))))) (retS (pl (con (.bool false)))) nxt)))) nxt)
def s_short_right_3 : M Fl :=
    (retS (pl (con (.bool true))))
def f_short_right : M Fl :=
    (thenS s_short_right_0 (thenS s_short_right_1 (thenS s_short_right_2 s_short_right_3)))
def F_short_right : List PyData → List PyData → Option (Wv × List PyData) := runB 2 7 f_short_right
section
variable {P : Program} {w : World} {K : PySem.W.Frag} {mg : Str → Option Value} {base : Heap} {f : Addr} {fd : FuncData}
theorem dk_short_right (F : Fun K "_law_short_right" "_law_short_right" S_short_right f fd) {g_with_person : Addr} {d_with_person : FuncData} (G_with_person : FnOk P w K mg base CX0 1 g_with_person d_with_person P_with_person (spA K F_with_person)) (b_with_person : Binds K d_with_person P_with_person []) (k_with_person : PySem.W.keepIn K (.ref g_with_person) = true) (m_with_person : mg "with_person" = some (.ref g_with_person)) {g_runs : Addr} {d_runs : FuncData} (G_runs : FnOk P w K mg base CX0 4 g_runs d_runs P_runs (spA K F_runs)) (b_runs : Binds K d_runs P_runs []) (k_runs : PySem.W.keepIn K (.ref g_runs) = true) (m_runs : mg "runs" = some (.ref g_runs)) {g_count_rows : Addr} {d_count_rows : FuncData} (G_count_rows : FnOk P w K mg base CX0 5 g_count_rows d_count_rows P_count_rows (spA K F_count_rows)) (b_count_rows : Binds K d_count_rows P_count_rows []) (k_count_rows : PySem.W.keepIn K (.ref g_count_rows) = true) (m_count_rows : mg "count_rows" = some (.ref g_count_rows)) {g_take : Addr} {d_take : FuncData} (G_take : FnOk P w K mg base CX0 2 g_take d_take P_take (spB K (F_take 2))) (b_take : Binds K d_take P_take []) (k_take : PySem.W.keepIn K (.ref g_take) = true) (m_take : mg "_law_take" = some (.ref g_take)) {g_run_list : Addr} {d_run_list : FuncData} (G_run_list : FnOk P w K mg base CX0 4 g_run_list d_run_list P_run_list (spA K F_run_list)) (b_run_list : Binds K d_run_list P_run_list []) (k_run_list : PySem.W.keepIn K (.ref g_run_list) = true) (m_run_list : mg "run_list" = some (.ref g_run_list)) (B : Blt mg) : FnOk P w K mg base CX0 6 f fd P_short_right (spB K F_short_right) := by
  refine F.ok sc_short_right (fun vs H Q E h => lenB h) (fun cdv A outer s H vs Q E hr h => ⟨_, (Evl.pss_cut (ps_set (i := 2) sc_short_right.nd rfl (by first | exact Or.inl rfl | exact Or.inr rfl) (pe_callTy (k_tup (K := K) rfl) rfl B.tuple (by decide +kernel) (pa_cons (pe_lc (own := [("_law_soul", 3)]) (g := (gName 3)) rfl sc_short_right.nd (k_seq (K := K) rfl (pv 1)) (blkOk_by (own := [("_law_soul", 3)]) (N := ["_law_box_here", "_law_crowd_here", "_law_raised", "_law_soul", "_law_spot", "_law_wide", "_law_low"]) (sc := defScope S_short_right) (by decide +kernel)) (fun _ _ _ _ _ => by exact (pg_name (i := 3) sc_short_right.nd rfl (by first | exact Or.inl rfl | exact Or.inr rfl))) (fun _ _ _ _ _ => pts_nil) (fun _ _ _ _ _ => (pe_op op_add (pv 3) pe_int))) pa_nil)))
      (Evl.pss_cut (ps_for PassesOwn.never rfl (k_seq (K := K) rfl (pe_tupB (pa_cons pe_int (pa_cons (pe_callB (k_len (K := K) rfl) rfl B.len PySem.boot_len (pa_cons (pv 1) pa_nil)) pa_nil)))) (pg_name (i := 4) sc_short_right.nd rfl (by first | exact Or.inl rfl | exact Or.inr rfl))
      (Evl.pss_cut (ps_set (i := 5) sc_short_right.nd rfl (by first | exact Or.inl rfl | exact Or.inr rfl) (pe_call G_with_person (hr.mono (by decide)) rfl m_with_person k_with_person b_with_person .nil pass0 (pa_cons (pv 2) (pa_cons (pv 4) (pa_cons pe_int pa_nil)))))
      (pss_one (ps_if (PW.pt (pw_or (pt_cmpR (k_neD (K := K) rfl hr.units) (pe_ix (k_ix (K := K) rfl) (pe_call G_runs (hr.mono (by decide)) rfl m_runs k_runs b_runs .nil pass0 (pa_cons (pv 5) pa_nil)) pe_int (fun _ _ => rfl)) (pe_tupB (pa_cons (pv 4) (pa_cons (pv 4) pa_nil))) (nomark _)) (pw_or (pt_cmpR (k_neD (K := K) rfl hr.units) (pe_slice (k_cut (K := K) rfl) (pe_call G_runs (hr.mono (by decide)) rfl m_runs k_runs b_runs .nil pass0 (pa_cons (pv 5) pa_nil)) (po_some pe_int) po_none) (pe_call G_runs (hr.mono (by decide)) rfl m_runs k_runs b_runs .nil pass0 (pa_cons (pv 2) pa_nil)) (nomark _)) (pw_or1 (pt_cmpR op_ne (pe_call G_count_rows (hr.mono (by decide)) rfl m_count_rows k_count_rows b_count_rows .nil pass0 (pa_cons (pv 5) pa_nil)) (pe_call G_count_rows (hr.mono (by decide)) rfl m_count_rows k_count_rows b_count_rows .nil pass0 (pa_cons (pv 2) pa_nil)) (nomark _)))))) (pss_one (ps_ret pe_bl)) pss_nil))))
      (Evl.pss_cut (ps_if (pt_cmpR op_gt (pe_callB (k_len (K := K) rfl) rfl B.len PySem.boot_len (pa_cons (pv 1) pa_nil)) pe_int (nomark _)) (Evl.pss_cut (ps_set (i := 4) sc_short_right.nd rfl (by first | exact Or.inl rfl | exact Or.inr rfl) (pe_op op_add pe_int (pe_call G_take (hr.mono (by decide)) rfl m_take k_take b_take .nil pass0 (pa_cons (pv 0) (pa_cons (pe_op op_sub (pe_callB (k_len (K := K) rfl) rfl B.len PySem.boot_len (pa_cons (pv 1) pa_nil)) pe_int) pa_nil)))))
      (Evl.pss_cut (ps_set (i := 5) sc_short_right.nd rfl (by first | exact Or.inl rfl | exact Or.inr rfl) (pe_call G_with_person (hr.mono (by decide)) rfl m_with_person k_with_person b_with_person .nil pass0 (pa_cons (pv 2) (pa_cons (pv 4) (pa_cons pe_int pa_nil)))))
      (Evl.pss_cut (ps_set (i := 6) sc_short_right.nd rfl (by first | exact Or.inl rfl | exact Or.inr rfl) (pe_callB (k_minT (K := K) rfl rfl (units65 hr)) rfl B.min (by decide +kernel) (pa_cons (pv 2) pa_nil)))
      (pss_one (ps_if (PW.pt (pw_or (pt_cmpR (k_notinD (K := K) rfl (units65 hr)) (pe_tupB (pa_cons (pe_op op_sub (pv 4) pe_int) (pa_cons (pv 4) pa_nil))) (pe_call G_run_list (hr.mono (by decide)) rfl m_run_list k_run_list b_run_list .nil pass0 (pa_cons (pv 5) (pa_cons (pv 6) pa_nil))) (by rfl)) (pw_or1 (pt_cmpR op_lt (pe_call G_count_rows (hr.mono (by decide)) rfl m_count_rows k_count_rows b_count_rows .nil pass0 (pa_cons (pv 5) pa_nil)) (pe_call G_count_rows (hr.mono (by decide)) rfl m_count_rows k_count_rows b_count_rows .nil pass0 (pa_cons (pv 2) pa_nil)) (nomark _))))) (pss_one (ps_ret pe_bl)) pss_nil))))) pss_nil)
      (pss_one (ps_ret pe_bl))))), ?_⟩)
  exact finB (N := N_short_right) (by unfold f_short_right s_short_right_3 s_short_right_2 s_short_right_1 b_short_right_1 s_short_right_0; exact (OkS.cut (OkS.set (fun _ => by decide) (OkE.w (OkE.cb ok_tuple (OkA.cons (OkW.e (OkW.lc (vs := [3]) (OkI.seq (OkE.var 1)) (OkG.name 3) (by decide) OkT.yes (OkE.op ok_add (OkE.var 3) (OkE.con fun _ => .int _)))) OkA.nil))))
      (OkS.cut (OkS.for (OkI.seq (OkE.tup (OkA.cons (OkE.con fun _ => .int _) (OkA.cons (OkE.cb ok_len (OkA.cons (OkE.var 1) OkA.nil)) OkA.nil)))) (OkG.name 4) (fun _ => by decide) (OkS.cut (OkS.set (fun _ => by decide) (OkE.w (OkW.e (OkW.call (OkA.cons (OkE.var 2) (OkA.cons (OkE.var 4) (OkA.cons (OkE.con fun _ => .int _) OkA.nil)))))))
      (OkS.ife (OkT.or (OkT.test (OkE.op ok_neD (OkE.op ok_ix (OkW.e (OkW.call (OkA.cons (OkE.var 5) OkA.nil))) (OkE.con fun _ => .int _)) (OkE.tup (OkA.cons (OkE.var 4) (OkA.cons (OkE.var 4) OkA.nil))))) (OkT.or (OkT.test (OkE.op ok_neD (OkE.sl (OkW.e (OkW.call (OkA.cons (OkE.var 5) OkA.nil))) (OkP.some (OkE.con fun _ => .int _)) OkP.none) (OkW.e (OkW.call (OkA.cons (OkE.var 2) OkA.nil))))) (OkT.test (OkE.op ok_ne (OkW.e (OkW.call (OkA.cons (OkE.var 5) OkA.nil))) (OkW.e (OkW.call (OkA.cons (OkE.var 2) OkA.nil))))))) (OkS.ret (OkE.w (OkE.con fun _ => .bl _))) OkS.nil)))
      (OkS.cut (OkS.ife (OkT.test (OkE.op ok_gt (OkE.cb ok_len (OkA.cons (OkE.var 1) OkA.nil)) (OkE.con fun _ => .int _))) (OkS.cut (OkS.set (fun _ => by decide) (OkE.w (OkE.op ok_add (OkE.con fun _ => .int _) (OkW.e (OkW.callB (OkA.cons (OkE.op ok_sub (OkE.cb ok_len (OkA.cons (OkE.var 1) OkA.nil)) (OkE.con fun _ => .int _)) OkA.nil))))))
      (OkS.cut (OkS.set (fun _ => by decide) (OkE.w (OkW.e (OkW.call (OkA.cons (OkE.var 2) (OkA.cons (OkE.var 4) (OkA.cons (OkE.con fun _ => .int _) OkA.nil)))))))
      (OkS.cut (OkS.set (fun _ => by decide) (OkE.w (OkE.cb ok_minT (OkA.cons (OkE.var 2) OkA.nil))))
      (OkS.ife (OkT.or (OkT.test (OkE.op ok_notInD (OkE.tup (OkA.cons (OkE.op ok_sub (OkE.var 4) (OkE.con fun _ => .int _)) (OkA.cons (OkE.var 4) OkA.nil))) (OkW.e (OkW.call (OkA.cons (OkE.var 5) (OkA.cons (OkE.var 6) OkA.nil)))))) (OkT.test (OkE.op ok_lt (OkW.e (OkW.call (OkA.cons (OkE.var 5) OkA.nil))) (OkW.e (OkW.call (OkA.cons (OkE.var 2) OkA.nil)))))) (OkS.ret (OkE.w (OkE.con fun _ => .bl _))) OkS.nil)))) OkS.nil)
      (OkS.ret (OkE.w (OkE.con fun _ => .bl _))))))) h
end
def s_right_0 : M Fl :=
    (setS 1 (pl (cb tupleD (acons (fz (lcW (seqI (fz (callB 0 F_crowd (acons (con (.int 13)) anil)))) (gN 2) yesT (op2 addD (con (.int 1)) (op2 modD (get 2) (op2 subD (op2 powD (con (.int 10)) (con (.int 9))) (con (.int 2))))) [2])) anil))))
def s_right_1 : M Fl :=
    (ifS (tb1 (op2 (eqA true) (op1 lenSetD (get 1)) (cb lenD (acons (get 1) anil)))) (retS (pl (con (.bool true)))) nxt)
def s_right_2 : M Fl :=
    (retS (pl (andV (fz (callB 0 F_tall_right (acons (get 1) anil))) (fz (callB 0 F_short_right (acons (get 1) anil))))))
def f_right : M Fl :=
    (thenS s_right_0 (thenS s_right_1 s_right_2))
def F_right : List PyData → List PyData → Option (Wv × List PyData) := runB 1 3 f_right
section
variable {P : Program} {w : World} {K : PySem.W.Frag} {mg : Str → Option Value} {base : Heap} {f : Addr} {fd : FuncData}
theorem dk_right (F : Fun K "_law_right" "_law_right" S_right f fd) {g_crowd : Addr} {d_crowd : FuncData} (G_crowd : FnOk P w K mg base CX0 5 g_crowd d_crowd P_crowd (spB K F_crowd)) (b_crowd : Binds K d_crowd P_crowd []) (k_crowd : PySem.W.keepIn K (.ref g_crowd) = true) (m_crowd : mg "_law_crowd" = some (.ref g_crowd)) {g_tall_right : Addr} {d_tall_right : FuncData} (G_tall_right : FnOk P w K mg base CX0 7 g_tall_right d_tall_right P_tall_right (spB K F_tall_right)) (b_tall_right : Binds K d_tall_right P_tall_right []) (k_tall_right : PySem.W.keepIn K (.ref g_tall_right) = true) (m_tall_right : mg "_law_tall_right" = some (.ref g_tall_right)) {g_short_right : Addr} {d_short_right : FuncData} (G_short_right : FnOk P w K mg base CX0 6 g_short_right d_short_right P_short_right (spB K F_short_right)) (b_short_right : Binds K d_short_right P_short_right []) (k_short_right : PySem.W.keepIn K (.ref g_short_right) = true) (m_short_right : mg "_law_short_right" = some (.ref g_short_right)) (B : Blt mg) : FnOk P w K mg base CX0 8 f fd P_right (spB K F_right) := by
  refine F.ok sc_right (fun vs H Q E h => lenB h) (fun cdv A outer s H vs Q E hr h => ⟨_, (Evl.pss_cut (ps_set (i := 1) sc_right.nd rfl (by first | exact Or.inl rfl | exact Or.inr rfl) (pe_callTy (k_tup (K := K) rfl) rfl B.tuple (by decide +kernel) (pa_cons (pe_lc (own := [("_law_soul", 2)]) (g := (gName 2)) rfl sc_right.nd (k_seq (K := K) rfl (pe_call G_crowd (hr.mono (by decide)) rfl m_crowd k_crowd b_crowd .nil pass0 (pa_cons (pv 0) (pa_cons pe_int pa_nil)))) (blkOk_by (own := [("_law_soul", 2)]) (N := ["_law_box_here", "_law_crowd_here", "_law_soul"]) (sc := defScope S_right) (by decide +kernel)) (fun _ _ _ _ _ => by exact (pg_name (i := 2) sc_right.nd rfl (by first | exact Or.inl rfl | exact Or.inr rfl))) (fun _ _ _ _ _ => pts_nil) (fun _ _ _ _ _ => (pe_op op_add pe_int (pe_op op_mod (pv 2) (pe_op op_sub (pe_op op_pow pe_int pe_int) pe_int))))) pa_nil)))
      (Evl.pss_cut (ps_if (pt_cmpR op_ne (k_lenSet (K := K) rfl rfl rfl B.len rfl B.set (pv 1)) (pe_callB (k_len (K := K) rfl) rfl B.len PySem.boot_len (pa_cons (pv 1) pa_nil)) (nomark _)) (pss_one (ps_ret pe_bl)) pss_nil)
      (pss_one (ps_ret (pe_and (pe_call G_tall_right (hr.mono (by decide)) rfl m_tall_right k_tall_right b_tall_right .nil pass0 (pa_cons (pv 0) (pa_cons (pv 1) pa_nil))) (pe_one (pe_call G_short_right (hr.mono (by decide)) rfl m_short_right k_short_right b_short_right .nil pass0 (pa_cons (pv 0) (pa_cons (pv 1) pa_nil))))))))), ?_⟩)
  exact finB (N := N_right) (by unfold f_right s_right_2 s_right_1 s_right_0; exact (OkS.cut (OkS.set (fun _ => by decide) (OkE.w (OkE.cb ok_tuple (OkA.cons (OkW.e (OkW.lc (vs := [2]) (OkI.seq (OkW.e (OkW.callB (OkA.cons (OkE.con fun _ => .int _) OkA.nil)))) (OkG.name 2) (by decide) OkT.yes (OkE.op ok_add (OkE.con fun _ => .int _) (OkE.op ok_mod (OkE.var 2) (OkE.op ok_sub (OkE.op ok_pow (OkE.con fun _ => .int _) (OkE.con fun _ => .int _)) (OkE.con fun _ => .int _)))))) OkA.nil))))
      (OkS.cut (OkS.ife (OkT.test (OkE.op ok_ne (OkE.lenSet (OkE.var 1)) (OkE.cb ok_len (OkA.cons (OkE.var 1) OkA.nil)))) (OkS.ret (OkE.w (OkE.con fun _ => .bl _))) OkS.nil)
      (OkS.ret (OkE.w (OkE.and (OkW.e (OkW.callB (OkA.cons (OkE.var 1) OkA.nil))) (OkW.e (OkW.callB (OkA.cons (OkE.var 1) OkA.nil))))))))) h
end
def b_law_0 : M Fl :=
    (thenS (setS 2 (callA F_box (acons (get 0) (acons (get 1) anil))))
    (ifS (notT (tb1 (cb allD (acons (fz (lcW (argI rngD (acons (con (.int 3)) anil)) (gN 3) yesT (fz (callB 2 F_right anil)) [3])) anil)))) (retS (pl (con (.bool false)))) nxt))
def s_law_0 : M Fl :=
    (forS (argI rngD (acons (con (.int 2)) anil)) (gN 1) b_law_0)
def s_law_1 : M Fl :=
    (retS (pl (con (.bool true))))
def f_law : M Fl :=
    (thenS s_law_0 s_law_1)
def F_law : List PyData → Option Wv := runA 1 4 f_law
section
variable {P : Program} {w : World} {K : PySem.W.Frag} {mg : Str → Option Value} {base : Heap} {f : Addr} {fd : FuncData}
theorem dk_law (F : Fun K "law" "law" S_law f fd) {g_box : Addr} {d_box : FuncData} (G_box : FnOk P w K mg base CX0 2 g_box d_box P_box (spA K F_box)) (b_box : Binds K d_box P_box []) (k_box : PySem.W.keepIn K (.ref g_box) = true) (m_box : mg "_law_box" = some (.ref g_box)) {g_right : Addr} {d_right : FuncData} (G_right : FnOk P w K mg base CX0 8 g_right d_right P_right (spB K F_right)) (b_right : Binds K d_right P_right []) (k_right : PySem.W.keepIn K (.ref g_right) = true) (m_right : mg "_law_right" = some (.ref g_right)) (B : Blt mg) : FnG P w K mg base 9 f fd P_law (spA K F_law) := by
  refine Ov.Fun.okG F sc_law (fun vs H Q E h => lenA h) (fun cdv A outer s H vs Q E hG hr h => ⟨_, (Evl.pss_cut (ps_for PassesOwn.never rfl (pi_range1 rfl B.range (pa_cons pe_int pa_nil)) (pg_name (i := 1) sc_law.nd rfl (by first | exact Or.inl rfl | exact Or.inr rfl))
      (Evl.pss_cut (ps_set (i := 2) sc_law.nd rfl (by first | exact Or.inl rfl | exact Or.inr rfl) (pe_call G_box (hr.mono (by decide)) rfl m_box k_box b_box .nil pass0 (pa_cons (pv 0) (pa_cons (pv 1) pa_nil))))
      (pss_one (ps_if (pt_not (pt_val (pe_callB (k_all (K := K) rfl rfl) rfl B.all (by decide +kernel) (pa_cons (pe_lc (own := [("_law_turn", 3)]) (g := (gName 3)) rfl sc_law.nd (pi_range1 rfl B.range (pa_cons pe_int pa_nil)) (blkOk_by (own := [("_law_turn", 3)]) (N := ["_law_script", "_law_k", "_law_box_here", "_law_turn"]) (sc := defScope S_law) (by decide +kernel)) (fun _ _ _ _ _ => by exact (pg_name (i := 3) sc_law.nd rfl (by first | exact Or.inl rfl | exact Or.inr rfl))) (fun _ _ _ _ _ => pts_nil) (fun _ _ _ _ _ => (pe_call G_right (hr.mono (by decide)) rfl m_right k_right b_right .nil pass0 (pa_cons (pv 2) pa_nil)))) pa_nil)))) (pss_one (ps_ret pe_bl)) pss_nil))))
      (pss_one (ps_ret pe_bl))), ?_⟩)
  exact finA (N := N_law) (by unfold f_law s_law_1 s_law_0 b_law_0; exact (OkS.cut (OkS.for (OkI.range1 (OkA.cons (OkE.con fun _ => .int _) OkA.nil)) (OkG.name 1) (fun z => by cases z) (OkS.cut (OkS.set (fun z => by cases z) (OkW.call (OkA.cons (OkE.var 0) (OkA.cons (OkE.var 1) OkA.nil))))
      (OkS.ife (OkT.not (OkT.val (OkE.cb ok_all (OkA.cons (OkW.e (OkW.lc (vs := [3]) (OkI.range1 (OkA.cons (OkE.con fun _ => .int _) OkA.nil)) (OkG.name 3) (by decide) OkT.yes (OkW.e (OkW.callB OkA.nil)))) OkA.nil)))) (OkS.ret (OkE.w (OkE.con fun _ => .bl _))) OkS.nil)))
      (OkS.ret (OkE.w (OkE.con fun _ => .bl _))))) h
end
end Ov
set_option Elab.async false
set_option linter.all false
set_option maxRecDepth 100000
set_option maxHeartbeats 4000000
namespace Ov
open PySem L2
def Bok (n : Int) (bs : List PyData) : Prop := ∃ b0 b1 b2 : Int, bs = [.int b0, .int b1, .int b2] ∧ 0 ≤ b0 ∧ 0 ≤ b1 ∧ b1 < 2 ^ 62 ∧ 0 ≤ b2 ∧ b2 ≤ n
theorem Bok.mono {n m : Int} {bs : List PyData} (h : Bok n bs) (e : n ≤ m) : Bok m bs := by
  obtain ⟨b0, b1, b2, rfl, p0, p1, p1', p2, p2'⟩ := h
  exact ⟨_, _, _, rfl, p0, p1, p1', p2, by omega⟩
theorem pMod_ok {i j : Int} (h : 0 < j) : pMod i j = true := decide_eq_true h
theorem pDiv_ok {i j : Int} (h : 0 < j) (h2 : j < 1073741824) : pDiv i j = true := decide_eq_true ⟨h, h2⟩
theorem pMul_r {i j : Int} (h : -(2 ^ 64) < j) (h2 : j < 2 ^ 64) : pMul i j = true := by
  unfold pMul
  rw [decide_eq_true (p := -(2 ^ 64) < j ∧ j < 2 ^ 64) ⟨h, h2⟩, Bool.or_true]
def tkV (b1 b2 below : Int) : Int := ((((((b1 + 48271 * (b2 + 1)) * (39373 + (b2 + 1))) % 2147483647 + (b2 + 1) + b1 / 1000003) * ((((b1 + 48271 * (b2 + 1)) * (39373 + (b2 + 1))) % 2147483647) % 40009 + 7)) % 2147483629 * 48271 + ((b1 + 48271 * (b2 + 1)) * (39373 + (b2 + 1))) % 2147483647) % 2147483587 / 64) % below
theorem take_small {n : Int} {bs : List PyData} {k : Nat} (h : Bok n bs) (hn : n ≤ 10 ^ 12) {below : Int} (h1 : 1 ≤ below) (h2 : below ≤ 10 ^ 7) : ∃ r bs', F_take (k + 1) bs [.int below] = some (.dat (.int r), bs') ∧ 0 ≤ r ∧ r < below ∧ Bok (n + 1) bs' := by
  obtain ⟨b0, b1, b2, rfl, p0, p1, p1', p2, p2'⟩ := h
  by_cases c0 : 0 < b0
  · refine ⟨b0 % below, [.int (b0 / below), .int b1, .int b2], runB_eq rfl ?_, Int.emod_nonneg _ (by omega), Int.emod_lt_of_pos _ (by omega), _, _, _, rfl, Int.ediv_nonneg p0 (by omega), p1, p1', p2, by omega⟩
    unfold f_take
    simp [env0, v_bind, v_ok, v_none, v_pure, v_lift, v_liftN, v_con, v_get, v_gkd, v_gko, v_gkc, v_vwd, v_vws, v_ok1, v_ownD, v_dctD, v_dk1, v_setOwn, v_putM, v_op2, v_op1, v_anil, v_acons, v_vws0, v_vwsC, v_cb, v_tupD, v_lstD, v_lstW, v_listW, v_dds0, v_ddsC, v_asB, v_tb1, v_andT, v_orT, v_notT, v_andV, v_orV, v_notV, v_ofB, v_ifE, v_pl, v_toW, v_fz, v_ofWd, v_ofWo, v_nxt, v_thenS, v_exprS, v_retS, v_retN, v_ifS, v_setS, v_parS, v_setIx, v_asD, v_asI, v_mthE, v_callA, v_callB, v_forS, v_argI, v_seqI, v_slD, v_poN, v_poS, v_isiE, v_isiE2, v_isNE, v_dnew, v_dinT, v_dputS, v_sortDct, v_rgE, v_rg2, v_unS, v_catW, v_chainE, v_add, v_sub, v_lt, v_le, v_gt, v_ge, v_eqI, v_eqB, v_eqS, v_ixL, v_ixT, v_lenL, v_lenT, v_abs, v_intI, v_intB, v_min, v_max, v_chk, c0, atI, ixN, v_mod, v_div, pMod_ok (show 0 < below by omega), pDiv_ok (show 0 < below by omega) (show below < 1073741824 by omega)]
  · have z : b0 = 0 := by omega
    have c1 : ¬ (10 : Int) ^ 7 < below := by omega
    have hp : pPow 10 7 = true := by decide
    refine ⟨tkV b1 b2 below, [.int 0, .int b1, .int (b2 + 1)], runB_eq rfl ?_, ?_, ?_, _, _, _, rfl, Int.le_refl _, p1, p1', by omega, by omega⟩
    · unfold f_take
      have q1 : pMul 48271 (b2 + 1) = true := by unfold pMul; simp
      have q2 : pMul (b1 + 48271 * (b2 + 1)) (39373 + (b2 + 1)) = true := pMul_r (by omega) (by omega)
      have q3 : ∀ x y : Int, pMul x (y % 40009 + 7) = true := fun x y => pMul_r (by omega) (by omega)
      have q4 : ∀ x : Int, pMul x 48271 = true := fun x => pMul_r (by decide) (by decide)
      have m1 : ∀ x : Int, pMod x 2147483647 = true := fun x => pMod_ok (by decide)
      have m2 : ∀ x : Int, pMod x 2147483629 = true := fun x => pMod_ok (by decide)
      have m3 : ∀ x : Int, pMod x 2147483587 = true := fun x => pMod_ok (by decide)
      have m4 : ∀ x : Int, pMod x 40009 = true := fun x => pMod_ok (by decide)
      have m5 : ∀ x : Int, pMod x below = true := fun x => pMod_ok (by omega)
      have d1 : ∀ x : Int, pDiv x 1000003 = true := fun x => pDiv_ok (by decide) (by decide)
      have d2 : ∀ x : Int, pDiv x 64 = true := fun x => pDiv_ok (by decide) (by decide)
      have c1' : ¬ (10000000 : Int) < below := by omega
      unfold tkV
      simp [env0, v_bind, v_ok, v_none, v_pure, v_lift, v_liftN, v_con, v_get, v_gkd, v_gko, v_gkc, v_vwd, v_vws, v_ok1, v_ownD, v_dctD, v_dk1, v_setOwn, v_putM, v_op2, v_op1, v_anil, v_acons, v_vws0, v_vwsC, v_cb, v_tupD, v_lstD, v_lstW, v_listW, v_dds0, v_ddsC, v_asB, v_tb1, v_andT, v_orT, v_notT, v_andV, v_orV, v_notV, v_ofB, v_ifE, v_pl, v_toW, v_fz, v_ofWd, v_ofWo, v_nxt, v_thenS, v_exprS, v_retS, v_retN, v_ifS, v_setS, v_parS, v_setIx, v_asD, v_asI, v_mthE, v_callA, v_callB, v_forS, v_argI, v_seqI, v_slD, v_poN, v_poS, v_isiE, v_isiE2, v_isNE, v_dnew, v_dinT, v_dputS, v_sortDct, v_rgE, v_rg2, v_unS, v_catW, v_chainE, v_add, v_sub, v_lt, v_le, v_gt, v_ge, v_eqI, v_eqB, v_eqS, v_ixL, v_ixT, v_lenL, v_lenT, v_abs, v_intI, v_intB, v_min, v_max, v_chk, z, c1, c1', atI, ixN, v_mod, v_div, v_mul, v_pow, hp, q1, q2, q3, q4, m1, m2, m3, m4, m5, d1, d2]
    · exact Int.emod_nonneg _ (by omega)
    · exact Int.emod_lt_of_pos _ (by omega)
theorem take_any {n : Int} {bs : List PyData} {k : Nat} (h : Bok n bs) (hn : n ≤ 10 ^ 11) {below : Int} (h1 : 1 ≤ below) (h2 : below < 1073741824) : ∃ r bs', F_take (k + 2) bs [.int below] = some (.dat (.int r), bs') ∧ 0 ≤ r ∧ r < below ∧ Bok (n + 2) bs' := by
  by_cases c : below ≤ 10 ^ 7
  · obtain ⟨r, bs', e, a, b, w⟩ := take_small (k := k + 1) h (by omega) h1 c
    exact ⟨r, bs', e, a, b, w.mono (by omega)⟩
  · by_cases c0 : ∃ b0 r, bs = .int b0 :: r ∧ 0 < b0
    · obtain ⟨b0, b1, b2, rfl, p0, p1, p1', p2, p2'⟩ := h
      obtain ⟨_, _, e, c0⟩ := c0
      cases e
      refine ⟨b0 % below, [.int (b0 / below), .int b1, .int b2], runB_eq rfl ?_, Int.emod_nonneg _ (by omega), Int.emod_lt_of_pos _ (by omega), _, _, _, rfl, Int.ediv_nonneg p0 (by omega), p1, p1', p2, by omega⟩
      unfold f_take
      simp [env0, v_bind, v_ok, v_none, v_pure, v_lift, v_liftN, v_con, v_get, v_gkd, v_gko, v_gkc, v_vwd, v_vws, v_ok1, v_ownD, v_dctD, v_dk1, v_setOwn, v_putM, v_op2, v_op1, v_anil, v_acons, v_vws0, v_vwsC, v_cb, v_tupD, v_lstD, v_lstW, v_listW, v_dds0, v_ddsC, v_asB, v_tb1, v_andT, v_orT, v_notT, v_andV, v_orV, v_notV, v_ofB, v_ifE, v_pl, v_toW, v_fz, v_ofWd, v_ofWo, v_nxt, v_thenS, v_exprS, v_retS, v_retN, v_ifS, v_setS, v_parS, v_setIx, v_asD, v_asI, v_mthE, v_callA, v_callB, v_forS, v_argI, v_seqI, v_slD, v_poN, v_poS, v_isiE, v_isiE2, v_isNE, v_dnew, v_dinT, v_dputS, v_sortDct, v_rgE, v_rg2, v_unS, v_catW, v_chainE, v_add, v_sub, v_lt, v_le, v_gt, v_ge, v_eqI, v_eqB, v_eqS, v_ixL, v_ixT, v_lenL, v_lenT, v_abs, v_intI, v_intB, v_min, v_max, v_chk, c0, atI, ixN, v_mod, v_div, pMod_ok (show 0 < below by omega), pDiv_ok (show 0 < below by omega) (show below < 1073741824 by omega)]
    · have h' := h
      obtain ⟨b0, b1, b2, rfl, p0, p1, p1', p2, p2'⟩ := h
      have z : ¬ 0 < b0 := fun z => c0 ⟨b0, _, rfl, z⟩
      obtain ⟨r1, bs1, e1, a1, w1, k1⟩ := take_small (k := k) h' (by omega) (below := 10 ^ 7) (by decide) (Int.le_refl _)
      obtain ⟨r2, bs2, e2, a2, w2, k2⟩ := take_small (k := k) k1 (by omega) (below := below / 10 ^ 7 + 1) (by omega) (by omega)
      refine ⟨(r1 + 10 ^ 7 * r2) % below, bs2, runB_eq rfl ?_, Int.emod_nonneg _ (by omega), Int.emod_lt_of_pos _ (by omega), k2.mono (by omega)⟩
      unfold f_take
      have hp : pPow 10 7 = true := by decide
      have c1 : (10000000 : Int) < below := by omega
      have e1' : F_take (k + 1) [.int b0, .int b1, .int b2] [.int 10000000] = some (.dat (.int r1), bs1) := e1
      have e2' : F_take (k + 1) bs1 [.int (below / 10000000 + 1)] = some (.dat (.int r2), bs2) := e2
      have m5 : ∀ x : Int, pMod x below = true := fun x => pMod_ok (by omega)
      have d1 : ∀ x : Int, pDiv x 10000000 = true := fun x => pDiv_ok (by decide) (by decide)
      have q1 : ∀ x : Int, pMul 10000000 x = true := fun x => by unfold pMul; simp
      simp [env0, v_bind, v_ok, v_none, v_pure, v_lift, v_liftN, v_con, v_get, v_gkd, v_gko, v_gkc, v_vwd, v_vws, v_ok1, v_ownD, v_dctD, v_dk1, v_setOwn, v_putM, v_op2, v_op1, v_anil, v_acons, v_vws0, v_vwsC, v_cb, v_tupD, v_lstD, v_lstW, v_listW, v_dds0, v_ddsC, v_asB, v_tb1, v_andT, v_orT, v_notT, v_andV, v_orV, v_notV, v_ofB, v_ifE, v_pl, v_toW, v_fz, v_ofWd, v_ofWo, v_nxt, v_thenS, v_exprS, v_retS, v_retN, v_ifS, v_setS, v_parS, v_setIx, v_asD, v_asI, v_mthE, v_callA, v_callB, v_forS, v_argI, v_seqI, v_slD, v_poN, v_poS, v_isiE, v_isiE2, v_isNE, v_dnew, v_dinT, v_dputS, v_sortDct, v_rgE, v_rg2, v_unS, v_catW, v_chainE, v_add, v_sub, v_lt, v_le, v_gt, v_ge, v_eqI, v_eqB, v_eqS, v_ixL, v_ixT, v_lenL, v_lenT, v_abs, v_intI, v_intB, v_min, v_max, v_chk, z, c1, atI, ixN, v_mod, v_div, v_mul, v_pow, hp, e1', e2', m5, d1, q1]
theorem of_ok {n : Int} {bs : List PyData} (h : Bok n bs) (hn : n ≤ 10 ^ 11) {ds : List PyData} (h1 : 1 ≤ ds.length) (h2 : ds.length ≤ 1000) : ∃ d bs', F_of bs [.list ds] = some (.dat d, bs') ∧ d ∈ ds ∧ Bok (n + 1) bs' := by
  obtain ⟨r, bs1, e1, a1, w1, k1⟩ := take_small (k := 1) h (by omega) (below := (ds.length : Int)) (by omega) (by omega)
  have hr : r.toNat < ds.length := by omega
  refine ⟨ds[r.toNat], bs1, runB_eq rfl ?_, List.getElem_mem hr, k1⟩
  unfold f_of
  have ea : atI ds r = some ds[r.toNat] := by
    unfold atI ixN
    rw [if_pos a1, if_pos w1]
    exact List.getElem?_eq_getElem hr
  simp [env0, v_bind, v_ok, v_none, v_pure, v_lift, v_liftN, v_con, v_get, v_gkd, v_gko, v_gkc, v_vwd, v_vws, v_ok1, v_ownD, v_dctD, v_dk1, v_setOwn, v_putM, v_op2, v_op1, v_anil, v_acons, v_vws0, v_vwsC, v_cb, v_tupD, v_lstD, v_lstW, v_listW, v_dds0, v_ddsC, v_asB, v_tb1, v_andT, v_orT, v_notT, v_andV, v_orV, v_notV, v_ofB, v_ifE, v_pl, v_toW, v_fz, v_ofWd, v_ofWo, v_nxt, v_thenS, v_exprS, v_retS, v_retN, v_ifS, v_setS, v_parS, v_setIx, v_asD, v_asI, v_mthE, v_callA, v_callB, v_forS, v_argI, v_seqI, v_slD, v_poN, v_poS, v_isiE, v_isiE2, v_isNE, v_dnew, v_dinT, v_dputS, v_sortDct, v_rgE, v_rg2, v_unS, v_catW, v_chainE, v_add, v_sub, v_lt, v_le, v_gt, v_ge, v_eqI, v_eqB, v_eqS, v_ixL, v_ixT, v_lenL, v_lenT, v_abs, v_intI, v_intB, v_min, v_max, v_chk, e1, ea]
theorem cell_ok {ns : List Int} {k : Int} (hk : 0 ≤ k) : ∃ c, F_cell_at [.list (ns.map .int), .int k] = some (.dat (.int c)) := by
  by_cases c : k < ns.length
  · have hr : k.toNat < ns.length := by omega
    refine ⟨ns[k.toNat], runA_eq rfl ?_⟩
    unfold f_cell_at s_cell_at_0 s_cell_at_1
    have ea : atI (ns.map PyData.int) k = some (.int ns[k.toNat]) := by
      unfold atI ixN
      rw [if_pos hk, List.length_map, if_pos c]
      simp [hr]
    simp [env0, v_bind, v_ok, v_none, v_pure, v_lift, v_liftN, v_con, v_get, v_gkd, v_gko, v_gkc, v_vwd, v_vws, v_ok1, v_ownD, v_dctD, v_dk1, v_setOwn, v_putM, v_op2, v_op1, v_anil, v_acons, v_vws0, v_vwsC, v_cb, v_tupD, v_lstD, v_lstW, v_listW, v_dds0, v_ddsC, v_asB, v_tb1, v_andT, v_orT, v_notT, v_andV, v_orV, v_notV, v_ofB, v_ifE, v_pl, v_toW, v_fz, v_ofWd, v_ofWo, v_nxt, v_thenS, v_exprS, v_retS, v_retN, v_ifS, v_setS, v_parS, v_setIx, v_asD, v_asI, v_mthE, v_callA, v_callB, v_forS, v_argI, v_seqI, v_slD, v_poN, v_poS, v_isiE, v_isiE2, v_isNE, v_dnew, v_dinT, v_dputS, v_sortDct, v_rgE, v_rg2, v_unS, v_catW, v_chainE, v_add, v_sub, v_lt, v_le, v_gt, v_ge, v_eqI, v_eqB, v_eqS, v_ixL, v_ixT, v_lenL, v_lenT, v_abs, v_intI, v_intB, v_min, v_max, v_chk, ea, c]
  · refine ⟨0, runA_eq rfl ?_⟩
    unfold f_cell_at s_cell_at_0 s_cell_at_1
    simp [env0, v_bind, v_ok, v_none, v_pure, v_lift, v_liftN, v_con, v_get, v_gkd, v_gko, v_gkc, v_vwd, v_vws, v_ok1, v_ownD, v_dctD, v_dk1, v_setOwn, v_putM, v_op2, v_op1, v_anil, v_acons, v_vws0, v_vwsC, v_cb, v_tupD, v_lstD, v_lstW, v_listW, v_dds0, v_ddsC, v_asB, v_tb1, v_andT, v_orT, v_notT, v_andV, v_orV, v_notV, v_ofB, v_ifE, v_pl, v_toW, v_fz, v_ofWd, v_ofWo, v_nxt, v_thenS, v_exprS, v_retS, v_retN, v_ifS, v_setS, v_parS, v_setIx, v_asD, v_asI, v_mthE, v_callA, v_callB, v_forS, v_argI, v_seqI, v_slD, v_poN, v_poS, v_isiE, v_isiE2, v_isNE, v_dnew, v_dinT, v_dputS, v_sortDct, v_rgE, v_rg2, v_unS, v_catW, v_chainE, v_add, v_sub, v_lt, v_le, v_gt, v_ge, v_eqI, v_eqB, v_eqS, v_ixL, v_ixT, v_lenL, v_lenT, v_abs, v_intI, v_intB, v_min, v_max, v_chk, c]
theorem box_ok {ns : List Int} {k : Int} (hk : 0 ≤ k) (hk2 : k ≤ 3) : ∃ bs, F_box [.list (ns.map .int), .int k] = some (.own (dats bs)) ∧ Bok 0 bs := by
  obtain ⟨c, hc⟩ := cell_ok (ns := ns) hk
  refine ⟨[.int ((if c < 0 then -c else c) * (if (10 : Int) ^ 18 ≤ (if c < 0 then -c else c) then 1 else 0)), .int (c % 2305843009213693951 + 39373 * k + 29), .int 0], runA_eq rfl ?_, _, _, _, rfl, ?_, ?_, ?_, Int.le_refl _, Int.le_refl _⟩
  · unfold f_box s_box_0 s_box_1
    have q1 : ∀ (x : Int) (b : Prop) [Decidable b], pMul x (if b then 1 else 0) = true := fun x b _ => by
      by_cases z : b
      · rw [if_pos z]; exact pMul_r (by decide) (by decide)
      · rw [if_neg z]; exact pMul_r (by decide) (by decide)
    have q2 : pMul 39373 k = true := pMul_r (by omega) (by omega)
    have hp : pPow 10 18 = true := by decide
    have m1 : ∀ x : Int, pMod x 2305843009213693951 = true := fun x => pMod_ok (by decide)
    simp [env0, v_bind, v_ok, v_none, v_pure, v_lift, v_liftN, v_con, v_get, v_gkd, v_gko, v_gkc, v_vwd, v_vws, v_ok1, v_ownD, v_dctD, v_dk1, v_setOwn, v_putM, v_op2, v_op1, v_anil, v_acons, v_vws0, v_vwsC, v_cb, v_tupD, v_lstD, v_lstW, v_listW, v_dds0, v_ddsC, v_asB, v_tb1, v_andT, v_orT, v_notT, v_andV, v_orV, v_notV, v_ofB, v_ifE, v_pl, v_toW, v_fz, v_ofWd, v_ofWo, v_nxt, v_thenS, v_exprS, v_retS, v_retN, v_ifS, v_setS, v_parS, v_setIx, v_asD, v_asI, v_mthE, v_callA, v_callB, v_forS, v_argI, v_seqI, v_slD, v_poN, v_poS, v_isiE, v_isiE2, v_isNE, v_dnew, v_dinT, v_dputS, v_sortDct, v_rgE, v_rg2, v_unS, v_catW, v_chainE, v_add, v_sub, v_lt, v_le, v_gt, v_ge, v_eqI, v_eqB, v_eqS, v_ixL, v_ixT, v_lenL, v_lenT, v_abs, v_intI, v_intB, v_min, v_max, v_chk, hc, v_mul, q1, q2, v_pow, hp, v_mod, m1, sz]
  · have : (0 : Int) ≤ if c < 0 then -c else c := by split <;> omega
    exact Int.mul_nonneg this (by split <;> omega)
  · omega
  · omega
end Ov
set_option Elab.async false
set_option linter.all false
set_option maxRecDepth 100000
set_option maxHeartbeats 4000000
namespace Ov
open PySem L2
theorem strewn_loop (w1 : Option Wv) (m : Nat) {k : Nat} {n : Int} {bs : List PyData} {l r : List Int} (hb : Bok n bs) (hn : n + m ≤ 10 ^ 10) (hl : l.length = m) (hr : m + r.length ≤ 500) (hk : m < k) :
    ∃ (q : List Int) (bs' : List PyData), whileM (tb1 (op2 (eqvD true) (get 2) (lstD anil))) (exprS (mthE 3 appD (acons (mthE 2 popD (acons (fz (callB 0 (F_take 2) (acons (cb lenD (acons (get 2) anil)) anil))) anil)) anil))) k
      [some (.own (dats bs)), w1, some (.own (dats (l.map .int))), some (.own (dats (r.map .int)))] = some (.ok .nx [some (.own (dats bs')), w1, some (.own (dats [])), some (.own (dats ((r ++ q).map .int)))]) ∧ q.Perm l ∧ Bok (n + m) bs' := by
  induction m generalizing k n bs l r with
  | zero =>
    obtain ⟨k, rfl⟩ : ∃ j, k = j + 1 := ⟨k - 1, by omega⟩
    have : l = [] := List.eq_nil_of_length_eq_zero hl
    subst this
    refine ⟨[], bs, (while_end (e := [some (.own (dats bs)), w1, some (.own (dats [])), some (.own (dats (r.map .int)))]) ?_).trans ?_, List.Perm.refl _, by simpa using hb⟩
    · have := ne_nil []
      simp only [List.map_nil] at this
      simp [v_bind, v_ok, v_none, v_pure, v_lift, v_liftN, v_con, v_get, v_gkd, v_gko, v_gkc, v_vwd, v_vws, v_ok1, v_ownD, v_dctD, v_dk1, v_setOwn, v_putM, v_op2, v_op1, v_anil, v_acons, v_vws0, v_vwsC, v_cb, v_tupD, v_lstD, v_lstW, v_listW, v_dds0, v_ddsC, v_asB, v_tb1, v_andT, v_orT, v_notT, v_andV, v_orV, v_notV, v_ofB, v_ifE, v_pl, v_toW, v_fz, v_ofWd, v_ofWo, v_nxt, v_thenS, v_exprS, v_retS, v_retN, v_ifS, v_setS, v_parS, v_setIx, v_asD, v_asI, v_mthE, v_callA, v_callB, v_forS, v_argI, v_seqI, v_slD, v_poN, v_poS, v_isiE, v_isiE2, v_isNE, v_dnew, v_dinT, v_dputS, v_sortDct, v_rgE, v_rg2, v_unS, v_catW, v_chainE, v_add, v_sub, v_lt, v_le, v_gt, v_ge, v_eqI, v_eqB, v_eqS, v_ixL, v_ixT, v_lenL, v_lenT, v_abs, v_intI, v_intB, v_min, v_max, v_chk, sz, this]
    · simp
  | succ m ih =>
    obtain ⟨k, rfl⟩ : ∃ j, k = j + 1 := ⟨k - 1, by omega⟩
    obtain ⟨x, bs1, e1, a1, b1, k1⟩ := take_small (k := 1) hb (by omega) (below := (l.length : Int)) (by omega) (by omega)
    have hx : x.toNat < l.length := by omega
    have hle : (l.eraseIdx x.toNat).length = m := by rw [List.length_eraseIdx, if_pos hx]; omega
    obtain ⟨q, bs2, e2, p2, k2⟩ := ih (k := k) (l := l.eraseIdx x.toNat) (r := r ++ [l[x.toNat]]) k1 (by omega) hle (by rw [List.length_append]; show m + (r.length + 1) ≤ 500; omega) (by omega)
    refine ⟨l[x.toNat] :: q, bs2, (while_go (e := [some (.own (dats bs)), w1, some (.own (dats (l.map .int))), some (.own (dats (r.map .int)))]) ?_ ?_).trans (e2.trans (by simp)), (p2.cons _).trans (erase_perm l _ _ (List.getElem?_eq_getElem hx)), k2.mono (by omega)⟩
    · have := ne_nil l
      have ne : l.isEmpty = false := by cases l with | nil => simp at hl | cons => rfl
      rw [ne] at this
      simp [v_bind, v_ok, v_none, v_pure, v_lift, v_liftN, v_con, v_get, v_gkd, v_gko, v_gkc, v_vwd, v_vws, v_ok1, v_ownD, v_dctD, v_dk1, v_setOwn, v_putM, v_op2, v_op1, v_anil, v_acons, v_vws0, v_vwsC, v_cb, v_tupD, v_lstD, v_lstW, v_listW, v_dds0, v_ddsC, v_asB, v_tb1, v_andT, v_orT, v_notT, v_andV, v_orV, v_notV, v_ofB, v_ifE, v_pl, v_toW, v_fz, v_ofWd, v_ofWo, v_nxt, v_thenS, v_exprS, v_retS, v_retN, v_ifS, v_setS, v_parS, v_setIx, v_asD, v_asI, v_mthE, v_callA, v_callB, v_forS, v_argI, v_seqI, v_slD, v_poN, v_poS, v_isiE, v_isiE2, v_isNE, v_dnew, v_dinT, v_dputS, v_sortDct, v_rgE, v_rg2, v_unS, v_catW, v_chainE, v_add, v_sub, v_lt, v_le, v_gt, v_ge, v_eqI, v_eqB, v_eqS, v_ixL, v_ixT, v_lenL, v_lenT, v_abs, v_intI, v_intB, v_min, v_max, v_chk, sz, this]
    · have hp : popD (l.map .int) [.int x] = some ((l.eraseIdx x.toNat).map .int, .int l[x.toNat]) := by
        unfold popD
        simp only
        rw [if_pos ⟨a1, by omega⟩, List.getElem?_map, List.getElem?_eq_getElem hx]
        simp [erase_map]
      have ha : appD (r.map PyData.int) [.int l[x.toNat]] = some ((r ++ [l[x.toNat]]).map .int, .none) := by
        rw [v_app _ _ (by rw [List.length_map]; omega)]
        simp
      have e1' : F_take 2 bs [.int ((l.map PyData.int).length : Nat)] = some (.dat (.int x), bs1) := by rw [List.length_map]; exact e1
      simp [v_bind, v_ok, v_none, v_pure, v_lift, v_liftN, v_con, v_get, v_gkd, v_gko, v_gkc, v_vwd, v_vws, v_ok1, v_ownD, v_dctD, v_dk1, v_setOwn, v_putM, v_op2, v_op1, v_anil, v_acons, v_vws0, v_vwsC, v_cb, v_tupD, v_lstD, v_lstW, v_listW, v_dds0, v_ddsC, v_asB, v_tb1, v_andT, v_orT, v_notT, v_andV, v_orV, v_notV, v_ofB, v_ifE, v_pl, v_toW, v_fz, v_ofWd, v_ofWo, v_nxt, v_thenS, v_exprS, v_retS, v_retN, v_ifS, v_setS, v_parS, v_setIx, v_asD, v_asI, v_mthE, v_callA, v_callB, v_forS, v_argI, v_seqI, v_slD, v_poN, v_poS, v_isiE, v_isiE2, v_isNE, v_dnew, v_dinT, v_dputS, v_sortDct, v_rgE, v_rg2, v_unS, v_catW, v_chainE, v_add, v_sub, v_lt, v_le, v_gt, v_ge, v_eqI, v_eqB, v_eqS, v_ixL, v_ixT, v_lenL, v_lenT, v_abs, v_intI, v_intB, v_min, v_max, v_chk, e1, hp, ha]
theorem strewn_ok {n : Int} {bs : List PyData} (h : Bok n bs) (hn : n ≤ 10 ^ 9) {ns : List Int} {d : PyData} (hd : d = .list (ns.map .int) ∨ d = .tuple (ns.map .int)) (h2 : ns.length ≤ 90) : ∃ (ms : List Int) (bs' : List PyData), F_strewn bs [d] = some (.own (dats (ms.map .int)), bs') ∧ ms.Perm ns ∧ Bok (n + 90) bs' := by
  obtain ⟨q, bs', e, p, k⟩ := strewn_loop (some (.dat d)) ns.length (k := 100) (l := ns) (r := []) h (by omega) rfl (by simp; omega) (by omega)
  refine ⟨q, bs', runB_eq rfl ?_, p, k.mono (by omega)⟩
  unfold f_strewn s_strewn_0 s_strewn_1 s_strewn_2
  have e' : whileM (tb1 (op2 (eqvD true) (get 2) (lstD anil))) (exprS (mthE 3 appD (acons (mthE 2 popD (acons (fz (callB 0 (F_take 2) (acons (cb lenD (acons (get 2) anil)) anil))) anil)) anil))) 100 [some (.own (dats bs)), some (.dat d), some (.own (dats (ns.map .int))), some (.own (dats []))] = some (.ok .nx [some (.own (dats bs')), some (.dat d), some (.own (dats [])), some (.own (dats (q.map .int)))]) := by simpa using e
  rcases hd with rfl | rfl
  · simp [env0, v_bind, v_ok, v_none, v_pure, v_lift, v_liftN, v_con, v_get, v_gkd, v_gko, v_gkc, v_vwd, v_vws, v_ok1, v_ownD, v_dctD, v_dk1, v_setOwn, v_putM, v_op2, v_op1, v_anil, v_acons, v_vws0, v_vwsC, v_cb, v_tupD, v_lstD, v_lstW, v_listW, v_dds0, v_ddsC, v_asB, v_tb1, v_andT, v_orT, v_notT, v_andV, v_orV, v_notV, v_ofB, v_ifE, v_pl, v_toW, v_fz, v_ofWd, v_ofWo, v_nxt, v_thenS, v_exprS, v_retS, v_retN, v_ifS, v_setS, v_parS, v_setIx, v_asD, v_asI, v_mthE, v_callA, v_callB, v_forS, v_argI, v_seqI, v_slD, v_poN, v_poS, v_isiE, v_isiE2, v_isNE, v_dnew, v_dinT, v_dputS, v_sortDct, v_rgE, v_rg2, v_unS, v_catW, v_chainE, v_add, v_sub, v_lt, v_le, v_gt, v_ge, v_eqI, v_eqB, v_eqS, v_ixL, v_ixT, v_lenL, v_lenT, v_abs, v_intI, v_intB, v_min, v_max, v_chk, seqD, sz, e', moveS]
  · simp [env0, v_bind, v_ok, v_none, v_pure, v_lift, v_liftN, v_con, v_get, v_gkd, v_gko, v_gkc, v_vwd, v_vws, v_ok1, v_ownD, v_dctD, v_dk1, v_setOwn, v_putM, v_op2, v_op1, v_anil, v_acons, v_vws0, v_vwsC, v_cb, v_tupD, v_lstD, v_lstW, v_listW, v_dds0, v_ddsC, v_asB, v_tb1, v_andT, v_orT, v_notT, v_andV, v_orV, v_notV, v_ofB, v_ifE, v_pl, v_toW, v_fz, v_ofWd, v_ofWo, v_nxt, v_thenS, v_exprS, v_retS, v_retN, v_ifS, v_setS, v_parS, v_setIx, v_asD, v_asI, v_mthE, v_callA, v_callB, v_forS, v_argI, v_seqI, v_slD, v_poN, v_poS, v_isiE, v_isiE2, v_isNE, v_dnew, v_dinT, v_dputS, v_sortDct, v_rgE, v_rg2, v_unS, v_catW, v_chainE, v_add, v_sub, v_lt, v_le, v_gt, v_ge, v_eqI, v_eqB, v_eqS, v_ixL, v_ixT, v_lenL, v_lenT, v_abs, v_intI, v_intB, v_min, v_max, v_chk, seqD, sz, e', moveS]
theorem souls_while {w0 w1 : Option Wv} {ks : List Int} {top c M : Int} (hM : M = if c > top then c else top) (h0 : 0 < M) (m : Nat) {k : Nat} {a : Int} {w4 : Option Wv} (h1 : (a + m) % M + 1 ∉ ks) (h2 : ∀ j : Nat, j < m → (a + j) % M + 1 ∈ ks) (hk : m < k) :
    whileM (dinT false 2 (get 5)) (setS 5 (pl (op2 addD (op2 modD (get 5) (cb maxD (acons (get 3) (acons (get 1) anil)))) (con (.int 1))))) k
      [w0, some (.dat (.int c)), some (.dct ks), some (.dat (.int top)), w4, some (.dat (.int (a % M + 1)))] = some (.ok .nx [w0, some (.dat (.int c)), some (.dct ks), some (.dat (.int top)), w4, some (.dat (.int ((a + m) % M + 1)))]) := by
  induction m generalizing k a with
  | zero =>
    obtain ⟨k, rfl⟩ : ∃ j, k = j + 1 := ⟨k - 1, by omega⟩
    refine (while_end (e := [w0, some (.dat (.int c)), some (.dct ks), some (.dat (.int top)), w4, some (.dat (.int (a % M + 1)))]) ?_).trans (by simp)
    have : a % M + 1 ∉ ks := by simpa using h1
    simp [v_bind, v_ok, v_none, v_pure, v_lift, v_liftN, v_con, v_get, v_gkd, v_gko, v_gkc, v_vwd, v_vws, v_ok1, v_ownD, v_dctD, v_dk1, v_setOwn, v_putM, v_op2, v_op1, v_anil, v_acons, v_vws0, v_vwsC, v_cb, v_tupD, v_lstD, v_lstW, v_listW, v_dds0, v_ddsC, v_asB, v_tb1, v_andT, v_orT, v_notT, v_andV, v_orV, v_notV, v_ofB, v_ifE, v_pl, v_toW, v_fz, v_ofWd, v_ofWo, v_nxt, v_thenS, v_exprS, v_retS, v_retN, v_ifS, v_setS, v_parS, v_setIx, v_asD, v_asI, v_mthE, v_callA, v_callB, v_forS, v_argI, v_seqI, v_slD, v_poN, v_poS, v_isiE, v_isiE2, v_isNE, v_dnew, v_dinT, v_dputS, v_sortDct, v_rgE, v_rg2, v_unS, v_catW, v_chainE, v_add, v_sub, v_lt, v_le, v_gt, v_ge, v_eqI, v_eqB, v_eqS, v_ixL, v_ixT, v_lenL, v_lenT, v_abs, v_intI, v_intB, v_min, v_max, v_chk, this]
  | succ m ih0 =>
    obtain ⟨k, rfl⟩ : ∃ j, k = j + 1 := ⟨k - 1, by omega⟩
    have ih := ih0 (k := k) (a := a + 1) (by rw [show a + 1 + (m : Int) = a + ((m + 1 : Nat) : Int) by omega]; exact h1) (fun j hj => by rw [show a + 1 + (j : Int) = a + ((j + 1 : Nat) : Int) by omega]; exact h2 (j + 1) (by omega)) (by omega)
    refine (while_go (e := [w0, some (.dat (.int c)), some (.dct ks), some (.dat (.int top)), w4, some (.dat (.int (a % M + 1)))]) ?_ ?_).trans (ih.trans (by rw [show a + 1 + (m : Int) = a + ((m + 1 : Nat) : Int) by omega]))
    · have : a % M + 1 ∈ ks := by simpa using h2 0 (by omega)
      simp [v_bind, v_ok, v_none, v_pure, v_lift, v_liftN, v_con, v_get, v_gkd, v_gko, v_gkc, v_vwd, v_vws, v_ok1, v_ownD, v_dctD, v_dk1, v_setOwn, v_putM, v_op2, v_op1, v_anil, v_acons, v_vws0, v_vwsC, v_cb, v_tupD, v_lstD, v_lstW, v_listW, v_dds0, v_ddsC, v_asB, v_tb1, v_andT, v_orT, v_notT, v_andV, v_orV, v_notV, v_ofB, v_ifE, v_pl, v_toW, v_fz, v_ofWd, v_ofWo, v_nxt, v_thenS, v_exprS, v_retS, v_retN, v_ifS, v_setS, v_parS, v_setIx, v_asD, v_asI, v_mthE, v_callA, v_callB, v_forS, v_argI, v_seqI, v_slD, v_poN, v_poS, v_isiE, v_isiE2, v_isNE, v_dnew, v_dinT, v_dputS, v_sortDct, v_rgE, v_rg2, v_unS, v_catW, v_chainE, v_add, v_sub, v_lt, v_le, v_gt, v_ge, v_eqI, v_eqB, v_eqS, v_ixL, v_ixT, v_lenL, v_lenT, v_abs, v_intI, v_intB, v_min, v_max, v_chk, this]
    · have e1 : pMod (a % M + 1) (if c > top then c else top) = true := by rw [← hM]; exact pMod_ok h0
      have e2 : (a % M + 1) % (if c > top then c else top) + 1 = (a + 1) % M + 1 := by rw [← hM]; exact step_mod h0
      simp only [gt_iff_lt] at e1 e2
      simp [v_bind, v_ok, v_none, v_pure, v_lift, v_liftN, v_con, v_get, v_gkd, v_gko, v_gkc, v_vwd, v_vws, v_ok1, v_ownD, v_dctD, v_dk1, v_setOwn, v_putM, v_op2, v_op1, v_anil, v_acons, v_vws0, v_vwsC, v_cb, v_tupD, v_lstD, v_lstW, v_listW, v_dds0, v_ddsC, v_asB, v_tb1, v_andT, v_orT, v_notT, v_andV, v_orV, v_notV, v_ofB, v_ifE, v_pl, v_toW, v_fz, v_ofWd, v_ofWo, v_nxt, v_thenS, v_exprS, v_retS, v_retN, v_ifS, v_setS, v_parS, v_setIx, v_asD, v_asI, v_mthE, v_callA, v_callB, v_forS, v_argI, v_seqI, v_slD, v_poN, v_poS, v_isiE, v_isiE2, v_isNE, v_dnew, v_dinT, v_dputS, v_sortDct, v_rgE, v_rg2, v_unS, v_catW, v_chainE, v_add, v_sub, v_lt, v_le, v_gt, v_ge, v_eqI, v_eqB, v_eqS, v_ixL, v_ixT, v_lenL, v_lenT, v_abs, v_intI, v_intB, v_min, v_max, v_chk, v_mod, e1, e2]
theorem souls_for {c top M : Int} (hM : M = if c > top then c else top) (ht : 0 ≤ top) (ht2 : top ≤ 10 ^ 9) (hc : c ≤ 16) (h0 : 0 ≤ c) (l : List Int) {n : Int} {bs : List PyData} {ks : List Int} {w4 w5 : Option Wv} (hb : Bok n bs) (hn : n + 2 * l.length ≤ 10 ^ 10) (hl : ks.length + l.length = c.toNat) (nd : ks.Nodup) (hk : ∀ x ∈ ks, 1 ≤ x ∧ x ≤ M) :
    ∃ (ks' : List Int) (bs' : List PyData) (u4 u5 : Option Wv), forM (gN 4) (thenS (setS 5 (pl (op2 addD (con (.int 1)) (fz (callB 0 (F_take 2) (acons (cb maxD (acons (con (.int 1)) (acons (get 3) anil))) anil)))))) (thenS (whileM (dinT false 2 (get 5)) (setS 5 (pl (op2 addD (op2 modD (get 5) (cb maxD (acons (get 3) (acons (get 1) anil)))) (con (.int 1))))) 100) (dputS 2 (get 5)))) (l.map .int)
      [some (.own (dats bs)), some (.dat (.int c)), some (.dct ks), some (.dat (.int top)), w4, w5] = some (.ok .nx [some (.own (dats bs')), some (.dat (.int c)), some (.dct ks'), some (.dat (.int top)), u4, u5]) ∧ ks'.Nodup ∧ (∀ x ∈ ks', 1 ≤ x ∧ x ≤ M) ∧ ks'.length = c.toNat ∧ Bok (n + 2 * l.length) bs' := by
  induction l generalizing n bs ks w4 w5 with
  | nil => exact ⟨ks, bs, w4, w5, rfl, nd, hk, by simpa using hl, by simpa using hb⟩
  | cons x l ih =>
    rw [List.length_cons] at hl hn
    have hm1 : (1 : Int) ≤ (if top > 1 then top else 1) := by split <;> omega
    have hm2 : (if top > 1 then top else 1) ≤ (10 : Int) ^ 9 := by split <;> omega
    obtain ⟨r, bs1, e1, a1, b1, k1⟩ := take_any (k := 0) hb (by omega) (below := if top > 1 then top else 1) hm1 (by omega)
    have hM0 : 0 < M := by rw [hM]; split <;> omega
    have hMr : 1 + r ≤ M := by
      have : (if top > 1 then top else 1) ≤ M := by rw [hM]; split <;> split <;> omega
      omega
    have hkl : (ks.length : Int) < M := by
      have : c ≤ M := by rw [hM]; split <;> omega
      omega
    obtain ⟨m, hm, f1, f2⟩ := free_first ks r M hkl
    have hr0 : r % M = r := Int.emod_eq_of_lt a1 (by omega)
    have wl := souls_while (w0 := some (.own (dats bs1))) (w1 := none) (ks := ks) (top := top) (c := c) hM hM0 m (k := 100) (a := r) (w4 := some (.dat (.int x))) f1 f2 (by omega)
    rw [hr0] at wl
    have hv1 : 1 ≤ (r + m) % M + 1 := by have := Int.emod_nonneg (r + (m : Int)) (show M ≠ 0 by omega); omega
    have hv2 : (r + m) % M + 1 ≤ M := by have := Int.emod_lt_of_pos (r + (m : Int)) hM0; omega
    obtain ⟨ks', bs2, u4, u5, e2, n2, q2, l2, k2⟩ := ih (n := n + 2) (bs := bs1) (ks := ks ++ [(r + m) % M + 1]) (w4 := some (.dat (.int x))) (w5 := some (.dat (.int ((r + m) % M + 1)))) k1 (by omega) (by rw [List.length_append]; show ks.length + 1 + l.length = _; omega)
      (List.nodup_append.mpr ⟨nd, by simp, fun y hy z hz => by rw [List.mem_singleton.mp hz]; exact fun e => f1 (e ▸ hy)⟩) (fun y hy => (List.mem_append.mp hy).elim (hk y) fun z => by rw [List.mem_singleton.mp z]; exact ⟨hv1, hv2⟩)
    refine ⟨ks', bs2, u4, u5, (for_go (e := [some (.own (dats bs)), some (.dat (.int c)), some (.dct ks), some (.dat (.int top)), some (.dat (.int x)), w5]) rfl ?_).trans e2, n2, q2, l2, k2.mono (by rw [List.length_cons]; omega)⟩
    rw [Int.add_comm r 1] at wl
    have pt : putT ks ((r + m) % M + 1) = ks ++ [(r + m) % M + 1] := if_neg f1
    have hlen : decide (ks.length < 1000) = true := decide_eq_true (by omega)
    simp only [gt_iff_lt] at e1
    simp [v_bind, v_ok, v_none, v_pure, v_lift, v_liftN, v_con, v_get, v_gkd, v_gko, v_gkc, v_vwd, v_vws, v_ok1, v_ownD, v_dctD, v_dk1, v_setOwn, v_putM, v_op2, v_op1, v_anil, v_acons, v_vws0, v_vwsC, v_cb, v_tupD, v_lstD, v_lstW, v_listW, v_dds0, v_ddsC, v_asB, v_tb1, v_andT, v_orT, v_notT, v_andV, v_orV, v_notV, v_ofB, v_ifE, v_pl, v_toW, v_fz, v_ofWd, v_ofWo, v_nxt, v_thenS, v_exprS, v_retS, v_retN, v_ifS, v_setS, v_parS, v_setIx, v_asD, v_asI, v_mthE, v_callA, v_callB, v_forS, v_argI, v_seqI, v_slD, v_poN, v_poS, v_isiE, v_isiE2, v_isNE, v_dnew, v_dinT, v_dputS, v_sortDct, v_rgE, v_rg2, v_unS, v_catW, v_chainE, v_add, v_sub, v_lt, v_le, v_gt, v_ge, v_eqI, v_eqB, v_eqS, v_ixL, v_ixT, v_lenL, v_lenT, v_abs, v_intI, v_intB, v_min, v_max, v_chk, e1, wl, pt, hlen]
theorem souls_ok {n : Int} {bs : List PyData} (h : Bok n bs) (hn : n ≤ 10 ^ 9) {c : Int} (h0 : 0 ≤ c) (h1 : c ≤ 16) : ∃ (ms : List Int) (bs' : List PyData), F_souls bs [.int c] = some (.dat (.list (ms.map .int)), bs') ∧ ms.Nodup ∧ ms.Pairwise (· ≤ ·) ∧ (∀ x ∈ ms, 1 ≤ x ∧ x ≤ 10 ^ 9) ∧ ms.length = c.toNat ∧ Bok (n + 40) bs' := by
  obtain ⟨d, bs1, e1, md, k1⟩ := of_ok h (by omega) (ds := [.int c, .int (3 * c + 1), .int (10 ^ 9)]) (by simp) (by simp)
  obtain ⟨top, rfl, t0, t1⟩ : ∃ top : Int, d = .int top ∧ 0 ≤ top ∧ top ≤ 10 ^ 9 := by
    simp only [List.mem_cons, List.not_mem_nil, or_false] at md
    rcases md with rfl | rfl | rfl
    · exact ⟨_, rfl, by omega, by omega⟩
    · exact ⟨_, rfl, by omega, by omega⟩
    · exact ⟨_, rfl, by decide, by decide⟩
  have hrl : (rngL 0 c).length = c.toNat := by simp [rngL]
  obtain ⟨ks, bs2, u4, u5, e2, nd, q, l2, k2⟩ := souls_for (c := c) (top := top) rfl t0 t1 h1 h0 (rngL 0 c) (n := n + 1) (bs := bs1) (ks := []) (w4 := none) (w5 := none) k1 (by rw [hrl]; omega) (by rw [hrl]; simp) List.nodup_nil (fun x hx => by cases hx)
  rw [hrl] at k2
  refine ⟨sortI ks, bs2, runB_eq rfl ?_, (sortI_perm ks).nodup_iff.mpr nd, sortI_pw ks, fun x hx => ?_, (sortI_perm ks).length_eq.trans l2, k2.mono (by omega)⟩
  · unfold f_souls s_souls_0 s_souls_1 s_souls_2 b_souls_1
    have q1 : pMul 3 c = true := pMul_r (by omega) (by omega)
    have hp : pPow 10 9 = true := by decide
    have e1' : F_of bs [.list [.int c, .int (3 * c + 1), .int 1000000000]] = some (.dat (.int top), bs1) := e1
    have rg : rngD [.int c] = some ((rngL 0 c).map .int) := if_pos ⟨by omega, by omega⟩
    have h64 : decide (ks.length < 64) = true := decide_eq_true (by omega)
    simp [env0, v_bind, v_ok, v_none, v_pure, v_lift, v_liftN, v_con, v_get, v_gkd, v_gko, v_gkc, v_vwd, v_vws, v_ok1, v_ownD, v_dctD, v_dk1, v_setOwn, v_putM, v_op2, v_op1, v_anil, v_acons, v_vws0, v_vwsC, v_cb, v_tupD, v_lstD, v_lstW, v_listW, v_dds0, v_ddsC, v_asB, v_tb1, v_andT, v_orT, v_notT, v_andV, v_orV, v_notV, v_ofB, v_ifE, v_pl, v_toW, v_fz, v_ofWd, v_ofWo, v_nxt, v_thenS, v_exprS, v_retS, v_retN, v_ifS, v_setS, v_parS, v_setIx, v_asD, v_asI, v_mthE, v_callA, v_callB, v_forS, v_argI, v_seqI, v_slD, v_poN, v_poS, v_isiE, v_isiE2, v_isNE, v_dnew, v_dinT, v_dputS, v_sortDct, v_rgE, v_rg2, v_unS, v_catW, v_chainE, v_add, v_sub, v_lt, v_le, v_gt, v_ge, v_eqI, v_eqB, v_eqS, v_ixL, v_ixT, v_lenL, v_lenT, v_abs, v_intI, v_intB, v_min, v_max, v_chk, v_mul, q1, v_pow, hp, sz, e1', rg, e2, h64]
  · have hx' := q x ((sortI_perm ks).mem_iff.mp hx)
    refine ⟨hx'.1, Int.le_trans hx'.2 ?_⟩
    split <;> omega
theorem ins_perm {l : List Int} {x : Int} (i : Nat) : (l.take i ++ [x] ++ l.drop i).Perm (x :: l) := by
  have h : (l.take i ++ [x] ++ l.drop i).Perm ([x] ++ (l.take i ++ l.drop i)) := by
    rw [List.append_assoc]
    exact List.perm_append_comm_assoc _ _ _
  rw [List.take_append_drop] at h
  exact h
theorem crowd_for {w1 w2 : Option Wv} (l : List Int) {n : Int} {bs : List PyData} {r : List Int} {w4 : Option Wv} (hb : Bok n bs) (hn : n + 2 * l.length ≤ 10 ^ 10) (hl : r.length + l.length ≤ 500) :
    ∃ (q : List Int) (bs' : List PyData) (u4 : Option Wv), forM (gN 4) (exprS (mthE 3 insD (acons (ifE (tb1 (op2 gtD (fz (callB 0 (F_take 2) (acons (con (.int 3)) anil))) (con (.int 0)))) (op2 divD (cb lenD (acons (get 3) anil)) (con (.int 2))) (fz (callB 0 (F_take 2) (acons (op2 addD (cb lenD (acons (get 3) anil)) (con (.int 1))) anil)))) (acons (get 4) anil)))) (l.map .int)
      [some (.own (dats bs)), w1, w2, some (.own (dats (r.map .int))), w4] = some (.ok .nx [some (.own (dats bs')), w1, w2, some (.own (dats (q.map .int))), u4]) ∧ q.Perm (r ++ l) ∧ Bok (n + 2 * l.length) bs' := by
  induction l generalizing n bs r w4 with
  | nil => exact ⟨r, bs, w4, rfl, by simp, by simpa using hb⟩
  | cons x l ih =>
    rw [List.length_cons] at hl hn
    obtain ⟨y, bs1, e1, a1, b1, k1⟩ := take_small (k := 1) hb (by omega) (below := 3) (by decide) (by decide)
    obtain ⟨i, bs2, hi0, hi1, k2, ev⟩ : ∃ (i : Int) (bs2 : List PyData), 0 ≤ i ∧ i ≤ r.length ∧ Bok (n + 2) bs2 ∧ ifE (tb1 (op2 gtD (fz (callB 0 (F_take 2) (acons (con (.int 3)) anil))) (con (.int 0)))) (op2 divD (cb lenD (acons (get 3) anil)) (con (.int 2))) (fz (callB 0 (F_take 2) (acons (op2 addD (cb lenD (acons (get 3) anil)) (con (.int 1))) anil)))
        [some (.own (dats bs)), w1, w2, some (.own (dats (r.map .int))), some (.dat (.int x))] = some (.ok (.dat (.int i)) [some (.own (dats bs2)), w1, w2, some (.own (dats (r.map .int))), some (.dat (.int x))]) := by
      by_cases z : 0 < y
      · refine ⟨(r.length : Int) / 2, bs1, by omega, by omega, k1.mono (by omega), ?_⟩
        have d1 : pDiv (r.length : Int) 2 = true := pDiv_ok (by decide) (by decide)
        simp [v_bind, v_ok, v_none, v_pure, v_lift, v_liftN, v_con, v_get, v_gkd, v_gko, v_gkc, v_vwd, v_vws, v_ok1, v_ownD, v_dctD, v_dk1, v_setOwn, v_putM, v_op2, v_op1, v_anil, v_acons, v_vws0, v_vwsC, v_cb, v_tupD, v_lstD, v_lstW, v_listW, v_dds0, v_ddsC, v_asB, v_tb1, v_andT, v_orT, v_notT, v_andV, v_orV, v_notV, v_ofB, v_ifE, v_pl, v_toW, v_fz, v_ofWd, v_ofWo, v_nxt, v_thenS, v_exprS, v_retS, v_retN, v_ifS, v_setS, v_parS, v_setIx, v_asD, v_asI, v_mthE, v_callA, v_callB, v_forS, v_argI, v_seqI, v_slD, v_poN, v_poS, v_isiE, v_isiE2, v_isNE, v_dnew, v_dinT, v_dputS, v_sortDct, v_rgE, v_rg2, v_unS, v_catW, v_chainE, v_add, v_sub, v_lt, v_le, v_gt, v_ge, v_eqI, v_eqB, v_eqS, v_ixL, v_ixT, v_lenL, v_lenT, v_abs, v_intI, v_intB, v_min, v_max, v_chk, e1, z, v_div, d1]
      · obtain ⟨i, bs2, e2, a2, b2, k2⟩ := take_small (k := 1) k1 (by omega) (below := (r.length : Int) + 1) (by omega) (by omega)
        refine ⟨i, bs2, a2, by omega, k2.mono (by omega), ?_⟩
        simp [v_bind, v_ok, v_none, v_pure, v_lift, v_liftN, v_con, v_get, v_gkd, v_gko, v_gkc, v_vwd, v_vws, v_ok1, v_ownD, v_dctD, v_dk1, v_setOwn, v_putM, v_op2, v_op1, v_anil, v_acons, v_vws0, v_vwsC, v_cb, v_tupD, v_lstD, v_lstW, v_listW, v_dds0, v_ddsC, v_asB, v_tb1, v_andT, v_orT, v_notT, v_andV, v_orV, v_notV, v_ofB, v_ifE, v_pl, v_toW, v_fz, v_ofWd, v_ofWo, v_nxt, v_thenS, v_exprS, v_retS, v_retN, v_ifS, v_setS, v_parS, v_setIx, v_asD, v_asI, v_mthE, v_callA, v_callB, v_forS, v_argI, v_seqI, v_slD, v_poN, v_poS, v_isiE, v_isiE2, v_isNE, v_dnew, v_dinT, v_dputS, v_sortDct, v_rgE, v_rg2, v_unS, v_catW, v_chainE, v_add, v_sub, v_lt, v_le, v_gt, v_ge, v_eqI, v_eqB, v_eqS, v_ixL, v_ixT, v_lenL, v_lenT, v_abs, v_intI, v_intB, v_min, v_max, v_chk, e1, z, e2]
    have hin : insD (r.map .int) [.int i, .int x] = some ((r.take i.toNat ++ [x] ++ r.drop i.toNat).map .int, .none) := by
      unfold insD
      simp only
      rw [if_pos ⟨hi0, by omega⟩, v_sz _ (by rw [List.length_map]; omega)]
      simp
    obtain ⟨q, bs3, u4, e3, p3, k3⟩ := ih (n := n + 2) (bs := bs2) (r := r.take i.toNat ++ [x] ++ r.drop i.toNat) (w4 := some (.dat (.int x))) k2 (by omega) (by rw [(ins_perm _).length_eq, List.length_cons]; omega)
    refine ⟨q, bs3, u4, (for_go (e := [some (.own (dats bs)), w1, w2, some (.own (dats (r.map .int))), some (.dat (.int x))]) rfl ?_).trans e3, ?_, k3.mono (by rw [List.length_cons]; omega)⟩
    · simp [v_bind, v_ok, v_none, v_pure, v_lift, v_liftN, v_con, v_get, v_gkd, v_gko, v_gkc, v_vwd, v_vws, v_ok1, v_ownD, v_dctD, v_dk1, v_setOwn, v_putM, v_op2, v_op1, v_anil, v_acons, v_vws0, v_vwsC, v_cb, v_tupD, v_lstD, v_lstW, v_listW, v_dds0, v_ddsC, v_asB, v_tb1, v_andT, v_orT, v_notT, v_andV, v_orV, v_notV, v_ofB, v_pl, v_toW, v_fz, v_ofWd, v_ofWo, v_nxt, v_thenS, v_exprS, v_retS, v_retN, v_ifS, v_setS, v_parS, v_setIx, v_asD, v_asI, v_mthE, v_callA, v_callB, v_forS, v_argI, v_seqI, v_slD, v_poN, v_poS, v_isiE, v_isiE2, v_isNE, v_dnew, v_dinT, v_dputS, v_sortDct, v_rgE, v_rg2, v_unS, v_catW, v_chainE, v_add, v_sub, v_lt, v_le, v_gt, v_ge, v_eqI, v_eqB, v_eqS, v_ixL, v_ixT, v_lenL, v_lenT, v_abs, v_intI, v_intB, v_min, v_max, v_chk, ev, hin]
    · refine p3.trans (((ins_perm _).append_right l).trans ?_)
      exact (List.perm_middle (a := x) (l₁ := r) (l₂ := l)).symm
/-- the rows of a law: different numbers from 1 -/
theorem crowd_ok {n : Int} {bs : List PyData} (h : Bok n bs) (hn : n ≤ 10 ^ 8) {c : Int} (h0 : 0 ≤ c) (h1 : c ≤ 16) : ∃ (ms : List Int) (bs' : List PyData), F_crowd bs [.int c] = some (.dat (.tuple (ms.map .int)), bs') ∧ ms.Nodup ∧ (∀ x ∈ ms, 1 ≤ x ∧ x ≤ 10 ^ 9) ∧ ms.length ≤ c.toNat ∧ Bok (n + 200) bs' := by
  obtain ⟨y, bs1, e1, a1, b1, k1⟩ := take_small (k := 1) h (by omega) (below := c + 1) (by omega) (by omega)
  obtain ⟨ss, bs2, e2, nd, pw, hs, hl, k2⟩ := souls_ok k1 (by omega) a1 (show y ≤ 16 by omega)
  obtain ⟨z, bs3, e3, a3, b3, k3⟩ := take_small (k := 1) k2 (by omega) (below := 2) (by decide) (by decide)
  by_cases hz : z = 0
  · obtain ⟨ms, bs4, e4, p4, k4⟩ := strewn_ok k3 (by omega) (ns := ss) (.inl rfl) (by omega)
    refine ⟨ms, bs4, runB_eq rfl ?_, p4.nodup_iff.mpr nd, fun x hx => hs x (p4.mem_iff.mp hx), by rw [p4.length_eq]; omega, k4.mono (by omega)⟩
    unfold f_crowd s_crowd_0 s_crowd_1 s_crowd_2 s_crowd_3 s_crowd_4 b_crowd_3
    simp [env0, v_bind, v_ok, v_none, v_pure, v_lift, v_liftN, v_con, v_get, v_gkd, v_gko, v_gkc, v_vwd, v_vws, v_ok1, v_ownD, v_dctD, v_dk1, v_setOwn, v_putM, v_op2, v_op1, v_anil, v_acons, v_vws0, v_vwsC, v_cb, v_tupD, v_lstD, v_lstW, v_listW, v_dds0, v_ddsC, v_asB, v_tb1, v_andT, v_orT, v_notT, v_andV, v_orV, v_notV, v_ofB, v_ifE, v_pl, v_toW, v_fz, v_ofWd, v_ofWo, v_nxt, v_thenS, v_exprS, v_retS, v_retN, v_ifS, v_setS, v_parS, v_setIx, v_asD, v_asI, v_mthE, v_callA, v_callB, v_forS, v_argI, v_seqI, v_slD, v_poN, v_poS, v_isiE, v_isiE2, v_isNE, v_dnew, v_dinT, v_dputS, v_sortDct, v_rgE, v_rg2, v_unS, v_catW, v_chainE, v_add, v_sub, v_lt, v_le, v_gt, v_ge, v_eqI, v_eqB, v_eqS, v_ixL, v_ixT, v_lenL, v_lenT, v_abs, v_intI, v_intB, v_min, v_max, v_chk, e1, e2, e3, hz, e4, tupleD, seqD]
  · obtain ⟨q, bs4, u4, e4, p4, k4⟩ := crowd_for (w1 := some (.dat (.int c))) (w2 := some (.dat (.list (ss.map .int)))) ss.reverse (n := n + 1 + 40 + 1) (bs := bs3) (r := []) (w4 := none) k3 (by rw [List.length_reverse]; omega) (by simp; omega)
    have p4' : q.Perm ss := by simpa using p4.trans (by simpa using List.reverse_perm ss)
    rw [List.length_reverse] at k4
    refine ⟨q, bs4, runB_eq rfl ?_, p4'.nodup_iff.mpr nd, fun x hx => hs x (p4'.mem_iff.mp hx), by rw [p4'.length_eq]; omega, k4.mono (by omega)⟩
    unfold f_crowd s_crowd_0 s_crowd_1 s_crowd_2 s_crowd_3 s_crowd_4 b_crowd_3
    have e4' := e4
    rw [List.map_reverse] at e4'
    simp only [List.map_nil] at e4'
    simp [env0, v_bind, v_ok, v_none, v_pure, v_lift, v_liftN, v_con, v_get, v_gkd, v_gko, v_gkc, v_vwd, v_vws, v_ok1, v_ownD, v_dctD, v_dk1, v_setOwn, v_putM, v_op2, v_op1, v_anil, v_acons, v_vws0, v_vwsC, v_cb, v_tupD, v_lstD, v_lstW, v_listW, v_dds0, v_ddsC, v_asB, v_tb1, v_andT, v_orT, v_notT, v_andV, v_orV, v_notV, v_ofB, v_ifE, v_pl, v_toW, v_fz, v_ofWd, v_ofWo, v_nxt, v_thenS, v_exprS, v_retS, v_retN, v_ifS, v_setS, v_parS, v_setIx, v_asD, v_asI, v_mthE, v_callA, v_callB, v_forS, v_argI, v_seqI, v_slD, v_poN, v_poS, v_isiE, v_isiE2, v_isNE, v_dnew, v_dinT, v_dputS, v_sortDct, v_rgE, v_rg2, v_unS, v_catW, v_chainE, v_add, v_sub, v_lt, v_le, v_gt, v_ge, v_eqI, v_eqB, v_eqS, v_ixL, v_ixT, v_lenL, v_lenT, v_abs, v_intI, v_intB, v_min, v_max, v_chk, e1, e2, e3, hz, revD, seqD, sz, e4', tupleD]
end Ov
set_option Elab.async false
set_option linter.all false
set_option maxRecDepth 100000
set_option maxHeartbeats 4000000
namespace Ov
open PySem L2
/-! the same data, twice -/
def okS : Nat → PyData → Prop
  | 0, _ => False
  | n + 1, d => (atomD d = true ∧ shp d = true) ∨ ∃ ds : List PyData, (d = .list ds ∨ d = .tuple ds) ∧ ds.length < 1000 ∧ ∀ x ∈ ds, okS n x
theorem okS.ints {n : Nat} (ns : List Int) (h : ns.length < 1000) : okS (n + 2) (.tuple (ns.map .int)) ∧ okS (n + 2) (.list (ns.map .int)) := by
  have : ∀ x ∈ ns.map PyData.int, okS (n + 1) x := fun x hx => by
    obtain ⟨i, _, rfl⟩ := List.mem_map.mp hx
    exact .inl ⟨rfl, shp_int i⟩
  exact ⟨.inr ⟨_, .inr rfl, by rw [List.length_map]; exact h, this⟩, .inr ⟨_, .inl rfl, by rw [List.length_map]; exact h, this⟩⟩
end Ov
set_option Elab.async false
set_option linter.all false
set_option maxRecDepth 100000
set_option maxHeartbeats 4000000
namespace Ov
open PySem L2
theorem atI_in {α : Type} {ds : List α} {r : Int} (h0 : 0 ≤ r) (h1 : r < ds.length) : atI ds r = some (ds[r.toNat]'(by omega)) := by
  unfold atI ixN
  rw [if_pos h0, if_pos h1]
  exact List.getElem?_eq_getElem (by omega)
end Ov
set_option Elab.async false
set_option linter.all false
set_option maxRecDepth 100000
set_option maxHeartbeats 4000000
namespace Ov
open PySem L2
/-! codes -/
def mk (ms : List Int) (h : Int) : Int := (((ms.filter fun o => decide (h ≤ o)).idxOf h : Nat) : Int)
def mks (ms : List Int) : List Int := (sortI ms).map (mk ms)
theorem idx_mid {h : Int} {l1 l2 : List Int} (n : h ∉ l1) : (l1 ++ h :: l2).idxOf h = l1.length := by
  induction l1 with
  | nil => simp
  | cons a r ih =>
    have n1 : h ∉ r := fun z => n (List.mem_cons_of_mem _ z)
    have n2 : ¬ a = h := fun z => n (by rw [z]; exact List.mem_cons_self ..)
    rw [List.cons_append, List.idxOf_cons]
    rw [show (a == h) = false by simpa using n2, ih n1]
    rfl
theorem mk_low {h : Int} {l1 l2 : List Int} (n : h ∉ l1) (lo : ∀ x ∈ l1 ++ l2, h < x) : mk (l1 ++ h :: l2) h = l1.length := by
  unfold mk
  rw [List.filter_eq_self.mpr fun x hx => ?_, idx_mid n]
  rcases List.mem_append.mp hx with hx | hx
  · exact decide_eq_true (Int.le_of_lt (lo x (List.mem_append_left _ hx)))
  · rcases List.mem_cons.mp hx with rfl | hx
    · exact decide_eq_true (Int.le_refl _)
    · exact decide_eq_true (Int.le_of_lt (lo x (List.mem_append_right _ hx)))
theorem mk_up {h k : Int} {l1 l2 : List Int} (lt : h < k) : mk (l1 ++ h :: l2) k = mk (l1 ++ l2) k := by
  unfold mk
  rw [List.filter_append, List.filter_cons, List.filter_append]
  simp [show ¬ k ≤ h by omega]
theorem sortI_lt {ms : List Int} (nd : ms.Nodup) : (sortI ms).Pairwise (· < ·) := by
  have h1 := sortI_pw ms
  have h2 : (sortI ms).Nodup := (sortI_perm ms).nodup_iff.mpr nd
  exact (List.Pairwise.and h1 h2).imp fun ⟨a, b⟩ => by omega
theorem sort_perm {a b : List Int} (p : a.Perm b) : sortI a = sortI b := sort_uniq ((sortI_perm a).trans (p.trans (sortI_perm b).symm)) (sortI_pw a) (sortI_pw b)
theorem find_ints (h : Int) : ∀ l : List Int, h ∈ l → (l.map PyData.int).findIdx? (fun z => PyData.eqv z (.int h)) = some (l.idxOf h)
  | [], hm => by cases hm
  | a :: r, hm => by
    have ea : PyData.eqv (.int a) (.int h) = decide (a = h) := by
      have : (a == h) = decide (a = h) := by rw [Bool.eq_iff_iff]; simp
      simpa [PyData.eqv] using this
    rw [List.map_cons, List.findIdx?_cons, ea, List.idxOf_cons]
    by_cases e : a = h
    · simp [e]
    · have hm' : h ∈ r := (List.mem_cons.mp hm).resolve_left fun z => e z.symm
      rw [find_ints h r hm', show (a == h) = false by simpa using e]
      simp [e]
theorem idx_ok {l : List Int} {h : Int} (hm : h ∈ l) : idxD [.list (l.map .int), .int h] = some (.int (l.idxOf h : Nat)) := by
  unfold idxD
  simp only [shp_list, shp_int, Bool.and_self, if_true, find_ints h l hm]
  rfl
theorem filt_ge (ms : List Int) (h : Int) : ((ms.map PyData.int).filter fun d => match d with | .int i => decide (h ≤ i) | _ => false) = (ms.filter fun o => decide (h ≤ o)).map .int := by
  induction ms with
  | nil => rfl
  | cons a r ih =>
    rw [List.map_cons, List.filter_cons, List.filter_cons, ih]
    by_cases e : h ≤ a <;> simp [e]
theorem mem_filt {ms : List Int} {h : Int} (hm : h ∈ ms) : h ∈ ms.filter fun o => decide (h ≤ o) := List.mem_filter.mpr ⟨hm, decide_eq_true (Int.le_refl _)⟩
def isSq (d : PyData) (ms : List Int) : Prop := d = .list (ms.map .int) ∨ d = .tuple (ms.map .int)
theorem isSq.seq {d : PyData} {ms : List Int} (h : isSq d ms) : seqD d = some (ms.map .int) := by rcases h with rfl | rfl <;> rfl
theorem sort_ok {d : PyData} {ms : List Int} (h : isSq d ms) : sortD [d] = some (.list ((sortI ms).map .int)) := by
  unfold sortD
  simp [h.seq, intsD_map]
theorem code_of_ok {d : PyData} {ms : List Int} (hd : isSq d ms) (hl : ms.length ≤ 900) {h : Int} (hm : h ∈ ms) : F_code_of [d, .int h] = some (.dat (.int (mk ms h))) := by
  have comp : lcW (seqI (get 0)) (gN 2) (tb1 (op2 geD (get 2) (get 1))) (get 2) [2] [some (.dat d), some (.dat (.int h)), none] = some (.ok (.own (dats ((ms.filter fun o => decide (h ≤ o)).map .int))) [some (.dat d), some (.dat (.int h)), none]) := by
    refine lc_eq (ds := ms.map .int) (e := [some (.dat d), some (.dat (.int h)), none]) (e2 := [some (.dat d), some (.dat (.int h)), none]) ?_ rfl rfl ?_
    · simp [v_bind, v_ok, v_none, v_pure, v_lift, v_liftN, v_con, v_get, v_gkd, v_gko, v_gkc, v_vwd, v_vws, v_ok1, v_ownD, v_dctD, v_dk1, v_setOwn, v_putM, v_op2, v_op1, v_anil, v_acons, v_vws0, v_vwsC, v_cb, v_tupD, v_lstD, v_lstW, v_listW, v_dds0, v_ddsC, v_asB, v_tb1, v_andT, v_orT, v_notT, v_andV, v_orV, v_notV, v_ofB, v_ifE, v_pl, v_toW, v_fz, v_ofWd, v_ofWo, v_nxt, v_thenS, v_exprS, v_retS, v_retN, v_ifS, v_setS, v_parS, v_setIx, v_asD, v_asI, v_mthE, v_callA, v_callB, v_forS, v_argI, v_seqI, v_slD, v_poN, v_poS, v_isiE, v_isiE2, v_isNE, v_dnew, v_dinT, v_dputS, v_sortDct, v_rgE, v_rg2, v_unS, v_catW, v_chainE, v_add, v_sub, v_lt, v_le, v_gt, v_ge, v_eqI, v_eqB, v_eqS, v_ixL, v_ixT, v_lenL, v_lenT, v_abs, v_intI, v_intB, v_min, v_max, v_chk, hd.seq]
    · have := comp_all (env := [some (.dat d), some (.dat (.int h)), none]) (p := gN 2) (ft := tb1 (op2 geD (get 2) (get 1))) (fe := get 2) (vs := [2]) id (fun d => match d with | .int i => decide (h ≤ i) | _ => false) (ms.map .int) [] (by simp; omega) fun x hx => ?_
      · rw [this]
        simp [filt_ge]
      · obtain ⟨i, _, rfl⟩ := List.mem_map.mp hx
        refine ⟨[some (.dat d), some (.dat (.int h)), some (.dat (.int i))], rfl, ?_, fun _ => ?_, rfl, rfl⟩
        · simp [v_bind, v_ok, v_none, v_pure, v_lift, v_liftN, v_con, v_get, v_gkd, v_gko, v_gkc, v_vwd, v_vws, v_ok1, v_ownD, v_dctD, v_dk1, v_setOwn, v_putM, v_op2, v_op1, v_anil, v_acons, v_vws0, v_vwsC, v_cb, v_tupD, v_lstD, v_lstW, v_listW, v_dds0, v_ddsC, v_asB, v_tb1, v_andT, v_orT, v_notT, v_andV, v_orV, v_notV, v_ofB, v_ifE, v_pl, v_toW, v_fz, v_ofWd, v_ofWo, v_nxt, v_thenS, v_exprS, v_retS, v_retN, v_ifS, v_setS, v_parS, v_setIx, v_asD, v_asI, v_mthE, v_callA, v_callB, v_forS, v_argI, v_seqI, v_slD, v_poN, v_poS, v_isiE, v_isiE2, v_isNE, v_dnew, v_dinT, v_dputS, v_sortDct, v_rgE, v_rg2, v_unS, v_catW, v_chainE, v_add, v_sub, v_lt, v_le, v_gt, v_ge, v_eqI, v_eqB, v_eqS, v_ixL, v_ixT, v_lenL, v_lenT, v_abs, v_intI, v_intB, v_min, v_max, v_chk]
        · simp [v_bind, v_ok, v_none, v_pure, v_lift, v_liftN, v_con, v_get, v_gkd, v_gko, v_gkc, v_vwd, v_vws, v_ok1, v_ownD, v_dctD, v_dk1, v_setOwn, v_putM, v_op2, v_op1, v_anil, v_acons, v_vws0, v_vwsC, v_cb, v_tupD, v_lstD, v_lstW, v_listW, v_dds0, v_ddsC, v_asB, v_tb1, v_andT, v_orT, v_notT, v_andV, v_orV, v_notV, v_ofB, v_ifE, v_pl, v_toW, v_fz, v_ofWd, v_ofWo, v_nxt, v_thenS, v_exprS, v_retS, v_retN, v_ifS, v_setS, v_parS, v_setIx, v_asD, v_asI, v_mthE, v_callA, v_callB, v_forS, v_argI, v_seqI, v_slD, v_poN, v_poS, v_isiE, v_isiE2, v_isNE, v_dnew, v_dinT, v_dputS, v_sortDct, v_rgE, v_rg2, v_unS, v_catW, v_chainE, v_add, v_sub, v_lt, v_le, v_gt, v_ge, v_eqI, v_eqB, v_eqS, v_ixL, v_ixT, v_lenL, v_lenT, v_abs, v_intI, v_intB, v_min, v_max, v_chk]
  have ix := idx_ok (mem_filt hm)
  refine runA_eq rfl ⟨[some (.dat d), some (.dat (.int h)), none], ?_⟩
  show f_code_of [some (.dat d), some (.dat (.int h)), none] = _
  unfold f_code_of rmE
  generalize (ms.filter fun o => decide (h ≤ o)).map PyData.int = L at comp ix
  simp [v_bind, v_ok, v_none, v_pure, v_lift, v_liftN, v_con, v_get, v_gkd, v_gko, v_gkc, v_vwd, v_vws, v_ok1, v_ownD, v_dctD, v_dk1, v_setOwn, v_putM, v_op2, v_op1, v_anil, v_acons, v_vws0, v_vwsC, v_cb, v_tupD, v_lstD, v_lstW, v_listW, v_dds0, v_ddsC, v_asB, v_tb1, v_andT, v_orT, v_notT, v_andV, v_orV, v_notV, v_ofB, v_ifE, v_pl, v_toW, v_fz, v_ofWd, v_ofWo, v_nxt, v_thenS, v_exprS, v_retS, v_retN, v_ifS, v_setS, v_parS, v_setIx, v_asD, v_asI, v_mthE, v_callA, v_callB, v_forS, v_argI, v_seqI, v_slD, v_poN, v_poS, v_isiE, v_isiE2, v_isNE, v_dnew, v_dinT, v_dputS, v_sortDct, v_rgE, v_rg2, v_unS, v_catW, v_chainE, v_add, v_sub, v_lt, v_le, v_gt, v_ge, v_eqI, v_eqB, v_eqS, v_ixL, v_ixT, v_lenL, v_lenT, v_abs, v_intI, v_intB, v_min, v_max, v_chk, comp, isLD, ix]
  rfl
theorem codes_ok {d : PyData} {ms : List Int} (hd : isSq d ms) (hl : ms.length ≤ 900) : F_codes [d] = some (.dat (.tuple ((mks ms).map .int))) := by
  have so := sort_ok hd
  have comp : lcW (seqI (cb sortD (acons (get 0) anil))) (gN 1) yesT (fz (callA F_code_of (acons (get 0) (acons (get 1) anil)))) [1] [some (.dat d), none] = some (.ok (.own (dats ((mks ms).map .int))) [some (.dat d), none]) := by
    refine lc_eq (ds := (sortI ms).map .int) (e := [some (.dat d), none]) (e2 := [some (.dat d), none]) ?_ rfl rfl ?_
    · simp [v_bind, v_ok, v_none, v_pure, v_lift, v_liftN, v_con, v_get, v_gkd, v_gko, v_gkc, v_vwd, v_vws, v_ok1, v_ownD, v_dctD, v_dk1, v_setOwn, v_putM, v_op2, v_op1, v_anil, v_acons, v_vws0, v_vwsC, v_cb, v_tupD, v_lstD, v_lstW, v_listW, v_dds0, v_ddsC, v_asB, v_tb1, v_andT, v_orT, v_notT, v_andV, v_orV, v_notV, v_ofB, v_ifE, v_pl, v_toW, v_fz, v_ofWd, v_ofWo, v_nxt, v_thenS, v_exprS, v_retS, v_retN, v_ifS, v_setS, v_parS, v_setIx, v_asD, v_asI, v_mthE, v_callA, v_callB, v_forS, v_argI, v_seqI, v_slD, v_poN, v_poS, v_isiE, v_isiE2, v_isNE, v_dnew, v_dinT, v_dputS, v_sortDct, v_rgE, v_rg2, v_unS, v_catW, v_chainE, v_add, v_sub, v_lt, v_le, v_gt, v_ge, v_eqI, v_eqB, v_eqS, v_ixL, v_ixT, v_lenL, v_lenT, v_abs, v_intI, v_intB, v_min, v_max, v_chk, so, seqD]
    · have hsl := (sortI_perm ms).length_eq
      have := comp_map (env := [some (.dat d), none]) (p := gN 1) (ft := yesT) (fe := fz (callA F_code_of (acons (get 0) (acons (get 1) anil)))) (vs := [1]) (fun x => match x with | .int h => .int (mk ms h) | _ => .none) ((sortI ms).map .int) [] (by simp; omega) fun x hx => ?_
      · rw [this]
        simp [mks, Function.comp_def]
      · obtain ⟨h, hh, rfl⟩ := List.mem_map.mp hx
        have hc := code_of_ok hd hl ((sortI_perm ms).subset hh)
        refine ⟨[some (.dat d), some (.dat (.int h))], rfl, rfl, ?_, rfl, rfl⟩
        simp [v_bind, v_ok, v_none, v_pure, v_lift, v_liftN, v_con, v_get, v_gkd, v_gko, v_gkc, v_vwd, v_vws, v_ok1, v_ownD, v_dctD, v_dk1, v_setOwn, v_putM, v_op2, v_op1, v_anil, v_acons, v_vws0, v_vwsC, v_cb, v_tupD, v_lstD, v_lstW, v_listW, v_dds0, v_ddsC, v_asB, v_tb1, v_andT, v_orT, v_notT, v_andV, v_orV, v_notV, v_ofB, v_ifE, v_pl, v_toW, v_fz, v_ofWd, v_ofWo, v_nxt, v_thenS, v_exprS, v_retS, v_retN, v_ifS, v_setS, v_parS, v_setIx, v_asD, v_asI, v_mthE, v_callA, v_callB, v_forS, v_argI, v_seqI, v_slD, v_poN, v_poS, v_isiE, v_isiE2, v_isNE, v_dnew, v_dinT, v_dputS, v_sortDct, v_rgE, v_rg2, v_unS, v_catW, v_chainE, v_add, v_sub, v_lt, v_le, v_gt, v_ge, v_eqI, v_eqB, v_eqS, v_ixL, v_ixT, v_lenL, v_lenT, v_abs, v_intI, v_intB, v_min, v_max, v_chk, hc]
  refine runA_eq rfl ⟨[some (.dat d), none], ?_⟩
  show f_codes [some (.dat d), none] = _
  unfold f_codes
  generalize (mks ms).map PyData.int = L at comp
  simp [v_bind, v_ok, v_none, v_pure, v_lift, v_liftN, v_con, v_get, v_gkd, v_gko, v_gkc, v_vwd, v_vws, v_ok1, v_ownD, v_dctD, v_dk1, v_setOwn, v_putM, v_op2, v_op1, v_anil, v_acons, v_vws0, v_vwsC, v_cb, v_tupD, v_lstD, v_lstW, v_listW, v_dds0, v_ddsC, v_asB, v_tb1, v_andT, v_orT, v_notT, v_andV, v_orV, v_notV, v_ofB, v_ifE, v_pl, v_toW, v_fz, v_ofWd, v_ofWo, v_nxt, v_thenS, v_exprS, v_retS, v_retN, v_ifS, v_setS, v_parS, v_setIx, v_asD, v_asI, v_mthE, v_callA, v_callB, v_forS, v_argI, v_seqI, v_slD, v_poN, v_poS, v_isiE, v_isiE2, v_isNE, v_dnew, v_dinT, v_dputS, v_sortDct, v_rgE, v_rg2, v_unS, v_catW, v_chainE, v_add, v_sub, v_lt, v_le, v_gt, v_ge, v_eqI, v_eqB, v_eqS, v_ixL, v_ixT, v_lenL, v_lenT, v_abs, v_intI, v_intB, v_min, v_max, v_chk, comp, tupleD, seqD]
end Ov
set_option Elab.async false
set_option linter.all false
set_option maxRecDepth 100000
set_option maxHeartbeats 4000000
set_option Elab.async false
set_option linter.all false
set_option maxRecDepth 100000
set_option maxHeartbeats 4000000
namespace Ov
/-! runs: the intervals, by their mathematics alone -/
abbrev Iv := Int × Int
def rix (iv : List Iv) (c : Int) : Nat := (iv.filter fun p => decide (p.2 < c)).length
def lf (at_ : Nat) : Nat := at_ - 1
def rg (iv : List Iv) (at_ : Nat) : Nat := min (at_ + 1) (iv.length - 1)
def nx (iv : List Iv) (a : Nat) : List Iv :=
  iv.take (lf a) ++ [((iv.getD (lf a) (0, 0)).1, (iv.getD (rg iv a) (0, 0)).2 - 1)] ++ (iv.drop (rg iv a + 1)).map fun p => (p.1 - 1, p.2 - 1)
def Pt : Int → Int → List Iv → Prop
  | s, e, [] => s = e
  | s, e, p :: r => p.1 = s ∧ s ≤ p.2 ∧ Pt (p.2 + 1) e r
theorem Pt.le : ∀ {iv : List Iv} {s e : Int}, Pt s e iv → s ≤ e
  | [], s, e, h => by have : s = e := h; omega
  | p :: r, s, e, h => by have := Pt.le h.2.2; have := h.2.1; omega
theorem Pt.app : ∀ {a b : List Iv} {s m e : Int}, Pt s m a → Pt m e b → Pt s e (a ++ b)
  | [], b, s, m, e, h, k => by have : s = m := h; rw [this]; exact k
  | p :: r, b, s, m, e, h, k => ⟨h.1, h.2.1, Pt.app h.2.2 k⟩
theorem Pt.split : ∀ {a b : List Iv} {s e : Int}, Pt s e (a ++ b) → ∃ m, Pt s m a ∧ Pt m e b
  | [], b, s, e, h => ⟨s, rfl, h⟩
  | p :: r, b, s, e, h => by
    obtain ⟨m, h1, h2⟩ := Pt.split (a := r) h.2.2
    exact ⟨m, ⟨h.1, h.2.1, h1⟩, h2⟩
theorem Pt.down : ∀ {a : List Iv} {s e : Int}, Pt s e a → Pt (s - 1) (e - 1) (a.map fun p => (p.1 - 1, p.2 - 1))
  | [], s, e, h => by have : s = e := h; show s - 1 = e - 1; omega
  | p :: r, s, e, h => by
    refine ⟨by show p.1 - 1 = s - 1; rw [h.1], by show s - 1 ≤ p.2 - 1; have := h.2.1; omega, ?_⟩
    have := Pt.down h.2.2
    rw [show p.2 + 1 - 1 = p.2 - 1 + 1 by omega] at this
    exact this
theorem rix_low : ∀ {iv : List Iv} {s e c : Int}, Pt s e iv → c ≤ s → rix iv c = 0
  | [], s, e, c, _, _ => rfl
  | p :: r, s, e, c, h, k => by
    have h2 := h.2.1
    have := rix_low h.2.2 (c := c) (by omega)
    unfold rix at *
    rw [List.filter_cons, show decide (p.2 < c) = false from decide_eq_false (by omega)]
    exact this
theorem rix_at : ∀ {iv : List Iv} {s e c : Int}, Pt s e iv → s ≤ c → c < e → ∃ p : Iv, iv[rix iv c]? = some p ∧ p.1 ≤ c ∧ c ≤ p.2 ∧ s ≤ p.1 ∧ p.2 < e
  | [], s, e, c, h, h1, h2 => by have : s = e := h; omega
  | p :: r, s, e, c, h, h1, h2 => by
    have hp := h.2.1
    have le := Pt.le h.2.2
    by_cases k : p.2 < c
    · obtain ⟨q, e1, e2, e3, e4, e5⟩ := rix_at h.2.2 (c := c) (by omega) h2
      refine ⟨q, ?_, e2, e3, by omega, e5⟩
      have : rix (p :: r) c = rix r c + 1 := by
        unfold rix
        rw [List.filter_cons, show decide (p.2 < c) = true from decide_eq_true k]
        rfl
      rw [this]
      exact e1
    · have : rix (p :: r) c = 0 := by
        unfold rix
        rw [List.filter_cons, show decide (p.2 < c) = false from decide_eq_false k]
        exact rix_low h.2.2 (by omega)
      rw [this]
      refine ⟨p, rfl, ?_, by omega, ?_, by omega⟩
      · rw [h.1]; exact h1
      · rw [h.1]; exact Int.le_refl _
theorem rix_in : ∀ {iv : List Iv} {s e c : Int} {k : Nat} {p : Iv}, Pt s e iv → iv[k]? = some p → p.1 ≤ c → c ≤ p.2 → rix iv c = k
  | [], s, e, c, k, p, h, h1, _, _ => by simp at h1
  | q :: r, s, e, c, 0, p, h, h1, h2, h3 => by
    have : q = p := by simpa using h1
    subst this
    unfold rix
    rw [List.filter_cons, show decide (q.2 < c) = false from decide_eq_false (by omega)]
    exact rix_low h.2.2 (by omega)
  | q :: r, s, e, c, k + 1, p, h, h1, h2, h3 => by
    have h1 : r[k]? = some p := by simpa using h1
    have ih := rix_in h.2.2 h1 h2 h3
    have lo : ∀ {iv : List Iv} {s e : Int} {k : Nat}, Pt s e iv → iv[k]? = some p → s ≤ p.1 := fun {iv} => by
      induction iv with
      | nil => intro s e k _ z; simp at z
      | cons a t ih =>
        intro s e k hh z
        have := hh.2.1
        cases k with
        | zero => have : a = p := by simpa using z
                  subst this; rw [hh.1]; exact Int.le_refl _
        | succ k => have := ih hh.2.2 (k := k) (by simpa using z); omega
    have := lo h.2.2 h1
    unfold rix at *
    rw [List.filter_cons, show decide (q.2 < c) = true from decide_eq_true (by omega)]
    show (List.filter _ r).length + 1 = _
    rw [ih]
theorem lt_of_get {α : Type} {l : List α} {k : Nat} {x : α} (h : l[k]? = some x) : k < l.length := (List.getElem?_eq_some_iff.mp h).1
/-- the runs of the next person -/
theorem nx_pt {iv : List Iv} {m : Int} {a : Nat} (h : Pt 0 m iv) (hm : 2 ≤ m) (ha : a < iv.length) : Pt 0 (m - 1) (nx iv a) := by
  have hl : lf a < iv.length := by unfold lf; omega
  have hr : rg iv a < iv.length := by unfold rg; omega
  have hlr : lf a ≤ rg iv a := by unfold lf rg; omega
  -- iv = A ++ (first :: M') ++ C
  have e1 : iv = iv.take (lf a) ++ ((iv.drop (lf a)).take (rg iv a + 1 - lf a) ++ iv.drop (rg iv a + 1)) := by
    have : iv.drop (rg iv a + 1) = (iv.drop (lf a)).drop (rg iv a + 1 - lf a) := by rw [List.drop_drop]; congr 1; omega
    rw [this, List.take_append_drop, List.take_append_drop]
  have h' := h
  rw [e1] at h'
  obtain ⟨x, p1, p2⟩ := Pt.split h'
  obtain ⟨y, p3, p4⟩ := Pt.split p2
  have gl : iv[lf a]? = some (iv[lf a]) := List.getElem?_eq_getElem hl
  have gr : iv[rg iv a]? = some (iv[rg iv a]) := List.getElem?_eq_getElem hr
  -- the ends of the middle part
  have mid : ∀ {M : List Iv} {s e : Int} {k : Nat} {p q : Iv}, Pt s e M → M.length = k + 1 → M[0]? = some p → M[k]? = some q → p.1 = s ∧ q.2 + 1 = e ∧ (k : Int) + s ≤ q.2 := fun {M} => by
    induction M with
    | nil => intro s e k p q _ z; simp at z
    | cons b t ih =>
      intro s e k p q hp hk h0 hq
      have : b = p := by simpa using h0
      subst this
      refine ⟨hp.1, ?_⟩
      cases k with
      | zero =>
        have : b = q := by simpa using hq
        subst this
        have : t = [] := by cases t with | nil => rfl | cons _ _ => simp at hk
        subst this
        have z : b.2 + 1 = e := hp.2.2
        have := hp.2.1
        exact ⟨z, by omega⟩
      | succ k =>
        cases t with
        | nil => simp at hk
        | cons b' t' =>
          have hk' : (b' :: t').length = k + 1 := by rw [List.length_cons] at hk; omega
          obtain ⟨_, z2, z3⟩ := ih hp.2.2 hk' (p := b') rfl (by simpa using hq)
          have := hp.2.1
          exact ⟨z2, by omega⟩
  have lm : ((iv.drop (lf a)).take (rg iv a + 1 - lf a)).length = (rg iv a - lf a) + 1 := by
    rw [List.length_take, List.length_drop]; omega
  obtain ⟨q1, q2, q3⟩ := mid p3 lm (p := iv[lf a]) (q := iv[rg iv a]) (by
    rw [List.getElem?_take_of_lt (by omega), List.getElem?_drop, Nat.add_zero]; exact gl) (by
    rw [List.getElem?_take_of_lt (by omega), List.getElem?_drop, show lf a + (rg iv a - lf a) = rg iv a by omega]; exact gr)
  have x0 := Pt.le p1
  have y0 := Pt.le p4
  unfold nx
  rw [List.getD_eq_getElem?_getD, gl, List.getD_eq_getElem?_getD, gr, List.append_assoc]
  refine Pt.app p1 ⟨q1, ?_, ?_⟩
  · show x ≤ (iv[rg iv a]).2 - 1
    by_cases k : lf a < rg iv a
    · have : (1 : Int) ≤ ((rg iv a - lf a : Nat) : Int) := by omega
      omega
    · -- one run alone: it is all there is
      have l1 : iv.length = 1 := by unfold lf rg at k; omega
      have a0 : lf a = 0 := by omega
      have r0 : rg iv a = 0 := by omega
      have t0 : iv.take (lf a) = [] := by rw [a0]; rfl
      rw [t0] at p1
      have : (0 : Int) = x := p1
      have d0 : iv.drop (rg iv a + 1) = [] := List.drop_eq_nil_of_le (by omega)
      rw [d0] at p4
      have : y = m := p4
      omega
  · have := Pt.down p4
    have z : (iv[rg iv a]).2 - 1 + 1 = y - 1 := by omega
    show Pt ((iv[rg iv a]).2 - 1 + 1) (m - 1) _
    rw [z]
    exact this
theorem nx_len {iv : List Iv} {a : Nat} : (nx iv a).length ≤ iv.length + 1 := by
  unfold nx
  simp only [List.length_append, List.length_take, List.length_map, List.length_drop, List.length_singleton]
  unfold lf rg
  omega
/-- the runs by the codes -/
def rns : List Iv → List Int → List Iv
  | _, [] => []
  | iv, c :: cs => iv.getD (rix iv c) (0, 0) :: rns (nx iv (rix iv c)) cs
def ivs : List Iv → List Int → List (List Iv)
  | _, [] => []
  | iv, c :: cs => iv :: ivs (nx iv (rix iv c)) cs
/-- codes within their bounds -/
def Vd : Int → List Int → Prop
  | _, [] => True
  | m, c :: cs => 0 ≤ c ∧ c < m ∧ Vd (m - 1) cs
def inR (p : Iv) (c : Int) : Prop := p.1 ≤ c ∧ c ≤ p.2
/-- as many people as codes -/
theorem rns_ok : ∀ {cs : List Int} {iv : List Iv} {m : Int}, Pt 0 m iv → m = cs.length → Vd m cs → ∀ (j : Nat) (p : Iv) (c : Int), (rns iv cs)[j]? = some p → cs[j]? = some c → 0 ≤ p.1 ∧ p.1 ≤ c ∧ c ≤ p.2 ∧ p.2 < m - j
  | [], iv, m, h, hm, v, j, p, c, h1, h2 => by simp at h2
  | c :: cs, iv, m, h, hm, v, j, p, c', h1, h2 => by
    obtain ⟨q, e1, e2, e3, e4, e5⟩ := rix_at h v.1 v.2.1
    cases j with
    | zero =>
      have : c = c' := by simpa using h2
      subst this
      have : p = q := by
        simp only [rns, List.getElem?_cons_zero, List.getD_eq_getElem?_getD, e1, Option.getD_some, Option.some.injEq] at h1
        exact h1.symm
      subst this
      exact ⟨e4, e2, e3, by simpa using e5⟩
    | succ j =>
      have m2 : 2 ≤ m := by
        have : j < cs.length := lt_of_get (by simpa using h2)
        rw [List.length_cons] at hm
        omega
      have := rns_ok (nx_pt h m2 (lt_of_get e1)) (by rw [List.length_cons] at hm; omega) v.2.2 j p c' (by simpa [rns] using h1) (by simpa using h2)
      refine ⟨this.1, this.2.1, this.2.2.1, ?_⟩
      have := this.2.2.2
      rw [show ((j + 1 : Nat) : Int) = (j : Int) + 1 by rfl]
      omega
theorem rns_len : ∀ (cs : List Int) (iv : List Iv), (rns iv cs).length = cs.length
  | [], _ => rfl
  | c :: cs, iv => by rw [rns, List.length_cons, List.length_cons, rns_len cs]
theorem rns_cons {c : Int} {cs : List Int} {iv : List Iv} {p : Iv} (e : iv[rix iv c]? = some p) : rns iv (c :: cs) = p :: rns (nx iv (rix iv c)) cs := by
  rw [rns, List.getD_eq_getElem?_getD, e]
  rfl
/-- codes in the runs: the same runs -/
theorem rns_same : ∀ {cs ds : List Int} {iv : List Iv} {m : Int}, Pt 0 m iv → m = cs.length → Vd m cs → ds.length = cs.length → (∀ (j : Nat) (p : Iv) (d : Int), (rns iv cs)[j]? = some p → ds[j]? = some d → inR p d) → rns iv ds = rns iv cs ∧ Vd m ds
  | [], ds, iv, m, h, hm, v, hl, hd => by
    cases ds with
    | nil => exact ⟨rfl, trivial⟩
    | cons _ _ => cases hl
  | c :: cs, [], iv, m, h, hm, v, hl, hd => by cases hl
  | c :: cs, d :: ds, iv, m, h, hm, v, hl, hd => by
    obtain ⟨q, e1, e2, e3, e4, e5⟩ := rix_at h v.1 v.2.1
    have rc := rns_cons (cs := cs) e1
    have h0 := hd 0 q d (by rw [rc]; rfl) rfl
    have er : rix iv d = rix iv c := rix_in h e1 h0.1 h0.2
    have rd : rns iv (d :: ds) = q :: rns (nx iv (rix iv c)) ds := by rw [rns_cons (cs := ds) (p := q) (by rw [er]; exact e1), er]
    have hl' : ds.length = cs.length := by simpa using hl
    have h1 := h0.1
    have h2 := h0.2
    by_cases k : cs = []
    · subst k
      have : ds = [] := List.length_eq_zero_iff.mp hl'
      subst this
      exact ⟨by rw [rc, rd], by omega, by omega, trivial⟩
    · have kl : cs.length ≠ 0 := fun z => k (List.length_eq_zero_iff.mp z)
      rw [List.length_cons] at hm
      obtain ⟨z1, z2⟩ := rns_same (nx_pt h (by omega) (lt_of_get e1)) (by omega) v.2.2 hl' fun j p x hp hx => hd (j + 1) p x (by rw [rc]; exact hp) hx
      exact ⟨by rw [rc, rd, z1], by omega, by omega, z2⟩
def fiv (n : Nat) : List Iv := (List.range n).map fun i : Nat => ((i : Int), (i : Int))
theorem fiv_pt : ∀ n : Nat, Pt 0 n (fiv n)
  | 0 => rfl
  | n + 1 => by
    unfold fiv
    rw [List.range_succ, List.map_append]
    exact Pt.app (fiv_pt n) ⟨rfl, Int.le_refl _, rfl⟩
end Ov
set_option Elab.async false
set_option linter.all false
set_option maxRecDepth 100000
set_option maxHeartbeats 4000000
namespace Ov
open PySem L2
def pD (p : Iv) : PyData := .tuple [.int p.1, .int p.2]
def ivD (iv : List Iv) : List PyData := iv.map pD
theorem iv_len (iv : List Iv) : (ivD iv).length = iv.length := List.length_map _
theorem iv_at {iv : List Iv} {k : Nat} {p : Iv} (h : iv[k]? = some p) : atI (ivD iv) (k : Int) = some (pD p) := by
  have hk := lt_of_get h
  rw [atI_in (by omega) (by rw [iv_len]; omega)]
  have : (ivD iv)[k]? = some (pD p) := by unfold ivD; rw [List.getElem?_map, h]; rfl
  rw [← this]
  simp
theorem rng_nat (n : Nat) : rngL 0 (n : Int) = (List.range n).map fun k : Nat => (k : Int) := by
  unfold rngL
  simp
theorem rngD_ok {n : Nat} (h : n ≤ 1000) : rngD [.int (n : Int)] = some ((rngL 0 (n : Int)).map .int) := by
  have g : -(2 ^ 62) ≤ (n : Int) ∧ (n : Int) < 2 ^ 62 := ⟨by omega, by omega⟩
  generalize (n : Int) = N at g ⊢
  exact if_pos g
theorem first_ok {n : Nat} (h : n ≤ 1000) : F_first_intervals [.int (n : Int)] = some (.dat (.list (ivD (fiv n)))) := by
  have rg := rngD_ok h
  have comp : lcW (argI rngD (acons (get 0) anil)) (gN 1) yesT (tupD (acons (get 1) (acons (get 1) anil))) [1] [some (.dat (.int (n : Int))), none] = some (.ok (.own (dats (ivD (fiv n)))) [some (.dat (.int (n : Int))), none]) := by
    refine lc_eq (ds := (rngL 0 (n : Int)).map .int) (e := [some (.dat (.int (n : Int))), none]) (e2 := [some (.dat (.int (n : Int))), none]) (by simp [v_bind, v_ok, v_none, v_pure, v_lift, v_liftN, v_con, v_get, v_gkd, v_gko, v_gkc, v_vwd, v_vws, v_ok1, v_ownD, v_dctD, v_dk1, v_setOwn, v_putM, v_op2, v_op1, v_anil, v_acons, v_vws0, v_vwsC, v_cb, v_tupD, v_lstD, v_lstW, v_listW, v_dds0, v_ddsC, v_asB, v_tb1, v_andT, v_orT, v_notT, v_andV, v_orV, v_notV, v_ofB, v_ifE, v_pl, v_toW, v_fz, v_ofWd, v_ofWo, v_nxt, v_thenS, v_exprS, v_retS, v_retN, v_ifS, v_setS, v_parS, v_setIx, v_asD, v_asI, v_mthE, v_callA, v_callB, v_forS, v_argI, v_seqI, v_slD, v_poN, v_poS, v_isiE, v_isiE2, v_isNE, v_dnew, v_dinT, v_dputS, v_sortDct, v_rgE, v_rg2, v_unS, v_catW, v_chainE, v_add, v_sub, v_lt, v_le, v_gt, v_ge, v_eqI, v_eqB, v_eqS, v_ixL, v_ixT, v_lenL, v_lenT, v_abs, v_intI, v_intB, v_min, v_max, v_chk, rg]) rfl rfl ?_
    refine (comp_map (env := [some (.dat (.int (n : Int))), none]) (fun d => .tuple [d, d]) ((rngL 0 (n : Int)).map .int) [] (by rw [rng_nat]; simp; omega) fun d hd => ?_).trans ?_
    · obtain ⟨i, _, rfl⟩ := List.mem_map.mp hd
      exact ⟨[some (.dat (.int (n : Int))), some (.dat (.int i))], rfl, rfl, by simp [v_bind, v_ok, v_none, v_pure, v_lift, v_liftN, v_con, v_get, v_gkd, v_gko, v_gkc, v_vwd, v_vws, v_ok1, v_ownD, v_dctD, v_dk1, v_setOwn, v_putM, v_op2, v_op1, v_anil, v_acons, v_vws0, v_vwsC, v_cb, v_tupD, v_lstD, v_lstW, v_listW, v_dds0, v_ddsC, v_asB, v_tb1, v_andT, v_orT, v_notT, v_andV, v_orV, v_notV, v_ofB, v_ifE, v_pl, v_toW, v_fz, v_ofWd, v_ofWo, v_nxt, v_thenS, v_exprS, v_retS, v_retN, v_ifS, v_setS, v_parS, v_setIx, v_asD, v_asI, v_mthE, v_callA, v_callB, v_forS, v_argI, v_seqI, v_slD, v_poN, v_poS, v_isiE, v_isiE2, v_isNE, v_dnew, v_dinT, v_dputS, v_sortDct, v_rgE, v_rg2, v_unS, v_catW, v_chainE, v_add, v_sub, v_lt, v_le, v_gt, v_ge, v_eqI, v_eqB, v_eqS, v_ixL, v_ixT, v_lenL, v_lenT, v_abs, v_intI, v_intB, v_min, v_max, v_chk, sz], rfl, rfl⟩
    · rw [rng_nat]
      simp [ivD, fiv, pD, Function.comp_def]
  refine runA_eq rfl ⟨[some (.dat (.int (n : Int))), none], ?_⟩
  show f_first_intervals [some (.dat (.int (n : Int))), none] = _
  unfold f_first_intervals
  generalize ivD (fiv n) = L at comp
  simp [v_bind, v_ok, v_none, v_pure, v_lift, v_liftN, v_con, v_get, v_gkd, v_gko, v_gkc, v_vwd, v_vws, v_ok1, v_ownD, v_dctD, v_dk1, v_setOwn, v_putM, v_op2, v_op1, v_anil, v_acons, v_vws0, v_vwsC, v_cb, v_tupD, v_lstD, v_lstW, v_listW, v_dds0, v_ddsC, v_asB, v_tb1, v_andT, v_orT, v_notT, v_andV, v_orV, v_notV, v_ofB, v_ifE, v_pl, v_toW, v_fz, v_ofWd, v_ofWo, v_nxt, v_thenS, v_exprS, v_retS, v_retN, v_ifS, v_setS, v_parS, v_setIx, v_asD, v_asI, v_mthE, v_callA, v_callB, v_forS, v_argI, v_seqI, v_slD, v_poN, v_poS, v_isiE, v_isiE2, v_isNE, v_dnew, v_dinT, v_dputS, v_sortDct, v_rgE, v_rg2, v_unS, v_catW, v_chainE, v_add, v_sub, v_lt, v_le, v_gt, v_ge, v_eqI, v_eqB, v_eqS, v_ixL, v_ixT, v_lenL, v_lenT, v_abs, v_intI, v_intB, v_min, v_max, v_chk, comp]
def lowP (c : Int) : PyData → Bool
  | .tuple [_, .int q] => decide (q < c)
  | _ => false
def sndP : PyData → PyData
  | .tuple [_, x] => x
  | _ => .none
theorem rix_data (iv : List Iv) (c : Int) : ((ivD iv).filter (lowP c)).length = rix iv c := by
  unfold rix ivD
  induction iv with
  | nil => rfl
  | cons p r ih =>
    rw [List.map_cons, List.filter_cons, List.filter_cons]
    show (if decide (p.2 < c) = true then _ else _ : List PyData).length = (if decide (p.2 < c) = true then _ else _ : List Iv).length
    split
    · rw [List.length_cons, List.length_cons, ih]
    · exact ih
theorem index_ok {iv : List Iv} {c : Int} (h : iv.length ≤ 1000) : F_run_index [.list (ivD iv), .int c] = some (.dat (.int (rix iv c : Nat))) := by
  have comp : lcW (seqI (get 0)) (gT (gsC (gN 2) (gsC (gN 3) gsN))) (tb1 (op2 ltD (get 3) (get 1))) (get 3) [2, 3] [some (.dat (.list (ivD iv))), some (.dat (.int c)), none, none] = some (.ok (.own (dats (((ivD iv).filter (lowP c)).map sndP))) [some (.dat (.list (ivD iv))), some (.dat (.int c)), none, none]) := by
    refine lc_eq (ds := ivD iv) (e := [some (.dat (.list (ivD iv))), some (.dat (.int c)), none, none]) (e2 := [some (.dat (.list (ivD iv))), some (.dat (.int c)), none, none]) (by simp [v_bind, v_ok, v_none, v_pure, v_lift, v_liftN, v_con, v_get, v_gkd, v_gko, v_gkc, v_vwd, v_vws, v_ok1, v_ownD, v_dctD, v_dk1, v_setOwn, v_putM, v_op2, v_op1, v_anil, v_acons, v_vws0, v_vwsC, v_cb, v_tupD, v_lstD, v_lstW, v_listW, v_dds0, v_ddsC, v_asB, v_tb1, v_andT, v_orT, v_notT, v_andV, v_orV, v_notV, v_ofB, v_ifE, v_pl, v_toW, v_fz, v_ofWd, v_ofWo, v_nxt, v_thenS, v_exprS, v_retS, v_retN, v_ifS, v_setS, v_parS, v_setIx, v_asD, v_asI, v_mthE, v_callA, v_callB, v_forS, v_argI, v_seqI, v_slD, v_poN, v_poS, v_isiE, v_isiE2, v_isNE, v_dnew, v_dinT, v_dputS, v_sortDct, v_rgE, v_rg2, v_unS, v_catW, v_chainE, v_add, v_sub, v_lt, v_le, v_gt, v_ge, v_eqI, v_eqB, v_eqS, v_ixL, v_ixT, v_lenL, v_lenT, v_abs, v_intI, v_intB, v_min, v_max, v_chk, seqD]) rfl rfl ?_
    refine (comp_all (env := [some (.dat (.list (ivD iv))), some (.dat (.int c)), none, none]) sndP (lowP c) (ivD iv) [] (by rw [iv_len]; show 0 + _ < _; omega) fun d hd => ?_).trans (by simp)
    obtain ⟨p, _, rfl⟩ := List.mem_map.mp hd
    refine ⟨[some (.dat (.list (ivD iv))), some (.dat (.int c)), some (.dat (.int p.1)), some (.dat (.int p.2))], rfl, ?_, fun _ => ?_, rfl, rfl⟩
    · generalize ivD iv = L
      simp [v_bind, v_ok, v_none, v_pure, v_lift, v_liftN, v_con, v_get, v_gkd, v_gko, v_gkc, v_vwd, v_vws, v_ok1, v_ownD, v_dctD, v_dk1, v_setOwn, v_putM, v_op2, v_op1, v_anil, v_acons, v_vws0, v_vwsC, v_cb, v_tupD, v_lstD, v_lstW, v_listW, v_dds0, v_ddsC, v_asB, v_tb1, v_andT, v_orT, v_notT, v_andV, v_orV, v_notV, v_ofB, v_ifE, v_pl, v_toW, v_fz, v_ofWd, v_ofWo, v_nxt, v_thenS, v_exprS, v_retS, v_retN, v_ifS, v_setS, v_parS, v_setIx, v_asD, v_asI, v_mthE, v_callA, v_callB, v_forS, v_argI, v_seqI, v_slD, v_poN, v_poS, v_isiE, v_isiE2, v_isNE, v_dnew, v_dinT, v_dputS, v_sortDct, v_rgE, v_rg2, v_unS, v_catW, v_chainE, v_add, v_sub, v_lt, v_le, v_gt, v_ge, v_eqI, v_eqB, v_eqS, v_ixL, v_ixT, v_lenL, v_lenT, v_abs, v_intI, v_intB, v_min, v_max, v_chk, lowP, pD]
    · generalize ivD iv = L
      simp [v_bind, v_ok, v_none, v_pure, v_lift, v_liftN, v_con, v_get, v_gkd, v_gko, v_gkc, v_vwd, v_vws, v_ok1, v_ownD, v_dctD, v_dk1, v_setOwn, v_putM, v_op2, v_op1, v_anil, v_acons, v_vws0, v_vwsC, v_cb, v_tupD, v_lstD, v_lstW, v_listW, v_dds0, v_ddsC, v_asB, v_tb1, v_andT, v_orT, v_notT, v_andV, v_orV, v_notV, v_ofB, v_ifE, v_pl, v_toW, v_fz, v_ofWd, v_ofWo, v_nxt, v_thenS, v_exprS, v_retS, v_retN, v_ifS, v_setS, v_parS, v_setIx, v_asD, v_asI, v_mthE, v_callA, v_callB, v_forS, v_argI, v_seqI, v_slD, v_poN, v_poS, v_isiE, v_isiE2, v_isNE, v_dnew, v_dinT, v_dputS, v_sortDct, v_rgE, v_rg2, v_unS, v_catW, v_chainE, v_add, v_sub, v_lt, v_le, v_gt, v_ge, v_eqI, v_eqB, v_eqS, v_ixL, v_ixT, v_lenL, v_lenT, v_abs, v_intI, v_intB, v_min, v_max, v_chk, sndP, pD]
  refine runA_eq rfl ⟨[some (.dat (.list (ivD iv))), some (.dat (.int c)), none, none], ?_⟩
  show f_run_index [some (.dat (.list (ivD iv))), some (.dat (.int c)), none, none] = _
  unfold f_run_index
  rw [← rix_data, ← List.length_map (f := sndP) (as := (ivD iv).filter (lowP c))]
  generalize ((ivD iv).filter (lowP c)).map sndP = L at comp
  generalize ivD iv = L' at comp
  simp [v_bind, v_ok, v_none, v_pure, v_lift, v_liftN, v_con, v_get, v_gkd, v_gko, v_gkc, v_vwd, v_vws, v_ok1, v_ownD, v_dctD, v_dk1, v_setOwn, v_putM, v_op2, v_op1, v_anil, v_acons, v_vws0, v_vwsC, v_cb, v_tupD, v_lstD, v_lstW, v_listW, v_dds0, v_ddsC, v_asB, v_tb1, v_andT, v_orT, v_notT, v_andV, v_orV, v_notV, v_ofB, v_ifE, v_pl, v_toW, v_fz, v_ofWd, v_ofWo, v_nxt, v_thenS, v_exprS, v_retS, v_retN, v_ifS, v_setS, v_parS, v_setIx, v_asD, v_asI, v_mthE, v_callA, v_callB, v_forS, v_argI, v_seqI, v_slD, v_poN, v_poS, v_isiE, v_isiE2, v_isNE, v_dnew, v_dinT, v_dputS, v_sortDct, v_rgE, v_rg2, v_unS, v_catW, v_chainE, v_add, v_sub, v_lt, v_le, v_gt, v_ge, v_eqI, v_eqB, v_eqS, v_ixL, v_ixT, v_lenL, v_lenT, v_abs, v_intI, v_intB, v_min, v_max, v_chk, comp]
theorem cutL_from {α : Type} (l : List α) (k : Nat) (h : k ≤ l.length) : cutL l (some (k : Int)) none = l.drop k := by
  unfold cutL
  have e : HT.sIx l.length 0 (some (k : Int)) = k := by simp [HT.sIx]; rw [if_neg (by omega)]; omega
  have e2 : HT.sIx l.length l.length none = l.length := rfl
  rw [e, e2, List.take_of_length_le (by rw [List.length_drop]; omega)]
theorem cutL_to {α : Type} (l : List α) (k : Nat) (h : k ≤ l.length) : cutL l none (some (k : Int)) = l.take k := by
  unfold cutL
  have e : HT.sIx l.length l.length (some (k : Int)) = k := by simp [HT.sIx]; rw [if_neg (by omega)]; omega
  have e2 : HT.sIx l.length 0 none = 0 := rfl
  rw [e, e2]
  simp
def dnP : PyData → PyData
  | .tuple [.int a, .int b] => .tuple [.int (a - 1), .int (b - 1)]
  | d => d
theorem next_ok {iv : List Iv} {c : Int} (h : iv.length ≤ 1000) (hc : rix iv c < iv.length) : F_next_intervals [.list (ivD iv), .int c] = some (.dat (.list (ivD (nx iv (rix iv c))))) := by
  have ix := index_ok (c := c) h
  generalize hr : rix iv c = a at *
  have hl : lf a < iv.length := by unfold lf; omega
  have hg : rg iv a < iv.length := by unfold rg; omega
  have e3 : maxD [.int ((a : Nat) - 1 : Int), .int 0] = some (.int ((lf a : Nat) : Int)) := by
    rw [v_max]
    congr 2
    unfold lf
    split <;> omega
  have e4 : minD [.int ((a : Nat) + 1 : Int), .int ((iv.length : Int) - 1)] = some (.int ((rg iv a : Nat) : Int)) := by
    rw [v_min]
    congr 2
    unfold rg
    split <;> omega
  have gl : iv[lf a]? = some (iv.getD (lf a) (0, 0)) := by rw [List.getD_eq_getElem?_getD, List.getElem?_eq_getElem hl]; rfl
  have gr : iv[rg iv a]? = some (iv.getD (rg iv a) (0, 0)) := by rw [List.getD_eq_getElem?_getD, List.getElem?_eq_getElem hg]; rfl
  have al := iv_at gl
  have ar := iv_at gr
  have hn : nx iv a = iv.take (lf a) ++ [((iv.getD (lf a) (0, 0)).1, (iv.getD (rg iv a) (0, 0)).2 - 1)] ++ (iv.drop (rg iv a + 1)).map fun p => (p.1 - 1, p.2 - 1) := rfl
  have c1 : cutD (.list (ivD iv)) none (some ((lf a : Nat) : Int)) = some (.list (ivD (iv.take (lf a)))) := by
    show some (PyData.list (cutL (ivD iv) none (some ((lf a : Nat) : Int)))) = _
    rw [cutL_to _ _ (by rw [iv_len]; omega)]
    unfold ivD
    rw [List.map_take]
  have c2 : cutD (.list (ivD iv)) (some ((rg iv a : Nat) + 1 : Int)) none = some (.list (ivD (iv.drop (rg iv a + 1)))) := by
    show some (PyData.list (cutL (ivD iv) (some ((rg iv a + 1 : Nat) : Int)) none)) = _
    rw [cutL_from _ _ (by rw [iv_len]; omega)]
    unfold ivD
    rw [List.map_drop]
  have lD : lenD [.list (ivD iv)] = some (.int iv.length) := by rw [v_lenL, iv_len]
  have ld : (ivD (iv.drop (rg iv a + 1))).length ≤ 1000 := by rw [iv_len, List.length_drop]; omega
  have lt : (ivD (iv.take (lf a))).length ≤ 1000 := by rw [iv_len, List.length_take]; omega
  have dn : (ivD (iv.drop (rg iv a + 1))).map dnP = ivD ((iv.drop (rg iv a + 1)).map fun p => (p.1 - 1, p.2 - 1)) := by
    unfold ivD
    rw [List.map_map, List.map_map]
    rfl
  have dm : ∀ d ∈ ivD (iv.drop (rg iv a + 1)), ∃ x y : Int, d = .tuple [.int x, .int y] := fun d hd => by
    obtain ⟨p, _, rfl⟩ := List.mem_map.mp hd
    exact ⟨_, _, rfl⟩
  have fin : ivD (nx iv a) = ivD (iv.take (lf a)) ++ [.tuple [.int (iv.getD (lf a) (0, 0)).1, .int ((iv.getD (rg iv a) (0, 0)).2 - 1)]] ++ (ivD (iv.drop (rg iv a + 1))).map dnP := by
    rw [hn, dn]
    unfold ivD
    rw [List.map_append, List.map_append]
    rfl
  rw [fin]
  generalize ivD (iv.take (lf a)) = A at *
  generalize ivD (iv.drop (rg iv a + 1)) = C at *
  generalize iv.getD (lf a) (0, 0) = p at *
  generalize iv.getD (rg iv a) (0, 0) = q at *
  generalize ((lf a : Nat) : Int) = l at *
  generalize ((rg iv a : Nat) : Int) = r at *
  generalize ((a : Nat) : Int) = k at *
  generalize ivD iv = L at *
  generalize (iv.length : Int) = N at *
  clear hl hg gl gr hn
  have t0 : ∀ x y : Int, atI [PyData.int x, .int y] 0 = some (.int x) := fun _ _ => rfl
  have t1 : ∀ x y : Int, atI [PyData.int x, .int y] 1 = some (.int y) := fun _ _ => rfl
  refine runA_eq rfl ⟨[some (.dat (.list L)), some (.dat (.int c)), some (.dat (.int k)), some (.dat (.int l)), some (.dat (.int r)), some (.dat (.tuple [.int p.1, .int (q.2 - 1)])), some (.dat (.list (C.map dnP))), none, none], ?_⟩
  show f_next_intervals [some (.dat (.list L)), some (.dat (.int c)), none, none, none, none, none, none, none] = _
  unfold f_next_intervals
  rw [then_nx (e := [some (.dat (.list L)), some (.dat (.int c)), some (.dat (.int k)), none, none, none, none, none, none]) (by unfold s_next_intervals_0; simp [v_bind, v_ok, v_none, v_pure, v_lift, v_liftN, v_con, v_get, v_gkd, v_gko, v_gkc, v_vwd, v_vws, v_ok1, v_ownD, v_dctD, v_dk1, v_setOwn, v_putM, v_op2, v_op1, v_anil, v_acons, v_vws0, v_vwsC, v_cb, v_tupD, v_lstD, v_lstW, v_listW, v_dds0, v_ddsC, v_asB, v_tb1, v_andT, v_orT, v_notT, v_andV, v_orV, v_notV, v_ofB, v_ifE, v_pl, v_toW, v_fz, v_ofWd, v_ofWo, v_nxt, v_thenS, v_exprS, v_retS, v_retN, v_ifS, v_setS, v_parS, v_setIx, v_asD, v_asI, v_mthE, v_callA, v_callB, v_forS, v_argI, v_seqI, v_slD, v_poN, v_poS, v_isiE, v_isiE2, v_isNE, v_dnew, v_dinT, v_dputS, v_sortDct, v_rgE, v_rg2, v_unS, v_catW, v_chainE, v_add, v_sub, v_lt, v_le, v_gt, v_ge, v_eqI, v_eqB, v_eqS, v_ixL, v_ixT, v_lenL, v_lenT, v_abs, v_intI, v_intB, v_min, v_max, v_chk, ix])]
  rw [then_nx (e := [some (.dat (.list L)), some (.dat (.int c)), some (.dat (.int k)), some (.dat (.int l)), none, none, none, none, none]) (by unfold s_next_intervals_1; simp [v_bind, v_ok, v_none, v_pure, v_lift, v_liftN, v_con, v_get, v_gkd, v_gko, v_gkc, v_vwd, v_vws, v_ok1, v_ownD, v_dctD, v_dk1, v_setOwn, v_putM, v_op2, v_op1, v_anil, v_acons, v_vws0, v_vwsC, v_cb, v_tupD, v_lstD, v_lstW, v_listW, v_dds0, v_ddsC, v_asB, v_tb1, v_andT, v_orT, v_notT, v_andV, v_orV, v_notV, v_ofB, v_ifE, v_pl, v_toW, v_fz, v_ofWd, v_ofWo, v_nxt, v_thenS, v_exprS, v_retS, v_retN, v_ifS, v_setS, v_parS, v_setIx, v_asD, v_asI, v_mthE, v_callA, v_callB, v_forS, v_argI, v_seqI, v_slD, v_poN, v_poS, v_isiE, v_isiE2, v_isNE, v_dnew, v_dinT, v_dputS, v_sortDct, v_rgE, v_rg2, v_unS, v_catW, v_chainE, v_add, v_sub, v_lt, v_le, v_gt, v_ge, v_eqI, v_eqB, v_eqS, v_ixL, v_ixT, v_abs, v_intI, v_intB, v_chk, e3])]
  rw [then_nx (e := [some (.dat (.list L)), some (.dat (.int c)), some (.dat (.int k)), some (.dat (.int l)), some (.dat (.int r)), none, none, none, none]) (by unfold s_next_intervals_2; simp [v_bind, v_ok, v_none, v_pure, v_lift, v_liftN, v_con, v_get, v_gkd, v_gko, v_gkc, v_vwd, v_vws, v_ok1, v_ownD, v_dctD, v_dk1, v_setOwn, v_putM, v_op2, v_op1, v_anil, v_acons, v_vws0, v_vwsC, v_cb, v_tupD, v_lstD, v_lstW, v_listW, v_dds0, v_ddsC, v_asB, v_tb1, v_andT, v_orT, v_notT, v_andV, v_orV, v_notV, v_ofB, v_ifE, v_pl, v_toW, v_fz, v_ofWd, v_ofWo, v_nxt, v_thenS, v_exprS, v_retS, v_retN, v_ifS, v_setS, v_parS, v_setIx, v_asD, v_asI, v_mthE, v_callA, v_callB, v_forS, v_argI, v_seqI, v_slD, v_poN, v_poS, v_isiE, v_isiE2, v_isNE, v_dnew, v_dinT, v_dputS, v_sortDct, v_rgE, v_rg2, v_unS, v_catW, v_chainE, v_add, v_sub, v_lt, v_le, v_gt, v_ge, v_eqI, v_eqB, v_eqS, v_ixL, v_ixT, v_abs, v_intI, v_intB, v_chk, e4, lD])]
  rw [then_nx (e := [some (.dat (.list L)), some (.dat (.int c)), some (.dat (.int k)), some (.dat (.int l)), some (.dat (.int r)), some (.dat (.tuple [.int p.1, .int (q.2 - 1)])), none, none, none]) (by
    unfold s_next_intervals_3
    simp [v_bind, v_ok, v_none, v_pure, v_lift, v_liftN, v_con, v_get, v_gkd, v_gko, v_gkc, v_vwd, v_vws, v_ok1, v_ownD, v_dctD, v_dk1, v_setOwn, v_putM, v_op2, v_op1, v_anil, v_acons, v_vws0, v_vwsC, v_cb, v_tupD, v_lstD, v_lstW, v_listW, v_dds0, v_ddsC, v_asB, v_tb1, v_andT, v_orT, v_notT, v_andV, v_orV, v_notV, v_ofB, v_ifE, v_pl, v_toW, v_fz, v_ofWd, v_ofWo, v_nxt, v_thenS, v_exprS, v_retS, v_retN, v_ifS, v_setS, v_parS, v_setIx, v_asD, v_asI, v_mthE, v_callA, v_callB, v_forS, v_argI, v_seqI, v_slD, v_poN, v_poS, v_isiE, v_isiE2, v_isNE, v_dnew, v_dinT, v_dputS, v_sortDct, v_rgE, v_rg2, v_unS, v_catW, v_chainE, v_add, v_sub, v_lt, v_le, v_gt, v_ge, v_eqI, v_eqB, v_eqS, v_ixL, v_ixT, v_lenL, v_lenT, v_abs, v_intI, v_intB, v_min, v_max, v_chk, al, ar, pD, sz, t0, t1])]
  have comp : lcW (seqI (slD (get 0) (poS (op2 addD (get 4) (con (.int 1)))) poN)) (gT (gsC (gN 7) (gsC (gN 8) gsN))) yesT (tupD (acons (op2 subD (get 7) (con (.int 1))) (acons (op2 subD (get 8) (con (.int 1))) anil))) [7, 8] [some (.dat (.list L)), some (.dat (.int c)), some (.dat (.int k)), some (.dat (.int l)), some (.dat (.int r)), some (.dat (.tuple [.int p.1, .int (q.2 - 1)])), none, none, none] = some (.ok (.own (dats (C.map dnP))) [some (.dat (.list L)), some (.dat (.int c)), some (.dat (.int k)), some (.dat (.int l)), some (.dat (.int r)), some (.dat (.tuple [.int p.1, .int (q.2 - 1)])), none, none, none]) := by
    refine lc_eq (ds := C) (e := [some (.dat (.list L)), some (.dat (.int c)), some (.dat (.int k)), some (.dat (.int l)), some (.dat (.int r)), some (.dat (.tuple [.int p.1, .int (q.2 - 1)])), none, none, none]) (e2 := [some (.dat (.list L)), some (.dat (.int c)), some (.dat (.int k)), some (.dat (.int l)), some (.dat (.int r)), some (.dat (.tuple [.int p.1, .int (q.2 - 1)])), none, none, none]) (by simp [v_bind, v_ok, v_none, v_pure, v_lift, v_liftN, v_con, v_get, v_gkd, v_gko, v_gkc, v_vwd, v_vws, v_ok1, v_ownD, v_dctD, v_dk1, v_setOwn, v_putM, v_op2, v_op1, v_anil, v_acons, v_vws0, v_vwsC, v_cb, v_tupD, v_lstD, v_lstW, v_listW, v_dds0, v_ddsC, v_asB, v_tb1, v_andT, v_orT, v_notT, v_andV, v_orV, v_notV, v_ofB, v_ifE, v_pl, v_toW, v_fz, v_ofWd, v_ofWo, v_nxt, v_thenS, v_exprS, v_retS, v_retN, v_ifS, v_setS, v_parS, v_setIx, v_asD, v_asI, v_mthE, v_callA, v_callB, v_forS, v_argI, v_seqI, v_slD, v_poN, v_poS, v_isiE, v_isiE2, v_isNE, v_dnew, v_dinT, v_dputS, v_sortDct, v_rgE, v_rg2, v_unS, v_catW, v_chainE, v_add, v_sub, v_lt, v_le, v_gt, v_ge, v_eqI, v_eqB, v_eqS, v_ixL, v_ixT, v_lenL, v_lenT, v_abs, v_intI, v_intB, v_min, v_max, v_chk, c2, seqD]) rfl rfl ?_
    refine (comp_map (env := [some (.dat (.list L)), some (.dat (.int c)), some (.dat (.int k)), some (.dat (.int l)), some (.dat (.int r)), some (.dat (.tuple [.int p.1, .int (q.2 - 1)])), none, none, none]) dnP C [] (by show 0 + _ < _; omega) fun d hd => ?_).trans (by simp)
    obtain ⟨x, y, rfl⟩ := dm d hd
    exact ⟨[some (.dat (.list L)), some (.dat (.int c)), some (.dat (.int k)), some (.dat (.int l)), some (.dat (.int r)), some (.dat (.tuple [.int p.1, .int (q.2 - 1)])), none, some (.dat (.int x)), some (.dat (.int y))], rfl, rfl, by simp [v_bind, v_ok, v_none, v_pure, v_lift, v_liftN, v_con, v_get, v_gkd, v_gko, v_gkc, v_vwd, v_vws, v_ok1, v_ownD, v_dctD, v_dk1, v_setOwn, v_putM, v_op2, v_op1, v_anil, v_acons, v_vws0, v_vwsC, v_cb, v_tupD, v_lstD, v_lstW, v_listW, v_dds0, v_ddsC, v_asB, v_tb1, v_andT, v_orT, v_notT, v_andV, v_orV, v_notV, v_ofB, v_ifE, v_pl, v_toW, v_fz, v_ofWd, v_ofWo, v_nxt, v_thenS, v_exprS, v_retS, v_retN, v_ifS, v_setS, v_parS, v_setIx, v_asD, v_asI, v_mthE, v_callA, v_callB, v_forS, v_argI, v_seqI, v_slD, v_poN, v_poS, v_isiE, v_isiE2, v_isNE, v_dnew, v_dinT, v_dputS, v_sortDct, v_rgE, v_rg2, v_unS, v_catW, v_chainE, v_add, v_sub, v_lt, v_le, v_gt, v_ge, v_eqI, v_eqB, v_eqS, v_ixL, v_ixT, v_lenL, v_lenT, v_abs, v_intI, v_intB, v_min, v_max, v_chk, dnP, sz], rfl, rfl⟩
  rw [then_nx (e := [some (.dat (.list L)), some (.dat (.int c)), some (.dat (.int k)), some (.dat (.int l)), some (.dat (.int r)), some (.dat (.tuple [.int p.1, .int (q.2 - 1)])), some (.dat (.list (C.map dnP))), none, none]) (by unfold s_next_intervals_4; simp [v_bind, v_ok, v_none, v_pure, v_lift, v_liftN, v_con, v_get, v_gkd, v_gko, v_gkc, v_vwd, v_vws, v_ok1, v_ownD, v_dctD, v_dk1, v_setOwn, v_putM, v_op2, v_op1, v_anil, v_acons, v_vws0, v_vwsC, v_cb, v_tupD, v_lstD, v_lstW, v_listW, v_dds0, v_ddsC, v_asB, v_tb1, v_andT, v_orT, v_notT, v_andV, v_orV, v_notV, v_ofB, v_ifE, v_pl, v_toW, v_fz, v_ofWd, v_ofWo, v_nxt, v_thenS, v_exprS, v_retS, v_retN, v_ifS, v_setS, v_parS, v_setIx, v_asD, v_asI, v_mthE, v_callA, v_callB, v_forS, v_argI, v_seqI, v_slD, v_poN, v_poS, v_isiE, v_isiE2, v_isNE, v_dnew, v_dinT, v_dputS, v_sortDct, v_rgE, v_rg2, v_unS, v_catW, v_chainE, v_add, v_sub, v_lt, v_le, v_gt, v_ge, v_eqI, v_eqB, v_eqS, v_ixL, v_ixT, v_lenL, v_lenT, v_abs, v_intI, v_intB, v_min, v_max, v_chk, comp])]
  have k1 := v_cat A [.tuple [.int p.1, .int (q.2 - 1)]] (by show _ + 1 ≤ _; omega)
  have k2 := v_cat (A ++ [.tuple [.int p.1, .int (q.2 - 1)]]) (C.map dnP) (by rw [List.length_append, List.length_map]; show _ + 1 + _ ≤ _; omega)
  unfold s_next_intervals_5
  generalize C.map dnP = D at *
  simp only [v_bind, v_ok, v_none, v_pure, v_lift, v_liftN, v_con, v_get, v_gkd, v_gko, v_gkc, v_vwd, v_vws, v_ok1, v_ownD, v_dctD, v_dk1, v_setOwn, v_putM, v_op2, v_op1, v_anil, v_acons, v_vws0, v_vwsC, v_cb, v_tupD, v_lstD, v_lstW, v_listW, v_dds0, v_ddsC, v_asB, v_tb1, v_andT, v_orT, v_notT, v_andV, v_orV, v_notV, v_ofB, v_ifE, v_pl, v_toW, v_fz, v_ofWd, v_ofWo, v_nxt, v_thenS, v_exprS, v_retS, v_retN, v_ifS, v_setS, v_parS, v_setIx, v_asD, v_asI, v_mthE, v_callA, v_callB, v_forS, v_argI, v_seqI, v_slD, v_poN, v_poS, v_isiE, v_isiE2, v_isNE, v_dnew, v_dinT, v_dputS, v_sortDct, v_rgE, v_rg2, v_unS, v_catW, v_chainE, v_add, v_sub, v_lt, v_le, v_gt, v_ge, v_eqI, v_eqB, v_eqS, v_ixL, v_ixT, v_lenL, v_lenT, v_abs, v_intI, v_intB, v_min, v_max, v_chk, sz, c1, k1, k2]
  simp [v_bind, v_ok, v_none, v_pure, v_lift, v_liftN, v_con, v_get, v_gkd, v_gko, v_gkc, v_vwd, v_vws, v_ok1, v_ownD, v_dctD, v_dk1, v_setOwn, v_putM, v_op2, v_op1, v_anil, v_acons, v_vws0, v_vwsC, v_cb, v_tupD, v_lstD, v_lstW, v_listW, v_dds0, v_ddsC, v_asB, v_tb1, v_andT, v_orT, v_notT, v_andV, v_orV, v_notV, v_ofB, v_ifE, v_pl, v_toW, v_fz, v_ofWd, v_ofWo, v_nxt, v_thenS, v_exprS, v_retS, v_retN, v_ifS, v_setS, v_parS, v_setIx, v_asD, v_asI, v_mthE, v_callA, v_callB, v_forS, v_argI, v_seqI, v_slD, v_poN, v_poS, v_isiE, v_isiE2, v_isNE, v_dnew, v_dinT, v_dputS, v_sortDct, v_rgE, v_rg2, v_unS, v_catW, v_chainE, v_add, v_sub, v_lt, v_le, v_gt, v_ge, v_eqI, v_eqB, v_eqS, v_ixL, v_ixT, v_lenL, v_lenT, v_abs, v_intI, v_intB, v_min, v_max, v_chk, sz, c1, k1, k2]
end Ov
set_option Elab.async false
set_option linter.all false
set_option maxRecDepth 100000
set_option maxHeartbeats 4000000
namespace Ov
open PySem L2
theorem tup_of {F : M Wv} {env e : En} {C : List PyData} (h : F env = some (.ok (.own (dats C)) e)) : cb tupleD (acons (fz F) anil) env = some (.ok (.dat (.tuple C)) e) := by
  rw [v_cb, v_acons, v_fz, h, v_ok, v_ofWo, v_lift, v_ok, v_bind, v_anil, v_ok, v_pure, v_ok, v_bind, v_vwsC, v_vwd, v_ok, v_bind, v_vws0, v_ok, v_pure, v_ok, v_bind]
  show cont (lift (some (PyData.tuple C)) e) _ = _
  rw [v_lift, v_ok, v_pure]
theorem mks_vd : ∀ {S ms : List Int}, S.Pairwise (· < ·) → ms.Perm S → Vd S.length (S.map (mk ms))
  | [], ms, _, p => trivial
  | h :: S, ms, pw, p => by
    obtain ⟨lo, pw'⟩ := List.pairwise_cons.mp pw
    have hin : h ∈ ms := p.symm.subset (List.mem_cons_self ..)
    obtain ⟨l1, l2, e1, e2, _⟩ := List.exists_erase_eq hin
    subst e2
    have p' : (l1 ++ l2).Perm S := (List.perm_middle.symm.trans p).cons_inv
    have lo' : ∀ x ∈ l1 ++ l2, h < x := fun x hx => lo x (p'.subset hx)
    have em : S.map (mk (l1 ++ h :: l2)) = S.map (mk (l1 ++ l2)) := List.map_congr_left fun k hk => mk_up (lo k hk)
    have hl := p'.length_eq
    rw [List.length_append] at hl
    rw [List.map_cons, mk_low e1 lo', em, List.length_cons]
    refine ⟨by omega, by omega, ?_⟩
    rw [show ((S.length + 1 : Nat) : Int) - 1 = S.length by omega]
    exact mks_vd pw' p'
theorem mks_len (ms : List Int) : (mks ms).length = ms.length := by unfold mks; rw [List.length_map, (sortI_perm ms).length_eq]
theorem vd_row {ms : List Int} (nd : ms.Nodup) : Vd ms.length (mks ms) := by
  have := mks_vd (sortI_lt nd) (sortI_perm ms).symm
  rw [(sortI_perm ms).length_eq] at this
  exact this
/-- the runs of a row -/
def RNS (ms : List Int) : List Iv := rns (fiv ms.length) (mks ms)
theorem RNS_len (ms : List Int) : (RNS ms).length = ms.length := by unfold RNS; rw [rns_len, mks_len]
def lsD (l : List (List Iv)) : List PyData := l.map fun iv => .list (ivD iv)
theorem lists_for {d : PyData} : ∀ (cs : List Int) {iv : List Iv} {m : Int} {acc : List PyData} {w3 : Option Wv}, (cs ≠ [] → Pt 0 m iv) → m = cs.length → Vd m cs → iv.length + cs.length ≤ 500 → acc.length + cs.length ≤ 500 →
    ∃ u2 u3, forM (gN 3) b_run_lists_2 (cs.map .int) [some (.dat d), some (.own (dats acc)), some (.dat (.list (ivD iv))), w3] = some (.ok .nx [some (.dat d), some (.own (dats (acc ++ lsD (ivs iv cs)))), u2, u3])
  | [], iv, m, acc, w3, _, _, _, _, _ => ⟨_, _, by rw [show lsD (ivs iv []) = [] from rfl, List.append_nil]; exact for_nil⟩
  | c :: cs, iv, m, acc, w3, hp, hm, v, hl, ha => by
    have P := hp (by simp)
    obtain ⟨q, e1, _⟩ := rix_at P v.1 v.2.1
    have nk := next_ok (iv := iv) (c := c) (by rw [List.length_cons] at hl; omega) (lt_of_get e1)
    have ap := v_app acc (.list (ivD iv)) (by rw [List.length_cons] at ha; omega)
    rw [List.length_cons] at hm hl ha
    obtain ⟨u2, u3, e⟩ := lists_for cs (iv := nx iv (rix iv c)) (m := m - 1) (acc := acc ++ [.list (ivD iv)]) (w3 := some (.dat (.int c))) (fun z => nx_pt P (by have : cs.length ≠ 0 := fun y => z (List.length_eq_zero_iff.mp y); omega) (lt_of_get e1)) (by omega) v.2.2 (by have := nx_len (iv := iv) (a := rix iv c); omega) (by rw [List.length_append]; show acc.length + 1 + _ ≤ _; omega)
    refine ⟨u2, u3, (for_go (e := [some (.dat d), some (.own (dats acc)), some (.dat (.list (ivD iv))), some (.dat (.int c))]) rfl ?_).trans (e.trans (by rw [List.append_assoc]; rfl))⟩
    unfold b_run_lists_2
    generalize ivD iv = L at *
    generalize ivD (nx iv (rix iv c)) = L' at *
    simp [v_bind, v_ok, v_none, v_pure, v_lift, v_liftN, v_con, v_get, v_gkd, v_gko, v_gkc, v_vwd, v_vws, v_ok1, v_ownD, v_dctD, v_dk1, v_setOwn, v_putM, v_op2, v_op1, v_anil, v_acons, v_vws0, v_vwsC, v_cb, v_tupD, v_lstD, v_lstW, v_listW, v_dds0, v_ddsC, v_asB, v_tb1, v_andT, v_orT, v_notT, v_andV, v_orV, v_notV, v_ofB, v_ifE, v_pl, v_toW, v_fz, v_ofWd, v_ofWo, v_nxt, v_thenS, v_exprS, v_retS, v_retN, v_ifS, v_setS, v_parS, v_setIx, v_asD, v_asI, v_mthE, v_callA, v_callB, v_forS, v_argI, v_seqI, v_slD, v_poN, v_poS, v_isiE, v_isiE2, v_isNE, v_dnew, v_dinT, v_dputS, v_sortDct, v_rgE, v_rg2, v_unS, v_catW, v_chainE, v_add, v_sub, v_lt, v_le, v_gt, v_ge, v_eqI, v_eqB, v_eqS, v_ixL, v_ixT, v_lenL, v_lenT, v_abs, v_intI, v_intB, v_min, v_max, v_chk, ap, nk]
theorem len_sq {d : PyData} {ms : List Int} (h : isSq d ms) : lenD [d] = some (.int ms.length) := by rcases h with rfl | rfl <;> simp [lenD, seqD]
theorem lists_ok {d : PyData} {ms : List Int} (hd : isSq d ms) (hl : ms.length ≤ 100) (nd : ms.Nodup) : F_run_lists [d] = some (.own (dats (lsD (ivs (fiv ms.length) (mks ms))))) := by
  have ln := len_sq hd
  have fo := first_ok (n := ms.length) (by omega)
  have co := codes_ok hd (by omega)
  have fl : (fiv ms.length).length = ms.length := by unfold fiv; simp
  obtain ⟨u2, u3, e⟩ := lists_for (d := d) (mks ms) (iv := fiv ms.length) (m := ms.length) (acc := []) (w3 := none) (fun _ => fiv_pt _) (by rw [mks_len]) (vd_row nd) (by rw [mks_len, fl]; omega) (by rw [mks_len]; show 0 + _ ≤ _; omega)
  rw [List.nil_append] at e
  generalize lsD (ivs (fiv ms.length) (mks ms)) = R at *
  generalize (mks ms).map PyData.int = C at *
  generalize ivD (fiv ms.length) = I at *
  generalize (ms.length : Int) = N at *
  refine runA_eq rfl ⟨[some (.dat d), none, u2, u3], ?_⟩
  show f_run_lists [some (.dat d), none, none, none] = _
  unfold f_run_lists
  rw [then_nx (e := [some (.dat d), some (.own (dats [])), none, none]) (by unfold s_run_lists_0; simp [v_bind, v_ok, v_none, v_pure, v_lift, v_liftN, v_con, v_get, v_gkd, v_gko, v_gkc, v_vwd, v_vws, v_ok1, v_ownD, v_dctD, v_dk1, v_setOwn, v_putM, v_op2, v_op1, v_anil, v_acons, v_vws0, v_vwsC, v_cb, v_tupD, v_lstD, v_lstW, v_listW, v_dds0, v_ddsC, v_asB, v_tb1, v_andT, v_orT, v_notT, v_andV, v_orV, v_notV, v_ofB, v_ifE, v_pl, v_toW, v_fz, v_ofWd, v_ofWo, v_nxt, v_thenS, v_exprS, v_retS, v_retN, v_ifS, v_setS, v_parS, v_setIx, v_asD, v_asI, v_mthE, v_callA, v_callB, v_forS, v_argI, v_seqI, v_slD, v_poN, v_poS, v_isiE, v_isiE2, v_isNE, v_dnew, v_dinT, v_dputS, v_sortDct, v_rgE, v_rg2, v_unS, v_catW, v_chainE, v_add, v_sub, v_lt, v_le, v_gt, v_ge, v_eqI, v_eqB, v_eqS, v_ixL, v_ixT, v_lenL, v_lenT, v_abs, v_intI, v_intB, v_min, v_max, v_chk, sz])]
  rw [then_nx (e := [some (.dat d), some (.own (dats [])), some (.dat (.list I)), none]) (by unfold s_run_lists_1; simp [v_bind, v_ok, v_none, v_pure, v_lift, v_liftN, v_con, v_get, v_gkd, v_gko, v_gkc, v_vwd, v_vws, v_ok1, v_ownD, v_dctD, v_dk1, v_setOwn, v_putM, v_op2, v_op1, v_anil, v_acons, v_vws0, v_vwsC, v_cb, v_tupD, v_lstD, v_lstW, v_listW, v_dds0, v_ddsC, v_asB, v_tb1, v_andT, v_orT, v_notT, v_andV, v_orV, v_notV, v_ofB, v_ifE, v_pl, v_toW, v_fz, v_ofWd, v_ofWo, v_nxt, v_thenS, v_exprS, v_retS, v_retN, v_ifS, v_setS, v_parS, v_setIx, v_asD, v_asI, v_mthE, v_callA, v_callB, v_forS, v_argI, v_seqI, v_slD, v_poN, v_poS, v_isiE, v_isiE2, v_isNE, v_dnew, v_dinT, v_dputS, v_sortDct, v_rgE, v_rg2, v_unS, v_catW, v_chainE, v_add, v_sub, v_lt, v_le, v_gt, v_ge, v_eqI, v_eqB, v_eqS, v_ixL, v_ixT, v_abs, v_intI, v_intB, v_min, v_max, v_chk, ln, fo])]
  rw [then_nx (e := [some (.dat d), some (.own (dats R)), u2, u3]) (by
    unfold s_run_lists_2
    simp only [v_bind, v_ok, v_none, v_pure, v_lift, v_liftN, v_con, v_get, v_gkd, v_gko, v_gkc, v_vwd, v_vws, v_ok1, v_ownD, v_dctD, v_dk1, v_setOwn, v_putM, v_op2, v_op1, v_anil, v_acons, v_vws0, v_vwsC, v_cb, v_tupD, v_lstD, v_lstW, v_listW, v_dds0, v_ddsC, v_asB, v_tb1, v_andT, v_orT, v_notT, v_andV, v_orV, v_notV, v_ofB, v_ifE, v_pl, v_toW, v_fz, v_ofWd, v_ofWo, v_nxt, v_thenS, v_exprS, v_retS, v_retN, v_ifS, v_setS, v_parS, v_setIx, v_asD, v_asI, v_mthE, v_callA, v_callB, v_forS, v_argI, v_seqI, v_slD, v_poN, v_poS, v_isiE, v_isiE2, v_isNE, v_dnew, v_dinT, v_dputS, v_sortDct, v_rgE, v_rg2, v_unS, v_catW, v_chainE, v_add, v_sub, v_lt, v_le, v_gt, v_ge, v_eqI, v_eqB, v_eqS, v_ixL, v_ixT, v_lenL, v_lenT, v_abs, v_intI, v_intB, v_min, v_max, v_chk, List.getElem?_cons_zero, Option.map_some, co, seqD]
    exact e)]
  unfold s_run_lists_3
  rw [v_moveS 1 (dats R) rfl]
  rfl
theorem runs_comp {d : PyData} : ∀ (cs : List Int) {iv : List Iv} {m : Int} {acc : List PyData}, (cs ≠ [] → Pt 0 m iv) → m = cs.length → Vd m cs → iv.length + cs.length ≤ 500 → acc.length + cs.length ≤ 500 →
    compM (gT (gsC (gN 1) (gsC (gN 2) gsN))) yesT (op2 ixD (get 1) (fz (callA F_run_index (acons (get 1) (acons (get 2) anil))))) [1, 2] (pairUp (lsD (ivs iv cs)) (cs.map .int)) acc [some (.dat d), none, none] = some (.ok (acc ++ ivD (rns iv cs)) [some (.dat d), none, none])
  | [], iv, m, acc, _, _, _, _, _ => by
    show some _ = some _
    rw [show ivD (rns iv []) = [] from rfl, List.append_nil]
  | c :: cs, iv, m, acc, hp, hm, v, hl, ha => by
    have P := hp (by simp)
    obtain ⟨q, e1, _⟩ := rix_at P v.1 v.2.1
    rw [List.length_cons] at hm hl ha
    have ix := index_ok (iv := iv) (c := c) (by omega)
    have ia := iv_at e1
    have e := runs_comp (d := d) cs (iv := nx iv (rix iv c)) (m := m - 1) (acc := acc ++ [pD q]) (fun z => nx_pt P (by have : cs.length ≠ 0 := fun y => z (List.length_eq_zero_iff.mp y); omega) (lt_of_get e1)) (by omega) v.2.2 (by have := nx_len (iv := iv) (a := rix iv c); omega) (by rw [List.length_append]; show acc.length + 1 + _ ≤ _; omega)
    rw [rns_cons (cs := cs) e1]
    show compM _ _ _ _ (.tuple [.list (ivD iv), .int c] :: pairUp (lsD (ivs (nx iv (rix iv c)) cs)) (cs.map .int)) acc _ = _
    rw [comp_yes (e := [some (.dat d), some (.dat (.list (ivD iv))), some (.dat (.int c))]) (e2 := [some (.dat d), some (.dat (.list (ivD iv))), some (.dat (.int c))]) (e3 := [some (.dat d), some (.dat (.list (ivD iv))), some (.dat (.int c))]) (y := pD q) rfl rfl (by
      generalize ivD iv = L at *
      simp [v_bind, v_ok, v_none, v_pure, v_lift, v_liftN, v_con, v_get, v_gkd, v_gko, v_gkc, v_vwd, v_vws, v_ok1, v_ownD, v_dctD, v_dk1, v_setOwn, v_putM, v_op2, v_op1, v_anil, v_acons, v_vws0, v_vwsC, v_cb, v_tupD, v_lstD, v_lstW, v_listW, v_dds0, v_ddsC, v_asB, v_tb1, v_andT, v_orT, v_notT, v_andV, v_orV, v_notV, v_ofB, v_ifE, v_pl, v_toW, v_fz, v_ofWd, v_ofWo, v_nxt, v_thenS, v_exprS, v_retS, v_retN, v_ifS, v_setS, v_parS, v_setIx, v_asD, v_asI, v_mthE, v_callA, v_callB, v_forS, v_argI, v_seqI, v_slD, v_poN, v_poS, v_isiE, v_isiE2, v_isNE, v_dnew, v_dinT, v_dputS, v_sortDct, v_rgE, v_rg2, v_unS, v_catW, v_chainE, v_add, v_sub, v_lt, v_le, v_gt, v_ge, v_eqI, v_eqB, v_eqS, v_ixL, v_ixT, v_lenL, v_lenT, v_abs, v_intI, v_intB, v_min, v_max, v_chk, ix, ia]) rfl (by omega)]
    refine e.trans ?_
    rw [List.append_assoc]
    rfl
theorem runs_ok {d : PyData} {ms : List Int} (hd : isSq d ms) (hl : ms.length ≤ 100) (nd : ms.Nodup) : F_runs [d] = some (.dat (.tuple (ivD (RNS ms)))) := by
  have co := codes_ok hd (by omega)
  have ls := lists_ok hd hl nd
  have fl : (fiv ms.length).length = ms.length := by unfold fiv; simp
  have e := runs_comp (d := d) (mks ms) (iv := fiv ms.length) (m := ms.length) (acc := []) (fun _ => fiv_pt _) (by rw [mks_len]) (vd_row nd) (by rw [mks_len, fl]; omega) (by rw [mks_len]; show 0 + _ ≤ _; omega)
  rw [List.nil_append, show rns (fiv ms.length) (mks ms) = RNS ms from rfl] at e
  have comp : lcW (argI zipM (acons (fz (callA F_run_lists (acons (get 0) anil))) (acons (fz (callA F_codes (acons (get 0) anil))) anil))) (gT (gsC (gN 1) (gsC (gN 2) gsN))) yesT (op2 ixD (get 1) (fz (callA F_run_index (acons (get 1) (acons (get 2) anil))))) [1, 2] [some (.dat d), none, none] = some (.ok (.own (dats (ivD (RNS ms)))) [some (.dat d), none, none]) := by
    refine lc_eq (e := [some (.dat d), none, none]) (e2 := [some (.dat d), none, none]) ?_ rfl rfl e
    generalize lsD (ivs (fiv ms.length) (mks ms)) = A at *
    generalize (mks ms).map PyData.int = C at *
    have zz : zipM [.list A, .tuple C] = some (pairUp A C) := rfl
    simp [v_bind, v_ok, v_none, v_pure, v_lift, v_liftN, v_con, v_get, v_gkd, v_gko, v_gkc, v_vwd, v_vws, v_ok1, v_ownD, v_dctD, v_dk1, v_setOwn, v_putM, v_op2, v_op1, v_anil, v_acons, v_vws0, v_vwsC, v_cb, v_tupD, v_lstD, v_lstW, v_listW, v_dds0, v_ddsC, v_asB, v_tb1, v_andT, v_orT, v_notT, v_andV, v_orV, v_notV, v_ofB, v_ifE, v_pl, v_toW, v_fz, v_ofWd, v_ofWo, v_nxt, v_thenS, v_exprS, v_retS, v_retN, v_ifS, v_setS, v_parS, v_setIx, v_asD, v_asI, v_mthE, v_callA, v_callB, v_forS, v_argI, v_seqI, v_slD, v_poN, v_poS, v_isiE, v_isiE2, v_isNE, v_dnew, v_dinT, v_dputS, v_sortDct, v_rgE, v_rg2, v_unS, v_catW, v_chainE, v_add, v_sub, v_lt, v_le, v_gt, v_ge, v_eqI, v_eqB, v_eqS, v_ixL, v_ixT, v_lenL, v_lenT, v_abs, v_intI, v_intB, v_min, v_max, v_chk, co, ls, zz]
  refine runA_eq rfl ⟨[some (.dat d), none, none], ?_⟩
  show f_runs [some (.dat d), none, none] = _
  unfold f_runs
  generalize ivD (RNS ms) = R at *
  have t := tup_of comp
  generalize cb tupleD (acons (fz (lcW (argI zipM (acons (fz (callA F_run_lists (acons (get 0) anil))) (acons (fz (callA F_codes (acons (get 0) anil))) anil))) (gT (gsC (gN 1) (gsC (gN 2) gsN))) yesT (op2 ixD (get 1) (fz (callA F_run_index (acons (get 1) (acons (get 2) anil))))) [1, 2])) anil) = F at t ⊢
  simp [v_bind, v_ok, v_none, v_pure, v_lift, v_liftN, v_con, v_get, v_gkd, v_gko, v_gkc, v_vwd, v_vws, v_ok1, v_ownD, v_dctD, v_dk1, v_setOwn, v_putM, v_op2, v_op1, v_anil, v_acons, v_vws0, v_vwsC, v_cb, v_tupD, v_lstD, v_lstW, v_listW, v_dds0, v_ddsC, v_asB, v_tb1, v_andT, v_orT, v_notT, v_andV, v_orV, v_notV, v_ofB, v_ifE, v_pl, v_toW, v_fz, v_ofWd, v_ofWo, v_nxt, v_thenS, v_exprS, v_retS, v_retN, v_ifS, v_setS, v_parS, v_setIx, v_asD, v_asI, v_mthE, v_callA, v_callB, v_forS, v_argI, v_seqI, v_slD, v_poN, v_poS, v_isiE, v_isiE2, v_isNE, v_dnew, v_dinT, v_dputS, v_sortDct, v_rgE, v_rg2, v_unS, v_catW, v_chainE, v_add, v_sub, v_lt, v_le, v_gt, v_ge, v_eqI, v_eqB, v_eqS, v_ixL, v_ixT, v_lenL, v_lenT, v_abs, v_intI, v_intB, v_min, v_max, v_chk, t]
/-! the bar -/
theorem shp_pD (p : Iv) : shp (pD p) = true := shp_tup [p.1, p.2]
theorem eqv_pD (p q : Iv) : PyData.eqv (pD p) (pD q) = decide (p = q) := by
  have h := eqv_ints [p.1, p.2] [q.1, q.2]
  have e : PyData.eqv (pD p) (pD q) = PyData.eqv (dInts [p.1, p.2]) (dInts [q.1, q.2]) := by simp [pD, dInts, PyData.eqv]
  rw [e, h]
  obtain ⟨a, b⟩ := p
  obtain ⟨c, d⟩ := q
  rw [Bool.eq_iff_iff]
  simp
theorem ne_pD (p q : Iv) : eqvD true (pD p) (pD q) = some (.bool (!decide (p = q))) := by
  unfold eqvD
  rw [shp_pD, shp_pD, eqv_pD, Bool.true_xor]
  rfl
theorem runA_nx {np n : Nat} {fb : M Fl} {ds : List PyData} {e : En} (hl : ds.length = np) (h : fb (env0 ds (n - ds.length)) = some (.ok .nx e)) : runA np n fb ds = some (.dat .none) := by
  unfold runA
  rw [if_pos hl, h]
theorem ne_self (l : List Int) : eqvD true (.list (l.map .int)) (.list (l.map .int)) = some (.bool false) := by
  unfold eqvD
  rw [shp_list]
  have : PyData.eqv (.list (l.map .int)) (.list (l.map .int)) = true := by
    have := eqv_ints l l
    rw [decide_eq_true rfl] at this
    exact this
  rw [this]
  rfl
theorem check_ok {d e : PyData} {ms ns : List Int} (hd : isSq d ms) (he : isSq e ns) (p : ns.Perm ms) : F_check_same_people [d, e] = some (.dat .none) := by
  have s1 := sort_ok hd
  have s2 := sort_ok he
  rw [sort_perm p] at s2
  have ne := ne_self (sortI ms)
  generalize (sortI ms).map PyData.int = L at *
  refine runA_nx (e := [some (.dat d), some (.dat e)]) rfl ?_
  show f_check_same_people [some (.dat d), some (.dat e)] = _
  unfold f_check_same_people
  simp [v_bind, v_ok, v_none, v_pure, v_lift, v_liftN, v_con, v_get, v_gkd, v_gko, v_gkc, v_vwd, v_vws, v_ok1, v_ownD, v_dctD, v_dk1, v_setOwn, v_putM, v_op2, v_op1, v_anil, v_acons, v_vws0, v_vwsC, v_cb, v_tupD, v_lstD, v_lstW, v_listW, v_dds0, v_ddsC, v_asB, v_tb1, v_andT, v_orT, v_notT, v_andV, v_orV, v_notV, v_ofB, v_ifE, v_pl, v_toW, v_fz, v_ofWd, v_ofWo, v_nxt, v_thenS, v_exprS, v_retS, v_retN, v_ifS, v_setS, v_parS, v_setIx, v_asD, v_asI, v_mthE, v_callA, v_callB, v_forS, v_argI, v_seqI, v_slD, v_poN, v_poS, v_isiE, v_isiE2, v_isNE, v_dnew, v_dinT, v_dputS, v_sortDct, v_rgE, v_rg2, v_unS, v_catW, v_chainE, v_add, v_sub, v_lt, v_le, v_gt, v_ge, v_eqI, v_eqB, v_eqS, v_ixL, v_ixT, v_lenL, v_lenT, v_abs, v_intI, v_intB, v_min, v_max, v_chk, s1, s2, ne]
theorem bar_same {d e : PyData} : ∀ {S : List Int} {A : List Iv} {w2 w3 w4 : Option Wv}, S.length = A.length → ∃ u2 u3 u4, forM (gT (gsC (gN 2) (gsC (gN 3) (gsC (gN 4) gsN)))) b_bar_1 (tripUp (S.map .int) (ivD A) (ivD A)) [some (.dat d), some (.dat e), w2, w3, w4] = some (.ok .nx [some (.dat d), some (.dat e), u2, u3, u4])
  | [], A, w2, w3, w4, _ => ⟨w2, w3, w4, for_nil⟩
  | h :: S, [], _, _, _, hl => by cases hl
  | h :: S, p :: A, w2, w3, w4, hl => by
    obtain ⟨u2, u3, u4, r⟩ := bar_same (d := d) (e := e) (S := S) (A := A) (w2 := some (.dat (.int h))) (w3 := some (.dat (pD p))) (w4 := some (.dat (pD p))) (by simpa using hl)
    refine ⟨u2, u3, u4, (for_go (e := [some (.dat d), some (.dat e), some (.dat (.int h)), some (.dat (pD p)), some (.dat (pD p))]) rfl ?_).trans r⟩
    have n := ne_pD p p
    rw [decide_eq_true rfl] at n
    unfold b_bar_1
    generalize pD p = x at *
    simp [v_bind, v_ok, v_none, v_pure, v_lift, v_liftN, v_con, v_get, v_gkd, v_gko, v_gkc, v_vwd, v_vws, v_ok1, v_ownD, v_dctD, v_dk1, v_setOwn, v_putM, v_op2, v_op1, v_anil, v_acons, v_vws0, v_vwsC, v_cb, v_tupD, v_lstD, v_lstW, v_listW, v_dds0, v_ddsC, v_asB, v_tb1, v_andT, v_orT, v_notT, v_andV, v_orV, v_notV, v_ofB, v_ifE, v_pl, v_toW, v_fz, v_ofWd, v_ofWo, v_nxt, v_thenS, v_exprS, v_retS, v_retN, v_ifS, v_setS, v_parS, v_setIx, v_asD, v_asI, v_mthE, v_callA, v_callB, v_forS, v_argI, v_seqI, v_slD, v_poN, v_poS, v_isiE, v_isiE2, v_isNE, v_dnew, v_dinT, v_dputS, v_sortDct, v_rgE, v_rg2, v_unS, v_catW, v_chainE, v_add, v_sub, v_lt, v_le, v_gt, v_ge, v_eqI, v_eqB, v_eqS, v_ixL, v_ixT, v_lenL, v_lenT, v_abs, v_intI, v_intB, v_min, v_max, v_chk, n]
theorem bar_go {d e : PyData} {ms ns : List Int} (hd : isSq d ms) (he : isSq e ns) (p : ns.Perm ms) (hl : ms.length ≤ 100) (nd : ms.Nodup) : s_bar_0 [some (.dat d), some (.dat e), none, none, none] = some (.ok .nx [some (.dat d), some (.dat e), none, none, none]) ∧
    s_bar_1 [some (.dat d), some (.dat e), none, none, none] = forM (gT (gsC (gN 2) (gsC (gN 3) (gsC (gN 4) gsN)))) b_bar_1 (tripUp ((sortI ms).map .int) (ivD (RNS ms)) (ivD (RNS ns))) [some (.dat d), some (.dat e), none, none, none] := by
  have ck := check_ok hd he p
  have so := sort_ok hd
  have r1 := runs_ok hd hl nd
  have r2 := runs_ok he (by rw [p.length_eq]; exact hl) (p.nodup_iff.mpr nd)
  generalize (sortI ms).map PyData.int = S at *
  generalize ivD (RNS ms) = A at *
  generalize ivD (RNS ns) = B at *
  have zz : zip3M [.list S, .tuple A, .tuple B] = some (tripUp S A B) := rfl
  constructor
  · unfold s_bar_0
    simp [v_bind, v_ok, v_none, v_pure, v_lift, v_liftN, v_con, v_get, v_gkd, v_gko, v_gkc, v_vwd, v_vws, v_ok1, v_ownD, v_dctD, v_dk1, v_setOwn, v_putM, v_op2, v_op1, v_anil, v_acons, v_vws0, v_vwsC, v_cb, v_tupD, v_lstD, v_lstW, v_listW, v_dds0, v_ddsC, v_asB, v_tb1, v_andT, v_orT, v_notT, v_andV, v_orV, v_notV, v_ofB, v_ifE, v_pl, v_toW, v_fz, v_ofWd, v_ofWo, v_nxt, v_thenS, v_exprS, v_retS, v_retN, v_ifS, v_setS, v_parS, v_setIx, v_asD, v_asI, v_mthE, v_callA, v_callB, v_forS, v_argI, v_seqI, v_slD, v_poN, v_poS, v_isiE, v_isiE2, v_isNE, v_dnew, v_dinT, v_dputS, v_sortDct, v_rgE, v_rg2, v_unS, v_catW, v_chainE, v_add, v_sub, v_lt, v_le, v_gt, v_ge, v_eqI, v_eqB, v_eqS, v_ixL, v_ixT, v_lenL, v_lenT, v_abs, v_intI, v_intB, v_min, v_max, v_chk, ck]
  · unfold s_bar_1
    simp only [v_bind, v_ok, v_none, v_pure, v_lift, v_liftN, v_con, v_get, v_gkd, v_gko, v_gkc, v_vwd, v_vws, v_ok1, v_ownD, v_dctD, v_dk1, v_setOwn, v_putM, v_op2, v_op1, v_anil, v_acons, v_vws0, v_vwsC, v_cb, v_tupD, v_lstD, v_lstW, v_listW, v_dds0, v_ddsC, v_asB, v_tb1, v_andT, v_orT, v_notT, v_andV, v_orV, v_notV, v_ofB, v_ifE, v_pl, v_toW, v_fz, v_ofWd, v_ofWo, v_nxt, v_thenS, v_exprS, v_retS, v_retN, v_ifS, v_setS, v_parS, v_setIx, v_asD, v_asI, v_mthE, v_callA, v_callB, v_forS, v_argI, v_seqI, v_slD, v_poN, v_poS, v_isiE, v_isiE2, v_isNE, v_dnew, v_dinT, v_dputS, v_sortDct, v_rgE, v_rg2, v_unS, v_catW, v_chainE, v_add, v_sub, v_lt, v_le, v_gt, v_ge, v_eqI, v_eqB, v_eqS, v_ixL, v_ixT, v_lenL, v_lenT, v_abs, v_intI, v_intB, v_min, v_max, v_chk, List.getElem?_cons_zero, List.getElem?_cons_succ, Option.map_some, so, r1, r2, zz]
theorem bar_none {d e : PyData} {ms ns : List Int} (hd : isSq d ms) (he : isSq e ns) (p : ns.Perm ms) (hl : ms.length ≤ 100) (nd : ms.Nodup) (hr : RNS ns = RNS ms) : F_bar [d, e] = some (.dat .none) := by
  obtain ⟨g1, g2⟩ := bar_go hd he p hl nd
  rw [hr] at g2
  obtain ⟨u2, u3, u4, r⟩ := bar_same (d := d) (e := e) (S := sortI ms) (A := RNS ms) (w2 := none) (w3 := none) (w4 := none) (by rw [RNS_len, (sortI_perm ms).length_eq])
  rw [r] at g2
  refine runA_eq rfl ⟨[some (.dat d), some (.dat e), u2, u3, u4], ?_⟩
  show f_bar [some (.dat d), some (.dat e), none, none, none] = _
  unfold f_bar
  rw [then_nx g1, then_nx g2]
  unfold s_bar_2
  simp [v_bind, v_ok, v_none, v_pure, v_lift, v_liftN, v_con, v_get, v_gkd, v_gko, v_gkc, v_vwd, v_vws, v_ok1, v_ownD, v_dctD, v_dk1, v_setOwn, v_putM, v_op2, v_op1, v_anil, v_acons, v_vws0, v_vwsC, v_cb, v_tupD, v_lstD, v_lstW, v_listW, v_dds0, v_ddsC, v_asB, v_tb1, v_andT, v_orT, v_notT, v_andV, v_orV, v_notV, v_ofB, v_ifE, v_pl, v_toW, v_fz, v_ofWd, v_ofWo, v_nxt, v_thenS, v_exprS, v_retS, v_retN, v_ifS, v_setS, v_parS, v_setIx, v_asD, v_asI, v_mthE, v_callA, v_callB, v_forS, v_argI, v_seqI, v_slD, v_poN, v_poS, v_isiE, v_isiE2, v_isNE, v_dnew, v_dinT, v_dputS, v_sortDct, v_rgE, v_rg2, v_unS, v_catW, v_chainE, v_add, v_sub, v_lt, v_le, v_gt, v_ge, v_eqI, v_eqB, v_eqS, v_ixL, v_ixT, v_lenL, v_lenT, v_abs, v_intI, v_intB, v_min, v_max, v_chk]
theorem leads_yes {d e : PyData} {ms ns : List Int} (hd : isSq d ms) (he : isSq e ns) (p : ns.Perm ms) (hl : ms.length ≤ 100) (nd : ms.Nodup) (hr : RNS ns = RNS ms) : F_leads [d, e] = some (.dat (.bool true)) := by
  have b := bar_none hd he p hl nd hr
  refine runA_eq rfl ⟨[some (.dat d), some (.dat e)], ?_⟩
  show f_leads [some (.dat d), some (.dat e)] = _
  unfold f_leads
  simp [v_bind, v_ok, v_none, v_pure, v_lift, v_liftN, v_con, v_get, v_gkd, v_gko, v_gkc, v_vwd, v_vws, v_ok1, v_ownD, v_dctD, v_dk1, v_setOwn, v_putM, v_op2, v_op1, v_anil, v_acons, v_vws0, v_vwsC, v_cb, v_tupD, v_lstD, v_lstW, v_listW, v_dds0, v_ddsC, v_asB, v_tb1, v_andT, v_orT, v_notT, v_andV, v_orV, v_notV, v_ofB, v_ifE, v_pl, v_toW, v_fz, v_ofWd, v_ofWo, v_nxt, v_thenS, v_exprS, v_retS, v_retN, v_ifS, v_setS, v_parS, v_setIx, v_asD, v_asI, v_mthE, v_callA, v_callB, v_forS, v_argI, v_seqI, v_slD, v_poN, v_poS, v_isiE, v_isiE2, v_isNE, v_dnew, v_dinT, v_dputS, v_sortDct, v_rgE, v_rg2, v_unS, v_catW, v_chainE, v_add, v_sub, v_lt, v_le, v_gt, v_ge, v_eqI, v_eqB, v_eqS, v_ixL, v_ixT, v_lenL, v_lenT, v_abs, v_intI, v_intB, v_min, v_max, v_chk, b, isNR]
end Ov
set_option Elab.async false
set_option linter.all false
set_option maxHeartbeats 1000000
namespace Ov
/-! exchanges: one code changes by one, in its run -/
theorem pt_get : ∀ {iv : List Iv} {s e : Int} {i : Nat} {p : Iv}, Pt s e iv → iv[i]? = some p → s ≤ p.1 ∧ p.1 ≤ p.2 ∧ p.2 < e
  | [], s, e, i, p, h, k => by simp at k
  | q :: r, s, e, 0, p, h, k => by
    have : q = p := by simpa using k
    subst this
    have h1 := h.1
    have h2 := h.2.1
    have := Pt.le h.2.2
    omega
  | q :: r, s, e, i + 1, p, h, k => by
    have := pt_get h.2.2 (i := i) (by simpa using k)
    have h2 := h.2.1
    omega
theorem pt_lt : ∀ {iv : List Iv} {s e : Int} {i j : Nat} {p q : Iv}, Pt s e iv → iv[i]? = some p → iv[j]? = some q → i < j → p.2 < q.1
  | [], s, e, i, j, p, q, h, k, _, _ => by simp at k
  | x :: r, s, e, 0, j, p, q, h, k, k2, lt => by
    have : x = p := by simpa using k
    subst this
    obtain ⟨j, rfl⟩ : ∃ z, j = z + 1 := ⟨j - 1, by omega⟩
    have := pt_get h.2.2 (i := j) (p := q) (by simpa using k2)
    omega
  | x :: r, s, e, i + 1, j, p, q, h, k, k2, lt => by
    obtain ⟨j, rfl⟩ : ∃ z, j = z + 1 := ⟨j - 1, by omega⟩
    exact pt_lt h.2.2 (i := i) (j := j) (by simpa using k) (by simpa using k2) (by omega)
theorem pt_le {iv : List Iv} {s e : Int} {i j : Nat} {p q : Iv} (h : Pt s e iv) (k : iv[i]? = some p) (k2 : iv[j]? = some q) (le : i ≤ j) : p.1 ≤ q.1 ∧ p.2 ≤ q.2 := by
  by_cases c : i = j
  · subst c
    rw [k] at k2
    cases k2
    exact ⟨Int.le_refl _, Int.le_refl _⟩
  · have a := pt_lt h k k2 (by omega)
    have b := pt_get h k
    have c := pt_get h k2
    omega
theorem pt_adj : ∀ {iv : List Iv} {s e : Int} {i : Nat} {p q : Iv}, Pt s e iv → iv[i]? = some p → iv[i + 1]? = some q → q.1 = p.2 + 1
  | [], s, e, i, p, q, h, k, _ => by simp at k
  | [x], s, e, i, p, q, h, k, k2 => by simp at k2
  | x :: y :: r, s, e, 0, p, q, h, k, k2 => by
    have : x = p := by simpa using k
    subst this
    have : y = q := by simpa using k2
    subst this
    exact h.2.2.1
  | x :: y :: r, s, e, i + 1, p, q, h, k, k2 => pt_adj h.2.2 (i := i) (by simpa using k) (by simpa using k2)
theorem pt_first {iv : List Iv} {s e : Int} {p : Iv} (h : Pt s e iv) (k : iv[0]? = some p) : p.1 = s := by
  cases iv with
  | nil => simp at k
  | cons x r =>
    have : x = p := by simpa using k
    subst this
    exact h.1
theorem pt_last : ∀ {iv : List Iv} {s e : Int} {i : Nat} {p : Iv}, Pt s e iv → iv[i]? = some p → i + 1 = iv.length → p.2 + 1 = e
  | [], s, e, i, p, h, k, _ => by simp at k
  | [x], s, e, i, p, h, k, l => by
    have : i = 0 := by simpa using l
    subst this
    have : x = p := by simpa using k
    subst this
    exact h.2.2
  | x :: y :: r, s, e, 0, p, h, k, l => by simp at l
  | x :: y :: r, s, e, i + 1, p, h, k, l => pt_last h.2.2 (i := i) (by simpa using k) (by simpa using l)
def jn (iv : List Iv) (k : Int) : Prop := ∃ (i : Nat) (p : Iv), iv[i]? = some p ∧ p.1 ≤ k ∧ k + 1 ≤ p.2
section
variable {iv : List Iv} {m c : Int} {a : Nat} {r : Iv}
theorem nx_parts (h : Pt 0 m iv) (ha : iv[a]? = some r) : ∃ pl pr : Iv, iv[lf a]? = some pl ∧ iv[rg iv a]? = some pr ∧ (nx iv a)[lf a]? = some (pl.1, pr.2 - 1) ∧ (∀ (i : Nat) (p : Iv), i < lf a → iv[i]? = some p → (nx iv a)[i]? = some p) ∧ ∀ (i : Nat) (p : Iv), rg iv a < i → iv[i]? = some p → ∃ j : Nat, (nx iv a)[j]? = some (p.1 - 1, p.2 - 1) := by
  have hl := lt_of_get ha
  have l1 : lf a < iv.length := by unfold lf; omega
  have l2 : rg iv a < iv.length := by unfold rg; omega
  have g1 : iv[lf a]? = some iv[lf a] := List.getElem?_eq_getElem l1
  have g2 : iv[rg iv a]? = some iv[rg iv a] := List.getElem?_eq_getElem l2
  have tl : (iv.take (lf a)).length = lf a := by rw [List.length_take]; omega
  refine ⟨_, _, g1, g2, ?_, fun i p hi hp => ?_, fun i p hi hp => ?_⟩
  · unfold nx
    rw [List.append_assoc, List.getElem?_append_right (by omega), tl, Nat.sub_self, List.getD_eq_getElem?_getD, List.getD_eq_getElem?_getD, g1, g2]
    rfl
  · unfold nx
    rw [List.append_assoc, List.getElem?_append_left (by omega), List.getElem?_take_of_lt hi]
    exact hp
  · refine ⟨lf a + 1 + (i - (rg iv a + 1)), ?_⟩
    unfold nx
    rw [List.getElem?_append_right (by rw [List.length_append, tl]; show lf a + 1 ≤ _; omega), List.length_append, tl]
    show ((iv.drop (rg iv a + 1)).map _)[lf a + 1 + (i - (rg iv a + 1)) - (lf a + 1)]? = _
    rw [show lf a + 1 + (i - (rg iv a + 1)) - (lf a + 1) = i - (rg iv a + 1) by omega, List.getElem?_map, List.getElem?_drop, show rg iv a + 1 + (i - (rg iv a + 1)) = i by omega, hp]
    rfl
theorem jn_lo (h : Pt 0 m iv) (ha : iv[a]? = some r) (h1 : r.1 ≤ c) (h2 : c ≤ r.2) {k : Int} (hj : jn iv k) (hk : k + 1 < c) : jn (nx iv a) k := by
  obtain ⟨pl, pr, g1, g2, n1, n2, n3⟩ := nx_parts h ha
  obtain ⟨i, p, hp, p1, p2⟩ := hj
  have hl := lt_of_get ha
  have la : lf a ≤ a := by unfold lf; omega
  have ra : a ≤ rg iv a := by unfold rg; omega
  by_cases c1 : i < lf a
  · exact ⟨i, p, n2 i p c1 hp, p1, p2⟩
  · have e1 := pt_le h g1 hp (by omega)
    have e2 := pt_le h ha g2 ra
    exact ⟨_, _, n1, by show pl.1 ≤ k; omega, by show k + 1 ≤ pr.2 - 1; omega⟩
theorem jn_hi (h : Pt 0 m iv) (ha : iv[a]? = some r) (h1 : r.1 ≤ c) (h2 : c ≤ r.2) {k : Int} (hj : jn iv (k + 1)) (hk : c ≤ k) : jn (nx iv a) k := by
  obtain ⟨pl, pr, g1, g2, n1, n2, n3⟩ := nx_parts h ha
  obtain ⟨i, p, hp, p1, p2⟩ := hj
  have hl := lt_of_get ha
  have la : lf a ≤ a := by unfold lf; omega
  have ra : a ≤ rg iv a := by unfold rg; omega
  by_cases c1 : rg iv a < i
  · obtain ⟨j, hj⟩ := n3 i p c1 hp
    exact ⟨j, _, hj, by show p.1 - 1 ≤ k; omega, by show k + 1 ≤ p.2 - 1; omega⟩
  · have e1 := pt_le h g1 ha la
    have e2 := pt_le h hp g2 (by omega)
    exact ⟨_, _, n1, by show pl.1 ≤ k; omega, by show k + 1 ≤ pr.2 - 1; omega⟩
theorem jn_at (h : Pt 0 m iv) (ha : iv[a]? = some r) (h1 : r.1 ≤ c) (h2 : c ≤ r.2) (k1 : 1 ≤ c) (k2 : c + 1 < m) : jn (nx iv a) (c - 1) := by
  obtain ⟨pl, pr, g1, g2, n1, n2, n3⟩ := nx_parts h ha
  have hl := lt_of_get ha
  refine ⟨_, _, n1, ?_, ?_⟩
  · show pl.1 ≤ c - 1
    by_cases z : a = 0
    · have : lf a = 0 := by unfold lf; omega
      rw [this] at g1
      have := pt_first h g1
      omega
    · have e : lf a + 1 = a := by unfold lf; omega
      have := pt_adj h g1 (by rw [e]; exact ha)
      have := pt_get h g1
      omega
  · show c - 1 + 1 ≤ pr.2 - 1
    by_cases z : a + 1 < iv.length
    · have e : rg iv a = a + 1 := by unfold rg; omega
      rw [e] at g2
      have := pt_adj h ha g2
      have := pt_get h g2
      omega
    · have e : rg iv a = a := by unfold rg; omega
      rw [e, ha] at g2
      cases g2
      have := pt_last h ha (by omega)
      omega
end
/-- the lowest of a row, taken out -/
theorem low_out {S l1 l2 : List Int} {h : Int} {iv : List Iv} (pw : (h :: S).Pairwise (· < ·)) (p : (l1 ++ h :: l2).Perm (h :: S)) (hp : Pt 0 ((l1 ++ h :: l2).length : Nat) iv) :
    S.Pairwise (· < ·) ∧ (l1 ++ l2).Perm S ∧ h ∉ l1 ++ l2 ∧ (∀ x ∈ l1 ++ l2, h < x) ∧ ∃ r : Iv, iv[rix iv (l1.length : Int)]? = some r ∧ r.1 ≤ (l1.length : Int) ∧ (l1.length : Int) ≤ r.2 ∧
      rns iv ((h :: S).map (mk (l1 ++ h :: l2))) = r :: rns (nx iv (rix iv (l1.length : Int))) (S.map (mk (l1 ++ l2))) ∧ (l1 ++ l2 ≠ [] → Pt 0 ((l1 ++ l2).length : Nat) (nx iv (rix iv (l1.length : Int)))) := by
  obtain ⟨lo, pw'⟩ := List.pairwise_cons.mp pw
  have p' : (l1 ++ l2).Perm S := (List.perm_middle.symm.trans p).cons_inv
  have lo' : ∀ x ∈ l1 ++ l2, h < x := fun x hx => lo x (p'.subset hx)
  have nh : h ∉ l1 ++ l2 := fun z => by have := lo' h z; omega
  have em : S.map (mk (l1 ++ h :: l2)) = S.map (mk (l1 ++ l2)) := List.map_congr_left fun k hk => mk_up (lo k hk)
  have ll : (l1 ++ h :: l2).length = l1.length + l2.length + 1 := by rw [List.length_append, List.length_cons]; omega
  obtain ⟨r, e1, e2, e3, _, _⟩ := rix_at hp (c := (l1.length : Int)) (by omega) (by rw [ll]; omega)
  refine ⟨pw', p', nh, lo', r, e1, e2, e3, ?_, fun z => ?_⟩
  · rw [List.map_cons, mk_low (fun z => nh (List.mem_append_left _ z)) lo', em, rns_cons e1]
  · have lz : (l1 ++ l2).length ≠ 0 := fun y => z (List.length_eq_zero_iff.mp y)
    rw [List.length_append] at lz
    have := nx_pt hp (a := rix iv (l1.length : Int)) (by rw [ll]; omega) (lt_of_get e1)
    rw [ll] at this
    rw [List.length_append, show ((l1.length + l2.length : Nat) : Int) = ((l1.length + l2.length + 1 : Nat) : Int) - 1 by omega]
    exact this
theorem filt_drop {A1 A2 : List Int} {h x : Int} (lt : h < x) : (A1 ++ h :: A2).filter (fun o => decide (x ≤ o)) = (A1 ++ A2).filter (fun o => decide (x ≤ o)) := by
  rw [List.filter_append, List.filter_cons, List.filter_append]
  simp [show ¬ x ≤ h by omega]
theorem adj_run : ∀ {S ms : List Int} {iv : List Iv}, S.Pairwise (· < ·) → ms.Perm S → Pt 0 (ms.length : Nat) iv → ∀ {A C : List Int} {a b x : Int} {t : Nat}, ms = A ++ a :: b :: C → jn iv (A.length : Nat) → S[t]? = some x → x = min a b →
    ∃ p : Iv, (rns iv (S.map (mk ms)))[t]? = some p ∧ p.1 ≤ ((A.filter fun o => decide (x ≤ o)).length : Nat) ∧ (((A.filter fun o => decide (x ≤ o)).length : Nat) : Int) + 1 ≤ p.2
  | [], ms, iv, pw, p, hp, A, C, a, b, x, t, e, hj, ht, hx => by simp at ht
  | h :: S, ms, iv, pw, p, hp, A, C, a, b, x, t, e, hj, ht, hx => by
    subst e
    have nd : (A ++ a :: b :: C).Nodup := p.nodup_iff.mpr (pw.imp fun z => by omega)
    obtain ⟨lo, _⟩ := List.pairwise_cons.mp pw
    have low : ∀ y ∈ A ++ a :: b :: C, h ≤ y := fun y hy => by
      rcases List.mem_cons.mp (p.subset hy) with rfl | z
      · exact Int.le_refl _
      · have := lo y z; omega
    have hh : h ∈ A ++ a :: b :: C := p.symm.subset (List.mem_cons_self ..)
    by_cases c1 : x = h
    · -- the shorter one of the two is the lowest
      subst c1
      have t0 : t = 0 := by
        cases t with
        | zero => rfl
        | succ t => have := lo x (List.mem_of_getElem? (by simpa using ht)); omega
      subst t0
      have fa : (A.filter fun o => decide (x ≤ o)) = A := List.filter_eq_self.mpr fun y hy => decide_eq_true (low y (List.mem_append_left _ hy))
      rw [fa]
      obtain ⟨i, q, hq, q1, q2⟩ := hj
      have two : x = a ∨ x = b := by omega
      rcases two with rfl | rfl
      · obtain ⟨_, _, _, _, r, e1, e2, e3, e4, _⟩ := low_out (l1 := A) (l2 := b :: C) pw p hp
        have := rix_in hp hq (c := (A.length : Int)) (by omega) (by omega)
        rw [this, hq] at e1
        cases e1
        exact ⟨q, by rw [e4]; rfl, q1, q2⟩
      · have pe : (A ++ a :: x :: C) = (A ++ [a]) ++ x :: C := by simp
        rw [pe] at p hp ⊢
        obtain ⟨_, _, _, _, r, e1, e2, e3, e4, _⟩ := low_out (l1 := A ++ [a]) (l2 := C) pw p hp
        have l1 : (((A ++ [a]).length : Nat) : Int) = (A.length : Int) + 1 := by rw [List.length_append]; rfl
        have := rix_in hp hq (c := (((A ++ [a]).length : Nat) : Int)) (by omega) (by omega)
        rw [this, hq] at e1
        cases e1
        exact ⟨q, by rw [e4]; rfl, q1, q2⟩
    · -- somebody else is the lowest
      have ha := low a (by simp)
      have hb := low b (by simp)
      have nh : h ≠ a ∧ h ≠ b := by
        refine ⟨fun z => ?_, fun z => ?_⟩ <;> exact c1 (by omega)
      obtain ⟨t, rfl⟩ : ∃ z, t = z + 1 := by
        cases t with
        | zero => exact absurd (by simpa using ht : h = x).symm c1
        | succ t => exact ⟨t, rfl⟩
      have ht : S[t]? = some x := by simpa using ht
      have hx' : h < x := by omega
      rcases List.mem_append.mp hh with hA | hC
      · obtain ⟨A1, A2, rfl⟩ := List.append_of_mem hA
        have pe : (A1 ++ h :: A2) ++ a :: b :: C = A1 ++ h :: (A2 ++ a :: b :: C) := by simp
        rw [pe] at p hp ⊢
        obtain ⟨pw', p', _, _, r, e1, e2, e3, e4, e5⟩ := low_out (l1 := A1) (l2 := A2 ++ a :: b :: C) pw p hp
        have l1 : (((A1 ++ h :: A2).length : Nat) : Int) = (((A1 ++ A2).length : Nat) : Int) + 1 := by rw [List.length_append, List.length_cons, List.length_append]; omega
        rw [l1] at hj
        have j2 := jn_hi hp e1 e2 e3 hj (by rw [List.length_append]; omega)
        obtain ⟨q, g1, g2, g3⟩ := adj_run (A := A1 ++ A2) (C := C) pw' p' (e5 (by simp)) (by simp) j2 ht hx
        rw [filt_drop hx']
        exact ⟨q, by rw [e4]; exact g1, g2, g3⟩
      · have hC : h ∈ C := by
          rcases List.mem_cons.mp hC with z | hC
          · exact absurd z nh.1
          · rcases List.mem_cons.mp hC with z | hC
            · exact absurd z nh.2
            · exact hC
        obtain ⟨C1, C2, rfl⟩ := List.append_of_mem hC
        have pe : A ++ a :: b :: (C1 ++ h :: C2) = (A ++ a :: b :: C1) ++ h :: C2 := by simp
        rw [pe] at p hp ⊢
        obtain ⟨pw', p', _, _, r, e1, e2, e3, e4, e5⟩ := low_out (l1 := A ++ a :: b :: C1) (l2 := C2) pw p hp
        have j2 := jn_lo hp e1 e2 e3 hj (by rw [List.length_append, List.length_cons, List.length_cons]; omega)
        obtain ⟨q, g1, g2, g3⟩ := adj_run (A := A) (C := C1 ++ C2) pw' p' (e5 (by simp)) (by simp) j2 ht hx
        exact ⟨q, by rw [e4]; exact g1, g2, g3⟩
theorem gap_run : ∀ {S ms : List Int} {iv : List Iv}, S.Pairwise (· < ·) → ms.Perm S → Pt 0 (ms.length : Nat) iv → ∀ {A B C : List Int} {a b x : Int} {t : Nat}, ms = A ++ a :: (B ++ b :: C) → B ≠ [] → (∀ y ∈ B, y < a ∧ y < b) → S[t]? = some x → x = min a b →
    ∃ p : Iv, (rns iv (S.map (mk ms)))[t]? = some p ∧ p.1 ≤ ((A.filter fun o => decide (x ≤ o)).length : Nat) ∧ (((A.filter fun o => decide (x ≤ o)).length : Nat) : Int) + 1 ≤ p.2
  | [], ms, iv, pw, p, hp, A, B, C, a, b, x, t, e, hB, hb, ht, hx => by simp at ht
  | h :: S, ms, iv, pw, p, hp, A, B, C, a, b, x, t, e, hB, hb, ht, hx => by
    subst e
    obtain ⟨lo, _⟩ := List.pairwise_cons.mp pw
    have low : ∀ y ∈ A ++ a :: (B ++ b :: C), h ≤ y := fun y hy => by
      rcases List.mem_cons.mp (p.subset hy) with rfl | z
      · exact Int.le_refl _
      · have := lo y z; omega
    obtain ⟨y, hy⟩ := List.exists_mem_of_ne_nil B hB
    have y1 := hb y hy
    have y2 := low y (by simp [hy])
    have hx' : h < x := by omega
    obtain ⟨t, rfl⟩ : ∃ z, t = z + 1 := by
      cases t with
      | zero => have : h = x := by simpa using ht
                omega
      | succ t => exact ⟨t, rfl⟩
    have ht : S[t]? = some x := by simpa using ht
    have hh : h ∈ A ++ a :: (B ++ b :: C) := p.symm.subset (List.mem_cons_self ..)
    rcases List.mem_append.mp hh with hA | hh
    · obtain ⟨A1, A2, rfl⟩ := List.append_of_mem hA
      have pe : (A1 ++ h :: A2) ++ a :: (B ++ b :: C) = A1 ++ h :: (A2 ++ a :: (B ++ b :: C)) := by simp
      rw [pe] at p hp ⊢
      obtain ⟨pw', p', _, _, r, e1, e2, e3, e4, e5⟩ := low_out (l1 := A1) (l2 := A2 ++ a :: (B ++ b :: C)) pw p hp
      obtain ⟨q, g1, g2, g3⟩ := gap_run (A := A1 ++ A2) (B := B) (C := C) pw' p' (e5 (by simp)) (by simp) hB hb ht hx
      rw [filt_drop hx']
      exact ⟨q, by rw [e4]; exact g1, g2, g3⟩
    · rcases List.mem_cons.mp hh with z | hh
      · omega
      · rcases List.mem_append.mp hh with hB' | hh
        · obtain ⟨B1, B2, rfl⟩ := List.append_of_mem hB'
          have pe : A ++ a :: ((B1 ++ h :: B2) ++ b :: C) = (A ++ a :: B1) ++ h :: (B2 ++ b :: C) := by simp
          rw [pe] at p hp ⊢
          obtain ⟨pw', p', _, _, r, e1, e2, e3, e4, e5⟩ := low_out (l1 := A ++ a :: B1) (l2 := B2 ++ b :: C) pw p hp
          by_cases c1 : B1 ++ B2 = []
          · obtain ⟨z1, z2⟩ := List.append_eq_nil_iff.mp c1
            subst z1 z2
            have lz : (((A ++ [a]).length : Nat) : Int) = (A.length : Int) + 1 := by rw [List.length_append]; rfl
            have lm : (A ++ [a] ++ h :: ([] ++ b :: C)).length = A.length + C.length + 3 := by simp; omega
            have j2 := jn_at hp e1 e2 e3 (by rw [lz]; omega) (by rw [lm, lz]; omega)
            rw [show (((A ++ [a]).length : Nat) : Int) - 1 = A.length by omega] at j2
            obtain ⟨q, g1, g2, g3⟩ := adj_run (A := A) (C := C) (a := a) (b := b) pw' p' (e5 (by simp)) (by simp) j2 ht hx
            exact ⟨q, by rw [e4]; exact g1, g2, g3⟩
          · obtain ⟨q, g1, g2, g3⟩ := gap_run (A := A) (B := B1 ++ B2) (C := C) pw' p' (e5 (by simp)) (by simp) c1 (fun z hz => hb z (by rcases List.mem_append.mp hz with w | w <;> simp [w])) ht hx
            exact ⟨q, by rw [e4]; exact g1, g2, g3⟩
        · have hC : h ∈ C := by
            rcases List.mem_cons.mp hh with z | hC
            · omega
            · exact hC
          obtain ⟨C1, C2, rfl⟩ := List.append_of_mem hC
          have pe : A ++ a :: (B ++ b :: (C1 ++ h :: C2)) = (A ++ a :: (B ++ b :: C1)) ++ h :: C2 := by simp
          rw [pe] at p hp ⊢
          obtain ⟨pw', p', _, _, r, e1, e2, e3, e4, e5⟩ := low_out (l1 := A ++ a :: (B ++ b :: C1)) (l2 := C2) pw p hp
          obtain ⟨q, g1, g2, g3⟩ := gap_run (A := A) (B := B) (C := C1 ++ C2) pw' p' (e5 (by simp)) (by simp) hB hb ht hx
          exact ⟨q, by rw [e4]; exact g1, g2, g3⟩
end Ov
set_option Elab.async false
set_option linter.all false
set_option maxHeartbeats 1000000
namespace Ov
/-! the codes after an exchange -/
theorem ix_ne {a h : Int} {l : List Int} (n : h ≠ a) : (a :: l).idxOf h = l.idxOf h + 1 := by
  rw [List.idxOf_cons, show (a == h) = false by simpa using Ne.symm n]
  rfl
theorem idx_swap {P Q T : List Int} {a b h : Int} (ha : h ≠ a) (hb : h ≠ b) : (P ++ a :: (Q ++ b :: T)).idxOf h = (P ++ b :: (Q ++ a :: T)).idxOf h := by
  rw [List.idxOf_append, List.idxOf_append]
  by_cases c : h ∈ P
  · rw [if_pos c, if_pos c]
  · rw [if_neg c, if_neg c, ix_ne ha, ix_ne hb, List.idxOf_append, List.idxOf_append]
    by_cases c : h ∈ Q
    · rw [if_pos c, if_pos c]
    · rw [if_neg c, if_neg c, ix_ne hb, ix_ne ha]
def fh (h : Int) (l : List Int) : List Int := l.filter fun o => decide (h ≤ o)
theorem fh_app (h : Int) (a b : List Int) : fh h (a ++ b) = fh h a ++ fh h b := List.filter_append _ _
theorem fh_yes {h a : Int} {l : List Int} (c : h ≤ a) : fh h (a :: l) = a :: fh h l := by
  unfold fh
  rw [List.filter_cons, if_pos (decide_eq_true c)]
theorem fh_no {h a : Int} {l : List Int} (c : a < h) : fh h (a :: l) = fh h l := by
  unfold fh
  rw [List.filter_cons, if_neg (by simpa using c)]
theorem fh_nil {h : Int} {l : List Int} (c : ∀ y ∈ l, y < h) : fh h l = [] := List.filter_eq_nil_iff.mpr fun y hy => by simpa using c y hy
theorem mk_fh (ms : List Int) (h : Int) : mk ms h = (((fh h ms).idxOf h : Nat) : Int) := rfl
section
variable {A B C : List Int} {a b : Int}
theorem mk_swap_ne (nd : (A ++ a :: (B ++ b :: C)).Nodup) (hb : ∀ y ∈ B, y < a ∧ y < b) {h : Int} (hh : h ≠ min a b) : mk (A ++ b :: (B ++ a :: C)) h = mk (A ++ a :: (B ++ b :: C)) h := by
  rw [mk_fh, mk_fh]
  by_cases c : h < min a b
  · have h1 : h ≤ a := by omega
    have h2 : h ≤ b := by omega
    rw [fh_app, fh_yes h2, fh_app, fh_yes h1, fh_app, fh_yes h1, fh_app, fh_yes h2, idx_swap (by omega) (by omega)]
  · have nB : fh h B = [] := fh_nil fun y hy => by have := hb y hy; omega
    have e : fh h (A ++ b :: (B ++ a :: C)) = fh h (A ++ a :: (B ++ b :: C)) := by
      rw [fh_app, fh_app]
      congr 1
      by_cases c1 : a < b
      · have h1 : a < h := by omega
        rw [fh_no h1, fh_app, nB, List.nil_append]
        by_cases c2 : h ≤ b
        · rw [fh_yes c2, fh_app, nB, List.nil_append, fh_no h1, fh_yes c2]
        · rw [fh_no (by omega), fh_app, nB, List.nil_append, fh_no h1, fh_no (by omega)]
      · have h1 : b < h := by omega
        rw [fh_no h1, fh_app, nB, List.nil_append]
        by_cases c2 : h ≤ a
        · rw [fh_yes c2, fh_yes c2, fh_app, nB, List.nil_append, fh_no h1]
        · rw [fh_no (by omega), fh_no (by omega), fh_app, nB, List.nil_append, fh_no h1]
    rw [e]
theorem mk_swap_eq (nd : (A ++ a :: (B ++ b :: C)).Nodup) (hb : ∀ y ∈ B, y < a ∧ y < b) (lt : a < b) : mk (A ++ a :: (B ++ b :: C)) a = ((fh a A).length : Nat) ∧ mk (A ++ b :: (B ++ a :: C)) a = ((fh a A).length : Nat) + 1 := by
  have nA : a ∉ A := fun z => by
    have := (List.nodup_append.mp nd).2.2 a z a (List.mem_cons_self ..)
    exact this rfl
  have nB : fh a B = [] := fh_nil fun y hy => (hb y hy).1
  have nF : a ∉ fh a A := fun z => nA (List.mem_filter.mp z).1
  constructor
  · rw [mk_fh, fh_app, fh_yes (Int.le_refl _), fh_app, nB, List.nil_append, fh_yes (by omega), idx_mid nF]
  · rw [mk_fh, fh_app, fh_yes (by omega), fh_app, nB, List.nil_append, fh_yes (Int.le_refl _)]
    have : fh a A ++ b :: a :: fh a C = (fh a A ++ [b]) ++ a :: fh a C := by simp
    rw [this, idx_mid (fun z => by
      rcases List.mem_append.mp z with z | z
      · exact nF z
      · have := List.mem_singleton.mp z; omega), List.length_append]
    rfl
end
/-- an exchange of a row -/
structure Xc (ms ns : List Int) (x e : Int) : Prop where
  perm : ns.Perm ms
  mem : x ∈ ms
  one : e = 1 ∨ e = -1
  same : ∀ h, h ≠ x → mk ns h = mk ms h
  step : mk ns x = mk ms x + e
  run : ∀ (t : Nat) (p : Iv), (sortI ms)[t]? = some x → (RNS ms)[t]? = some p → p.1 ≤ mk ns x ∧ mk ns x ≤ p.2
theorem xc_of {A B C : List Int} {a b : Int} (nd : (A ++ a :: (B ++ b :: C)).Nodup) (hB : B ≠ []) (hb : ∀ y ∈ B, y < a ∧ y < b) :
    Xc (A ++ a :: (B ++ b :: C)) (A ++ b :: (B ++ a :: C)) (min a b) (if a < b then 1 else -1) := by
  have ab : a ≠ b := by
    have := (List.nodup_cons.mp (List.nodup_append.mp nd).2.1).1
    exact fun z => this (by rw [z]; simp)
  have pm : (A ++ b :: (B ++ a :: C)).Perm (A ++ a :: (B ++ b :: C)) := by
    refine List.Perm.append_left A ?_
    exact ((List.perm_middle (l₁ := B) (l₂ := C) (a := a)).cons b).trans ((List.Perm.swap a b (B ++ C)).trans ((List.perm_middle (l₁ := B) (l₂ := C) (a := b)).symm.cons a))
  have nd' := pm.nodup_iff.mpr nd
  have hb' : ∀ y ∈ B, y < b ∧ y < a := fun y hy => (hb y hy).symm
  have rn : ∀ (t : Nat) (p : Iv), (sortI (A ++ a :: (B ++ b :: C)))[t]? = some (min a b) → (RNS (A ++ a :: (B ++ b :: C)))[t]? = some p → p.1 ≤ ((fh (min a b) A).length : Nat) ∧ (((fh (min a b) A).length : Nat) : Int) + 1 ≤ p.2 := fun t p ht hp => by
    obtain ⟨q, g1, g2, g3⟩ := gap_run (sortI_lt nd) (sortI_perm _).symm (fiv_pt _) (A := A) (B := B) (C := C) (a := a) (b := b) rfl hB hb ht rfl
    have : some q = some p := g1.symm.trans hp
    cases this
    exact ⟨g2, g3⟩
  by_cases c : a < b
  · have mn : min a b = a := by omega
    obtain ⟨m1, m2⟩ := mk_swap_eq nd hb c
    rw [if_pos c]
    refine ⟨pm, by rw [mn]; simp, .inl rfl, fun h hh => mk_swap_ne nd hb hh, by rw [mn]; omega, fun t p ht hp => ?_⟩
    have := rn t p ht hp
    rw [mn] at this ⊢
    omega
  · have mn : min a b = b := by omega
    obtain ⟨m1, m2⟩ := mk_swap_eq (A := A) (B := B) (C := C) (a := b) (b := a) nd' hb' (by omega)
    rw [if_neg c]
    refine ⟨pm, by rw [mn]; simp, .inr rfl, fun h hh => mk_swap_ne nd hb hh, by rw [mn]; omega, fun t p ht hp => ?_⟩
    have := rn t p ht hp
    rw [mn] at this ⊢
    omega
/-- the runs stay -/
theorem Xc.rns {ms ns : List Int} {x e : Int} (h : Xc ms ns x e) (nd : ms.Nodup) : RNS ns = RNS ms := by
  have hs : sortI ns = sortI ms := sort_perm h.perm
  have hl : ns.length = ms.length := h.perm.length_eq
  have := (rns_same (ds := mks ns) (fiv_pt ms.length) (by rw [mks_len]) (vd_row nd) (by rw [mks_len, mks_len, hl]) fun j p d hp hd => ?_).1
  · unfold RNS
    rw [hl]
    exact this
  · unfold mks at hd
    rw [hs, List.getElem?_map] at hd
    obtain ⟨y, hy, hd⟩ := Option.map_eq_some_iff.mp hd
    subst hd
    by_cases c : y = x
    · subst c
      exact h.run j p hy hp
    · rw [h.same y c]
      have := rns_ok (fiv_pt ms.length) (by rw [mks_len]) (vd_row nd) j p (Ov.mk ms y) hp (by unfold mks; rw [List.getElem?_map, hy]; rfl)
      exact ⟨this.2.1, this.2.2.1⟩
/-! no exchange: each run is one index -/
theorem fiv_get {m c : Nat} (h : c < m) : (fiv m)[c]? = some ((c : Int), (c : Int)) := by
  unfold fiv
  rw [List.getElem?_map, List.getElem?_range h]
  rfl
theorem fiv_rix {m c : Nat} (h : c < m) : rix (fiv m) (c : Int) = c := rix_in (fiv_pt m) (fiv_get h) (Int.le_refl _) (Int.le_refl _)
theorem fiv_succ (n : Nat) : fiv (n + 1) = fiv n ++ [((n : Int), (n : Int))] := by
  unfold fiv
  rw [List.range_succ, List.map_append]
  rfl
theorem fiv_len (n : Nat) : (fiv n).length = n := by unfold fiv; simp
theorem nx_fiv_end (k : Nat) : nx (fiv (k + 2)) (k + 1) = fiv (k + 1) := by
  unfold nx
  have l1 : lf (k + 1) = k := rfl
  have l2 : rg (fiv (k + 2)) (k + 1) = k + 1 := by unfold rg; rw [fiv_len]; omega
  rw [l1, l2, List.getD_eq_getElem?_getD, List.getD_eq_getElem?_getD, fiv_get (by omega), fiv_get (by omega), List.drop_eq_nil_of_le (by rw [fiv_len]; omega)]
  have t : (fiv (k + 2)).take k = fiv k := by
    rw [fiv_succ, fiv_succ, List.append_assoc, List.take_append_of_le_length (by rw [fiv_len]; omega), List.take_of_length_le (by rw [fiv_len]; omega)]
  rw [t, fiv_succ]
  simp
/-! how far the codes are -/
end Ov
set_option Elab.async false
set_option linter.all false
set_option maxRecDepth 100000
set_option maxHeartbeats 4000000
namespace Ov
open PySem L2
def rowD (r : List Int) : PyData := .tuple (r.map .int)
theorem cutL_mid {α : Type} (l : List α) (a b : Nat) (h : a ≤ b) (h2 : b ≤ l.length) : cutL l (some (a : Int)) (some (b : Int)) = (l.drop a).take (b - a) := by
  unfold cutL
  have e : HT.sIx l.length 0 (some (a : Int)) = a := by simp [HT.sIx]; rw [if_neg (by omega)]; omega
  have e2 : HT.sIx l.length l.length (some (b : Int)) = b := by simp [HT.sIx]; rw [if_neg (by omega)]; omega
  rw [e, e2]
def clr (ms : List Int) (l r : Nat) : Bool := ((ms.drop (l + 1)).take (r - (l + 1))).all fun y => decide (y < min (ms.getD l 0) (ms.getD r 0))
/-! sights and exchanges -/
def sg1 (ms : List Int) (l : Nat) : List Iv := ((rngL ((l : Int) + 1) ms.length).filter fun r => clr ms l r.toNat).map fun r => ((l : Int), r)
def sg (ms : List Int) : List Nat → List Iv
  | [] => []
  | l :: ls => sg1 ms l ++ sg ms ls
theorem rng_in2 {a : Nat} {n : Nat} {k : Int} (h : k ∈ rngL ((a : Int) + 1) n) : ∃ j : Nat, k = j ∧ a < j ∧ j < n := by
  unfold rngL at h
  obtain ⟨j, hj, rfl⟩ := List.mem_map.mp h
  have := List.mem_range.mp hj
  exact ⟨a + 1 + j, by omega, by omega, by omega⟩
theorem sg_len1 (ms : List Int) (l : Nat) : (sg1 ms l).length ≤ ms.length := by
  unfold sg1
  rw [List.length_map]
  refine Nat.le_trans (List.length_filter_le _ _) ?_
  unfold rngL
  rw [List.length_map, List.length_range]
  omega
theorem sg_in {ms : List Int} {p : Iv} : ∀ {ls : List Nat}, p ∈ sg ms ls → ∃ l r : Nat, p = ((l : Int), (r : Int)) ∧ l ∈ ls ∧ l < r ∧ r < ms.length ∧ clr ms l r = true
  | [], h => by cases h
  | l :: ls, h => by
    rcases List.mem_append.mp h with h | h
    · obtain ⟨k, hk, rfl⟩ := List.mem_map.mp h
      obtain ⟨k1, k2⟩ := List.mem_filter.mp hk
      obtain ⟨j, rfl, j1, j2⟩ := rng_in2 k1
      rw [Int.toNat_natCast] at k2
      exact ⟨l, j, rfl, List.mem_cons_self .., j1, j2, k2⟩
    · obtain ⟨l', r, e, m, k⟩ := sg_in h
      exact ⟨l', r, e, List.mem_cons_of_mem _ m, k⟩
def farP (p : Iv) : Bool := decide (p.1 < p.2 - 1)
def xcs (ms : List Int) : List Iv := (sg ms (List.range ms.length)).filter farP
theorem sg_len (ms : List Int) : ∀ ls : List Nat, (sg ms ls).length ≤ ls.length * ms.length
  | [] => by show 0 ≤ _; omega
  | l :: ls => by
    have h1 := sg_len1 ms l
    have h2 := sg_len ms ls
    show (sg1 ms l ++ sg ms ls).length ≤ (ls.length + 1) * ms.length
    rw [List.length_append, Nat.add_mul]
    omega
/-! what an exchange is -/
theorem clr_iff {A B C : List Int} {a b : Int} : clr (A ++ a :: (B ++ b :: C)) A.length (A.length + 1 + B.length) = true ↔ ∀ y ∈ B, y < a ∧ y < b := by
  have g1 : (A ++ a :: (B ++ b :: C)).getD A.length 0 = a := by rw [List.getD_eq_getElem?_getD, List.getElem?_append_right (Nat.le_refl _), Nat.sub_self]; rfl
  have g2 : (A ++ a :: (B ++ b :: C)).getD (A.length + 1 + B.length) 0 = b := by
    rw [List.getD_eq_getElem?_getD, List.getElem?_append_right (by omega), show A.length + 1 + B.length - A.length = B.length + 1 by omega, List.getElem?_cons_succ, List.getElem?_append_right (Nat.le_refl _), Nat.sub_self]
    rfl
  have g3 : ((A ++ a :: (B ++ b :: C)).drop (A.length + 1)).take (A.length + 1 + B.length - (A.length + 1)) = B := by
    have : A ++ a :: (B ++ b :: C) = (A ++ [a]) ++ (B ++ b :: C) := by simp
    rw [this, show A.length + 1 = (A ++ [a]).length by simp, List.drop_left, show (A ++ [a]).length + B.length - (A ++ [a]).length = B.length by omega, List.take_left]
  unfold clr
  rw [g1, g2, g3, List.all_eq_true]
  constructor
  · intro h y hy
    have := of_decide_eq_true (h y hy)
    omega
  · intro h y hy
    have := h y hy
    exact decide_eq_true (by omega)
theorem split_at {ms : List Int} {l r : Nat} (h1 : l < r) (h2 : r < ms.length) : ∃ A a B b C, ms = A ++ a :: (B ++ b :: C) ∧ l = A.length ∧ r = A.length + 1 + B.length := by
  refine ⟨ms.take l, ms[l], (ms.drop (l + 1)).take (r - (l + 1)), ms[r], ms.drop (r + 1), ?_, by rw [List.length_take]; omega, by rw [List.length_take, List.length_take, List.length_drop]; omega⟩
  have e1 : ms = ms.take l ++ ms.drop l := (List.take_append_drop l ms).symm
  have e2 : ms.drop l = ms[l] :: ms.drop (l + 1) := List.drop_eq_getElem_cons (by omega)
  have e3 : ms.drop (l + 1) = (ms.drop (l + 1)).take (r - (l + 1)) ++ (ms.drop (l + 1)).drop (r - (l + 1)) := (List.take_append_drop _ _).symm
  have e4 : (ms.drop (l + 1)).drop (r - (l + 1)) = ms[r] :: ms.drop (r + 1) := by
    rw [List.drop_drop, show l + 1 + (r - (l + 1)) = r by omega]
    exact List.drop_eq_getElem_cons h2
  rw [e4] at e3
  rw [← e3, ← e2]
  exact e1
theorem xcs_in {ms : List Int} {p : Iv} (h : p ∈ xcs ms) : ∃ A a B b C, ms = A ++ a :: (B ++ b :: C) ∧ B ≠ [] ∧ (∀ y ∈ B, y < a ∧ y < b) ∧ p = ((A.length : Int), ((A.length + 1 + B.length : Nat) : Int)) := by
  obtain ⟨m1, m2⟩ := List.mem_filter.mp h
  obtain ⟨l, r, rfl, _, k1, k2, k3⟩ := sg_in m1
  obtain ⟨A, a, B, b, C, rfl, rfl, rfl⟩ := split_at k1 k2
  refine ⟨A, a, B, b, C, rfl, fun z => ?_, clr_iff.mp k3, rfl⟩
  subst z
  have := of_decide_eq_true m2
  simp at this
end Ov
set_option Elab.async false
set_option linter.all false
set_option maxRecDepth 100000
set_option maxHeartbeats 4000000
namespace Ov
open PySem L2
section
variable {A B C : List Int} {a b : Int}
theorem at_l : (A ++ a :: (B ++ b :: C))[A.length]? = some a := by rw [List.getElem?_append_right (Nat.le_refl _), Nat.sub_self]; rfl
theorem at_r : (A ++ a :: (B ++ b :: C))[A.length + 1 + B.length]? = some b := by
  rw [List.getElem?_append_right (by omega), show A.length + 1 + B.length - A.length = B.length + 1 by omega, List.getElem?_cons_succ, List.getElem?_append_right (Nat.le_refl _), Nat.sub_self]
  rfl
theorem len_x : (A ++ a :: (B ++ b :: C)).length = A.length + B.length + C.length + 2 := by rw [List.length_append, List.length_cons, List.length_append, List.length_cons]; omega
end
/-! count, steps -/
theorem size_ok (p : Iv) : F_run_size [pD p] = some (.dat (.int (p.2 - p.1 + 1))) := by
  have e0 : s_run_size_0 [some (.dat (pD p)), none, none] = some (.ok .nx [some (.dat (pD p)), some (.dat (.int p.1)), some (.dat (.int p.2))]) := un_ok (get_ok rfl) rfl
  refine runA_eq rfl ⟨[some (.dat (pD p)), some (.dat (.int p.1)), some (.dat (.int p.2))], ?_⟩
  show f_run_size [some (.dat (pD p)), none, none] = _
  unfold f_run_size
  rw [then_nx e0]
  exact ret_ok (op2_ok (op2_ok (get_ok rfl) (get_ok rfl) rfl) con_ok rfl)
def prod : Int → List Iv → Int
  | t, [] => t
  | t, p :: r => prod (t * (p.2 - p.1 + 1)) r
theorem count_for {d : PyData} : ∀ (l : List Iv) {t : Int} {w2 : Option Wv}, (∀ p ∈ l, p.1 ≤ p.2 ∧ p.2 - p.1 ≤ 1000) → ∃ u2, forM (gN 2) b_count_rows_1 (ivD l) [some (.dat d), some (.dat (.int t)), w2] = some (.ok .nx [some (.dat d), some (.dat (.int (prod t l))), u2])
  | [], t, w2, _ => ⟨w2, for_nil⟩
  | p :: l, t, w2, h => by
    obtain ⟨u2, e⟩ := count_for (d := d) l (t := t * (p.2 - p.1 + 1)) (w2 := some (.dat (pD p))) fun x hx => h x (List.mem_cons_of_mem _ hx)
    have h0 := h p (List.mem_cons_self ..)
    have pm : pMul t (p.2 - p.1 + 1) = true := pMul_r (by omega) (by omega)
    have st : b_count_rows_1 [some (.dat d), some (.dat (.int t)), some (.dat (pD p))] = some (.ok .nx [some (.dat d), some (.dat (.int (t * (p.2 - p.1 + 1)))), some (.dat (pD p))]) := aug_ok rfl (call1 (get_ok rfl) (size_ok p)) (v_mulD _ _ pm) (by show 1 < 3; decide)
    exact ⟨u2, (for_go (e := [some (.dat d), some (.dat (.int t)), some (.dat (pD p))]) rfl st).trans e⟩
theorem rns_sm {ms : List Int} (nd : ms.Nodup) (hl : ms.length ≤ 16) : ∀ p ∈ RNS ms, p.1 ≤ p.2 ∧ p.2 - p.1 ≤ 1000 := fun p hp => by
  obtain ⟨j, hj, e⟩ := List.getElem_of_mem hp
  have hj' : j < (mks ms).length := by rw [mks_len, ← RNS_len]; exact hj
  have := rns_ok (fiv_pt ms.length) (by rw [mks_len]) (vd_row nd) j p ((mks ms)[j]'hj') (by rw [← e]; exact List.getElem?_eq_getElem hj) (List.getElem?_eq_getElem hj')
  omega
theorem count_ok {ms : List Int} (nd : ms.Nodup) (hl : ms.length ≤ 16) : F_count_rows [rowD ms] = some (.dat (.int (prod 1 (RNS ms)))) := by
  have ru := runs_ok (d := rowD ms) (.inr rfl) (by omega) nd
  obtain ⟨u2, e⟩ := count_for (d := rowD ms) (RNS ms) (t := 1) (w2 := none) (rns_sm nd hl)
  generalize ivD (RNS ms) = R at *
  have e0 : s_count_rows_0 [some (.dat (rowD ms)), none, none] = some (.ok .nx [some (.dat (rowD ms)), some (.dat (.int 1)), none]) := set_ok con_ok (by show 1 < 3; decide)
  have e1 : s_count_rows_1 [some (.dat (rowD ms)), some (.dat (.int 1)), none] = some (.ok .nx [some (.dat (rowD ms)), some (.dat (.int (prod 1 (RNS ms)))), u2]) := for_ok (seq_ok (call1 (get_ok rfl) ru) rfl) e
  refine runA_eq rfl ⟨[some (.dat (rowD ms)), some (.dat (.int (prod 1 (RNS ms)))), u2], ?_⟩
  show f_count_rows [some (.dat (rowD ms)), none, none] = _
  unfold f_count_rows
  rw [then_nx e0, then_nx e1]
  exact ret_ok (get_ok rfl)
end Ov
set_option linter.all false
set_option maxRecDepth 100000
set_option maxHeartbeats 4000000
namespace Ov
/-! valleys, hills and teeth: their runs -/
/-! the codes of a valley -/
/-! hills -/
/-! teeth -/
theorem prod_mul : ∀ (b : List Iv) (t : Int), prod t b = t * prod 1 b
  | [], t => by simp [prod]
  | p :: b, t => by rw [prod, prod, prod_mul b (t * _), prod_mul b (1 * _), Int.one_mul, Int.mul_assoc]
end Ov
set_option Elab.async false
set_option linter.all false
set_option maxRecDepth 100000
set_option maxHeartbeats 4000000
namespace Ov
open PySem L2
theorem bools_map {β : Type} (l : List β) (t : β → Bool) : boolsD (l.map fun x => .bool (t x)) = some (l.map t) := by
  induction l with
  | nil => rfl
  | cons a r ih => show (boolsD (r.map fun x => .bool (t x))).map (t a :: ·) = _; rw [ih]; rfl
theorem all_map {β : Type} (l : List β) (t : β → Bool) : allD [.list (l.map fun x => .bool (t x))] = some (.bool (l.all t)) := by
  show ((boolsD _).map fun bs => PyData.bool (bs.all id)) = _
  rw [bools_map]
  show some (PyData.bool ((l.map t).all id)) = _
  rw [List.all_map]
  rfl
theorem cutT_mid {β : Type} {z : β → PyData} {l : List β} {a b : Nat} (h : a ≤ b) (h2 : b ≤ l.length) : cutD (.tuple (l.map z)) (some (a : Int)) (some (b : Int)) = some (.tuple (((l.drop a).take (b - a)).map z)) := by
  show some (PyData.tuple (cutL _ _ _)) = _
  rw [cutL_mid _ _ _ h (by rw [List.length_map]; exact h2), List.map_take, List.map_drop]
theorem sees_go {ms : List Int} {i j : Int} {l : List PyData} {r : Bool}
    (h1 : (lcW (seqI (slD (get 0) (poS (op2 addD (get 1) (con (.int 1)))) (poS (get 2)))) (gN 3) yesT (op2 ltD (get 3) (cb minD (acons (op2 ixD (get 0) (get 1)) (acons (op2 ixD (get 0) (get 2)) anil)))) [3]) [some (.dat (.tuple (ms.map PyData.int))), some (.dat (.int i)), some (.dat (.int j)), none] = some (.ok (.own (dats l)) [some (.dat (.tuple (ms.map PyData.int))), some (.dat (.int i)), some (.dat (.int j)), none]))
    (h2 : allD [.list l] = some (.bool r)) :
    F_sees [.tuple (ms.map PyData.int), .int i, .int j] = some (.dat (.bool r)) := by
  refine runA_eq rfl ⟨[some (.dat (.tuple (ms.map PyData.int))), some (.dat (.int i)), some (.dat (.int j)), none], ?_⟩
  show f_sees [some (.dat (.tuple (ms.map PyData.int))), some (.dat (.int i)), some (.dat (.int j)), none] = _
  unfold f_sees
  exact (ret_x (pl_x (cb_x (acons_x (fz_x h1 (v_ofWo _)) anil_x) (vwC_x vwd_x vw0_x) h2) rfl))
theorem sees_ok {ms : List Int} {l r : Nat} (h1 : l < r) (h2 : r < ms.length) (h3 : ms.length ≤ 1000) : F_sees [.tuple (ms.map .int), .int (l : Int), .int (r : Int)] = some (.dat (.bool (clr ms l r))) := by
  have gl : ms[l]? = some (ms.getD l 0) := by rw [List.getD_eq_getElem?_getD, List.getElem?_eq_getElem (by omega)]; rfl
  have gr : ms[r]? = some (ms.getD r 0) := by rw [List.getD_eq_getElem?_getD, List.getElem?_eq_getElem (by omega)]; rfl
  refine sees_go (lc_eq (seq_x (sl_x (get_x rfl) (poS_x (op2_x (get_x rfl) con_x vwd_x vwd_x ((addI_x _ _).trans (congrArg (fun z => some (PyData.int z)) (show (l : Int) + 1 = ((l + 1 : Nat) : Int) by omega))))) (poS_x (get_x rfl)) vwd_x (cutT_mid (z := PyData.int) (a := l + 1) (b := r) (by omega) (by omega))) rfl) rfl rfl (compM_x (fun y => .bool (decide (y < min (ms.getD l 0) (ms.getD r 0)))) _ (by rw [List.length_take, List.length_drop]; omega) fun y _ => ?_)) (all_map _ _)
  exact ⟨[some (.dat (.tuple (ms.map .int))), some (.dat (.int (l : Int))), some (.dat (.int (r : Int))), some (.dat (.int y))], rfl, rfl, op2_x (get_x rfl) (cb_x (acons_x (op2_x (get_x rfl) (get_x rfl) vwd_x vwd_x (ixT_map (z := PyData.int) gl)) (acons_x (op2_x (get_x rfl) (get_x rfl) vwd_x vwd_x (ixT_map (z := PyData.int) gr)) anil_x)) (vwC_x vwd_x (vwC_x vwd_x vw0_x)) (min_x _ _)) vwd_x vwd_x (ltI_x _ _), rfl, rfl⟩
/-! swaps -/
def sw1 (ms : List Int) (i : Nat) : List Iv := ((List.range' (i + 2) (ms.length - (i + 2))).filter fun j => clr ms i j).map fun j : Nat => ((i : Int), (j : Int))
def sws (ms : List Int) : List Nat → List Iv
  | [] => []
  | i :: l => sw1 ms i ++ sws ms l
theorem sw1_len (ms : List Int) (i : Nat) : (sw1 ms i).length ≤ ms.length := by
  unfold sw1
  rw [List.length_map]
  have := List.length_filter_le (fun j => clr ms i j) (List.range' (i + 2) (ms.length - (i + 2)))
  rw [List.length_range'] at this
  omega
theorem rng_range (a b : Nat) : rngL (a : Int) (b : Int) = (List.range' a (b - a)).map fun k : Nat => (k : Int) := by
  unfold rngL
  rw [List.range'_eq_map_range, List.map_map, show ((b : Int) - (a : Int)).toNat = b - a by omega]
  refine List.map_congr_left fun k _ => ?_
  show (a : Int) + (k : Int) = ((a + k : Nat) : Int)
  omega
theorem sg1_far (ms : List Int) (l : Nat) : (sg1 ms l).filter farP = sw1 ms l := by
  unfold sg1 sw1
  have e : rngL ((l : Int) + 1) ms.length = (List.range' (l + 1) (ms.length - (l + 1))).map fun k : Nat => (k : Int) := rng_range (l + 1) ms.length
  rw [e, List.filter_map, List.filter_filter, List.filter_map, List.map_map]
  have key : (List.range' (l + 1) (ms.length - (l + 1))).filter (fun j => decide (l + 1 < j) && clr ms l j) = (List.range' (l + 2) (ms.length - (l + 2))).filter fun j => clr ms l j := by
    by_cases c : l + 1 < ms.length
    · rw [show ms.length - (l + 1) = (ms.length - (l + 2)) + 1 by omega, List.range'_succ, List.filter_cons_of_neg (by simp)]
      refine List.filter_congr fun j hj => ?_
      have : l + 2 ≤ j := by have := List.mem_range'.mp hj; omega
      rw [decide_eq_true (by omega : l + 1 < j)]
      rfl
    · rw [show ms.length - (l + 1) = 0 by omega, show ms.length - (l + 2) = 0 by omega]
      rfl
  rw [← key]
  congr 1
  refine List.filter_congr fun j _ => ?_
  show (farP ((l : Int), (j : Int)) && clr ms l ((j : Int)).toNat) = _
  rw [Int.toNat_natCast]
  congr 1
  unfold farP
  rw [decide_eq_decide]
  show (l : Int) < (j : Int) - 1 ↔ _
  omega
theorem sws_far (ms : List Int) : ∀ ls : List Nat, (sg ms ls).filter farP = sws ms ls
  | [] => rfl
  | l :: ls => by rw [sg, List.filter_append, sg1_far, sws_far ms ls]; rfl
theorem sws_xcs (ms : List Int) : sws ms (List.range ms.length) = xcs ms := (sws_far ms _).symm
theorem sw_body {ms : List Int} {f y : List Iv} {i : Int}
    (h1 : (lcW (argI rngD2 (acons (op2 addD (get 2) (con (.int 2))) (acons (cb lenD (acons (get 0) anil)) anil))) (gN 3) (tb1 (fz (callA F_sees (acons (get 0) (acons (get 2) (acons (get 3) anil)))))) (tupD (acons (get 2) (acons (get 3) anil))) [3]) [some (.dat (.tuple (ms.map PyData.int))), some (.dat (.list (ivD f))), some (.dat (.int i)), none] = some (.ok (.own (dats (ivD y))) [some (.dat (.tuple (ms.map PyData.int))), some (.dat (.list (ivD f))), some (.dat (.int i)), none]))
    (h2 : (ivD f).length + (ivD y).length ≤ 1000000) :
    b_swaps_1 [some (.dat (.tuple (ms.map PyData.int))), some (.dat (.list (ivD f))), some (.dat (.int i)), none] = some (.ok .nx [some (.dat (.tuple (ms.map PyData.int))), some (.dat (.list ((ivD f) ++ (ivD y)))), some (.dat (.int i)), none]) := by
  unfold b_swaps_1
  exact (set_x (pl_x (op2_x (get_x rfl) (fz_x h1 (v_ofWo _)) vwd_x vwd_x (v_cat _ _ h2)) rfl) (Nat.le_of_ble_eq_true rfl))
theorem swaps_go {ms : List Int} {l : List PyData} {f : List Iv} {u1 u2 : Option Wv}
    (h1 : rngD [.int (ms.length : Nat)] = some l)
    (h2 : forM (gN 2) b_swaps_1 l [some (.dat (.tuple (ms.map PyData.int))), some (.dat (.list [])), none, none] = some (.ok .nx [some (.dat (.tuple (ms.map PyData.int))), some (.dat (.list (ivD f))), u1, u2])) :
    F_swaps [.tuple (ms.map PyData.int)] = some (.dat (.list (ivD f))) := by
  have s0 : s_swaps_0 [some (.dat (.tuple (ms.map PyData.int))), none, none, none] = some (.ok .nx [some (.dat (.tuple (ms.map PyData.int))), some (.dat (.list [])), none, none]) := by
    unfold s_swaps_0
    exact (set_x (pl_x (lst_x anil_x rfl (Nat.le_of_ble_eq_true rfl)) rfl) (Nat.le_of_ble_eq_true rfl))
  have s1 : s_swaps_1 [some (.dat (.tuple (ms.map PyData.int))), some (.dat (.list [])), none, none] = some (.ok .nx [some (.dat (.tuple (ms.map PyData.int))), some (.dat (.list (ivD f))), u1, u2]) := by
    unfold s_swaps_1
    exact (for_x (argI_x (acons_x (cb_x (acons_x (get_x rfl) anil_x) (vwC_x vwd_x vw0_x) (lenTm_x _ _)) anil_x) rfl h1) h2)
  refine runA_eq rfl ⟨[some (.dat (.tuple (ms.map PyData.int))), some (.dat (.list (ivD f))), u1, u2], ?_⟩
  show f_swaps [some (.dat (.tuple (ms.map PyData.int))), none, none, none] = _
  unfold f_swaps
  rw [then_nx s0, then_nx s1]
  unfold s_swaps_2
  exact (ret_x (pl_x (get_x rfl) rfl))
theorem sw_loop {ms : List Int} (hn : ms.length ≤ 30) : ∀ (j : Nat) {k : Nat} {f : List Iv} {w2 : Option Wv}, k + j ≤ ms.length → f.length + 30 * j ≤ 1000 → ∃ u2, forM (gN 2) b_swaps_1 ((List.range' k j).map nI) [some (.dat (.tuple (ms.map .int))), some (.dat (.list (ivD f))), w2, none] = some (.ok .nx [some (.dat (.tuple (ms.map .int))), some (.dat (.list (ivD (f ++ sws ms (List.range' k j))))), u2, none])
  | 0, k, f, w2, _, _ => ⟨w2, by show _ = some (Rs.ok Fl.nx [_, some (.dat (.list (ivD (f ++ [])))), _, _]); rw [List.append_nil]; exact for_nil⟩
  | j + 1, k, f, w2, h, hl => by
    have l1 := sw1_len ms k
    obtain ⟨u2, e⟩ := sw_loop hn j (k := k + 1) (f := f ++ sw1 ms k) (w2 := some (.dat (nI k))) (by omega) (by rw [List.length_append]; omega)
    have cm : lcW (argI rngD2 (acons (op2 addD (get 2) (con (.int 2))) (acons (cb lenD (acons (get 0) anil)) anil))) (gN 3) (tb1 (fz (callA F_sees (acons (get 0) (acons (get 2) (acons (get 3) anil)))))) (tupD (acons (get 2) (acons (get 3) anil))) [3] [some (.dat (.tuple (ms.map PyData.int))), some (.dat (.list (ivD f))), some (.dat (.int (k : Int))), none] = some (.ok (.own (dats (ivD (sw1 ms k)))) [some (.dat (.tuple (ms.map PyData.int))), some (.dat (.list (ivD f))), some (.dat (.int (k : Int))), none]) := by
      refine lc_eq (argI_x (acons_x (op2_x (get_x rfl) con_x vwd_x vwd_x ((addI_x _ _).trans (congrArg (fun z => some (PyData.int z)) (show (k : Int) + 2 = ((k + 2 : Nat) : Int) by omega)))) (acons_x (cb_x (acons_x (get_x rfl) anil_x) (vwC_x vwd_x vw0_x) (lenTm_x _ _)) anil_x)) rfl (rng2N (by omega) (by omega))) rfl rfl ?_
      have := comp_x (env := [some (.dat (.tuple (ms.map PyData.int))), some (.dat (.list (ivD f))), some (.dat (.int (k : Int))), none]) (p := gN 3) (ft := tb1 (fz (callA F_sees (acons (get 0) (acons (get 2) (acons (get 3) anil)))))) (fe := tupD (acons (get 2) (acons (get 3) anil))) (vs := [3]) (z := nI) (fun j => .tuple [.int (k : Int), .int (j : Int)]) (fun j => clr ms k j) (List.range' (k + 2) (ms.length - (k + 2))) [] (by rw [List.length_range']; show 0 + _ < _; omega) fun j hj => by
        have hj := List.mem_range'.mp hj
        exact ⟨[some (.dat (.tuple (ms.map PyData.int))), some (.dat (.list (ivD f))), some (.dat (.int (k : Int))), some (.dat (.int (j : Int)))], rfl, tb_x (fz_x (callA_x (acons_x (get_x rfl) (acons_x (get_x rfl) (acons_x (get_x rfl) anil_x))) rfl (sees_ok (by omega) (by omega) (by omega))) rfl) vwd_x, fun _ => tup_x (acons_x (get_x rfl) (acons_x (get_x rfl) anil_x)) rfl (Nat.le_of_ble_eq_true rfl), rfl, rfl⟩
      refine this.trans ?_
      rw [List.nil_append]
      unfold sw1 ivD
      rw [List.map_map]
      rfl
    have st := sw_body (ms := ms) (f := f) (i := (k : Int)) cm (by rw [iv_len, iv_len]; omega)
    refine ⟨u2, ?_⟩
    rw [List.range'_succ, List.map_cons]
    refine (for_go (e := [some (.dat (.tuple (ms.map .int))), some (.dat (.list (ivD f))), some (.dat (.int (k : Int))), none]) rfl st).trans (Eq.trans ?_ (e.trans ?_))
    · unfold ivD; rw [List.map_append]; rfl
    · rw [List.append_assoc]; rfl
theorem swaps_ok {ms : List Int} (hn : ms.length ≤ 30) : F_swaps [.tuple (ms.map .int)] = some (.dat (.list (ivD (xcs ms)))) := by
  obtain ⟨u2, e⟩ := sw_loop hn ms.length (k := 0) (f := []) (w2 := none) (by omega) (by show 0 + _ ≤ _; omega)
  rw [← List.range_eq_range', sws_xcs, List.nil_append] at e
  exact swaps_go (rng1N (by omega)) (by rw [← List.range_eq_range']; exact e)
/-! turned -/
theorem turned_go {i1 j1 i j b a : Int} {ms c0 c1 c2 : List Int}
    (h1 : cutD (.tuple (ms.map PyData.int)) none (some i) = some (.tuple (c0.map PyData.int)))
    (h2 : ixD (.tuple (ms.map PyData.int)) (.int j) = some (.int b))
    (h3 : (c0.map PyData.int).length + ([.int b] : List PyData).length ≤ 1000000)
    (q4 : i + 1 = i1)
    (h5 : cutD (.tuple (ms.map PyData.int)) (some i1) (some j) = some (.tuple (c1.map PyData.int)))
    (h6 : (((c0.map PyData.int) ++ [.int b]) : List PyData).length + (c1.map PyData.int).length ≤ 1000000)
    (h7 : ixD (.tuple (ms.map PyData.int)) (.int i) = some (.int a))
    (h8 : ((((c0.map PyData.int) ++ [.int b]) ++ (c1.map PyData.int)) : List PyData).length + ([.int a] : List PyData).length ≤ 1000000)
    (q9 : j + 1 = j1)
    (h10 : cutD (.tuple (ms.map PyData.int)) (some j1) none = some (.tuple (c2.map PyData.int)))
    (h11 : (((((c0.map PyData.int) ++ [.int b]) ++ (c1.map PyData.int)) ++ [.int a]) : List PyData).length + (c2.map PyData.int).length ≤ 1000000) :
    F_turned [.tuple (ms.map PyData.int), .tuple [.int i, .int j]] = some (.dat (.tuple (((((c0.map PyData.int) ++ [.int b]) ++ (c1.map PyData.int)) ++ [.int a]) ++ (c2.map PyData.int)))) := by
  have s0 : s_turned_0 [some (.dat (.tuple (ms.map PyData.int))), some (.dat (.tuple [.int i, .int j])), none, none] = some (.ok .nx [some (.dat (.tuple (ms.map PyData.int))), some (.dat (.tuple [.int i, .int j])), some (.dat (.int i)), some (.dat (.int j))]) := by
    unfold s_turned_0
    exact (un_x (get_x rfl) rfl)
  refine runA_eq rfl ⟨[some (.dat (.tuple (ms.map PyData.int))), some (.dat (.tuple [.int i, .int j])), some (.dat (.int i)), some (.dat (.int j))], ?_⟩
  show f_turned [some (.dat (.tuple (ms.map PyData.int))), some (.dat (.tuple [.int i, .int j])), none, none] = _
  unfold f_turned
  rw [then_nx s0]
  unfold s_turned_1
  exact (ret_x (pl_x (op2_x (op2_x (op2_x (op2_x (sl_x (get_x rfl) poN_x (poS_x (get_x rfl)) vwd_x h1) (tup_x (acons_x (op2_x (get_x rfl) (get_x rfl) vwd_x vwd_x h2) anil_x) rfl (Nat.le_of_ble_eq_true rfl)) vwd_x vwd_x (v_catT _ _ h3)) (sl_x (get_x rfl) (poS_x (op2_x (get_x rfl) con_x vwd_x vwd_x ((addI_x _ _).trans (congrArg (fun z => some (PyData.int z)) q4)))) (poS_x (get_x rfl)) vwd_x h5) vwd_x vwd_x (v_catT _ _ h6)) (tup_x (acons_x (op2_x (get_x rfl) (get_x rfl) vwd_x vwd_x h7) anil_x) rfl (Nat.le_of_ble_eq_true rfl)) vwd_x vwd_x (v_catT _ _ h8)) (sl_x (get_x rfl) (poS_x (op2_x (get_x rfl) con_x vwd_x vwd_x ((addI_x _ _).trans (congrArg (fun z => some (PyData.int z)) q9)))) poN_x vwd_x h10) vwd_x vwd_x (v_catT _ _ h11)) rfl))
section
variable {A B C : List Int} {a b : Int}
theorem turned_ok (hl : (A ++ a :: (B ++ b :: C)).length ≤ 1000) : F_turned [.tuple ((A ++ a :: (B ++ b :: C)).map .int), pD ((A.length : Int), ((A.length + 1 + B.length : Nat) : Int))] = some (.dat (.tuple ((A ++ b :: (B ++ a :: C)).map .int))) := by
  have ln := len_x (A := A) (B := B) (C := C) (a := a) (b := b)
  have d0 : (A ++ a :: (B ++ b :: C)).take A.length = A := by simp
  have d1 : ((A ++ a :: (B ++ b :: C)).drop (A.length + 1)).take (A.length + 1 + B.length - (A.length + 1)) = B := by
    have e : A ++ a :: (B ++ b :: C) = (A ++ [a]) ++ (B ++ b :: C) := by simp
    rw [e, List.drop_append_of_le_length (by simp), List.drop_eq_nil_of_le (by simp), List.nil_append, show A.length + 1 + B.length - (A.length + 1) = B.length by omega]
    simp
  have d2 : (A ++ a :: (B ++ b :: C)).drop (A.length + 1 + B.length + 1) = C := by
    have e : A ++ a :: (B ++ b :: C) = (A ++ a :: (B ++ [b])) ++ C := by simp
    rw [e, List.drop_append_of_le_length (by simp; omega), List.drop_eq_nil_of_le (by simp; omega)]
    rfl
  have t0 := cutT_to (z := PyData.int) (l := A ++ a :: (B ++ b :: C)) (k := A.length)
  have t1 := cutT_mid (z := PyData.int) (l := A ++ a :: (B ++ b :: C)) (a := A.length + 1) (b := A.length + 1 + B.length) (by omega) (by omega)
  have t2 := cutT_from (z := PyData.int) (l := A ++ a :: (B ++ b :: C)) (k := A.length + 1 + B.length + 1)
  rw [d0] at t0
  rw [d1] at t1
  rw [d2] at t2
  have la : A.length ≤ 1000 ∧ B.length ≤ 1000 ∧ C.length ≤ 1000 := ⟨by omega, by omega, by omega⟩
  refine (turned_go (ms := A ++ a :: (B ++ b :: C)) (i := (A.length : Int)) (j := ((A.length + 1 + B.length : Nat) : Int)) (i1 := ((A.length + 1 : Nat) : Int)) (j1 := ((A.length + 1 + B.length + 1 : Nat) : Int)) t0 (ixT_map (z := PyData.int) at_r) ?_ (by omega) t1 ?_ (ixT_map (z := PyData.int) at_l) ?_ (by omega) t2 ?_).trans ?_
  · rw [List.length_map]; show A.length + 1 ≤ _; omega
  · rw [List.length_append, List.length_map, List.length_map]; show A.length + 1 + _ ≤ _; omega
  · rw [List.length_append, List.length_append, List.length_map, List.length_map]; show A.length + 1 + B.length + 1 ≤ _; omega
  · rw [List.length_append, List.length_append, List.length_append, List.length_map, List.length_map, List.length_map]; show A.length + 1 + B.length + 1 + _ ≤ _; omega
  · congr 3
    simp
end
/-! walks -/
def Wk : List Int → List Iv → List Int → Prop
  | ms, [], ns => ns = ms
  | ms, t :: ts, ns => ∃ A a B b C, ms = A ++ a :: (B ++ b :: C) ∧ B ≠ [] ∧ (∀ y ∈ B, y < a ∧ y < b) ∧ t = ((A.length : Int), ((A.length + 1 + B.length : Nat) : Int)) ∧ Wk (A ++ b :: (B ++ a :: C)) ts ns
theorem Wk.snoc : ∀ {ts : List Iv} {ms : List Int} {A B C : List Int} {a b : Int}, Wk ms ts (A ++ a :: (B ++ b :: C)) → B ≠ [] → (∀ y ∈ B, y < a ∧ y < b) → Wk ms (ts ++ [((A.length : Int), ((A.length + 1 + B.length : Nat) : Int))]) (A ++ b :: (B ++ a :: C))
  | [], ms, A, B, C, a, b, h, hB, hb => ⟨A, a, B, b, C, h.symm, hB, hb, rfl, rfl⟩
  | t :: ts, ms, A, B, C, a, b, ⟨A', a', B', b', C', h1, h2, h3, h4, h5⟩, hB, hb => ⟨A', a', B', b', C', h1, h2, h3, h4, Wk.snoc h5 hB hb⟩
theorem swap_perm {A B C : List Int} {a b : Int} : (A ++ b :: (B ++ a :: C)).Perm (A ++ a :: (B ++ b :: C)) := by
  refine List.Perm.append_left A ?_
  refine (List.Perm.cons b List.perm_middle).trans ?_
  refine (List.Perm.swap a b (B ++ C)).trans ?_
  exact List.Perm.cons a List.perm_middle.symm
theorem Wk.perm : ∀ {ts : List Iv} {ms ns : List Int}, Wk ms ts ns → ns.Perm ms
  | [], ms, ns, h => by rw [show ns = ms from h]
  | t :: ts, ms, ns, ⟨A, a, B, b, C, h1, h2, h3, h4, h5⟩ => by rw [h1]; exact (Wk.perm h5).trans swap_perm
theorem wa_body1 {bs bs1 : List PyData} {ns n2 : List Int} {w2 w4 w5 : Option Wv} {t sw : List Iv} {p q : Int}
    (h1 : F_swaps [.tuple (ns.map PyData.int)] = some (.dat (.list (ivD sw))))
    (h2 : eqvD true (.list (ivD sw)) (.list []) = some (.bool true))
    (h3 : F_of bs [.list (ivD sw)] = some (.dat (.tuple [.int p, .int q]), bs1))
    (h4 : (ivD t).length + 1 ≤ 1000000)
    (h5 : ixD (.list ((ivD t) ++ [.tuple [.int p, .int q]])) (.int (-1)) = some (.tuple [.int p, .int q]))
    (h6 : F_turned [.tuple (ns.map PyData.int), .tuple [.int p, .int q]] = some (.dat (.tuple (n2.map PyData.int)))) :
    b_wandered_1 [some (.own (dats bs)), some (.dat (.tuple (ns.map PyData.int))), w2, some (.own (dats (ivD t))), w4, w5] = some (.ok .nx [some (.own (dats bs1)), some (.dat (.tuple (n2.map PyData.int))), w2, some (.own (dats ((ivD t) ++ [.tuple [.int p, .int q]]))), w4, some (.dat (.list (ivD sw)))]) := by
  unfold b_wandered_1
  exact (then_x (set_x (pl_x (fz_x (callA_x (acons_x (get_x rfl) anil_x) rfl h1) rfl) rfl) (Nat.le_of_ble_eq_true rfl)) (ifS_t (tb_x (op2_x (get_x rfl) (lst_x anil_x rfl (Nat.le_of_ble_eq_true rfl)) vwd_x vwd_x h2) vwd_x) (then_x (expr_x (mth_x rfl (acons_x (fz_x (callB_x rfl (acons_x (get_x rfl) anil_x) rfl rfl h3) rfl) anil_x) rfl rfl (v_app _ _ h4))) (set_x (pl_x (fz_x (callA_x (acons_x (get_x rfl) (acons_x (op2_x (getO_x rfl) (op1_x con_x vwd_x rfl) (vws_x rfl) vwd_x h5) anil_x)) rfl h6) rfl) rfl) (Nat.le_of_ble_eq_true rfl)))))
theorem wa_body0 {bs : List PyData} {ns : List Int} {w2 w4 w5 : Option Wv} {t sw : List Iv}
    (h1 : F_swaps [.tuple (ns.map PyData.int)] = some (.dat (.list (ivD sw))))
    (h2 : eqvD true (.list (ivD sw)) (.list []) = some (.bool false)) :
    b_wandered_1 [some (.own (dats bs)), some (.dat (.tuple (ns.map PyData.int))), w2, some (.own (dats (ivD t))), w4, w5] = some (.ok .nx [some (.own (dats bs)), some (.dat (.tuple (ns.map PyData.int))), w2, some (.own (dats (ivD t))), w4, some (.dat (.list (ivD sw)))]) := by
  unfold b_wandered_1
  exact (then_x (set_x (pl_x (fz_x (callA_x (acons_x (get_x rfl) anil_x) rfl h1) rfl) rfl) (Nat.le_of_ble_eq_true rfl)) (ifS_f (tb_x (op2_x (get_x rfl) (lst_x anil_x rfl (Nat.le_of_ble_eq_true rfl)) vwd_x vwd_x h2) vwd_x) nxt_x))
theorem wandered_go {bs bs1 l bs2 : List PyData} {ms ns : List Int} {m k : Int} {t : List Iv} {u3 u4 : Option Wv}
    (h1 : (F_take 2) bs [.int (m + 1)] = some (.dat (.int k), bs1))
    (h2 : rngD [.int k] = some l)
    (h3 : forM (gN 4) b_wandered_1 l [some (.own (dats bs1)), some (.dat (.tuple (ms.map PyData.int))), some (.dat (.int m)), some (.own (dats [])), none, none] = some (.ok .nx [some (.own (dats bs2)), some (.dat (.tuple (ns.map PyData.int))), some (.dat (.int m)), some (.own (dats (ivD t))), u3, u4])) :
    F_wandered bs [.tuple (ms.map PyData.int), .int m] = some (.dat (.tuple [.tuple (ns.map PyData.int), .list (ivD t)]), bs2) := by
  have s0 : s_wandered_0 [some (.own (dats bs)), some (.dat (.tuple (ms.map PyData.int))), some (.dat (.int m)), none, none, none] = some (.ok .nx [some (.own (dats bs)), some (.dat (.tuple (ms.map PyData.int))), some (.dat (.int m)), some (.own (dats [])), none, none]) := by
    unfold s_wandered_0
    exact (set_x (lstW_x anil_x rfl (Nat.le_of_ble_eq_true rfl)) (Nat.le_of_ble_eq_true rfl))
  have s1 : s_wandered_1 [some (.own (dats bs)), some (.dat (.tuple (ms.map PyData.int))), some (.dat (.int m)), some (.own (dats [])), none, none] = some (.ok .nx [some (.own (dats bs2)), some (.dat (.tuple (ns.map PyData.int))), some (.dat (.int m)), some (.own (dats (ivD t))), u3, u4]) := by
    unfold s_wandered_1
    exact (for_x (argI_x (acons_x (fz_x (callB_x rfl (acons_x (op2_x (get_x rfl) con_x vwd_x vwd_x (addI_x _ _)) anil_x) rfl rfl h1) rfl) anil_x) rfl h2) h3)
  refine runB_eq rfl ⟨[some (.dat (.tuple (ns.map PyData.int))), some (.dat (.int m)), some (.dat (.list (ivD t))), u3, u4], ?_⟩
  show f_wandered [some (.own (dats bs)), some (.dat (.tuple (ms.map PyData.int))), some (.dat (.int m)), none, none, none] = _
  unfold f_wandered
  rw [then_nx s0, then_nx s1]
  unfold s_wandered_2
  exact (frz_x (i := 3) rfl (ret_x (pl_x (tup_x (acons_x (get_x rfl) (acons_x (get_x rfl) anil_x)) rfl (Nat.le_of_ble_eq_true rfl)) rfl)))
end Ov
set_option linter.all false
set_option maxRecDepth 100000
set_option maxHeartbeats 4000000
set_option Elab.async false
set_option linter.all false
set_option maxRecDepth 100000
set_option maxHeartbeats 4000000
namespace Ov
open PySem L2
theorem shp_ivL' (l : List Iv) : shp (.list (ivD l)) = true := (Sh.lst (k := 5) fun x hx => by obtain ⟨p, _, rfl⟩ := List.mem_map.mp hx; exact Sh.tup fun y hy => by simp only [List.mem_cons, List.not_mem_nil, or_false] at hy; rcases hy with rfl | rfl <;> exact Sh.int _).shp (by decide)
theorem nil_ne {l : List Iv} : eqvD true (.list (ivD l)) (.list []) = some (.bool (!l.isEmpty)) := by
  unfold eqvD
  rw [shp_ivL', show shp (.list []) = true by decide]
  cases l with
  | nil => rfl
  | cons p r =>
    show some (PyData.bool (true ^^ PyData.eqv (.list (pD p :: ivD r)) (.list []))) = _
    rw [show PyData.eqv (.list (pD p :: ivD r)) (.list []) = false by simp [PyData.eqv, PyData.eqvAll]]
    rfl
theorem last_ix {L : List PyData} {x : PyData} : ixD (.list (L ++ [x])) (.int (-1)) = some x := by
  show (L2.ixN (L ++ [x]).length (-1)).bind (fun j => (L ++ [x])[j]?) = _
  unfold L2.ixN
  rw [if_neg (by omega), if_pos (by rw [List.length_append]; show -((L.length + 1 : Nat) : Int) ≤ -1; omega)]
  show (L ++ [x])[(-1 + ((L ++ [x]).length : Int)).toNat]? = _
  rw [List.length_append, show (-1 + ((L.length + [x].length : Nat) : Int)).toNat = L.length by show (-1 + ((L.length + 1 : Nat) : Int)).toNat = _; omega]
  simp
theorem ivD_snoc (t : List Iv) (p : Iv) : ivD (t ++ [p]) = ivD t ++ [pD p] := by unfold ivD; rw [List.map_append]; rfl
theorem wa_loop {ms : List Int} {w2 : Option Wv} : ∀ (j : Nat) {k : Nat} {n : Int} {bs : List PyData} {ns : List Int} {t : List Iv} {w4 w5 : Option Wv}, Bok n bs → n + j ≤ 10 ^ 10 → ns.length ≤ 30 → t.length + j ≤ 1000 → Wk ms t ns →
    ∃ bs' ns' t' u4 u5, forM (gN 4) b_wandered_1 ((List.range' k j).map nI) [some (.own (dats bs)), some (.dat (.tuple (ns.map .int))), w2, some (.own (dats (ivD t))), w4, w5] = some (.ok .nx [some (.own (dats bs')), some (.dat (.tuple (ns'.map .int))), w2, some (.own (dats (ivD t'))), u4, u5]) ∧ Wk ms t' ns' ∧ t'.length ≤ t.length + j ∧ Bok (n + j) bs'
  | 0, k, n, bs, ns, t, w4, w5, hb, _, _, _, hw => ⟨bs, ns, t, w4, w5, for_nil, hw, by omega, hb.mono (by omega)⟩
  | j + 1, k, n, bs, ns, t, w4, w5, hb, hn, hl, ht, hw => by
    have sw := swaps_ok hl
    rw [List.range'_succ, List.map_cons]
    by_cases c : xcs ns = []
    · obtain ⟨bs', ns', t', u4, u5, e, h1, h2, h3⟩ := wa_loop (ms := ms) (w2 := w2) j (k := k + 1) (w4 := some (.dat (nI k))) (w5 := some (.dat (.list (ivD (xcs ns))))) hb (by omega) hl (by omega) hw
      have st := wa_body0 (bs := bs) (w2 := w2) (t := t) (w4 := some (.dat (nI k))) (w5 := w5) sw (by rw [nil_ne, c]; rfl)
      exact ⟨bs', ns', t', u4, u5, (for_go (e := [some (.own (dats bs)), some (.dat (.tuple (ns.map .int))), w2, some (.own (dats (ivD t))), some (.dat (nI k)), w5]) rfl st).trans e, h1, by omega, h3.mono (by omega)⟩
    · have lx : (xcs ns).length ≤ 900 := by
        have := sg_len ns (List.range ns.length)
        rw [List.length_range] at this
        have l2 : (xcs ns).length ≤ (sg ns (List.range ns.length)).length := List.length_filter_le _ _
        have : ns.length * ns.length ≤ 30 * 30 := Nat.mul_le_mul hl hl
        omega
      have l1 : 1 ≤ (xcs ns).length := by
        cases h : xcs ns with
        | nil => exact (c h).elim
        | cons _ _ => rw [List.length_cons]; omega
      obtain ⟨d, bs1, e1, hd, k1⟩ := of_ok hb (by omega) (ds := ivD (xcs ns)) (by rw [iv_len]; exact l1) (by rw [iv_len]; omega)
      obtain ⟨p, hp, rfl⟩ := List.mem_map.mp hd
      obtain ⟨A, a, B, b, C, rfl, hB, hb', rfl⟩ := xcs_in hp
      have tu := turned_ok (A := A) (B := B) (C := C) (a := a) (b := b) (by omega)
      have st := wa_body1 (bs := bs) (bs1 := bs1) (w2 := w2) (t := t) (w4 := some (.dat (nI k))) (w5 := w5) (p := (A.length : Int)) (q := ((A.length + 1 + B.length : Nat) : Int)) sw (by rw [nil_ne]; cases h : xcs (A ++ a :: (B ++ b :: C)) with | nil => exact (c h).elim | cons _ _ => rfl) e1 (by rw [iv_len]; omega) last_ix tu
      obtain ⟨bs', ns', t', u4, u5, e, h1, h2, h3⟩ := wa_loop (ms := ms) (w2 := w2) j (k := k + 1) (t := t ++ [((A.length : Int), ((A.length + 1 + B.length : Nat) : Int))]) (w4 := some (.dat (nI k))) (w5 := some (.dat (.list (ivD (xcs (A ++ a :: (B ++ b :: C))))))) k1 (by omega) (by rw [swap_perm.length_eq]; exact hl) (by rw [List.length_append]; show t.length + 1 + j ≤ _; omega) (hw.snoc hB hb')
      rw [List.length_append] at h2
      refine ⟨bs', ns', t', u4, u5, (for_go (e := [some (.own (dats bs)), some (.dat (.tuple ((A ++ a :: (B ++ b :: C)).map .int))), w2, some (.own (dats (ivD t))), some (.dat (nI k)), w5]) rfl st).trans (Eq.trans ?_ e), h1, by have : t'.length ≤ t.length + 1 + j := h2; omega, h3.mono (by omega)⟩
      rw [ivD_snoc]
      rfl
theorem wandered_ok {n : Int} {bs : List PyData} {ms : List Int} {m : Nat} (hb : Bok n bs) (hn : n ≤ 10 ^ 9) (hl : ms.length ≤ 30) (hm : m ≤ 500) : ∃ ns t bs', F_wandered bs [.tuple (ms.map .int), .int (m : Int)] = some (.dat (.tuple [.tuple (ns.map .int), .list (ivD t)]), bs') ∧ Wk ms t ns ∧ t.length ≤ m ∧ Bok (n + m + 1) bs' := by
  obtain ⟨r, bs1, e1, r0, r1, k1⟩ := take_small (k := 1) hb (by omega) (below := (m : Int) + 1) (by omega) (by omega)
  obtain ⟨j, rfl⟩ : ∃ j : Nat, r = (j : Int) := ⟨r.toNat, by omega⟩
  obtain ⟨bs', ns', t', u4, u5, e, h1, h2, h3⟩ := wa_loop (ms := ms) (w2 := some (.dat (.int (m : Int)))) j (k := 0) (ns := ms) (t := []) (w4 := none) (w5 := none) k1 (by omega) hl (by show 0 + j ≤ _; omega) rfl
  exact ⟨ns', t', bs', wandered_go e1 (rng1N (by omega)) e, h1, by have : t'.length ≤ 0 + j := h2; omega, h3.mono (by omega)⟩
/-! marks -/
/-! intervals -/
/-! the law's own runs -/
end Ov
set_option linter.all false
set_option maxRecDepth 100000
set_option maxHeartbeats 4000000
set_option Elab.async false
set_option linter.all false
set_option maxRecDepth 100000
set_option maxHeartbeats 4000000
namespace Ov
open PySem L2
theorem person_ok {ms : List Int} {h : Int} (hm : h ∈ ms) : F_check_person [rowD ms, .int h] = some (.dat .none) := by
  have i1 : inF true (.int h) (rowD ms) = some (.bool false) := by
    have at_ : (ms.map PyData.int).all atomD = true := List.all_eq_true.mpr fun d hd => by
      obtain ⟨i, _, rfl⟩ := List.mem_map.mp hd
      rfl
    have an : ((ms.map PyData.int).any fun z => PyData.eqv z (.int h)) = true := List.any_eq_true.mpr ⟨.int h, List.mem_map.mpr ⟨h, hm, rfl⟩, by simp [PyData.eqv]⟩
    show (if (atomD (.int h) && (ms.map PyData.int).all atomD) = true then some (PyData.bool (true ^^ (ms.map PyData.int).any fun z => PyData.eqv z (.int h))) else none) = _
    rw [at_, an]
    rfl
  refine runA_nx (e := [some (.dat (rowD ms)), some (.dat (.int h))]) rfl ?_
  show f_check_person [some (.dat (rowD ms)), some (.dat (.int h))] = _
  exact if_nx (tb_ok (op2_ok (get_ok rfl) (get_ok rfl) i1))
theorem run_list_ok {ms : List Int} {h : Int} {k : Nat} {iv : List Iv} (hl : ms.length ≤ 100) (nd : ms.Nodup) (hm : h ∈ ms) (hk : (sortI ms).idxOf h = k) (hv : (ivs (fiv ms.length) (mks ms))[k]? = some iv) : F_run_list [rowD ms, .int h] = some (.dat (.list (ivD iv))) := by
  have pk := person_ok hm
  have so := sort_ok (d := rowD ms) (ms := ms) (.inr rfl)
  have ls := lists_ok (d := rowD ms) (ms := ms) (.inr rfl) hl nd
  have ix := idx_ok (l := sortI ms) (h := h) ((sortI_perm ms).symm.subset hm)
  rw [hk] at ix
  have at_ : atI (lsD (ivs (fiv ms.length) (mks ms))) (k : Int) = some (.list (ivD iv)) := by
    have hk2 := lt_of_get hv
    have e2 : (lsD (ivs (fiv ms.length) (mks ms)))[k]? = some (.list (ivD iv)) := by unfold lsD; rw [List.getElem?_map, hv]; rfl
    have hk3 := lt_of_get e2
    rw [atI_in (by omega) (by omega)]
    rw [List.getElem?_eq_getElem hk3] at e2
    simp only [Int.toNat_natCast]
    exact e2
  have rm : Gv (rmE idxD (cb sortD (acons (get 0) anil)) (acons (get 1) anil)) [some (.dat (rowD ms)), some (.dat (.int h))] (.int (k : Int)) := by
    unfold Gv rmE
    generalize (sortI ms).map PyData.int = SS at *
    generalize rowD ms = X at *
    simp [v_bind, v_ok, v_none, v_pure, v_lift, v_liftN, v_con, v_get, v_gkd, v_gko, v_gkc, v_vwd, v_vws, v_ok1, v_ownD, v_dctD, v_dk1, v_setOwn, v_putM, v_op2, v_op1, v_anil, v_acons, v_vws0, v_vwsC, v_cb, v_tupD, v_lstD, v_lstW, v_listW, v_dds0, v_ddsC, v_asB, v_tb1, v_andT, v_orT, v_notT, v_andV, v_orV, v_notV, v_ofB, v_ifE, v_pl, v_toW, v_fz, v_ofWd, v_ofWo, v_nxt, v_thenS, v_exprS, v_retS, v_retN, v_ifS, v_setS, v_parS, v_setIx, v_asD, v_asI, v_mthE, v_callA, v_callB, v_forS, v_argI, v_seqI, v_slD, v_poN, v_poS, v_isiE, v_isiE2, v_isNE, v_dnew, v_dinT, v_dputS, v_sortDct, v_rgE, v_rg2, v_unS, v_catW, v_chainE, v_add, v_sub, v_lt, v_le, v_gt, v_ge, v_eqI, v_eqB, v_eqS, v_ixL, v_ixT, v_lenL, v_lenT, v_abs, v_intI, v_intB, v_min, v_max, v_chk, so, ix, isLD]
  have e0 : s_run_list_0 [some (.dat (rowD ms)), some (.dat (.int h))] = some (.ok .nx [some (.dat (rowD ms)), some (.dat (.int h))]) := expr_ok (call2 (get_ok rfl) (get_ok rfl) pk)
  refine runA_eq rfl ⟨[some (.dat (rowD ms)), some (.dat (.int h))], ?_⟩
  show f_run_list [some (.dat (rowD ms)), some (.dat (.int h))] = _
  unfold f_run_list
  rw [then_nx e0]
  exact ret_ok (op2_ok (call1o (get_ok rfl) ls) rm at_)
/-! mate -/
/-! mixed -/
/-! second -/
/-! mirrored, other_way, run, shows_exchanges -/
end Ov
set_option Elab.async false
set_option linter.all false
set_option maxRecDepth 100000
set_option maxHeartbeats 4000000
namespace Ov
open PySem L2
def szI (p : Iv) : Int := p.2 - p.1 + 1
theorem wp_go {ms a b : List Int} {p h : Int}
    (c1 : ¬ (p < 0))
    (c2 : ¬ (((ms.length : Nat) : Int) < (p : Int)))
    (h3 : inF false (.int h) (.tuple (ms.map PyData.int)) = some (.bool false))
    (h4 : cutD (.tuple (ms.map PyData.int)) none (some p) = some (.tuple (a.map PyData.int)))
    (h5 : a.length + ([h] : List Int).length ≤ 1000000)
    (h6 : cutD (.tuple (ms.map PyData.int)) (some p) none = some (.tuple (b.map PyData.int)))
    (h7 : (((a ++ [h]).map PyData.int) : List PyData).length + (b.map PyData.int).length ≤ 1000000) :
    F_with_person [.tuple (ms.map PyData.int), .int p, .int h] = some (.dat (.tuple (((a ++ [h]).map PyData.int) ++ (b.map PyData.int)))) := by
  have s0 : s_with_person_0 [some (.dat (.tuple (ms.map PyData.int))), some (.dat (.int p)), some (.dat (.int h))] = some (.ok .nx [some (.dat (.tuple (ms.map PyData.int))), some (.dat (.int p)), some (.dat (.int h))]) := by
    unfold s_with_person_0
    exact (ifS_f (orT_f (tb_x (op2_x (get_x rfl) con_x vwd_x vwd_x ((ltI_x _ _).trans (congrArg (fun z => some (PyData.bool z)) (decide_eq_false c1)))) vwd_x) (tb_x (op2_x (get_x rfl) (cb_x (acons_x (get_x rfl) anil_x) (vwC_x vwd_x vw0_x) (lenTm_x _ _)) vwd_x vwd_x ((gtI_x _ _).trans (congrArg (fun z => some (PyData.bool z)) (decide_eq_false c2)))) vwd_x)) nxt_x)
  have s1 : s_with_person_1 [some (.dat (.tuple (ms.map PyData.int))), some (.dat (.int p)), some (.dat (.int h))] = some (.ok .nx [some (.dat (.tuple (ms.map PyData.int))), some (.dat (.int p)), some (.dat (.int h))]) := by
    unfold s_with_person_1
    exact (ifS_f (tb_x (op2_x (get_x rfl) (get_x rfl) vwd_x vwd_x h3) vwd_x) nxt_x)
  refine runA_eq rfl ⟨[some (.dat (.tuple (ms.map PyData.int))), some (.dat (.int p)), some (.dat (.int h))], ?_⟩
  show f_with_person [some (.dat (.tuple (ms.map PyData.int))), some (.dat (.int p)), some (.dat (.int h))] = _
  unfold f_with_person
  rw [then_nx s0, then_nx s1]
  unfold s_with_person_2
  exact (ret_x (pl_x (op2_x (op2_x (cb_x (acons_x (sl_x (get_x rfl) poN_x (poS_x (get_x rfl)) vwd_x h4) anil_x) (vwC_x vwd_x vw0_x) rfl) (tup_x (acons_x (get_x rfl) anil_x) rfl (Nat.le_of_ble_eq_true rfl)) vwd_x vwd_x (catTi a ([h] : List Int) h5)) (cb_x (acons_x (sl_x (get_x rfl) (poS_x (get_x rfl)) poN_x vwd_x h6) anil_x) (vwC_x vwd_x vw0_x) rfl) vwd_x vwd_x (v_catT _ _ h7)) rfl))
theorem wo_go {ms l : List Int} {h : Int}
    (h1 : F_check_person [.tuple (ms.map PyData.int), .int h] = some (.dat (.none)))
    (h2 : (lcW (seqI (get 0)) (gN 2) (tb1 (op2 (eqA true) (get 2) (get 1))) (get 2) [2]) [some (.dat (.tuple (ms.map PyData.int))), some (.dat (.int h)), none] = some (.ok (.own (dats (l.map PyData.int))) [some (.dat (.tuple (ms.map PyData.int))), some (.dat (.int h)), none])) :
    F_without [.tuple (ms.map PyData.int), .int h] = some (.dat (.tuple (l.map PyData.int))) := by
  have s0 : s_without_0 [some (.dat (.tuple (ms.map PyData.int))), some (.dat (.int h)), none] = some (.ok .nx [some (.dat (.tuple (ms.map PyData.int))), some (.dat (.int h)), none]) := by
    unfold s_without_0
    exact (expr_x (fz_x (callA_x (acons_x (get_x rfl) (acons_x (get_x rfl) anil_x)) rfl h1) rfl))
  refine runA_eq rfl ⟨[some (.dat (.tuple (ms.map PyData.int))), some (.dat (.int h)), none], ?_⟩
  show f_without [some (.dat (.tuple (ms.map PyData.int))), some (.dat (.int h)), none] = _
  unfold f_without
  rw [then_nx s0]
  unfold s_without_1
  exact (ret_x (pl_x (cb_x (acons_x (fz_x h2 (v_ofWo _)) anil_x) (vwC_x vwd_x vw0_x) rfl) rfl))
theorem tr_go {bs bs1 bs2 : List PyData} {ms wi ah cw cx cy wo en ce we : List Int} {sp u v z : Int} {rw t : List Iv}
    (h1 : (F_take 2) bs [.int ((ms.length : Nat) + 1)] = some (.dat (.int sp), bs1))
    (h2 : F_with_person [.tuple (ms.map PyData.int), .int sp, .int 1000000000] = some (.dat (.tuple (wi.map PyData.int))))
    (h3 : (lcW (seqI (get 3)) (gN 7) yesT (cb intD (acons (op2 geD (ixE (get 1) (acons (get 7) anil)) (get 4)) anil)) [7]) [some (.own (dats bs1)), some (.dat (.tuple (ms.map PyData.int))), some (.dat (.int 1000000000)), some (.dat (.list ((sortI ms).map PyData.int))), some (.dat (.int sp)), some (.dat (.tuple (wi.map PyData.int))), none, none, none, none, none] = some (.ok (.own (dats (ah.map PyData.int))) [some (.own (dats bs1)), some (.dat (.tuple (ms.map PyData.int))), some (.dat (.int 1000000000)), some (.dat (.list ((sortI ms).map PyData.int))), some (.dat (.int sp)), some (.dat (.tuple (wi.map PyData.int))), none, none, none, none, none]))
    (h4 : F_codes [.tuple (wi.map PyData.int)] = some (.dat (.tuple (cw.map PyData.int))))
    (h5 : cutD (.tuple (cw.map PyData.int)) none (some (-1)) = some (.tuple (cx.map PyData.int)))
    (h6 : (lcW (argI zipM (acons (fz (callA F_codes (acons (get 1) anil))) (acons (get 6) anil))) (gT (gsC (gN 8) (gsC (gN 9) gsN))) yesT (op2 addD (get 8) (get 9)) [8, 9]) [some (.own (dats bs1)), some (.dat (.tuple (ms.map PyData.int))), some (.dat (.int 1000000000)), some (.dat (.list ((sortI ms).map PyData.int))), some (.dat (.int sp)), some (.dat (.tuple (wi.map PyData.int))), some (.dat (.list (ah.map PyData.int))), none, none, none, none] = some (.ok (.own (dats (cy.map PyData.int))) [some (.own (dats bs1)), some (.dat (.tuple (ms.map PyData.int))), some (.dat (.int 1000000000)), some (.dat (.list ((sortI ms).map PyData.int))), some (.dat (.int sp)), some (.dat (.tuple (wi.map PyData.int))), some (.dat (.list (ah.map PyData.int))), none, none, none, none]))
    (h7 : eqvD true (.tuple (cx.map PyData.int)) (.tuple (cy.map PyData.int)) = some (.bool false))
    (h8 : F_without [.tuple (wi.map PyData.int), .int 1000000000] = some (.dat (.tuple (wo.map PyData.int))))
    (h9 : eqvD true (.tuple (wo.map PyData.int)) (.tuple (ms.map PyData.int)) = some (.bool false))
    (h10 : F_runs [.tuple (wi.map PyData.int)] = some (.dat (.tuple (ivD rw))))
    (h11 : ixD (.tuple (ivD rw)) (.int (-1)) = some (.tuple [.int u, .int v]))
    (h12 : eqvD true (.tuple [.int u, .int v]) (.tuple [.int 0, .int 0]) = some (.bool false))
    (h13 : F_wandered bs1 [.tuple (wi.map PyData.int), .int 25] = some (.dat (.tuple [.tuple (en.map PyData.int), .list (ivD t)]), bs2))
    (h14 : F_leads [.tuple (wi.map PyData.int), .tuple (en.map PyData.int)] = some (.dat (.bool true)))
    (h15 : F_codes [.tuple (en.map PyData.int)] = some (.dat (.tuple (ce.map PyData.int))))
    (h16 : ixD (.tuple (ce.map PyData.int)) (.int (-1)) = some (.int z))
    (c17 : z = 0)
    (h18 : F_without [.tuple (en.map PyData.int), .int 1000000000] = some (.dat (.tuple (we.map PyData.int))))
    (h19 : eqvD false (.list ((sortI we).map PyData.int)) (.list ((sortI ms).map PyData.int)) = some (.bool true)) :
    F_tall_right bs [.tuple (ms.map PyData.int)] = some (.dat (.bool true), bs2) := by
  have s0 : s_tall_right_0 [some (.own (dats bs)), some (.dat (.tuple (ms.map PyData.int))), none, none, none, none, none, none, none, none, none] = some (.ok .nx [some (.own (dats bs)), some (.dat (.tuple (ms.map PyData.int))), some (.dat (.int 1000000000)), some (.dat (.list ((sortI ms).map PyData.int))), none, none, none, none, none, none, none]) := by
    unfold s_tall_right_0
    exact (par_x (pl_x (op2_x con_x con_x vwd_x vwd_x (by rw [v_pow _ _ (by decide)]; rfl)) rfl) (pl_x (cb_x (acons_x (get_x rfl) anil_x) (vwC_x vwd_x vw0_x) (sortTm_x _)) rfl) (Nat.le_of_ble_eq_true rfl) (Nat.le_of_ble_eq_true rfl))
  have s1 : s_tall_right_1 [some (.own (dats bs)), some (.dat (.tuple (ms.map PyData.int))), some (.dat (.int 1000000000)), some (.dat (.list ((sortI ms).map PyData.int))), none, none, none, none, none, none, none] = some (.ok .nx [some (.own (dats bs1)), some (.dat (.tuple (ms.map PyData.int))), some (.dat (.int 1000000000)), some (.dat (.list ((sortI ms).map PyData.int))), some (.dat (.int sp)), none, none, none, none, none, none]) := by
    unfold s_tall_right_1
    exact (set_x (pl_x (fz_x (callB_x rfl (acons_x (op2_x (cb_x (acons_x (get_x rfl) anil_x) (vwC_x vwd_x vw0_x) (lenTm_x _ _)) con_x vwd_x vwd_x (addI_x _ _)) anil_x) rfl rfl h1) rfl) rfl) (Nat.le_of_ble_eq_true rfl))
  have s2 : s_tall_right_2 [some (.own (dats bs1)), some (.dat (.tuple (ms.map PyData.int))), some (.dat (.int 1000000000)), some (.dat (.list ((sortI ms).map PyData.int))), some (.dat (.int sp)), none, none, none, none, none, none] = some (.ok .nx [some (.own (dats bs1)), some (.dat (.tuple (ms.map PyData.int))), some (.dat (.int 1000000000)), some (.dat (.list ((sortI ms).map PyData.int))), some (.dat (.int sp)), some (.dat (.tuple (wi.map PyData.int))), none, none, none, none, none]) := by
    unfold s_tall_right_2
    exact (set_x (pl_x (fz_x (callA_x (acons_x (get_x rfl) (acons_x (get_x rfl) (acons_x (get_x rfl) anil_x))) rfl h2) rfl) rfl) (Nat.le_of_ble_eq_true rfl))
  have s3 : s_tall_right_3 [some (.own (dats bs1)), some (.dat (.tuple (ms.map PyData.int))), some (.dat (.int 1000000000)), some (.dat (.list ((sortI ms).map PyData.int))), some (.dat (.int sp)), some (.dat (.tuple (wi.map PyData.int))), none, none, none, none, none] = some (.ok .nx [some (.own (dats bs1)), some (.dat (.tuple (ms.map PyData.int))), some (.dat (.int 1000000000)), some (.dat (.list ((sortI ms).map PyData.int))), some (.dat (.int sp)), some (.dat (.tuple (wi.map PyData.int))), some (.dat (.list (ah.map PyData.int))), none, none, none, none]) := by
    unfold s_tall_right_3
    exact (set_x (pl_x (fz_x h3 (v_ofWo _)) rfl) (Nat.le_of_ble_eq_true rfl))
  have s4 : s_tall_right_4 [some (.own (dats bs1)), some (.dat (.tuple (ms.map PyData.int))), some (.dat (.int 1000000000)), some (.dat (.list ((sortI ms).map PyData.int))), some (.dat (.int sp)), some (.dat (.tuple (wi.map PyData.int))), some (.dat (.list (ah.map PyData.int))), none, none, none, none] = some (.ok .nx [some (.own (dats bs1)), some (.dat (.tuple (ms.map PyData.int))), some (.dat (.int 1000000000)), some (.dat (.list ((sortI ms).map PyData.int))), some (.dat (.int sp)), some (.dat (.tuple (wi.map PyData.int))), some (.dat (.list (ah.map PyData.int))), none, none, none, none]) := by
    unfold s_tall_right_4
    exact (ifS_f (tb_x (op2_x (sl_x (fz_x (callA_x (acons_x (get_x rfl) anil_x) rfl h4) rfl) poN_x (poS_x (op1_x con_x vwd_x rfl)) vwd_x h5) (cb_x (acons_x (fz_x h6 (v_ofWo _)) anil_x) (vwC_x vwd_x vw0_x) rfl) vwd_x vwd_x h7) vwd_x) nxt_x)
  have s5 : s_tall_right_5 [some (.own (dats bs1)), some (.dat (.tuple (ms.map PyData.int))), some (.dat (.int 1000000000)), some (.dat (.list ((sortI ms).map PyData.int))), some (.dat (.int sp)), some (.dat (.tuple (wi.map PyData.int))), some (.dat (.list (ah.map PyData.int))), none, none, none, none] = some (.ok .nx [some (.own (dats bs1)), some (.dat (.tuple (ms.map PyData.int))), some (.dat (.int 1000000000)), some (.dat (.list ((sortI ms).map PyData.int))), some (.dat (.int sp)), some (.dat (.tuple (wi.map PyData.int))), some (.dat (.list (ah.map PyData.int))), none, none, none, none]) := by
    unfold s_tall_right_5
    exact (ifS_f (orT_f (tb_x (op2_x (fz_x (callA_x (acons_x (get_x rfl) (acons_x (get_x rfl) anil_x)) rfl h8) rfl) (get_x rfl) vwd_x vwd_x h9) vwd_x) (tb_x (op2_x (op2_x (fz_x (callA_x (acons_x (get_x rfl) anil_x) rfl h10) rfl) (op1_x con_x vwd_x rfl) vwd_x vwd_x h11) (tup_x (acons_x con_x (acons_x con_x anil_x)) rfl (Nat.le_of_ble_eq_true rfl)) vwd_x vwd_x h12) vwd_x)) nxt_x)
  have s6 : s_tall_right_6 [some (.own (dats bs1)), some (.dat (.tuple (ms.map PyData.int))), some (.dat (.int 1000000000)), some (.dat (.list ((sortI ms).map PyData.int))), some (.dat (.int sp)), some (.dat (.tuple (wi.map PyData.int))), some (.dat (.list (ah.map PyData.int))), none, none, none, none] = some (.ok .nx [some (.own (dats bs2)), some (.dat (.tuple (ms.map PyData.int))), some (.dat (.int 1000000000)), some (.dat (.list ((sortI ms).map PyData.int))), some (.dat (.int sp)), some (.dat (.tuple (wi.map PyData.int))), some (.dat (.list (ah.map PyData.int))), none, none, none, some (.dat (.tuple (en.map PyData.int)))]) := by
    unfold s_tall_right_6
    exact (set_x (pl_x (op2_x (fz_x (callB_x rfl (acons_x (get_x rfl) (acons_x con_x anil_x)) rfl rfl h13) rfl) con_x vwd_x vwd_x rfl) rfl) (Nat.le_of_ble_eq_true rfl))
  refine runB_eq rfl ⟨[some (.dat (.tuple (ms.map PyData.int))), some (.dat (.int 1000000000)), some (.dat (.list ((sortI ms).map PyData.int))), some (.dat (.int sp)), some (.dat (.tuple (wi.map PyData.int))), some (.dat (.list (ah.map PyData.int))), none, none, none, some (.dat (.tuple (en.map PyData.int)))], ?_⟩
  show f_tall_right [some (.own (dats bs)), some (.dat (.tuple (ms.map PyData.int))), none, none, none, none, none, none, none, none, none] = _
  unfold f_tall_right
  rw [then_nx s0, then_nx s1, then_nx s2, then_nx s3, then_nx s4, then_nx s5, then_nx s6]
  unfold s_tall_right_7
  exact (ret_x (pl_x (andV_t (tb_x (fz_x (callA_x (acons_x (get_x rfl) (acons_x (get_x rfl) anil_x)) rfl h14) rfl) vwd_x) (andV_t (tb_x (op2_x (op2_x (fz_x (callA_x (acons_x (get_x rfl) anil_x) rfl h15) rfl) (op1_x con_x vwd_x rfl) vwd_x vwd_x h16) con_x vwd_x vwd_x ((eqI_f _ _).trans (congrArg (fun z => some (PyData.bool z)) (decide_eq_true c17)))) vwd_x) (op2_x (cb_x (acons_x (fz_x (callA_x (acons_x (get_x rfl) (acons_x (get_x rfl) anil_x)) rfl h18) rfl) anil_x) (vwC_x vwd_x vw0_x) (sortTm_x _)) (get_x rfl) vwd_x vwd_x h19))) rfl))
theorem sr_two {bs bs3 : List PyData} {ms ra wi : List Int} {u1 u2 : Option Wv} {k lo c1 c2 : Int} {rl : List Iv}
    (h1 : (lcW (seqI (get 1)) (gN 3) yesT (op2 addD (get 3) (con (.int 1))) [3]) [some (.own (dats bs)), some (.dat (.tuple (ms.map PyData.int))), none, none, none, none, none] = some (.ok (.own (dats (ra.map PyData.int))) [some (.own (dats bs)), some (.dat (.tuple (ms.map PyData.int))), none, none, none, none, none]))
    (h2 : forM (gN 4) b_short_right_1 [.int 0, .int (ms.length : Nat)] [some (.own (dats bs)), some (.dat (.tuple (ms.map PyData.int))), some (.dat (.tuple (ra.map PyData.int))), none, none, none, none] = some (.ok .nx [some (.own (dats bs)), some (.dat (.tuple (ms.map PyData.int))), some (.dat (.tuple (ra.map PyData.int))), none, u1, u2, none]))
    (c3 : (1 : Int) < ((ms.length : Nat) : Int))
    (h4 : (F_take 2) bs [.int ((ms.length : Nat) - 1)] = some (.dat (.int k), bs3))
    (h5 : F_with_person [.tuple (ra.map PyData.int), .int (1 + k), .int 1] = some (.dat (.tuple (wi.map PyData.int))))
    (h6 : minTD [.tuple (ra.map PyData.int)] = some (.int lo))
    (h7 : F_run_list [.tuple (wi.map PyData.int), .int lo] = some (.dat (.list (ivD rl))))
    (h8 : inD true (.tuple [.int ((1 + k) - 1), .int (1 + k)]) (.list (ivD rl)) = some (.bool false))
    (h9 : F_count_rows [.tuple (wi.map PyData.int)] = some (.dat (.int c1)))
    (h10 : F_count_rows [.tuple (ra.map PyData.int)] = some (.dat (.int c2)))
    (c11 : ¬ (c1 < c2)) :
    F_short_right bs [.tuple (ms.map PyData.int)] = some (.dat (.bool true), bs3) := by
  have s0 : s_short_right_0 [some (.own (dats bs)), some (.dat (.tuple (ms.map PyData.int))), none, none, none, none, none] = some (.ok .nx [some (.own (dats bs)), some (.dat (.tuple (ms.map PyData.int))), some (.dat (.tuple (ra.map PyData.int))), none, none, none, none]) := by
    unfold s_short_right_0
    exact (set_x (pl_x (cb_x (acons_x (fz_x h1 (v_ofWo _)) anil_x) (vwC_x vwd_x vw0_x) rfl) rfl) (Nat.le_of_ble_eq_true rfl))
  have s1 : s_short_right_1 [some (.own (dats bs)), some (.dat (.tuple (ms.map PyData.int))), some (.dat (.tuple (ra.map PyData.int))), none, none, none, none] = some (.ok .nx [some (.own (dats bs)), some (.dat (.tuple (ms.map PyData.int))), some (.dat (.tuple (ra.map PyData.int))), none, u1, u2, none]) := by
    unfold s_short_right_1
    exact (for_x (seq_x (tup_x (acons_x con_x (acons_x (cb_x (acons_x (get_x rfl) anil_x) (vwC_x vwd_x vw0_x) (lenTm_x _ _)) anil_x)) rfl (Nat.le_of_ble_eq_true rfl)) rfl) h2)
  have s2 : s_short_right_2 [some (.own (dats bs)), some (.dat (.tuple (ms.map PyData.int))), some (.dat (.tuple (ra.map PyData.int))), none, u1, u2, none] = some (.ok .nx [some (.own (dats bs3)), some (.dat (.tuple (ms.map PyData.int))), some (.dat (.tuple (ra.map PyData.int))), none, some (.dat (.int (1 + k))), some (.dat (.tuple (wi.map PyData.int))), some (.dat (.int lo))]) := by
    unfold s_short_right_2
    exact (ifS_t (tb_x (op2_x (cb_x (acons_x (get_x rfl) anil_x) (vwC_x vwd_x vw0_x) (lenTm_x _ _)) con_x vwd_x vwd_x ((gtI_x _ _).trans (congrArg (fun z => some (PyData.bool z)) (decide_eq_true c3)))) vwd_x) (then_x (set_x (pl_x (op2_x con_x (fz_x (callB_x rfl (acons_x (op2_x (cb_x (acons_x (get_x rfl) anil_x) (vwC_x vwd_x vw0_x) (lenTm_x _ _)) con_x vwd_x vwd_x (subI_x _ _)) anil_x) rfl rfl h4) rfl) vwd_x vwd_x (addI_x _ _)) rfl) (Nat.le_of_ble_eq_true rfl)) (then_x (set_x (pl_x (fz_x (callA_x (acons_x (get_x rfl) (acons_x (get_x rfl) (acons_x con_x anil_x))) rfl h5) rfl) rfl) (Nat.le_of_ble_eq_true rfl)) (then_x (set_x (pl_x (cb_x (acons_x (get_x rfl) anil_x) (vwC_x vwd_x vw0_x) h6) rfl) (Nat.le_of_ble_eq_true rfl)) (ifS_f (orT_f (tb_x (op2_x (tup_x (acons_x (op2_x (get_x rfl) con_x vwd_x vwd_x (subI_x _ _)) (acons_x (get_x rfl) anil_x)) rfl (Nat.le_of_ble_eq_true rfl)) (fz_x (callA_x (acons_x (get_x rfl) (acons_x (get_x rfl) anil_x)) rfl h7) rfl) vwd_x vwd_x h8) vwd_x) (tb_x (op2_x (fz_x (callA_x (acons_x (get_x rfl) anil_x) rfl h9) rfl) (fz_x (callA_x (acons_x (get_x rfl) anil_x) rfl h10) rfl) vwd_x vwd_x ((ltI_x _ _).trans (congrArg (fun z => some (PyData.bool z)) (decide_eq_false c11)))) vwd_x)) nxt_x)))))
  refine runB_eq rfl ⟨[some (.dat (.tuple (ms.map PyData.int))), some (.dat (.tuple (ra.map PyData.int))), none, some (.dat (.int (1 + k))), some (.dat (.tuple (wi.map PyData.int))), some (.dat (.int lo))], ?_⟩
  show f_short_right [some (.own (dats bs)), some (.dat (.tuple (ms.map PyData.int))), none, none, none, none, none] = _
  unfold f_short_right
  rw [then_nx s0, then_nx s1, then_nx s2]
  unfold s_short_right_3
  exact (ret_x (pl_x con_x rfl))
theorem sr_one {bs : List PyData} {ms ra : List Int} {u1 u2 : Option Wv}
    (h1 : (lcW (seqI (get 1)) (gN 3) yesT (op2 addD (get 3) (con (.int 1))) [3]) [some (.own (dats bs)), some (.dat (.tuple (ms.map PyData.int))), none, none, none, none, none] = some (.ok (.own (dats (ra.map PyData.int))) [some (.own (dats bs)), some (.dat (.tuple (ms.map PyData.int))), none, none, none, none, none]))
    (h2 : forM (gN 4) b_short_right_1 [.int 0, .int (ms.length : Nat)] [some (.own (dats bs)), some (.dat (.tuple (ms.map PyData.int))), some (.dat (.tuple (ra.map PyData.int))), none, none, none, none] = some (.ok .nx [some (.own (dats bs)), some (.dat (.tuple (ms.map PyData.int))), some (.dat (.tuple (ra.map PyData.int))), none, u1, u2, none]))
    (c3 : ¬ ((1 : Int) < ((ms.length : Nat) : Int))) :
    F_short_right bs [.tuple (ms.map PyData.int)] = some (.dat (.bool true), bs) := by
  have s0 : s_short_right_0 [some (.own (dats bs)), some (.dat (.tuple (ms.map PyData.int))), none, none, none, none, none] = some (.ok .nx [some (.own (dats bs)), some (.dat (.tuple (ms.map PyData.int))), some (.dat (.tuple (ra.map PyData.int))), none, none, none, none]) := by
    unfold s_short_right_0
    exact (set_x (pl_x (cb_x (acons_x (fz_x h1 (v_ofWo _)) anil_x) (vwC_x vwd_x vw0_x) rfl) rfl) (Nat.le_of_ble_eq_true rfl))
  have s1 : s_short_right_1 [some (.own (dats bs)), some (.dat (.tuple (ms.map PyData.int))), some (.dat (.tuple (ra.map PyData.int))), none, none, none, none] = some (.ok .nx [some (.own (dats bs)), some (.dat (.tuple (ms.map PyData.int))), some (.dat (.tuple (ra.map PyData.int))), none, u1, u2, none]) := by
    unfold s_short_right_1
    exact (for_x (seq_x (tup_x (acons_x con_x (acons_x (cb_x (acons_x (get_x rfl) anil_x) (vwC_x vwd_x vw0_x) (lenTm_x _ _)) anil_x)) rfl (Nat.le_of_ble_eq_true rfl)) rfl) h2)
  have s2 : s_short_right_2 [some (.own (dats bs)), some (.dat (.tuple (ms.map PyData.int))), some (.dat (.tuple (ra.map PyData.int))), none, u1, u2, none] = some (.ok .nx [some (.own (dats bs)), some (.dat (.tuple (ms.map PyData.int))), some (.dat (.tuple (ra.map PyData.int))), none, u1, u2, none]) := by
    unfold s_short_right_2
    exact (ifS_f (tb_x (op2_x (cb_x (acons_x (get_x rfl) anil_x) (vwC_x vwd_x vw0_x) (lenTm_x _ _)) con_x vwd_x vwd_x ((gtI_x _ _).trans (congrArg (fun z => some (PyData.bool z)) (decide_eq_false c3)))) vwd_x) nxt_x)
  refine runB_eq rfl ⟨[some (.dat (.tuple (ms.map PyData.int))), some (.dat (.tuple (ra.map PyData.int))), none, u1, u2, none], ?_⟩
  show f_short_right [some (.own (dats bs)), some (.dat (.tuple (ms.map PyData.int))), none, none, none, none, none] = _
  unfold f_short_right
  rw [then_nx s0, then_nx s1, then_nx s2]
  unfold s_short_right_3
  exact (ret_x (pl_x con_x rfl))
theorem sr_body {bs : List PyData} {ms ra wi : List Int} {sp u v c1 c2 : Int} {w5 w6 : Option Wv} {rw rx rr : List Iv}
    (h1 : F_with_person [.tuple (ra.map PyData.int), .int sp, .int 1] = some (.dat (.tuple (wi.map PyData.int))))
    (h2 : F_runs [.tuple (wi.map PyData.int)] = some (.dat (.tuple (ivD rw))))
    (h3 : ixD (.tuple (ivD rw)) (.int 0) = some (.tuple [.int u, .int v]))
    (h4 : eqvD true (.tuple [.int u, .int v]) (.tuple [.int sp, .int sp]) = some (.bool false))
    (h5 : F_runs [.tuple (wi.map PyData.int)] = some (.dat (.tuple (ivD rw))))
    (h6 : cutD (.tuple (ivD rw)) (some 1) none = some (.tuple (ivD rx)))
    (h7 : F_runs [.tuple (ra.map PyData.int)] = some (.dat (.tuple (ivD rr))))
    (h8 : eqvD true (.tuple (ivD rx)) (.tuple (ivD rr)) = some (.bool false))
    (h9 : F_count_rows [.tuple (wi.map PyData.int)] = some (.dat (.int c1)))
    (h10 : F_count_rows [.tuple (ra.map PyData.int)] = some (.dat (.int c2)))
    (c11 : c1 = c2) :
    b_short_right_1 [some (.own (dats bs)), some (.dat (.tuple (ms.map PyData.int))), some (.dat (.tuple (ra.map PyData.int))), none, some (.dat (.int sp)), w5, w6] = some (.ok .nx [some (.own (dats bs)), some (.dat (.tuple (ms.map PyData.int))), some (.dat (.tuple (ra.map PyData.int))), none, some (.dat (.int sp)), some (.dat (.tuple (wi.map PyData.int))), w6]) := by
  unfold b_short_right_1
  exact (then_x (set_x (pl_x (fz_x (callA_x (acons_x (get_x rfl) (acons_x (get_x rfl) (acons_x con_x anil_x))) rfl h1) rfl) rfl) (Nat.le_of_ble_eq_true rfl)) (ifS_f (orT_f (tb_x (op2_x (op2_x (fz_x (callA_x (acons_x (get_x rfl) anil_x) rfl h2) rfl) con_x vwd_x vwd_x h3) (tup_x (acons_x (get_x rfl) (acons_x (get_x rfl) anil_x)) rfl (Nat.le_of_ble_eq_true rfl)) vwd_x vwd_x h4) vwd_x) (orT_f (tb_x (op2_x (sl_x (fz_x (callA_x (acons_x (get_x rfl) anil_x) rfl h5) rfl) (poS_x con_x) poN_x vwd_x h6) (fz_x (callA_x (acons_x (get_x rfl) anil_x) rfl h7) rfl) vwd_x vwd_x h8) vwd_x) (tb_x (op2_x (fz_x (callA_x (acons_x (get_x rfl) anil_x) rfl h9) rfl) (fz_x (callA_x (acons_x (get_x rfl) anil_x) rfl h10) rfl) vwd_x vwd_x ((eqI_t _ _).trans (congrArg (fun z => some (PyData.bool !z)) (decide_eq_true c11)))) vwd_x))) nxt_x))
theorem rt_dup {bs bs1 : List PyData} {ms : List Int} {ls : Int}
    (h1 : (lcW (seqI (fz (callB 0 F_crowd (acons (con (.int 13)) anil)))) (gN 2) yesT (op2 addD (con (.int 1)) (op2 modD (get 2) (op2 subD (op2 powD (con (.int 10)) (con (.int 9))) (con (.int 2))))) [2]) [some (.own (dats bs)), none, none] = some (.ok (.own (dats (ms.map PyData.int))) [some (.own (dats bs1)), none, none]))
    (h2 : lenSetD (.tuple (ms.map PyData.int)) = some (.int ls))
    (c3 : ¬ ((ls : Int) = (ms.length : Nat))) :
    F_right bs [] = some (.dat (.bool true), bs1) := by
  have s0 : s_right_0 [some (.own (dats bs)), none, none] = some (.ok .nx [some (.own (dats bs1)), some (.dat (.tuple (ms.map PyData.int))), none]) := by
    unfold s_right_0
    exact (set_x (pl_x (cb_x (acons_x (fz_x h1 (v_ofWo _)) anil_x) (vwC_x vwd_x vw0_x) rfl) rfl) (Nat.le_of_ble_eq_true rfl))
  refine runB_eq rfl ⟨[some (.dat (.tuple (ms.map PyData.int))), none], ?_⟩
  show f_right [some (.own (dats bs)), none, none] = _
  unfold f_right
  rw [then_nx s0]
  refine then_r ?_
  unfold s_right_1
  exact (ifS_t (tb_x (op2_x (op1_x (get_x rfl) vwd_x h2) (cb_x (acons_x (get_x rfl) anil_x) (vwC_x vwd_x vw0_x) (lenTm_x _ _)) vwd_x vwd_x ((eqI_t _ _).trans (congrArg (fun z => some (PyData.bool !z)) (decide_eq_false c3)))) vwd_x) (ret_x (pl_x con_x rfl)))
theorem rt_go {bs bs1 bs2 bs3 : List PyData} {ms : List Int} {ls : Int}
    (h1 : (lcW (seqI (fz (callB 0 F_crowd (acons (con (.int 13)) anil)))) (gN 2) yesT (op2 addD (con (.int 1)) (op2 modD (get 2) (op2 subD (op2 powD (con (.int 10)) (con (.int 9))) (con (.int 2))))) [2]) [some (.own (dats bs)), none, none] = some (.ok (.own (dats (ms.map PyData.int))) [some (.own (dats bs1)), none, none]))
    (h2 : lenSetD (.tuple (ms.map PyData.int)) = some (.int ls))
    (c3 : (ls : Int) = (ms.length : Nat))
    (h4 : F_tall_right bs1 [.tuple (ms.map PyData.int)] = some (.dat (.bool true), bs2))
    (h5 : F_short_right bs2 [.tuple (ms.map PyData.int)] = some (.dat (.bool true), bs3)) :
    F_right bs [] = some (.dat (.bool true), bs3) := by
  have s0 : s_right_0 [some (.own (dats bs)), none, none] = some (.ok .nx [some (.own (dats bs1)), some (.dat (.tuple (ms.map PyData.int))), none]) := by
    unfold s_right_0
    exact (set_x (pl_x (cb_x (acons_x (fz_x h1 (v_ofWo _)) anil_x) (vwC_x vwd_x vw0_x) rfl) rfl) (Nat.le_of_ble_eq_true rfl))
  have s1 : s_right_1 [some (.own (dats bs1)), some (.dat (.tuple (ms.map PyData.int))), none] = some (.ok .nx [some (.own (dats bs1)), some (.dat (.tuple (ms.map PyData.int))), none]) := by
    unfold s_right_1
    exact (ifS_f (tb_x (op2_x (op1_x (get_x rfl) vwd_x h2) (cb_x (acons_x (get_x rfl) anil_x) (vwC_x vwd_x vw0_x) (lenTm_x _ _)) vwd_x vwd_x ((eqI_t _ _).trans (congrArg (fun z => some (PyData.bool !z)) (decide_eq_true c3)))) vwd_x) nxt_x)
  refine runB_eq rfl ⟨[some (.dat (.tuple (ms.map PyData.int))), none], ?_⟩
  show f_right [some (.own (dats bs)), none, none] = _
  unfold f_right
  rw [then_nx s0, then_nx s1]
  unfold s_right_2
  exact (ret_x (pl_x (andV_t (tb_x (fz_x (callB_x rfl (acons_x (get_x rfl) anil_x) rfl rfl h4) rfl) vwd_x) (fz_x (callB_x rfl (acons_x (get_x rfl) anil_x) rfl rfl h5) rfl)) rfl))
end Ov
set_option Elab.async false
set_option linter.all false
set_option maxRecDepth 100000
set_option maxHeartbeats 4000000
namespace Ov
open PySem L2
/-! the shortest, put anywhere -/
theorem mks_put {a b : List Int} {h : Int} (lo : ∀ x ∈ a ++ b, h < x) : mks (a ++ h :: b) = (a.length : Int) :: mks (a ++ b) := by
  have so : sortI (a ++ h :: b) = h :: sortI (a ++ b) := by
    refine sort_uniq ((sortI_perm _).trans (List.perm_middle.trans ((sortI_perm (a ++ b)).symm.cons h))) (sortI_pw _) ?_
    exact List.pairwise_cons.mpr ⟨fun x hx => by have := lo x ((sortI_perm _).subset hx); omega, sortI_pw _⟩
  unfold mks
  rw [so, List.map_cons, mk_low (fun z => by have := lo h (List.mem_append_left _ z); omega) lo]
  congr 1
  exact List.map_congr_left fun x hx => mk_up (lo x ((sortI_perm _).subset hx))
theorem sort_put {a b : List Int} {h : Int} (lo : ∀ x ∈ a ++ b, h < x) : sortI (a ++ h :: b) = h :: sortI (a ++ b) :=
  sort_uniq ((sortI_perm _).trans (List.perm_middle.trans ((sortI_perm (a ++ b)).symm.cons h))) (sortI_pw _) (List.pairwise_cons.mpr ⟨fun x hx => by have := lo x ((sortI_perm _).subset hx); omega, sortI_pw _⟩)
theorem RNS_put {a b : List Int} {h : Int} (lo : ∀ x ∈ a ++ b, h < x) : RNS (a ++ h :: b) = ((a.length : Int), (a.length : Int)) :: rns (nx (fiv (a.length + b.length + 1)) a.length) (mks (a ++ b)) := by
  unfold RNS
  rw [mks_put lo, show (a ++ h :: b).length = a.length + b.length + 1 by rw [List.length_append, List.length_cons]; omega]
  have g : (fiv (a.length + b.length + 1))[rix (fiv (a.length + b.length + 1)) (a.length : Int)]? = some ((a.length : Int), (a.length : Int)) := by
    rw [fiv_rix (by omega)]
    exact fiv_get (by omega)
  rw [rns_cons g, fiv_rix (by omega)]
theorem nx_fiv_first (k : Nat) : nx (fiv (k + 2)) 0 = fiv (k + 1) := by
  have g : ∀ n i : Nat, i < n → (fiv n).getD i (0, 0) = ((i : Int), (i : Int)) := fun n i h => by rw [List.getD_eq_getElem?_getD, fiv_get h]; rfl
  unfold nx
  have l0 : lf 0 = 0 := rfl
  have r0 : rg (fiv (k + 2)) 0 = 1 := by unfold rg; rw [fiv_len]; omega
  rw [l0, r0, g _ 0 (by omega), g _ 1 (by omega)]
  unfold fiv
  rw [List.take_zero, List.nil_append, List.range_succ_eq_map, List.range_succ_eq_map]
  simp [List.map_map, Function.comp_def]
theorem RNS_first {b : List Int} {h : Int} (lo : ∀ x ∈ b, h < x) : RNS (h :: b) = ((0 : Int), (0 : Int)) :: RNS b := by
  have := RNS_put (a := []) (b := b) (h := h) lo
  rw [List.nil_append, List.nil_append] at this
  rw [this]
  congr 1
  cases b with
  | nil =>
    have e : mks [] = [] := List.length_eq_zero_iff.mp (by rw [mks_len]; rfl)
    unfold RNS
    rw [e]
    rfl
  | cons x r =>
    unfold RNS
    rw [show (([] : List Int).length + (x :: r).length + 1) = r.length + 2 by simp]
    show rns (nx (fiv (r.length + 2)) 0) _ = rns (fiv (r.length + 1)) _
    rw [nx_fiv_first]
theorem RNS_last {a : List Int} {h : Int} (lo : ∀ x ∈ a, h < x) : RNS (a ++ [h]) = ((a.length : Int), (a.length : Int)) :: RNS a := by
  have := RNS_put (a := a) (b := []) (h := h) (by rw [List.append_nil]; exact lo)
  rw [List.append_nil] at this
  rw [this]
  congr 1
  cases a with
  | nil =>
    have e : mks [] = [] := List.length_eq_zero_iff.mp (by rw [mks_len]; rfl)
    unfold RNS
    rw [e]
    rfl
  | cons x r =>
    unfold RNS
    rw [show ((x :: r).length + ([] : List Int).length + 1) = r.length + 2 by simp]
    show rns (nx (fiv (r.length + 2)) (r.length + 1)) _ = rns (fiv (r.length + 1)) _
    rw [nx_fiv_end]
/-! where runs begin -/
theorem Pt.bd : ∀ {iv : List Iv} {s e : Int}, Pt s e iv → ∀ q ∈ iv, s ≤ q.1 ∧ q.1 ≤ q.2 ∧ q.2 < e
  | [], _, _, _, q, h => by cases h
  | p :: r, s, e, h, q, hq => by
    obtain ⟨h1, h2, h3⟩ := h
    have le := h3.le
    rcases List.mem_cons.mp hq with rfl | hq
    · omega
    · have := Pt.bd h3 q hq
      omega
def st (iv : List Iv) : List Int := iv.map (·.1)
theorem nx_split (A C : List Iv) (p : Iv) : nx (A ++ p :: C) A.length = A.dropLast ++ [((A.getLast?.getD p).1, (C.head?.getD p).2 - 1)] ++ (C.drop 1).map fun q => (q.1 - 1, q.2 - 1) := by
  unfold nx
  have e1 : (A ++ p :: C).take (lf A.length) = A.dropLast := by
    unfold lf
    rw [List.take_append_of_le_length (by omega), List.dropLast_eq_take]
  have e2 : (A ++ p :: C).getD (lf A.length) (0, 0) = A.getLast?.getD p := by
    unfold lf
    rw [List.getD_eq_getElem?_getD]
    rcases List.eq_nil_or_concat A with rfl | ⟨B, x, rfl⟩
    · rfl
    · rw [List.concat_eq_append, List.length_append, List.length_singleton, Nat.add_sub_cancel, List.append_assoc, List.getElem?_append_right (Nat.le_refl _), Nat.sub_self, List.getLast?_concat]
      rfl
  have e3 : rg (A ++ p :: C) A.length = if C = [] then A.length else A.length + 1 := by
    unfold rg
    rw [List.length_append, List.length_cons]
    cases C with
    | nil => simp
    | cons c C => simp
  rw [e1, e2, e3]
  cases C with
  | nil =>
    rw [if_pos rfl, List.getD_eq_getElem?_getD, List.getElem?_append_right (Nat.le_refl _), Nat.sub_self, List.drop_eq_nil_of_le (by rw [List.length_append]; simp)]
    rfl
  | cons c C =>
    rw [if_neg (by simp), List.getD_eq_getElem?_getD, List.getElem?_append_right (by omega), show A.length + 1 - A.length = 1 by omega, List.drop_append, List.drop_eq_nil_of_le (show A.length ≤ A.length + 1 + 1 by omega), show A.length + 1 + 1 - A.length = 2 by omega]
    rfl
theorem mem_st {iv : List Iv} {x : Int} : x ∈ st iv ↔ ∃ q ∈ iv, q.1 = x := List.mem_map
/-- the starts after somebody is taken out of the run p -/
theorem st_nx {iv : List Iv} {m : Int} {r : Nat} {p : Iv} (P : Pt 0 m iv) (hp : iv[r]? = some p) (x : Int) : x ∈ st (nx iv r) ↔ (x ∈ st iv ∧ x < p.1) ∨ x = 0 ∨ (x + 1 ∈ st iv ∧ p.2 + 1 < x + 1) := by
  have hr := lt_of_get hp
  have e : iv = iv.take r ++ p :: iv.drop (r + 1) := by
    have : iv[r] = p := by rw [List.getElem?_eq_getElem hr] at hp; exact Option.some.inj hp
    rw [← this, ← List.drop_eq_getElem_cons hr, List.take_append_drop]
  have lr : (iv.take r).length = r := by rw [List.length_take]; omega
  generalize iv.take r = A at *
  generalize iv.drop (r + 1) = C at *
  subst e
  subst lr
  obtain ⟨y, pA, pC⟩ := Pt.split P
  obtain ⟨c1, c2, c3⟩ := pC
  have bA := pA.bd
  have bC := c3.bd
  rw [nx_split]
  simp only [mem_st]
  constructor
  · rintro ⟨q, hq, rfl⟩
    rcases List.mem_append.mp hq with hq | hq
    · rcases List.mem_append.mp hq with hq | hq
      · have hq' := (List.dropLast_subset _) hq
        have := bA q hq'
        exact .inl ⟨⟨q, List.mem_append_left _ hq', rfl⟩, by omega⟩
      · rw [List.mem_singleton.mp hq]
        cases hA : A.getLast? with
        | none =>
          have : A = [] := List.getLast?_eq_none_iff.mp hA
          subst this
          have : (0 : Int) = y := pA
          exact .inr (.inl (by show p.1 = 0; omega))
        | some z =>
          have hz := List.mem_of_getLast? hA
          have := bA z hz
          exact .inl ⟨⟨z, List.mem_append_left _ hz, rfl⟩, by show z.1 < p.1; omega⟩
    · obtain ⟨z, hz, rfl⟩ := List.mem_map.mp hq
      cases C with
      | nil => simp at hz
      | cons c C =>
        have hz : z ∈ C := by simpa using hz
        obtain ⟨d1, d2, d3⟩ := c3
        have := d3.bd z hz
        refine .inr (.inr ⟨⟨z, List.mem_append_right _ (List.mem_cons_of_mem _ (List.mem_cons_of_mem _ hz)), by show z.1 = z.1 - 1 + 1; omega⟩, by show p.2 + 1 < z.1 - 1 + 1; omega⟩)
  · rintro (⟨⟨q, hq, rfl⟩, h2⟩ | rfl | ⟨⟨q, hq, h1⟩, h2⟩)
    · have hq : q ∈ A := by
        rcases List.mem_append.mp hq with hq | hq
        · exact hq
        · rcases List.mem_cons.mp hq with rfl | hq
          · omega
          · have := bC q hq; omega
      rcases List.eq_nil_or_concat A with rfl | ⟨B, z, rfl⟩
      · cases hq
      · rw [List.concat_eq_append] at *
        rcases List.mem_append.mp hq with hq | hq
        · exact ⟨q, List.mem_append_left _ (List.mem_append_left _ (by rw [List.dropLast_concat]; exact hq)), rfl⟩
        · rw [List.mem_singleton.mp hq]
          exact ⟨_, List.mem_append_left _ (List.mem_append_right _ (List.mem_singleton.mpr rfl)), by rw [List.getLast?_concat]; rfl⟩
    · cases A with
      | nil =>
        have : (0 : Int) = y := pA
        exact ⟨_, List.mem_append_left _ (List.mem_append_right _ (List.mem_singleton.mpr rfl)), by show p.1 = 0; omega⟩
      | cons z A =>
        have hz : z.1 = 0 := pA.1
        cases A with
        | nil => exact ⟨_, List.mem_append_left _ (List.mem_append_right _ (List.mem_singleton.mpr rfl)), hz⟩
        | cons w A => exact ⟨z, List.mem_append_left _ (List.mem_append_left _ (by rw [List.dropLast_cons₂]; exact List.mem_cons_self ..)), hz⟩
    · have hq : q ∈ C := by
        rcases List.mem_append.mp hq with hq | hq
        · have := bA q hq; omega
        · rcases List.mem_cons.mp hq with rfl | hq
          · omega
          · exact hq
      cases C with
      | nil => cases hq
      | cons c C =>
        obtain ⟨d1, d2, d3⟩ := c3
        have hq : q ∈ C := (List.mem_cons.mp hq).resolve_left fun e => by rw [e] at h1; omega
        exact ⟨(q.1 - 1, q.2 - 1), List.mem_append_right _ (List.mem_map.mpr ⟨q, by simpa using hq, rfl⟩), by show q.1 - 1 = x; omega⟩
/-- nothing begins within a run; behind it something begins, or all ends -/
theorem st_run : ∀ {iv : List Iv} {s m : Int} {r : Nat} {p : Iv}, Pt s m iv → iv[r]? = some p → p.1 ∈ st iv ∧ (∀ x ∈ st iv, x ≤ p.1 ∨ p.2 < x) ∧ (p.2 + 1 ∈ st iv ∨ p.2 + 1 = m)
  | [], _, _, _, _, _, h => by simp at h
  | q :: iv, s, m, 0, p, h, e => by
    cases e
    obtain ⟨h1, h2, h3⟩ := h
    refine ⟨List.mem_cons_self .., fun x hx => ?_, ?_⟩
    · obtain ⟨z, hz, rfl⟩ := List.mem_map.mp hx
      rcases List.mem_cons.mp hz with rfl | hz
      · exact .inl (Int.le_refl _)
      · have := h3.bd z hz; exact .inr (by omega)
    · cases iv with
      | nil => exact .inr h3
      | cons z iv => exact .inl (by have := h3.1; rw [← this]; exact List.mem_cons_of_mem _ (List.mem_cons_self ..))
  | q :: iv, s, m, r + 1, p, h, e => by
    obtain ⟨h1, h2, h3⟩ := h
    have e' : iv[r]? = some p := by simpa using e
    obtain ⟨k1, k2, k3⟩ := st_run h3 e'
    have bp := h3.bd p (List.mem_of_getElem? e')
    refine ⟨List.mem_cons_of_mem _ k1, fun x hx => ?_, k3.imp (List.mem_cons_of_mem _) id⟩
    rcases List.mem_cons.mp hx with e0 | hx
    · have e0 : x = q.1 := e0
      exact .inl (by omega)
    · exact k2 x hx
theorem st_bd {iv : List Iv} {m x : Int} (P : Pt 0 m iv) (h : x ∈ st iv) : 0 ≤ x ∧ x < m := by
  obtain ⟨q, hq, rfl⟩ := List.mem_map.mp h
  have := P.bd q hq
  omega
/-- fewer starts: wider runs -/
theorem wide_run {iv jv : List Iv} {m c : Int} {p q : Iv} {r t : Nat} (P : Pt 0 m iv) (Q : Pt 0 m jv) (sub : ∀ x ∈ st jv, x ∈ st iv) (hp : iv[r]? = some p) (hq : jv[t]? = some q) (p1 : p.1 ≤ c) (p2 : c ≤ p.2) (q1 : q.1 ≤ c) (q2 : c ≤ q.2) :
    q.1 ≤ p.1 ∧ p.2 ≤ q.2 ∧ (∀ x ∈ st (nx jv t), x ∈ st (nx iv r)) := by
  obtain ⟨a1, a2, a3⟩ := st_run P hp
  obtain ⟨b1, b2, b3⟩ := st_run Q hq
  have bp := P.bd p (List.mem_of_getElem? hp)
  have h1 : q.1 ≤ p.1 := by rcases a2 q.1 (sub _ b1) with h | h <;> omega
  have h2 : p.2 ≤ q.2 := by
    rcases b3 with h | h
    · rcases a2 _ (sub _ h) with k | k <;> omega
    · omega
  refine ⟨h1, h2, fun x hx => ?_⟩
  rw [st_nx Q hq] at hx
  rw [st_nx P hp]
  rcases hx with ⟨k1, k2⟩ | k | ⟨k1, k2⟩
  · exact .inl ⟨sub _ k1, by omega⟩
  · exact .inr (.inl k)
  · exact .inr (.inr ⟨sub _ k1, by omega⟩)
theorem wide_rns : ∀ {cs : List Int} {iv jv : List Iv} {m : Int}, (cs ≠ [] → Pt 0 m iv) → (cs ≠ [] → Pt 0 m jv) → m = cs.length → Vd m cs → (∀ x ∈ st jv, x ∈ st iv) →
    (∀ (j : Nat) (p q : Iv), (rns iv cs)[j]? = some p → (rns jv cs)[j]? = some q → q.1 ≤ p.1 ∧ p.2 ≤ q.2) ∧ 1 ≤ prod 1 (rns iv cs) ∧ prod 1 (rns iv cs) ≤ prod 1 (rns jv cs) ∧ ((∃ b ∈ st iv, b ∉ st jv) → cs ≠ [] → prod 1 (rns iv cs) < prod 1 (rns jv cs))
  | [], iv, jv, m, _, _, _, _, _ => ⟨fun j p q h => by unfold rns at h; simp at h, Int.le_refl _, Int.le_refl _, fun _ h => absurd rfl h⟩
  | c :: cs, iv, jv, m, hp, hq, hm, v, sub => by
    have P := hp (by simp)
    have Q := hq (by simp)
    obtain ⟨p, e1, p1, p2, p3, p4⟩ := rix_at P v.1 v.2.1
    obtain ⟨q, f1, q1, q2, q3, q4⟩ := rix_at Q v.1 v.2.1
    rw [List.length_cons] at hm
    obtain ⟨w1, w2, w3⟩ := wide_run P Q sub e1 f1 p1 p2 q1 q2
    obtain ⟨i1, i2, i3, i4⟩ := wide_rns (cs := cs) (iv := nx iv (rix iv c)) (jv := nx jv (rix jv c)) (m := m - 1) (fun z => nx_pt P (by have : cs.length ≠ 0 := fun y => z (List.length_eq_zero_iff.mp y); omega) (lt_of_get e1)) (fun z => nx_pt Q (by have : cs.length ≠ 0 := fun y => z (List.length_eq_zero_iff.mp y); omega) (lt_of_get f1)) (by omega) v.2.2 w3
    rw [rns_cons e1, rns_cons f1]
    have ep : prod 1 (p :: rns (nx iv (rix iv c)) cs) = szI p * prod 1 (rns (nx iv (rix iv c)) cs) := by
      show prod (1 * (p.2 - p.1 + 1)) _ = _
      rw [prod_mul, Int.one_mul]
      rfl
    have eq : prod 1 (q :: rns (nx jv (rix jv c)) cs) = szI q * prod 1 (rns (nx jv (rix jv c)) cs) := by
      show prod (1 * (q.2 - q.1 + 1)) _ = _
      rw [prod_mul, Int.one_mul]
      rfl
    have s1 : 1 ≤ szI p := by unfold szI; omega
    have s2 : szI p ≤ szI q := by unfold szI; omega
    refine ⟨fun j x y hx hy => ?_, ?_, ?_, ?_⟩
    · cases j with
      | zero => cases hx; cases hy; exact ⟨w1, w2⟩
      | succ j => exact i1 j x y (by simpa using hx) (by simpa using hy)
    · rw [ep]
      have := Int.mul_le_mul s1 i2 (by omega) (by omega)
      omega
    · rw [ep, eq]
      exact Int.mul_le_mul s2 i3 (by omega) (by omega)
    · rintro ⟨b, hb, nb⟩ _
      rw [ep, eq]
      have bb := st_bd P hb
      obtain ⟨a1, a2, a3⟩ := st_run P e1
      obtain ⟨b1, b2, b3⟩ := st_run Q f1
      have strict : szI p < szI q ∨ (∃ b ∈ st (nx iv (rix iv c)), b ∉ st (nx jv (rix jv c))) := by
        by_cases k1 : b < p.1
        · refine .inr ⟨b, (st_nx P e1 b).mpr (.inl ⟨hb, k1⟩), fun z => ?_⟩
          rcases (st_nx Q f1 b).mp z with ⟨z, _⟩ | z | ⟨_, z⟩
          · exact nb z
          · obtain ⟨y, hy, ey⟩ := List.mem_map.mp b1
            have zero : (0 : Int) ∈ st jv := by
              cases jv with
              | nil => simp at f1
              | cons y jv => rw [← Q.1]; exact List.mem_cons_self ..
            exact nb (z ▸ zero)
          · omega
        · by_cases k2 : p.2 + 1 < b
          · refine .inr ⟨b - 1, (st_nx P e1 (b - 1)).mpr (.inr (.inr ⟨by rw [show b - 1 + 1 = b by omega]; exact hb, by omega⟩)), fun z => ?_⟩
            rcases (st_nx Q f1 (b - 1)).mp z with ⟨_, z⟩ | z | ⟨z, _⟩
            · omega
            · omega
            · exact nb (by rw [show b - 1 + 1 = b by omega] at z; exact z)
          · rcases a2 b hb with k | k
            · have : b = p.1 := by omega
              have : q.1 ≠ p.1 := fun z => nb (by rw [this, ← z]; exact b1)
              exact .inl (by unfold szI; omega)
            · have : b = p.2 + 1 := by omega
              have : q.2 + 1 ≠ p.2 + 1 := fun z => by
                rcases b3 with y | y
                · exact nb (by rw [this, ← z]; exact y)
                · omega
              exact .inl (by unfold szI; omega)
      rcases strict with k | k
      · have a := Int.mul_lt_mul_of_pos_right k (show 0 < prod 1 (rns (nx iv (rix iv c)) cs) by omega)
        have b := Int.mul_le_mul_of_nonneg_left i3 (show 0 ≤ szI q by omega)
        omega
      · by_cases z : cs = []
        · subst z
          obtain ⟨x, hx, nx_⟩ := k
          have m1 : m = 1 := by simpa using hm
          have x0 : x = 0 ∨ x ≠ 0 := by omega
          rcases (st_nx P e1 x).mp hx with ⟨h1, h2⟩ | h | ⟨h1, h2⟩
          · have := st_bd P h1; omega
          · exact absurd ((st_nx Q f1 x).mpr (.inr (.inl h))) nx_
          · have := st_bd P h1; omega
        · have a := i4 k z
          have b := Int.mul_lt_mul_of_pos_left a (show 0 < szI p by omega)
          have c := Int.mul_le_mul_of_nonneg_right s2 (show 0 ≤ prod 1 (rns (nx jv (rix jv c)) cs) by omega)
          omega
end Ov
set_option Elab.async false
set_option linter.all false
set_option maxRecDepth 100000
set_option maxHeartbeats 4000000
namespace Ov
open PySem L2
/-! the tallest, put anywhere -/
section
variable {a b ms : List Int} {T h : Int}
theorem sort_top (hi : ∀ x ∈ a ++ b, x < T) : sortI (a ++ T :: b) = sortI (a ++ b) ++ [T] := by
  refine sort_uniq ((sortI_perm _).trans (List.perm_middle.trans ?_)) (sortI_pw _) ?_
  · exact ((sortI_perm (a ++ b)).symm.cons T).trans (List.perm_append_comm (l₁ := [T]) (l₂ := sortI (a ++ b)))
  · refine List.pairwise_append.mpr ⟨sortI_pw _, List.pairwise_singleton .., fun x hx y hy => ?_⟩
    have := hi x ((sortI_perm _).subset hx)
    rw [List.mem_singleton.mp hy]
    omega
theorem mk_top (hi : ∀ x ∈ a ++ b, x < T) (hm : h ∈ a ++ b) : mk (a ++ T :: b) h = mk (a ++ b) h + (if a.length ≤ (a ++ b).idxOf h then 1 else 0) := by
  have hT := hi h hm
  unfold mk
  rw [List.filter_append, List.filter_append, List.filter_cons_of_pos (by simp; omega), List.idxOf_append, List.idxOf_append, List.idxOf_append]
  by_cases ha : h ∈ a
  · have hf : h ∈ a.filter fun o => decide (h ≤ o) := List.mem_filter.mpr ⟨ha, by simp⟩
    have := List.idxOf_lt_length_iff.mpr ha
    rw [if_pos hf, if_pos hf, if_pos ha, if_neg (by omega)]
    omega
  · have hf : h ∉ a.filter fun o => decide (h ≤ o) := fun z => ha (List.mem_filter.mp z).1
    rw [if_neg hf, if_neg hf, if_neg ha, if_pos (by omega), List.idxOf_cons]
    rw [show (T == h) = false from beq_eq_false_iff_ne.mpr (by omega)]
    simp only [cond_false]
    omega
theorem mk_max (hm : ∀ x ∈ ms, x ≤ T) (ht : T ∈ ms) : mk ms T = 0 := by
  have h1 : T ∈ ms.filter fun o => decide (T ≤ o) := List.mem_filter.mpr ⟨ht, by simp⟩
  have h2 : ∀ x ∈ ms.filter fun o => decide (T ≤ o), x = T := fun x hx => by
    obtain ⟨k1, k2⟩ := List.mem_filter.mp hx
    have := hm x k1
    have := of_decide_eq_true k2
    omega
  unfold mk
  generalize ms.filter (fun o => decide (T ≤ o)) = L at h1 h2
  cases L with
  | nil => cases h1
  | cons x r =>
    rw [h2 x (List.mem_cons_self ..), List.idxOf_cons_self]
    rfl
theorem mks_top (hi : ∀ x ∈ a ++ b, x < T) : mks (a ++ T :: b) = ((sortI (a ++ b)).map fun h => mk (a ++ b) h + (if a.length ≤ (a ++ b).idxOf h then 1 else 0)) ++ [0] := by
  unfold mks
  rw [sort_top hi, List.map_append, List.map_singleton]
  congr 1
  · exact List.map_congr_left fun x hx => mk_top hi ((sortI_perm _).subset hx)
  · rw [mk_max (fun x hx => ?_) (by simp)]
    rcases List.mem_append.mp hx with z | z
    · have := hi x (List.mem_append_left _ z); omega
    · rcases List.mem_cons.mp z with rfl | z
      · omega
      · have := hi x (List.mem_append_right _ z); omega
theorem mks_last_max {en : List Int} (p : en.Perm (a ++ T :: b)) (hi : ∀ x ∈ a ++ b, x < T) : (mks en).getLast? = some 0 := by
  have so : sortI en = sortI (a ++ b) ++ [T] := by rw [← sort_top hi]; exact sort_perm p
  unfold mks
  rw [so, List.map_append, List.map_singleton, List.getLast?_append]
  have e : mk en T = 0 := mk_max (fun x hx => by
    rcases List.mem_append.mp (p.subset hx) with z | z
    · have := hi x (List.mem_append_left _ z); omega
    · rcases List.mem_cons.mp z with rfl | z
      · omega
      · have := hi x (List.mem_append_right _ z); omega) (p.symm.subset (by simp))
  rw [e]
  rfl
theorem RNS_last_one (nd : ms.Nodup) (h : ms ≠ []) : (RNS ms).getLast? = some ((0 : Int), (0 : Int)) := by
  have l : 0 < ms.length := List.length_pos_iff.mpr h
  have rl := RNS_len ms
  have rl2 : (rns (fiv ms.length) (mks ms)).length = ms.length := rl
  have ml := mks_len ms
  have v : Vd ms.length (mks ms) := by
    have := mks_vd (sortI_lt nd) (sortI_perm ms).symm
    rw [(sortI_perm ms).length_eq] at this
    exact this
  rw [List.getLast?_eq_getElem?, rl, List.getElem?_eq_getElem (by omega)]
  have g := rns_ok (fiv_pt ms.length) (by rw [ml]) v (ms.length - 1) ((RNS ms)[ms.length - 1]'(by omega)) ((mks ms)[ms.length - 1]'(by omega)) (List.getElem?_eq_getElem (by omega)) (List.getElem?_eq_getElem (by omega))
  generalize (RNS ms)[ms.length - 1]'(by omega) = p at g
  obtain ⟨p1, p2⟩ := p
  simp only at g
  congr 1
  exact Prod.ext (by show p1 = 0; omega) (by show p2 = 0; omega)
theorem Wk.rns : ∀ {ts : List Iv} {ms ns : List Int}, Wk ms ts ns → ms.Nodup → RNS ns = RNS ms
  | [], ms, ns, h, _ => by rw [show ns = ms from h]
  | t :: ts, ms, ns, ⟨A, a, B, b, C, h1, h2, h3, h4, h5⟩, nd => by
    subst h1
    exact (Wk.rns h5 (swap_perm.nodup_iff.mpr nd)).trans ((xc_of nd h2 h3).rns nd)
theorem filt_out (h : T ∉ a ++ b) : (a ++ T :: b).filter (fun x => !decide (x = T)) = a ++ b := by
  rw [List.filter_append, List.filter_cons_of_neg (by simp)]
  rw [List.filter_eq_self.mpr fun x hx => by
    have : x ≠ T := fun z => h (z ▸ List.mem_append_left _ hx)
    simpa using this, List.filter_eq_self.mpr fun x hx => by
    have : x ≠ T := fun z => h (z ▸ List.mem_append_right _ hx)
    simpa using this]
end
/-! who comes and goes -/
section
variable {ms : List Int} {T : Int}
theorem wp_val {p : Nat} (hp : p ≤ ms.length) (hm : T ∉ ms) (hl : ms.length ≤ 1000) : F_with_person [.tuple (ms.map .int), .int (p : Int), .int T] = some (.dat (.tuple ((ms.take p ++ T :: ms.drop p).map .int))) := by
  have i0 := inF_ints false T ms (d := .tuple (ms.map .int)) rfl
  rw [decide_eq_false hm] at i0
  refine (wp_go (a := ms.take p) (b := ms.drop p) (by omega) (by omega) i0 (cutT_to (z := PyData.int)) (by rw [List.length_take]; show _ + 1 ≤ _; omega) (cutT_from (z := PyData.int)) (by rw [List.length_map, List.length_map, List.length_append, List.length_take, List.length_drop]; show _ + 1 + _ ≤ _; omega)).trans ?_
  rw [← List.map_append, List.append_assoc]
  rfl
theorem wo_val (hm : T ∈ ms) (hl : ms.length ≤ 1000) : F_without [.tuple (ms.map .int), .int T] = some (.dat (.tuple ((ms.filter fun x => !decide (x = T)).map .int))) := by
  refine wo_go (person_ok hm) (lc_eq (seq_x (get_x rfl) rfl) rfl rfl ?_)
  exact comp_x (z := PyData.int) PyData.int (fun x => !decide (x = T)) ms [] (by show 0 + _ < _; omega) fun x hx => ⟨[some (.dat (.tuple (ms.map PyData.int))), some (.dat (.int T)), some (.dat (.int x))], rfl, tb_x (op2_x (get_x rfl) (get_x rfl) vwd_x vwd_x (show some (PyData.bool (true ^^ decide (x = T))) = _ by rw [Bool.true_xor])) vwd_x, fun _ => get_x rfl, rfl, rfl⟩
theorem neg_cut {l : List Int} {x : Int} : cutD (.tuple ((l ++ [x]).map PyData.int)) none (some (-1)) = some (.tuple (l.map PyData.int)) := by
  show some (PyData.tuple (cutL _ _ _)) = _
  unfold cutL
  simp only [HT.sIx, List.length_map, List.length_append, List.length_singleton]
  congr 2
  simp [List.map_append]
  rw [show (-1 + ((l.length : Int) + 1)).toNat = l.length by omega, List.take_append_of_le_length (by simp), List.take_of_length_le (by simp)]
end
end Ov
set_option Elab.async false
set_option linter.all false
set_option maxRecDepth 100000
set_option maxHeartbeats 4000000
namespace Ov
open PySem L2
theorem shp_vt (l : List Iv) : shp (.tuple (ivD l)) = true := (Sh.tup (k := 3) fun x hx => by
  obtain ⟨p, _, rfl⟩ := List.mem_map.mp hx
  exact Sh.tup fun y hy => by
    simp only [List.mem_cons, List.not_mem_nil, or_false] at hy
    rcases hy with rfl | rfl <;> exact Sh.int _).shp (by decide)
theorem shp_li (l : List Int) : shp (.list (l.map .int)) = true := (Sh.lst (k := 3) fun x hx => by
  obtain ⟨p, _, rfl⟩ := List.mem_map.mp hx
  exact Sh.int _).shp (by decide)
theorem tall_right_ok {n : Int} {bs : List PyData} {ms : List Int} (hb : Bok n bs) (hn : n ≤ 10 ^ 8) (nd : ms.Nodup) (hx : ∀ x ∈ ms, 1 ≤ x ∧ x ≤ 10 ^ 9 - 2) (hl : ms.length ≤ 13) : ∃ bs', F_tall_right bs [.tuple (ms.map .int)] = some (.dat (.bool true), bs') ∧ Bok (n + 100) bs' := by
  obtain ⟨r, bs1, h1, r0, r1, k1⟩ := take_small (k := 1) hb (by omega) (below := (ms.length : Nat) + 1) (by omega) (by omega)
  obtain ⟨p, rfl⟩ : ∃ p : Nat, r = (p : Int) := ⟨r.toNat, by omega⟩
  have hp : p ≤ ms.length := by omega
  have sp : ms.take p ++ ms.drop p = ms := List.take_append_drop p ms
  have la : (ms.take p).length = p := by rw [List.length_take]; omega
  have hi : ∀ x ∈ ms.take p ++ ms.drop p, x < 1000000000 := fun x h => by
    rw [sp] at h
    have := hx x h
    omega
  have nT : (1000000000 : Int) ∉ ms := fun h => by
    have := hx _ h
    omega
  have h2 := wp_val (T := 1000000000) hp nT (by omega)
  have wl : (ms.take p ++ 1000000000 :: ms.drop p).length = ms.length + 1 := by
    have := congrArg List.length sp
    rw [List.length_append] at this
    rw [List.length_append, List.length_cons]
    omega
  have wd : (ms.take p ++ 1000000000 :: ms.drop p).Nodup := by
    refine (List.perm_middle.nodup_iff).mpr ?_
    rw [sp]
    exact List.nodup_cons.mpr ⟨nT, nd⟩
  have cw := codes_ok (d := .tuple ((ms.take p ++ 1000000000 :: ms.drop p).map .int)) (.inr rfl) (by omega)
  have mt := mks_top hi
  have hw := sort_top hi
  have e8 := filt_out (T := 1000000000) (a := ms.take p) (b := ms.drop p) (by rw [sp]; exact nT)
  have h8 := wo_val (ms := ms.take p ++ 1000000000 :: ms.drop p) (T := 1000000000) (by simp) (by omega)
  rw [e8, sp] at h8
  have h10 := runs_ok (d := .tuple ((ms.take p ++ 1000000000 :: ms.drop p).map .int)) (.inr rfl) (by omega) wd
  have e11 := RNS_last_one wd (by simp)
  obtain ⟨en, t, bs2, h13, wk, _, k2⟩ := wandered_ok (m := 25) (ms := ms.take p ++ 1000000000 :: ms.drop p) k1 (by omega) (by omega) (by decide)
  have pe := wk.perm
  have rn := wk.rns wd
  have h14 := leads_yes (d := .tuple ((ms.take p ++ 1000000000 :: ms.drop p).map .int)) (e := .tuple (en.map .int)) (.inr rfl) (.inr rfl) pe (by omega) wd rn
  have h15 := codes_ok (d := .tuple (en.map .int)) (.inr rfl) (by rw [pe.length_eq]; omega)
  have e16 := mks_last_max pe hi
  have h18 := wo_val (ms := en) (T := 1000000000) (pe.symm.subset (by simp)) (by rw [pe.length_eq]; omega)
  have pf : (en.filter fun x => !decide (x = 1000000000)).Perm ms := by
    have := pe.filter fun x => !decide (x = 1000000000)
    rw [e8, sp] at this
    exact this
  have es : sortI (en.filter fun x => !decide (x = 1000000000)) = sortI ms := sort_perm pf
  rw [sp, la] at mt
  rw [mt] at cw
  generalize ms.take p ++ 1000000000 :: ms.drop p = wi at *
  have h3 : (lcW (seqI (get 3)) (gN 7) yesT (cb intD (acons (op2 geD (ixE (get 1) (acons (get 7) anil)) (get 4)) anil)) [7]) [some (.own (dats bs1)), some (.dat (.tuple (ms.map PyData.int))), some (.dat (.int 1000000000)), some (.dat (.list ((sortI ms).map PyData.int))), some (.dat (.int (p : Int))), some (.dat (.tuple (wi.map PyData.int))), none, none, none, none, none] = some (.ok (.own (dats (((sortI ms).map fun h => if p ≤ ms.idxOf h then 1 else 0).map PyData.int))) [some (.own (dats bs1)), some (.dat (.tuple (ms.map PyData.int))), some (.dat (.int 1000000000)), some (.dat (.list ((sortI ms).map PyData.int))), some (.dat (.int (p : Int))), some (.dat (.tuple (wi.map PyData.int))), none, none, none, none, none]) := by
    refine lc_eq (seq_x (get_x rfl) rfl) rfl rfl ?_
    rw [List.map_map]
    refine compM_x (z := PyData.int) (fun h => .int (if p ≤ ms.idxOf h then 1 else 0)) (sortI ms) (by rw [(sortI_perm ms).length_eq]; omega) fun h hh => ?_
    refine ⟨[some (.own (dats bs1)), some (.dat (.tuple (ms.map PyData.int))), some (.dat (.int 1000000000)), some (.dat (.list ((sortI ms).map PyData.int))), some (.dat (.int (p : Int))), some (.dat (.tuple (wi.map PyData.int))), none, some (.dat (.int h)), none, none, none], rfl, rfl, ?_, rfl, rfl⟩
    refine cb_x (acons_x (op2_x (ix_x (get_x rfl) (s := .tuple (ms.map PyData.int)) rfl (intsD_map ms) (acons_x (get_x rfl) anil_x) (vwC_x vwd_x vw0_x) ((sortI_perm ms).subset hh)) (get_x rfl) vwd_x vwd_x (geI_x _ _)) anil_x) (vwC_x vwd_x vw0_x) ?_
    show some (PyData.int (if decide ((p : Int) ≤ (ms.idxOf h : Nat)) = true then 1 else 0)) = _
    by_cases q : p ≤ ms.idxOf h
    · rw [if_pos q, if_pos (decide_eq_true (by omega))]
    · rw [if_neg q, if_neg (by rw [decide_eq_false (by omega)]; exact Bool.false_ne_true)]
  have cm := codes_ok (d := .tuple (ms.map .int)) (.inr rfl) (by omega)
  have h6 : (lcW (argI zipM (acons (fz (callA F_codes (acons (get 1) anil))) (acons (get 6) anil))) (gT (gsC (gN 8) (gsC (gN 9) gsN))) yesT (op2 addD (get 8) (get 9)) [8, 9]) [some (.own (dats bs1)), some (.dat (.tuple (ms.map PyData.int))), some (.dat (.int 1000000000)), some (.dat (.list ((sortI ms).map PyData.int))), some (.dat (.int (p : Int))), some (.dat (.tuple (wi.map PyData.int))), some (.dat (.list (((sortI ms).map fun h => if p ≤ ms.idxOf h then (1 : Int) else 0).map PyData.int))), none, none, none, none] = some (.ok (.own (dats (((sortI ms).map fun h => mk ms h + (if p ≤ ms.idxOf h then 1 else 0)).map PyData.int))) [some (.own (dats bs1)), some (.dat (.tuple (ms.map PyData.int))), some (.dat (.int 1000000000)), some (.dat (.list ((sortI ms).map PyData.int))), some (.dat (.int (p : Int))), some (.dat (.tuple (wi.map PyData.int))), some (.dat (.list (((sortI ms).map fun h => if p ≤ ms.idxOf h then (1 : Int) else 0).map PyData.int))), none, none, none, none]) := by
    have zz : pairUp ((mks ms).map PyData.int) (((sortI ms).map fun h => if p ≤ ms.idxOf h then (1 : Int) else 0).map PyData.int) = (sortI ms).map fun h => .tuple [.int (mk ms h), .int (if p ≤ ms.idxOf h then 1 else 0)] := by
      rw [zip_map]
      unfold mks
      rw [List.zip_map', List.map_map]
      rfl
    have eo : (((sortI ms).map fun h => mk ms h + (if p ≤ ms.idxOf h then 1 else 0)).map PyData.int) = (sortI ms).map fun h => .int (mk ms h + (if p ≤ ms.idxOf h then 1 else 0)) := List.map_map
    rw [eo]
    refine lc_eq (argI_x (es := (sortI ms).map fun h => .tuple [.int (mk ms h), .int (if p ≤ ms.idxOf h then 1 else 0)]) (acons_x (fz_x (callA_x (acons_x (get_x rfl) anil_x) rfl cm) rfl) (acons_x (get_x rfl) anil_x)) rfl (by rw [← zz]; rfl)) rfl rfl ?_
    refine compM_x (z := fun h => .tuple [.int (mk ms h), .int (if p ≤ ms.idxOf h then 1 else 0)]) (fun h => .int (mk ms h + (if p ≤ ms.idxOf h then 1 else 0))) (sortI ms) (by rw [(sortI_perm ms).length_eq]; omega) fun h hh => ?_
    exact ⟨[some (.own (dats bs1)), some (.dat (.tuple (ms.map PyData.int))), some (.dat (.int 1000000000)), some (.dat (.list ((sortI ms).map PyData.int))), some (.dat (.int (p : Int))), some (.dat (.tuple (wi.map PyData.int))), some (.dat (.list (((sortI ms).map fun h => if p ≤ ms.idxOf h then (1 : Int) else 0).map PyData.int))), none, some (.dat (.int (mk ms h))), some (.dat (.int (if p ≤ ms.idxOf h then 1 else 0))), none], rfl, rfl, op2_x (get_x rfl) (get_x rfl) vwd_x vwd_x (addI_x _ _), rfl, rfl⟩
  have y1 : eqvD true (.tuple (((sortI ms).map fun h => mk ms h + (if p ≤ ms.idxOf h then 1 else 0)).map PyData.int)) (.tuple (((sortI ms).map fun h => mk ms h + (if p ≤ ms.idxOf h then 1 else 0)).map PyData.int)) = some (.bool false) := eq_yes (n := true) (shp_tup _)
  have y2 : eqvD true (.tuple (ms.map PyData.int)) (.tuple (ms.map PyData.int)) = some (.bool false) := eq_yes (n := true) (shp_tup _)
  have y3 : eqvD true (.tuple [.int 0, .int 0]) (.tuple [.int 0, .int 0]) = some (.bool false) := eq_yes (n := true) (shp_tup [0, 0])
  have y4 : eqvD false (.list ((sortI (en.filter fun x => !decide (x = 1000000000))).map PyData.int)) (.list ((sortI ms).map PyData.int)) = some (.bool true) := by
    rw [es]
    exact eq_yes (n := false) (shp_li _)
  have h11 : ixD (.tuple (ivD (RNS wi))) (.int (-1)) = some (.tuple [.int 0, .int 0]) := atI_neg1 (z := pD) e11
  have h16 : ixD (.tuple ((mks en).map PyData.int)) (.int (-1)) = some (.int 0) := atI_neg1 (z := PyData.int) e16
  exact ⟨bs2, tr_go h1 h2 h3 cw neg_cut h6 y1 h8 y2 h10 h11 y3 h13 h14 h15 h16 rfl h18 y4, k2.mono (by omega)⟩
end Ov
set_option Elab.async false
set_option linter.all false
set_option maxRecDepth 100000
set_option maxHeartbeats 4000000
namespace Ov
open PySem L2
theorem inD_pairs (n : Bool) (p : Iv) (l : List Iv) : inD n (pD p) (.list (ivD l)) = some (.bool (n ^^ decide (p ∈ l))) := by
  have an : ((ivD l).any fun z => PyData.eqv z (pD p)) = decide (p ∈ l) := by
    rw [Bool.eq_iff_iff, List.any_eq_true, decide_eq_true_iff]
    constructor
    · rintro ⟨x, hx, e⟩
      obtain ⟨q, hq, rfl⟩ := List.mem_map.mp hx
      rw [eqv_pD, decide_eq_true_iff] at e
      exact e ▸ hq
    · exact fun hm => ⟨pD p, List.mem_map.mpr ⟨p, hm, rfl⟩, by rw [eqv_pD]; exact decide_eq_true rfl⟩
  unfold inD
  simp only
  rw [show shp (pD p) = true from shp_pD p, shp_ivL', an]
  rfl
theorem one_body {bs : List PyData} {ms ra : List Int} {w5 w6 : Option Wv} {p : Nat} (nd : ra.Nodup) (hx : ∀ x ∈ ra, 2 ≤ x) (hl : ra.length ≤ 13) (hp : p = 0 ∨ p = ra.length) :
    ∃ u5, b_short_right_1 [some (.own (dats bs)), some (.dat (.tuple (ms.map PyData.int))), some (.dat (.tuple (ra.map PyData.int))), none, some (.dat (.int (p : Int))), w5, w6] = some (.ok .nx [some (.own (dats bs)), some (.dat (.tuple (ms.map PyData.int))), some (.dat (.tuple (ra.map PyData.int))), none, some (.dat (.int (p : Int))), u5, w6]) := by
  have n1 : (1 : Int) ∉ ra := fun h => by
    have := hx 1 h
    omega
  have h1 := wp_val (T := 1) (ms := ra) (p := p) (by omega) n1 (by omega)
  have wn : (ra.take p ++ 1 :: ra.drop p).Nodup := by
    refine (List.perm_middle.nodup_iff).mpr ?_
    rw [List.take_append_drop]
    exact List.nodup_cons.mpr ⟨n1, nd⟩
  have wl : (ra.take p ++ 1 :: ra.drop p).length = ra.length + 1 := by
    have := congrArg List.length (List.take_append_drop p ra)
    rw [List.length_append] at this
    rw [List.length_append, List.length_cons]
    omega
  have re : RNS (ra.take p ++ 1 :: ra.drop p) = ((p : Int), (p : Int)) :: RNS ra := by
    rcases hp with rfl | rfl
    · rw [List.take_zero, List.drop_zero, List.nil_append]
      exact RNS_first fun x h => by have := hx x h; omega
    · rw [List.take_length, List.drop_length]
      exact RNS_last fun x h => by have := hx x h; omega
  have h2 := runs_ok (d := .tuple ((ra.take p ++ 1 :: ra.drop p).map .int)) (.inr rfl) (by omega) wn
  have h9 := count_ok wn (by omega)
  rw [re] at h2 h9
  have h7 := runs_ok (d := .tuple (ra.map .int)) (.inr rfl) (by omega) nd
  have h10 := count_ok nd (by omega)
  have e : prod 1 (((p : Int), (p : Int)) :: RNS ra) = prod 1 (RNS ra) := by
    show prod (1 * ((p : Int) - p + 1)) (RNS ra) = _
    rw [show (1 : Int) * ((p : Int) - p + 1) = 1 by omega]
  generalize ra.take p ++ 1 :: ra.drop p = wi at *
  generalize RNS ra = R at *
  exact ⟨_, sr_body h1 h2 (ixT_map (z := pD) (k := 0) rfl) (eq_yes (n := true) (shp_tup [(p : Int), (p : Int)])) h2 (cutT_from (z := pD) (k := 1)) h7 (eq_yes (n := true) (shp_vt R)) h9 h10 e⟩
theorem raised {bs : List PyData} {ms : List Int} (hl : ms.length ≤ 13) : (lcW (seqI (get 1)) (gN 3) yesT (op2 addD (get 3) (con (.int 1))) [3]) [some (.own (dats bs)), some (.dat (.tuple (ms.map PyData.int))), none, none, none, none, none] = some (.ok (.own (dats ((ms.map (· + 1)).map PyData.int))) [some (.own (dats bs)), some (.dat (.tuple (ms.map PyData.int))), none, none, none, none, none]) := by
  refine lc_eq (seq_x (get_x rfl) rfl) rfl rfl ?_
  rw [show (ms.map (· + 1)).map PyData.int = ms.map fun x => .int (x + 1) from List.map_map]
  exact compM_x (z := PyData.int) (fun x => .int (x + 1)) ms (by omega) fun x hx => ⟨[some (.own (dats bs)), some (.dat (.tuple (ms.map PyData.int))), none, some (.dat (.int x)), none, none, none], rfl, rfl, op2_x (get_x rfl) con_x vwd_x vwd_x (addI_x _ _), rfl, rfl⟩
theorem nx_between {m c : Nat} (h1 : 1 ≤ c) (h2 : c + 1 < m) : (((c : Int) - 1, (c : Int)) : Iv) ∈ nx (fiv m) c := by
  have g : ∀ i : Nat, i < m → (fiv m).getD i (0, 0) = ((i : Int), (i : Int)) := fun i h => by rw [List.getD_eq_getElem?_getD, fiv_get h]; rfl
  have l0 : lf c = c - 1 := rfl
  have r0 : rg (fiv m) c = c + 1 := by unfold rg; rw [fiv_len]; omega
  unfold nx
  rw [l0, r0, g _ (by omega), g _ (by omega)]
  refine List.mem_append_left _ (List.mem_append_right _ ?_)
  rw [List.mem_singleton]
  exact Prod.ext (by show (c : Int) - 1 = ((c - 1 : Nat) : Int); omega) (by show (c : Int) = ((c + 1 : Nat) : Int) - 1; omega)
theorem st_fiv {n : Nat} {x : Int} (h0 : 0 ≤ x) (h1 : x < n) : x ∈ st (fiv n) := mem_st.mpr ⟨(x, x), List.mem_map.mpr ⟨x.toNat, List.mem_range.mpr (by omega), Prod.ext (by show ((x.toNat : Nat) : Int) = x; omega) (by show ((x.toNat : Nat) : Int) = x; omega)⟩, rfl⟩
theorem vd_mks {ms : List Int} (nd : ms.Nodup) : Vd ms.length (mks ms) := by
  have := mks_vd (sortI_lt nd) (sortI_perm ms).symm
  rw [(sortI_perm ms).length_eq] at this
  exact this
theorem min_first {ra : List Int} (h : 0 < ra.length) : ∃ r, sortI ra = minI ra :: r := by
  obtain ⟨m1, m2⟩ := minI_ok h
  have p := sortI_perm ra
  have w := sortI_pw ra
  cases e : sortI ra with
  | nil =>
    have := p.length_eq
    rw [e] at this
    simp at this
    omega
  | cons x r =>
    rw [e] at p w
    have hx : x ∈ ra := p.subset (List.mem_cons_self ..)
    have : x ≤ minI ra := by
      rcases List.mem_cons.mp (p.symm.subset m1) with z | z
      · rw [z]; exact Int.le_refl _
      · exact (List.pairwise_cons.mp w).1 _ z
    exact ⟨r, by rw [Int.le_antisymm this (m2 x hx)]⟩
theorem short_right_ok {n : Int} {bs : List PyData} {ms : List Int} (hb : Bok n bs) (hn : n ≤ 10 ^ 8) (nd : ms.Nodup) (hx : ∀ x ∈ ms, 1 ≤ x ∧ x ≤ 10 ^ 9 - 2) (hl : ms.length ≤ 13) : ∃ bs', F_short_right bs [.tuple (ms.map .int)] = some (.dat (.bool true), bs') ∧ Bok (n + 1) bs' := by
  have h1 := raised (bs := bs) hl
  have lr : (ms.map (· + 1)).length = ms.length := List.length_map ..
  have ndr : (ms.map (· + 1)).Nodup := List.Pairwise.map _ (fun a b h z => h (by omega)) nd
  have hr : ∀ x ∈ ms.map (· + 1), 2 ≤ x := fun x h => by
    obtain ⟨y, hy, rfl⟩ := List.mem_map.mp h
    have := hx y hy
    show 2 ≤ y + 1
    omega
  generalize ms.map (· + 1) = ra at *
  obtain ⟨v5, e1⟩ := one_body (bs := bs) (ms := ms) (w5 := none) (w6 := none) (p := 0) ndr hr (by omega) (.inl rfl)
  obtain ⟨u5, e2⟩ := one_body (bs := bs) (ms := ms) (w5 := v5) (w6 := none) (p := ra.length) ndr hr (by omega) (.inr rfl)
  have h2 : forM (gN 4) b_short_right_1 [.int 0, .int (ms.length : Nat)] [some (.own (dats bs)), some (.dat (.tuple (ms.map PyData.int))), some (.dat (.tuple (ra.map PyData.int))), none, none, none, none] = some (.ok .nx [some (.own (dats bs)), some (.dat (.tuple (ms.map PyData.int))), some (.dat (.tuple (ra.map PyData.int))), none, some (.dat (.int (ms.length : Nat))), u5, none]) := by
    rw [lr] at e2
    exact (for_go rfl e1).trans ((for_go rfl e2).trans for_nil)
  by_cases c : (1 : Int) < ((ms.length : Nat) : Int)
  · obtain ⟨r, bs3, h4, r0, r1, k1⟩ := take_small (k := 1) hb (by omega) (below := (ms.length : Nat) - 1) (by omega) (by omega)
    obtain ⟨k, rfl⟩ : ∃ k : Nat, r = (k : Int) := ⟨r.toNat, by omega⟩
    have n1 : (1 : Int) ∉ ra := fun h => by
      have := hr 1 h
      omega
    have h5 := wp_val (T := 1) (ms := ra) (p := k + 1) (by omega) n1 (by omega)
    have wn : (ra.take (k + 1) ++ 1 :: ra.drop (k + 1)).Nodup := by
      refine (List.perm_middle.nodup_iff).mpr ?_
      rw [List.take_append_drop]
      exact List.nodup_cons.mpr ⟨n1, ndr⟩
    have td := List.take_append_drop (k + 1) ra
    have lt : (ra.take (k + 1)).length = k + 1 := by rw [List.length_take]; omega
    have ld : (ra.drop (k + 1)).length = ra.length - (k + 1) := List.length_drop ..
    have wl : (ra.take (k + 1) ++ 1 :: ra.drop (k + 1)).length = ra.length + 1 := by
      rw [List.length_append, List.length_cons]
      omega
    have lo : ∀ x ∈ ra.take (k + 1) ++ ra.drop (k + 1), 1 < x := fun x h => by
      rw [td] at h
      have := hr x h
      omega
    have mp := mks_put lo
    have sp := sort_put lo
    have rp := RNS_put lo
    rw [lt, ld, td, show k + 1 + (ra.length - (k + 1)) + 1 = ra.length + 1 by omega] at rp
    rw [lt, td] at mp
    rw [td] at sp
    have pos : 0 < ra.length := by omega
    obtain ⟨m1, m2⟩ := minI_ok pos
    obtain ⟨rest, mf⟩ := min_first pos
    have hv : (ivs (fiv (ra.take (k + 1) ++ 1 :: ra.drop (k + 1)).length) (mks (ra.take (k + 1) ++ 1 :: ra.drop (k + 1))))[1]? = some (nx (fiv (ra.length + 1)) (k + 1)) := by
      rw [wl, mp]
      show (ivs (nx (fiv (ra.length + 1)) (rix (fiv (ra.length + 1)) ((k + 1 : Nat) : Int))) (mks ra))[0]? = _
      rw [fiv_rix (by omega)]
      have : (mks ra).length ≠ 0 := by rw [mks_len]; omega
      cases q : mks ra with
      | nil => rw [q] at this; exact absurd rfl this
      | cons x xs => rfl
    have hk : (sortI (ra.take (k + 1) ++ 1 :: ra.drop (k + 1))).idxOf (minI ra) = 1 := by
      rw [sp, mf, List.idxOf_cons, show ((1 : Int) == minI ra) = false from beq_eq_false_iff_ne.mpr (fun z => n1 (by rw [z]; exact m1)), cond_false, List.idxOf_cons_self]
    have h7 := run_list_ok (by omega) wn (by
      refine List.perm_middle.symm.subset (List.mem_cons_of_mem _ ?_)
      rw [td]
      exact m1) hk hv
    have h9 := count_ok wn (by omega)
    have h10 := count_ok ndr (by omega)
    have Q : Pt 0 ((ra.length : Nat) : Int) (nx (fiv (ra.length + 1)) (k + 1)) := by
      have := nx_pt (a := k + 1) (fiv_pt (ra.length + 1)) (by omega) (by rw [fiv_len]; omega)
      rw [show ((ra.length + 1 : Nat) : Int) - 1 = (ra.length : Nat) by omega] at this
      exact this
    have wr := (wide_rns (cs := mks ra) (iv := fiv ra.length) (jv := nx (fiv (ra.length + 1)) (k + 1)) (m := (ra.length : Nat)) (fun _ => fiv_pt _) (fun _ => Q) (by rw [mks_len]) (vd_mks ndr) fun x h => by
      have := st_bd Q h
      exact st_fiv this.1 this.2).2.2.1
    have mem := nx_between (m := ra.length + 1) (c := k + 1) (by omega) (by omega)
    have h8 := inD_pairs true (((k + 1 : Nat) : Int) - 1, ((k + 1 : Nat) : Int)) (nx (fiv (ra.length + 1)) (k + 1))
    rw [decide_eq_true mem] at h8
    have ec : ((k + 1 : Nat) : Int) = 1 + (k : Int) := by omega
    rw [ec] at h5 h8
    rw [rp] at h9
    have pe : prod 1 ((((k + 1 : Nat) : Int), ((k + 1 : Nat) : Int)) :: rns (nx (fiv (ra.length + 1)) (k + 1)) (mks ra)) = prod 1 (rns (nx (fiv (ra.length + 1)) (k + 1)) (mks ra)) := by
      show prod (1 * (((k + 1 : Nat) : Int) - ((k + 1 : Nat) : Int) + 1)) _ = _
      rw [show (1 : Int) * (((k + 1 : Nat) : Int) - ((k + 1 : Nat) : Int) + 1) = 1 by omega]
    rw [pe] at h9
    exact ⟨bs3, sr_two h1 h2 c h4 h5 (minT_x pos) h7 h8 h9 h10 (by
      have : prod 1 (RNS ra) ≤ prod 1 (rns (nx (fiv (ra.length + 1)) (k + 1)) (mks ra)) := wr
      omega), k1⟩
  · exact ⟨bs, sr_one h1 h2 c, hb.mono (by omega)⟩
end Ov
set_option Elab.async false
set_option linter.all false
set_option maxRecDepth 100000
set_option maxHeartbeats 4000000
namespace Ov
open PySem L2
theorem nub_sub : ∀ h : List Int, (nub h).Sublist h
  | [] => List.Sublist.refl _
  | x :: r => by
    unfold nub
    split
    · exact (nub_sub r).cons x
    · exact (nub_sub r).cons₂ x
theorem right_ok {n : Int} {bs : List PyData} (hb : Bok n bs) (hn : n ≤ 10 ^ 6) : ∃ bs', F_right bs [] = some (.dat (.bool true), bs') ∧ Bok (n + 1000) bs' := by
  obtain ⟨cr, bs1, e1, nc, hc, lc, k1⟩ := crowd_ok hb (by omega) (c := 13) (by decide) (by decide)
  have lc : cr.length ≤ 13 := lc
  have h1 : (lcW (seqI (fz (callB 0 F_crowd (acons (con (.int 13)) anil)))) (gN 2) yesT (op2 addD (con (.int 1)) (op2 modD (get 2) (op2 subD (op2 powD (con (.int 10)) (con (.int 9))) (con (.int 2))))) [2]) [some (.own (dats bs)), none, none] = some (.ok (.own (dats ((cr.map fun x => 1 + x % 999999998).map PyData.int))) [some (.own (dats bs1)), none, none]) := by
    refine lc_eq (seq_x (fz_x (callB_x rfl (acons_x con_x anil_x) rfl rfl e1) rfl) rfl) rfl rfl ?_
    rw [show (cr.map fun x => 1 + x % 999999998).map PyData.int = cr.map fun x => .int (1 + x % 999999998) from List.map_map]
    exact compM_x (z := PyData.int) (fun x => .int (1 + x % 999999998)) cr (by omega) fun x hx => ⟨[some (.own (dats bs1)), none, some (.dat (.int x))], rfl, rfl, op2_x con_x (op2_x (get_x rfl) (op2_x (op2_x con_x con_x vwd_x vwd_x (show powD (.int 10) (.int 9) = some (.int 1000000000) from (v_pow _ _ (by decide)).trans rfl)) con_x vwd_x vwd_x (show subD (.int 1000000000) (.int 2) = some (.int 999999998) from rfl)) vwd_x vwd_x (v_mod _ _ (pMod_ok (by decide)))) vwd_x vwd_x (addI_x _ _), rfl, rfl⟩
  have hx : ∀ x ∈ cr.map fun x => 1 + x % 999999998, 1 ≤ x ∧ x ≤ 10 ^ 9 - 2 := fun y hy => by
    obtain ⟨x, _, rfl⟩ := List.mem_map.mp hy
    show 1 ≤ 1 + x % 999999998 ∧ 1 + x % 999999998 ≤ 10 ^ 9 - 2
    omega
  have hl : (cr.map fun x => 1 + x % 999999998).length ≤ 13 := by rw [List.length_map]; exact lc
  generalize cr.map (fun x => 1 + x % 999999998) = ms at *
  have h2 : lenSetD (.tuple (ms.map PyData.int)) = some (.int ((nub ms).length : Nat)) := by
    show (intsD (ms.map PyData.int)).bind _ = _
    rw [intsD_map]
    exact if_pos (by omega)
  by_cases c : (((nub ms).length : Nat) : Int) = (ms.length : Nat)
  · have e : nub ms = ms := (nub_sub ms).eq_of_length (by omega)
    have nd : ms.Nodup := by rw [← e]; exact nub_nodup ms
    obtain ⟨bs2, h4, k2⟩ := tall_right_ok k1 (by omega) nd hx hl
    obtain ⟨bs3, h5, k3⟩ := short_right_ok k2 (by omega) nd hx hl
    exact ⟨bs3, rt_go h1 h2 c h4 h5, k3.mono (by omega)⟩
  · exact ⟨bs1, rt_dup h1 h2 c, k1.mono (by omega)⟩
end Ov
set_option Elab.async false
set_option linter.all false
set_option maxRecDepth 100000
set_option maxHeartbeats 4000000
namespace Ov
open PySem L2
theorem law_body {ns : List Int} {k : Int} {w2 : Option Wv} {b l bs1 : List PyData}
    (h1 : F_box [.list (ns.map PyData.int), .int k] = some (.own (dats b)))
    (h2 : (lcW (argI rngD (acons (con (.int 3)) anil)) (gN 3) yesT (fz (callB 2 F_right anil)) [3]) [some (.dat (.list (ns.map PyData.int))), some (.dat (.int k)), some (.own (dats b)), none] = some (.ok (.own (dats l)) [some (.dat (.list (ns.map PyData.int))), some (.dat (.int k)), some (.own (dats bs1)), none]))
    (h3 : allD [.list l] = some (.bool true)) :
    b_law_0 [some (.dat (.list (ns.map PyData.int))), some (.dat (.int k)), w2, none] = some (.ok .nx [some (.dat (.list (ns.map PyData.int))), some (.dat (.int k)), some (.own (dats bs1)), none]) := by
  unfold b_law_0
  exact (then_x (set_x (callA_x (acons_x (get_x rfl) (acons_x (get_x rfl) anil_x)) rfl h1) (Nat.le_of_ble_eq_true rfl)) (ifS_f (notT_x (tb_x (cb_x (acons_x (fz_x h2 (v_ofWo _)) anil_x) (vwC_x vwd_x vw0_x) h3) vwd_x)) nxt_x))
theorem law_go {ns : List Int} {l : List PyData} {u1 u2 u3 : Option Wv}
    (h1 : rngD [.int 2] = some l)
    (h2 : forM (gN 1) b_law_0 l [some (.dat (.list (ns.map PyData.int))), none, none, none] = some (.ok .nx [some (.dat (.list (ns.map PyData.int))), u1, u2, u3])) :
    F_law [.list (ns.map PyData.int)] = some (.dat (.bool true)) := by
  have s0 : s_law_0 [some (.dat (.list (ns.map PyData.int))), none, none, none] = some (.ok .nx [some (.dat (.list (ns.map PyData.int))), u1, u2, u3]) := by
    unfold s_law_0
    exact (for_x (argI_x (acons_x con_x anil_x) rfl h1) h2)
  refine runA_eq rfl ⟨[some (.dat (.list (ns.map PyData.int))), u1, u2, u3], ?_⟩
  show f_law [some (.dat (.list (ns.map PyData.int))), none, none, none] = _
  unfold f_law
  rw [then_nx s0]
  unfold s_law_1
  exact (ret_x (pl_x con_x rfl))
theorem turn_comp {d0 d1 : Option Wv} : ∀ (j : Nat) {k : Nat} {n : Int} {bs acc : List PyData}, Bok n bs → n + 1000 * j ≤ 10 ^ 6 → acc.length + j ≤ 1000 → ∃ bs', compM (gN 3) yesT (fz (callB 2 F_right anil)) [3] ((List.range' k j).map nI) acc [d0, d1, some (.own (dats bs)), none] = some (.ok (acc ++ (List.range' k j).map fun _ => .bool true) [d0, d1, some (.own (dats bs')), none]) ∧ Bok (n + 1000 * j) bs'
  | 0, k, n, bs, acc, hb, _, _ => ⟨bs, by show some _ = some _; rw [show (List.range' k 0).map (fun _ => PyData.bool true) = [] from rfl, List.append_nil], hb.mono (by omega)⟩
  | j + 1, k, n, bs, acc, hb, hn, hl => by
    obtain ⟨bs1, e1, k1⟩ := right_ok hb (by omega)
    obtain ⟨bs', e, k2⟩ := turn_comp (d0 := d0) (d1 := d1) j (k := k + 1) (acc := acc ++ [.bool true]) k1 (by omega) (by rw [List.length_append]; show acc.length + 1 + j ≤ _; omega)
    refine ⟨bs', ?_, k2.mono (by omega)⟩
    rw [List.range'_succ, List.map_cons, List.map_cons]
    refine (comp_yes (e := [d0, d1, some (.own (dats bs)), some (.dat (nI k))]) (e2 := [d0, d1, some (.own (dats bs)), some (.dat (nI k))]) (e3 := [d0, d1, some (.own (dats bs1)), some (.dat (nI k))]) (y := .bool true) rfl rfl (fz_x (callB_x rfl anil_x rfl rfl e1) rfl) rfl (by omega)).trans (e.trans ?_)
    rw [List.append_assoc]
    rfl
theorem law_loop {ns : List Int} : ∀ (j : Nat) {k : Nat} {w1 w2 : Option Wv}, k + j ≤ 4 → ∃ u1 u2, forM (gN 1) b_law_0 ((List.range' k j).map nI) [some (.dat (.list (ns.map .int))), w1, w2, none] = some (.ok .nx [some (.dat (.list (ns.map .int))), u1, u2, none])
  | 0, k, w1, w2, _ => ⟨w1, w2, for_nil⟩
  | j + 1, k, w1, w2, h => by
    obtain ⟨bs, b1, b2⟩ := box_ok (ns := ns) (k := (k : Int)) (by omega) (by omega)
    obtain ⟨bs', c1, c2⟩ := turn_comp (d0 := some (.dat (.list (ns.map .int)))) (d1 := some (.dat (.int (k : Int)))) 3 (k := 0) (acc := []) b2 (by omega) (by decide)
    rw [List.nil_append] at c1
    have al := all_map (List.range' 0 3) fun _ => true
    rw [List.all_eq_true.mpr fun _ _ => rfl] at al
    have st := law_body (ns := ns) (k := (k : Int)) (w2 := w2) b1 (lc_eq (argI_x (acons_x con_x anil_x) rfl (rng1N (n := 3) (by decide))) rfl rfl c1) al
    obtain ⟨u1, u2, e⟩ := law_loop (ns := ns) j (k := k + 1) (w1 := some (.dat (.int (k : Int)))) (w2 := some (.own (dats bs'))) (by omega)
    rw [List.range'_succ, List.map_cons]
    exact ⟨u1, u2, (for_go (e := [some (.dat (.list (ns.map .int))), some (.dat (.int (k : Int))), w2, none]) rfl st).trans e⟩
theorem law_ok (ns : List Int) : F_law [.list (ns.map .int)] = some (.dat (.bool true)) := by
  obtain ⟨u1, u2, e⟩ := law_loop (ns := ns) 2 (k := 0) (w1 := none) (w2 := none) (by decide)
  exact law_go (rng1N (n := 2) (by decide)) e
end Ov
set_option Elab.async false
set_option linter.all false
set_option maxRecDepth 100000
set_option maxHeartbeats 4000000
namespace Ov
open PySem L2
theorem all_mk {l : PySem.W.OpenLaw} {w : World} {K : PySem.W.Frag} {h : Heap} {mg : Str → Option Value} {fa f0 f1 f2 f3 f4 f5 f6 f7 f8 f9 f10 f11 f12 f13 f14 f15 f16 f17 f18 f19 f20 f21 f22 f23 f24 f25 f26 f27 f28 f29 f30 : Addr} (X : K.In h) (G : h.Ns mainGlobals mg) (hfa : mg "law" = some (.ref fa))
    {od0 an0 : Option Addr} {sl0 : Array (Option Value)} {oc0 kV0 dc0 pm0 cd0 ct0 : Value}
    {od1 an1 : Option Addr} {sl1 : Array (Option Value)} {oc1 kV1 dc1 pm1 cd1 ct1 : Value}
    {od2 an2 : Option Addr} {sl2 : Array (Option Value)} {oc2 kV2 dc2 pm2 cd2 ct2 : Value}
    {od3 an3 : Option Addr} {sl3 : Array (Option Value)} {oc3 kV3 dc3 pm3 cd3 ct3 : Value}
    {od4 an4 : Option Addr} {sl4 : Array (Option Value)} {oc4 kV4 dc4 pm4 cd4 ct4 : Value}
    {od5 an5 : Option Addr} {sl5 : Array (Option Value)} {oc5 kV5 dc5 pm5 cd5 ct5 : Value}
    {od6 an6 : Option Addr} {sl6 : Array (Option Value)} {oc6 kV6 dc6 pm6 cd6 ct6 : Value}
    {od7 an7 : Option Addr} {sl7 : Array (Option Value)} {oc7 kV7 dc7 pm7 cd7 ct7 : Value}
    {od8 an8 : Option Addr} {sl8 : Array (Option Value)} {oc8 kV8 dc8 pm8 cd8 ct8 : Value}
    {od9 an9 : Option Addr} {sl9 : Array (Option Value)} {oc9 kV9 dc9 pm9 cd9 ct9 : Value}
    {od10 an10 : Option Addr} {sl10 : Array (Option Value)} {oc10 kV10 dc10 pm10 cd10 ct10 : Value}
    {od11 an11 : Option Addr} {sl11 : Array (Option Value)} {oc11 kV11 dc11 pm11 cd11 ct11 : Value}
    {od12 an12 : Option Addr} {sl12 : Array (Option Value)} {oc12 kV12 dc12 pm12 cd12 ct12 : Value}
    {od13 an13 : Option Addr} {sl13 : Array (Option Value)} {oc13 kV13 dc13 pm13 cd13 ct13 : Value}
    {od14 an14 : Option Addr} {sl14 : Array (Option Value)} {oc14 kV14 dc14 pm14 cd14 ct14 : Value}
    {od15 an15 : Option Addr} {sl15 : Array (Option Value)} {oc15 kV15 dc15 pm15 cd15 ct15 : Value}
    {od16 an16 : Option Addr} {sl16 : Array (Option Value)} {oc16 kV16 dc16 pm16 cd16 ct16 : Value}
    {od17 an17 : Option Addr} {sl17 : Array (Option Value)} {oc17 kV17 dc17 pm17 cd17 ct17 : Value}
    {od18 an18 : Option Addr} {sl18 : Array (Option Value)} {oc18 kV18 dc18 pm18 cd18 ct18 : Value}
    {od19 an19 : Option Addr} {sl19 : Array (Option Value)} {oc19 kV19 dc19 pm19 cd19 ct19 : Value}
    {od20 an20 : Option Addr} {sl20 : Array (Option Value)} {oc20 kV20 dc20 pm20 cd20 ct20 : Value}
    {od21 an21 : Option Addr} {sl21 : Array (Option Value)} {oc21 kV21 dc21 pm21 cd21 ct21 : Value}
    {od22 an22 : Option Addr} {sl22 : Array (Option Value)} {oc22 kV22 dc22 pm22 cd22 ct22 : Value}
    {od23 an23 : Option Addr} {sl23 : Array (Option Value)} {oc23 kV23 dc23 pm23 cd23 ct23 : Value}
    {od24 an24 : Option Addr} {sl24 : Array (Option Value)} {oc24 kV24 dc24 pm24 cd24 ct24 : Value}
    {od25 an25 : Option Addr} {sl25 : Array (Option Value)} {oc25 kV25 dc25 pm25 cd25 ct25 : Value}
    {od26 an26 : Option Addr} {sl26 : Array (Option Value)} {oc26 kV26 dc26 pm26 cd26 ct26 : Value}
    {od27 an27 : Option Addr} {sl27 : Array (Option Value)} {oc27 kV27 dc27 pm27 cd27 ct27 : Value}
    {od28 an28 : Option Addr} {sl28 : Array (Option Value)} {oc28 kV28 dc28 pm28 cd28 ct28 : Value}
    {od29 an29 : Option Addr} {sl29 : Array (Option Value)} {oc29 kV29 dc29 pm29 cd29 ct29 : Value}
    {od30 an30 : Option Addr} {sl30 : Array (Option Value)} {oc30 kV30 dc30 pm30 cd30 ct30 : Value}
    
    (a0 : PySem.W.nsIn K mainGlobals "check_person" = some (some (.ref f0)))
    (l0 : K.lookup f0 = some ⟨oc0, od0, .func (PySem.W.fnOf "check_person" "check_person" (defArgs S_check_person) (defBody S_check_person) (defScope S_check_person) .none kV0 dc0 pm0 an0 cd0 ct0), sl0⟩)
    (c0 : PySem.W.codeIn K cd0 "check_person" = true)
    (k0 : PySem.W.keepIn K (.ref f0) = true)
    (a1 : PySem.W.nsIn K mainGlobals "with_person" = some (some (.ref f1)))
    (l1 : K.lookup f1 = some ⟨oc1, od1, .func (PySem.W.fnOf "with_person" "with_person" (defArgs S_with_person) (defBody S_with_person) (defScope S_with_person) .none kV1 dc1 pm1 an1 cd1 ct1), sl1⟩)
    (c1 : PySem.W.codeIn K cd1 "with_person" = true)
    (k1 : PySem.W.keepIn K (.ref f1) = true)
    (a2 : PySem.W.nsIn K mainGlobals "without" = some (some (.ref f2)))
    (l2 : K.lookup f2 = some ⟨oc2, od2, .func (PySem.W.fnOf "without" "without" (defArgs S_without) (defBody S_without) (defScope S_without) .none kV2 dc2 pm2 an2 cd2 ct2), sl2⟩)
    (c2 : PySem.W.codeIn K cd2 "without" = true)
    (k2 : PySem.W.keepIn K (.ref f2) = true)
    (a3 : PySem.W.nsIn K mainGlobals "code_of" = some (some (.ref f3)))
    (l3 : K.lookup f3 = some ⟨oc3, od3, .func (PySem.W.fnOf "code_of" "code_of" (defArgs S_code_of) (defBody S_code_of) (defScope S_code_of) .none kV3 dc3 pm3 an3 cd3 ct3), sl3⟩)
    (c3 : PySem.W.codeIn K cd3 "code_of" = true)
    (k3 : PySem.W.keepIn K (.ref f3) = true)
    (a4 : PySem.W.nsIn K mainGlobals "codes" = some (some (.ref f4)))
    (l4 : K.lookup f4 = some ⟨oc4, od4, .func (PySem.W.fnOf "codes" "codes" (defArgs S_codes) (defBody S_codes) (defScope S_codes) .none kV4 dc4 pm4 an4 cd4 ct4), sl4⟩)
    (c4 : PySem.W.codeIn K cd4 "codes" = true)
    (k4 : PySem.W.keepIn K (.ref f4) = true)
    (a5 : PySem.W.nsIn K mainGlobals "first_intervals" = some (some (.ref f5)))
    (l5 : K.lookup f5 = some ⟨oc5, od5, .func (PySem.W.fnOf "first_intervals" "first_intervals" (defArgs S_first_intervals) (defBody S_first_intervals) (defScope S_first_intervals) .none kV5 dc5 pm5 an5 cd5 ct5), sl5⟩)
    (c5 : PySem.W.codeIn K cd5 "first_intervals" = true)
    (k5 : PySem.W.keepIn K (.ref f5) = true)
    (a6 : PySem.W.nsIn K mainGlobals "run_size" = some (some (.ref f6)))
    (l6 : K.lookup f6 = some ⟨oc6, od6, .func (PySem.W.fnOf "run_size" "run_size" (defArgs S_run_size) (defBody S_run_size) (defScope S_run_size) .none kV6 dc6 pm6 an6 cd6 ct6), sl6⟩)
    (c6 : PySem.W.codeIn K cd6 "run_size" = true)
    (k6 : PySem.W.keepIn K (.ref f6) = true)
    (a7 : PySem.W.nsIn K mainGlobals "run_index" = some (some (.ref f7)))
    (l7 : K.lookup f7 = some ⟨oc7, od7, .func (PySem.W.fnOf "run_index" "run_index" (defArgs S_run_index) (defBody S_run_index) (defScope S_run_index) .none kV7 dc7 pm7 an7 cd7 ct7), sl7⟩)
    (c7 : PySem.W.codeIn K cd7 "run_index" = true)
    (k7 : PySem.W.keepIn K (.ref f7) = true)
    (a8 : PySem.W.nsIn K mainGlobals "next_intervals" = some (some (.ref f8)))
    (l8 : K.lookup f8 = some ⟨oc8, od8, .func (PySem.W.fnOf "next_intervals" "next_intervals" (defArgs S_next_intervals) (defBody S_next_intervals) (defScope S_next_intervals) .none kV8 dc8 pm8 an8 cd8 ct8), sl8⟩)
    (c8 : PySem.W.codeIn K cd8 "next_intervals" = true)
    (k8 : PySem.W.keepIn K (.ref f8) = true)
    (a9 : PySem.W.nsIn K mainGlobals "run_lists" = some (some (.ref f9)))
    (l9 : K.lookup f9 = some ⟨oc9, od9, .func (PySem.W.fnOf "run_lists" "run_lists" (defArgs S_run_lists) (defBody S_run_lists) (defScope S_run_lists) .none kV9 dc9 pm9 an9 cd9 ct9), sl9⟩)
    (c9 : PySem.W.codeIn K cd9 "run_lists" = true)
    (k9 : PySem.W.keepIn K (.ref f9) = true)
    (a10 : PySem.W.nsIn K mainGlobals "runs" = some (some (.ref f10)))
    (l10 : K.lookup f10 = some ⟨oc10, od10, .func (PySem.W.fnOf "runs" "runs" (defArgs S_runs) (defBody S_runs) (defScope S_runs) .none kV10 dc10 pm10 an10 cd10 ct10), sl10⟩)
    (c10 : PySem.W.codeIn K cd10 "runs" = true)
    (k10 : PySem.W.keepIn K (.ref f10) = true)
    (a11 : PySem.W.nsIn K mainGlobals "run_list" = some (some (.ref f11)))
    (l11 : K.lookup f11 = some ⟨oc11, od11, .func (PySem.W.fnOf "run_list" "run_list" (defArgs S_run_list) (defBody S_run_list) (defScope S_run_list) .none kV11 dc11 pm11 an11 cd11 ct11), sl11⟩)
    (c11 : PySem.W.codeIn K cd11 "run_list" = true)
    (k11 : PySem.W.keepIn K (.ref f11) = true)
    (a12 : PySem.W.nsIn K mainGlobals "check_same_people" = some (some (.ref f12)))
    (l12 : K.lookup f12 = some ⟨oc12, od12, .func (PySem.W.fnOf "check_same_people" "check_same_people" (defArgs S_check_same_people) (defBody S_check_same_people) (defScope S_check_same_people) .none kV12 dc12 pm12 an12 cd12 ct12), sl12⟩)
    (c12 : PySem.W.codeIn K cd12 "check_same_people" = true)
    (k12 : PySem.W.keepIn K (.ref f12) = true)
    (a13 : PySem.W.nsIn K mainGlobals "leads" = some (some (.ref f13)))
    (l13 : K.lookup f13 = some ⟨oc13, od13, .func (PySem.W.fnOf "leads" "leads" (defArgs S_leads) (defBody S_leads) (defScope S_leads) .none kV13 dc13 pm13 an13 cd13 ct13), sl13⟩)
    (c13 : PySem.W.codeIn K cd13 "leads" = true)
    (k13 : PySem.W.keepIn K (.ref f13) = true)
    (a14 : PySem.W.nsIn K mainGlobals "bar" = some (some (.ref f14)))
    (l14 : K.lookup f14 = some ⟨oc14, od14, .func (PySem.W.fnOf "bar" "bar" (defArgs S_bar) (defBody S_bar) (defScope S_bar) .none kV14 dc14 pm14 an14 cd14 ct14), sl14⟩)
    (c14 : PySem.W.codeIn K cd14 "bar" = true)
    (k14 : PySem.W.keepIn K (.ref f14) = true)
    (a15 : PySem.W.nsIn K mainGlobals "count_rows" = some (some (.ref f15)))
    (l15 : K.lookup f15 = some ⟨oc15, od15, .func (PySem.W.fnOf "count_rows" "count_rows" (defArgs S_count_rows) (defBody S_count_rows) (defScope S_count_rows) .none kV15 dc15 pm15 an15 cd15 ct15), sl15⟩)
    (c15 : PySem.W.codeIn K cd15 "count_rows" = true)
    (k15 : PySem.W.keepIn K (.ref f15) = true)
    (a16 : PySem.W.nsIn K mainGlobals "_law_cell_at" = some (some (.ref f16)))
    (l16 : K.lookup f16 = some ⟨oc16, od16, .func (PySem.W.fnOf "_law_cell_at" "_law_cell_at" (defArgs S_cell_at) (defBody S_cell_at) (defScope S_cell_at) .none kV16 dc16 pm16 an16 cd16 ct16), sl16⟩)
    (c16 : PySem.W.codeIn K cd16 "_law_cell_at" = true)
    (k16 : PySem.W.keepIn K (.ref f16) = true)
    (a17 : PySem.W.nsIn K mainGlobals "_law_box" = some (some (.ref f17)))
    (l17 : K.lookup f17 = some ⟨oc17, od17, .func (PySem.W.fnOf "_law_box" "_law_box" (defArgs S_box) (defBody S_box) (defScope S_box) .none kV17 dc17 pm17 an17 cd17 ct17), sl17⟩)
    (c17 : PySem.W.codeIn K cd17 "_law_box" = true)
    (k17 : PySem.W.keepIn K (.ref f17) = true)
    (a18 : PySem.W.nsIn K mainGlobals "_law_take" = some (some (.ref f18)))
    (l18 : K.lookup f18 = some ⟨oc18, od18, .func (PySem.W.fnOf "_law_take" "_law_take" (defArgs S_take) (defBody S_take) (defScope S_take) .none kV18 dc18 pm18 an18 cd18 ct18), sl18⟩)
    (c18 : PySem.W.codeIn K cd18 "_law_take" = true)
    (k18 : PySem.W.keepIn K (.ref f18) = true)
    (a19 : PySem.W.nsIn K mainGlobals "_law_of" = some (some (.ref f19)))
    (l19 : K.lookup f19 = some ⟨oc19, od19, .func (PySem.W.fnOf "_law_of" "_law_of" (defArgs S_of) (defBody S_of) (defScope S_of) .none kV19 dc19 pm19 an19 cd19 ct19), sl19⟩)
    (c19 : PySem.W.codeIn K cd19 "_law_of" = true)
    (k19 : PySem.W.keepIn K (.ref f19) = true)
    (a20 : PySem.W.nsIn K mainGlobals "_law_strewn" = some (some (.ref f20)))
    (l20 : K.lookup f20 = some ⟨oc20, od20, .func (PySem.W.fnOf "_law_strewn" "_law_strewn" (defArgs S_strewn) (defBody S_strewn) (defScope S_strewn) .none kV20 dc20 pm20 an20 cd20 ct20), sl20⟩)
    (c20 : PySem.W.codeIn K cd20 "_law_strewn" = true)
    (k20 : PySem.W.keepIn K (.ref f20) = true)
    (a21 : PySem.W.nsIn K mainGlobals "_law_souls" = some (some (.ref f21)))
    (l21 : K.lookup f21 = some ⟨oc21, od21, .func (PySem.W.fnOf "_law_souls" "_law_souls" (defArgs S_souls) (defBody S_souls) (defScope S_souls) .none kV21 dc21 pm21 an21 cd21 ct21), sl21⟩)
    (c21 : PySem.W.codeIn K cd21 "_law_souls" = true)
    (k21 : PySem.W.keepIn K (.ref f21) = true)
    (a22 : PySem.W.nsIn K mainGlobals "_law_crowd" = some (some (.ref f22)))
    (l22 : K.lookup f22 = some ⟨oc22, od22, .func (PySem.W.fnOf "_law_crowd" "_law_crowd" (defArgs S_crowd) (defBody S_crowd) (defScope S_crowd) .none kV22 dc22 pm22 an22 cd22 ct22), sl22⟩)
    (c22 : PySem.W.codeIn K cd22 "_law_crowd" = true)
    (k22 : PySem.W.keepIn K (.ref f22) = true)
    (a23 : PySem.W.nsIn K mainGlobals "_law_sees" = some (some (.ref f23)))
    (l23 : K.lookup f23 = some ⟨oc23, od23, .func (PySem.W.fnOf "_law_sees" "_law_sees" (defArgs S_sees) (defBody S_sees) (defScope S_sees) .none kV23 dc23 pm23 an23 cd23 ct23), sl23⟩)
    (c23 : PySem.W.codeIn K cd23 "_law_sees" = true)
    (k23 : PySem.W.keepIn K (.ref f23) = true)
    (a24 : PySem.W.nsIn K mainGlobals "_law_swaps" = some (some (.ref f24)))
    (l24 : K.lookup f24 = some ⟨oc24, od24, .func (PySem.W.fnOf "_law_swaps" "_law_swaps" (defArgs S_swaps) (defBody S_swaps) (defScope S_swaps) .none kV24 dc24 pm24 an24 cd24 ct24), sl24⟩)
    (c24 : PySem.W.codeIn K cd24 "_law_swaps" = true)
    (k24 : PySem.W.keepIn K (.ref f24) = true)
    (a25 : PySem.W.nsIn K mainGlobals "_law_turned" = some (some (.ref f25)))
    (l25 : K.lookup f25 = some ⟨oc25, od25, .func (PySem.W.fnOf "_law_turned" "_law_turned" (defArgs S_turned) (defBody S_turned) (defScope S_turned) .none kV25 dc25 pm25 an25 cd25 ct25), sl25⟩)
    (c25 : PySem.W.codeIn K cd25 "_law_turned" = true)
    (k25 : PySem.W.keepIn K (.ref f25) = true)
    (a26 : PySem.W.nsIn K mainGlobals "_law_wandered" = some (some (.ref f26)))
    (l26 : K.lookup f26 = some ⟨oc26, od26, .func (PySem.W.fnOf "_law_wandered" "_law_wandered" (defArgs S_wandered) (defBody S_wandered) (defScope S_wandered) .none kV26 dc26 pm26 an26 cd26 ct26), sl26⟩)
    (c26 : PySem.W.codeIn K cd26 "_law_wandered" = true)
    (k26 : PySem.W.keepIn K (.ref f26) = true)
    (a27 : PySem.W.nsIn K mainGlobals "_law_tall_right" = some (some (.ref f27)))
    (l27 : K.lookup f27 = some ⟨oc27, od27, .func (PySem.W.fnOf "_law_tall_right" "_law_tall_right" (defArgs S_tall_right) (defBody S_tall_right) (defScope S_tall_right) .none kV27 dc27 pm27 an27 cd27 ct27), sl27⟩)
    (c27 : PySem.W.codeIn K cd27 "_law_tall_right" = true)
    (k27 : PySem.W.keepIn K (.ref f27) = true)
    (a28 : PySem.W.nsIn K mainGlobals "_law_short_right" = some (some (.ref f28)))
    (l28 : K.lookup f28 = some ⟨oc28, od28, .func (PySem.W.fnOf "_law_short_right" "_law_short_right" (defArgs S_short_right) (defBody S_short_right) (defScope S_short_right) .none kV28 dc28 pm28 an28 cd28 ct28), sl28⟩)
    (c28 : PySem.W.codeIn K cd28 "_law_short_right" = true)
    (k28 : PySem.W.keepIn K (.ref f28) = true)
    (a29 : PySem.W.nsIn K mainGlobals "_law_right" = some (some (.ref f29)))
    (l29 : K.lookup f29 = some ⟨oc29, od29, .func (PySem.W.fnOf "_law_right" "_law_right" (defArgs S_right) (defBody S_right) (defScope S_right) .none kV29 dc29 pm29 an29 cd29 ct29), sl29⟩)
    (c29 : PySem.W.codeIn K cd29 "_law_right" = true)
    (k29 : PySem.W.keepIn K (.ref f29) = true)
    (a30 : PySem.W.nsIn K mainGlobals "law" = some (some (.ref f30)))
    (l30 : K.lookup f30 = some ⟨oc30, od30, .func (PySem.W.fnOf "law" "law" (defArgs S_law) (defBody S_law) (defScope S_law) .none kV30 dc30 pm30 an30 cd30 ct30), sl30⟩)
    (c30 : PySem.W.codeIn K cd30 "law" = true)
    (k30 : PySem.W.keepIn K (.ref f30) = true)
    (zisinstance : PySem.W.nsIn K mainGlobals "isinstance" = some none)
    (zlist : PySem.W.nsIn K mainGlobals "list" = some none)
    (ztuple : PySem.W.nsIn K mainGlobals "tuple" = some none)
    (zlen : PySem.W.nsIn K mainGlobals "len" = some none)
    (zall : PySem.W.nsIn K mainGlobals "all" = some none)
    (zany : PySem.W.nsIn K mainGlobals "any" = some none)
    (zzip : PySem.W.nsIn K mainGlobals "zip" = some none)
    (zbool : PySem.W.nsIn K mainGlobals "bool" = some none)
    (zstr : PySem.W.nsIn K mainGlobals "str" = some none)
    (zint : PySem.W.nsIn K mainGlobals "int" = some none)
    (zabs : PySem.W.nsIn K mainGlobals "abs" = some none)
    (zmax : PySem.W.nsIn K mainGlobals "max" = some none)
    (zmin : PySem.W.nsIn K mainGlobals "min" = some none)
    (zrange : PySem.W.nsIn K mainGlobals "range" = some none)
    (zsorted : PySem.W.nsIn K mainGlobals "sorted" = some none)
    (zenumerate : PySem.W.nsIn K mainGlobals "enumerate" = some none)
    (zset : PySem.W.nsIn K mainGlobals "set" = some none)
    (zsum : PySem.W.nsIn K mainGlobals "sum" = some none)
    (zreversed : PySem.W.nsIn K mainGlobals "reversed" = some none)
    (zrepr : PySem.W.nsIn K mainGlobals "repr" = some none)
    (zdict : PySem.W.nsIn K mainGlobals "dict" = some none)
    (zValueError : PySem.W.nsIn K mainGlobals "ValueError" = some none)
    (zLookupError : PySem.W.nsIn K mainGlobals "LookupError" = some none)
    (zRuntimeError : PySem.W.nsIn K mainGlobals "RuntimeError" = some none)
    (zOverflowError : PySem.W.nsIn K mainGlobals "OverflowError" = some none)
    (zIndexError : PySem.W.nsIn K mainGlobals "IndexError" = some none)
    (zKeyError : PySem.W.nsIn K mainGlobals "KeyError" = some none)
    (zNotImplementedError : PySem.W.nsIn K mainGlobals "NotImplementedError" = some none) :
    ∃ fd : FuncData, (∀ (s : Shared) (v : Value), BindsTo s fd ⟨[v], []⟩ [("_law_script", v)]) ∧ ∀ base : Heap, K.In base → base.Ns mainGlobals mg → FnG l.prog w K mg base 9 fa fd ["_law_script"] (spA K F_law) := by
  have e := hfa.symm.trans (PySem.W.mg_of X G a30)
  cases e
  have F0 := fun_mk (st := S_check_person) l0 c0 k0
  have m0 := PySem.W.mg_of X G a0
  have F1 := fun_mk (st := S_with_person) l1 c1 k1
  have m1 := PySem.W.mg_of X G a1
  have F2 := fun_mk (st := S_without) l2 c2 k2
  have m2 := PySem.W.mg_of X G a2
  have F3 := fun_mk (st := S_code_of) l3 c3 k3
  have m3 := PySem.W.mg_of X G a3
  have F4 := fun_mk (st := S_codes) l4 c4 k4
  have m4 := PySem.W.mg_of X G a4
  have F5 := fun_mk (st := S_first_intervals) l5 c5 k5
  have m5 := PySem.W.mg_of X G a5
  have F6 := fun_mk (st := S_run_size) l6 c6 k6
  have m6 := PySem.W.mg_of X G a6
  have F7 := fun_mk (st := S_run_index) l7 c7 k7
  have m7 := PySem.W.mg_of X G a7
  have F8 := fun_mk (st := S_next_intervals) l8 c8 k8
  have m8 := PySem.W.mg_of X G a8
  have F9 := fun_mk (st := S_run_lists) l9 c9 k9
  have m9 := PySem.W.mg_of X G a9
  have F10 := fun_mk (st := S_runs) l10 c10 k10
  have m10 := PySem.W.mg_of X G a10
  have F11 := fun_mk (st := S_run_list) l11 c11 k11
  have m11 := PySem.W.mg_of X G a11
  have F12 := fun_mk (st := S_check_same_people) l12 c12 k12
  have m12 := PySem.W.mg_of X G a12
  have F13 := fun_mk (st := S_leads) l13 c13 k13
  have m13 := PySem.W.mg_of X G a13
  have F14 := fun_mk (st := S_bar) l14 c14 k14
  have m14 := PySem.W.mg_of X G a14
  have F15 := fun_mk (st := S_count_rows) l15 c15 k15
  have m15 := PySem.W.mg_of X G a15
  have F16 := fun_mk (st := S_cell_at) l16 c16 k16
  have m16 := PySem.W.mg_of X G a16
  have F17 := fun_mk (st := S_box) l17 c17 k17
  have m17 := PySem.W.mg_of X G a17
  have F18 := fun_mk (st := S_take) l18 c18 k18
  have m18 := PySem.W.mg_of X G a18
  have F19 := fun_mk (st := S_of) l19 c19 k19
  have m19 := PySem.W.mg_of X G a19
  have F20 := fun_mk (st := S_strewn) l20 c20 k20
  have m20 := PySem.W.mg_of X G a20
  have F21 := fun_mk (st := S_souls) l21 c21 k21
  have m21 := PySem.W.mg_of X G a21
  have F22 := fun_mk (st := S_crowd) l22 c22 k22
  have m22 := PySem.W.mg_of X G a22
  have F23 := fun_mk (st := S_sees) l23 c23 k23
  have m23 := PySem.W.mg_of X G a23
  have F24 := fun_mk (st := S_swaps) l24 c24 k24
  have m24 := PySem.W.mg_of X G a24
  have F25 := fun_mk (st := S_turned) l25 c25 k25
  have m25 := PySem.W.mg_of X G a25
  have F26 := fun_mk (st := S_wandered) l26 c26 k26
  have m26 := PySem.W.mg_of X G a26
  have F27 := fun_mk (st := S_tall_right) l27 c27 k27
  have m27 := PySem.W.mg_of X G a27
  have F28 := fun_mk (st := S_short_right) l28 c28 k28
  have m28 := PySem.W.mg_of X G a28
  have F29 := fun_mk (st := S_right) l29 c29 k29
  have m29 := PySem.W.mg_of X G a29
  have F30 := fun_mk (st := S_law) l30 c30 k30
  have m30 := PySem.W.mg_of X G a30
  have B : Blt mg := ⟨PySem.W.mg_none_of X G zisinstance, PySem.W.mg_none_of X G zlist, PySem.W.mg_none_of X G ztuple, PySem.W.mg_none_of X G zlen, PySem.W.mg_none_of X G zall, PySem.W.mg_none_of X G zany, PySem.W.mg_none_of X G zzip, PySem.W.mg_none_of X G zbool, PySem.W.mg_none_of X G zstr, PySem.W.mg_none_of X G zint, PySem.W.mg_none_of X G zabs, PySem.W.mg_none_of X G zmax, PySem.W.mg_none_of X G zmin, PySem.W.mg_none_of X G zrange, PySem.W.mg_none_of X G zsorted, PySem.W.mg_none_of X G zenumerate, PySem.W.mg_none_of X G zset, PySem.W.mg_none_of X G zsum, PySem.W.mg_none_of X G zreversed, PySem.W.mg_none_of X G zrepr, PySem.W.mg_none_of X G zdict, PySem.W.mg_none_of X G zValueError, PySem.W.mg_none_of X G zLookupError, PySem.W.mg_none_of X G zRuntimeError, PySem.W.mg_none_of X G zOverflowError, PySem.W.mg_none_of X G zIndexError, PySem.W.mg_none_of X G zKeyError, PySem.W.mg_none_of X G zNotImplementedError⟩
  have b0 := F0.binds (ps := ["row", "height"]) fun _ _ _ _ _ _ us hl => match us, hl with | [_, _], _ => rfl
  have b1 := F1.binds (ps := ["row", "place", "height"]) fun _ _ _ _ _ _ us hl => match us, hl with | [_, _, _], _ => rfl
  have b2 := F2.binds (ps := ["row", "height"]) fun _ _ _ _ _ _ us hl => match us, hl with | [_, _], _ => rfl
  have b3 := F3.binds (ps := ["row", "height"]) fun _ _ _ _ _ _ us hl => match us, hl with | [_, _], _ => rfl
  have b4 := F4.binds (ps := ["row"]) fun _ _ _ _ _ _ us hl => match us, hl with | [_], _ => rfl
  have b5 := F5.binds (ps := ["many"]) fun _ _ _ _ _ _ us hl => match us, hl with | [_], _ => rfl
  have b6 := F6.binds (ps := ["interval"]) fun _ _ _ _ _ _ us hl => match us, hl with | [_], _ => rfl
  have b7 := F7.binds (ps := ["intervals", "code"]) fun _ _ _ _ _ _ us hl => match us, hl with | [_, _], _ => rfl
  have b8 := F8.binds (ps := ["intervals", "code"]) fun _ _ _ _ _ _ us hl => match us, hl with | [_, _], _ => rfl
  have b9 := F9.binds (ps := ["row"]) fun _ _ _ _ _ _ us hl => match us, hl with | [_], _ => rfl
  have b10 := F10.binds (ps := ["row"]) fun _ _ _ _ _ _ us hl => match us, hl with | [_], _ => rfl
  have b11 := F11.binds (ps := ["row", "height"]) fun _ _ _ _ _ _ us hl => match us, hl with | [_, _], _ => rfl
  have b12 := F12.binds (ps := ["one", "other"]) fun _ _ _ _ _ _ us hl => match us, hl with | [_, _], _ => rfl
  have b13 := F13.binds (ps := ["one", "other"]) fun _ _ _ _ _ _ us hl => match us, hl with | [_, _], _ => rfl
  have b14 := F14.binds (ps := ["one", "other"]) fun _ _ _ _ _ _ us hl => match us, hl with | [_, _], _ => rfl
  have b15 := F15.binds (ps := ["row"]) fun _ _ _ _ _ _ us hl => match us, hl with | [_], _ => rfl
  have b16 := F16.binds (ps := ["_law_script", "_law_k"]) fun _ _ _ _ _ _ us hl => match us, hl with | [_, _], _ => rfl
  have b17 := F17.binds (ps := ["_law_script", "_law_k"]) fun _ _ _ _ _ _ us hl => match us, hl with | [_, _], _ => rfl
  have b18 := F18.binds (ps := ["_law_box_here", "_law_below"]) fun _ _ _ _ _ _ us hl => match us, hl with | [_, _], _ => rfl
  have b19 := F19.binds (ps := ["_law_box_here", "_law_some"]) fun _ _ _ _ _ _ us hl => match us, hl with | [_, _], _ => rfl
  have b20 := F20.binds (ps := ["_law_box_here", "_law_some"]) fun _ _ _ _ _ _ us hl => match us, hl with | [_, _], _ => rfl
  have b21 := F21.binds (ps := ["_law_box_here", "_law_count"]) fun _ _ _ _ _ _ us hl => match us, hl with | [_, _], _ => rfl
  have b22 := F22.binds (ps := ["_law_box_here", "_law_most"]) fun _ _ _ _ _ _ us hl => match us, hl with | [_, _], _ => rfl
  have b23 := F23.binds (ps := ["_law_crowd_here", "_law_i", "_law_j"]) fun _ _ _ _ _ _ us hl => match us, hl with | [_, _, _], _ => rfl
  have b24 := F24.binds (ps := ["_law_crowd_here"]) fun _ _ _ _ _ _ us hl => match us, hl with | [_], _ => rfl
  have b25 := F25.binds (ps := ["_law_crowd_here", "_law_swap"]) fun _ _ _ _ _ _ us hl => match us, hl with | [_, _], _ => rfl
  have b26 := F26.binds (ps := ["_law_box_here", "_law_crowd_here", "_law_most"]) fun _ _ _ _ _ _ us hl => match us, hl with | [_, _, _], _ => rfl
  have b27 := F27.binds (ps := ["_law_box_here", "_law_crowd_here"]) fun _ _ _ _ _ _ us hl => match us, hl with | [_, _], _ => rfl
  have b28 := F28.binds (ps := ["_law_box_here", "_law_crowd_here"]) fun _ _ _ _ _ _ us hl => match us, hl with | [_, _], _ => rfl
  have b29 := F29.binds (ps := ["_law_box_here"]) fun _ _ _ _ _ _ us hl => match us, hl with | [_], _ => rfl
  refine ⟨PySem.W.fnOf "law" "law" (defArgs S_law) (defBody S_law) (defScope S_law) .none kV30 dc30 pm30 an30 cd30 ct30, fun s v => .of_eq rfl, fun base _ _ => ?_⟩
  have G16 := dk_cell_at (P := l.prog) (w := w) (mg := mg) (base := base) F16  B
  have G17 := dk_box (P := l.prog) (w := w) (mg := mg) (base := base) F17 G16 b16 F16.kp m16 B
  have G18 := dk_take (P := l.prog) (w := w) (mg := mg) (base := base) F18  b18 m18 B 2
  have G19 := dk_of (P := l.prog) (w := w) (mg := mg) (base := base) F19 G18 b18 F18.kp m18 B
  have G20 := dk_strewn (P := l.prog) (w := w) (mg := mg) (base := base) F20 G18 b18 F18.kp m18 B
  have G21 := dk_souls (P := l.prog) (w := w) (mg := mg) (base := base) F21 G18 b18 F18.kp m18 G19 b19 F19.kp m19 B
  have G22 := dk_crowd (P := l.prog) (w := w) (mg := mg) (base := base) F22 G18 b18 F18.kp m18 G21 b21 F21.kp m21 G20 b20 F20.kp m20 B
  have G0 := dk_check_person (P := l.prog) (w := w) (mg := mg) (base := base) F0  B
  have G3 := dk_code_of (P := l.prog) (w := w) (mg := mg) (base := base) F3  B
  have G4 := dk_codes (P := l.prog) (w := w) (mg := mg) (base := base) F4 G3 b3 F3.kp m3 B
  have G5 := dk_first_intervals (P := l.prog) (w := w) (mg := mg) (base := base) F5  B
  have G6 := dk_run_size (P := l.prog) (w := w) (mg := mg) (base := base) F6  B
  have G7 := dk_run_index (P := l.prog) (w := w) (mg := mg) (base := base) F7  B
  have G8 := dk_next_intervals (P := l.prog) (w := w) (mg := mg) (base := base) F8 G7 b7 F7.kp m7 B
  have G9 := dk_run_lists (P := l.prog) (w := w) (mg := mg) (base := base) F9 G4 b4 F4.kp m4 G5 b5 F5.kp m5 G8 b8 F8.kp m8 B
  have G10 := dk_runs (P := l.prog) (w := w) (mg := mg) (base := base) F10 G4 b4 F4.kp m4 G9 b9 F9.kp m9 G7 b7 F7.kp m7 B
  have G11 := dk_run_list (P := l.prog) (w := w) (mg := mg) (base := base) F11 G0 b0 F0.kp m0 G9 b9 F9.kp m9 B
  have G12 := dk_check_same_people (P := l.prog) (w := w) (mg := mg) (base := base) F12  B
  have G14 := dk_bar (P := l.prog) (w := w) (mg := mg) (base := base) F14 G12 b12 F12.kp m12 G10 b10 F10.kp m10 B
  have G13 := dk_leads (P := l.prog) (w := w) (mg := mg) (base := base) F13 G14 b14 F14.kp m14 B
  have G15 := dk_count_rows (P := l.prog) (w := w) (mg := mg) (base := base) F15 G6 b6 F6.kp m6 G10 b10 F10.kp m10 B
  have G1 := dk_with_person (P := l.prog) (w := w) (mg := mg) (base := base) F1  B
  have G2 := dk_without (P := l.prog) (w := w) (mg := mg) (base := base) F2 G0 b0 F0.kp m0 B
  have G23 := dk_sees (P := l.prog) (w := w) (mg := mg) (base := base) F23  B
  have G24 := dk_swaps (P := l.prog) (w := w) (mg := mg) (base := base) F24 G23 b23 F23.kp m23 B
  have G25 := dk_turned (P := l.prog) (w := w) (mg := mg) (base := base) F25  B
  have G26 := dk_wandered (P := l.prog) (w := w) (mg := mg) (base := base) F26 G18 b18 F18.kp m18 G24 b24 F24.kp m24 G19 b19 F19.kp m19 G25 b25 F25.kp m25 B
  have G27 := dk_tall_right (P := l.prog) (w := w) (mg := mg) (base := base) F27 G18 b18 F18.kp m18 G1 b1 F1.kp m1 G4 b4 F4.kp m4 G2 b2 F2.kp m2 G10 b10 F10.kp m10 G26 b26 F26.kp m26 G13 b13 F13.kp m13 B
  have G28 := dk_short_right (P := l.prog) (w := w) (mg := mg) (base := base) F28 G1 b1 F1.kp m1 G10 b10 F10.kp m10 G15 b15 F15.kp m15 G18 b18 F18.kp m18 G11 b11 F11.kp m11 B
  have G29 := dk_right (P := l.prog) (w := w) (mg := mg) (base := base) F29 G22 b22 F22.kp m22 G27 b27 F27.kp m27 G28 b28 F28.kp m28 B
  exact dk_law F30 G17 b17 F17.kp m17 G29 b29 F29.kp m29 B
theorem walk {l : PySem.W.OpenLaw} {q : Program} {loose : List Str} {XP : (Str → Option Value) → Heap → Prop} {YP : World → Heap → Prop} {d : DefRec} {K : Params → PySem.W.Frag} (hn : l.most = some 63) (hdf : d.params.defaults = [])
    (hY : ∀ (w : World) (h : Heap), YP w h → (K w.params).In h)
    (F : ∀ (w : World) (mg : Str → Option Value) (fa : Addr) (h : Heap), (K w.params).In h → h.Ns mainGlobals mg → mg d.name = some (.ref fa) →
      ∃ fd : FuncData, (∀ (s : Shared) (u : Value), BindsTo s fd ⟨[u], []⟩ [("_law_script", u)]) ∧ ∀ base : Heap, (K w.params).In base → base.Ns mainGlobals mg → FnG l.prog w (K w.params) mg base 9 fa fd ["_law_script"] (spA (K w.params) F_law)) :
    PySem.W.WalkO q loose XP YP l.row.toRowW d [] (fun f vs => PySem.call f vs) :=
  walkG (n := 63) (k := 9) (x := "_law_script") (sp := fun w => spA (K w.params) F_law) hn (by decide) hdf ⟨rfl, by decide, by decide⟩ hY F fun _ _ a ns hl hS => law_sp F_law (law_ok ns) hS
end Ov
open PySem PySem.W PyProof.Rows
set_option maxRecDepth 100000 in
set_option maxHeartbeats 0 in
theorem PySem.Challenge.cw_overlooks_k65_whole_people_who_come_and_holds : PySem.Challenge.rw_overlooks_k65_whole_people_who_come_and.Holds := by
  w_on; o_law; k_head; (case hw => w_witness2)
  k_fill
  refine Ov.walk (l := PySem.Challenge.rw_overlooks_k65_whole_people_who_come_and) rfl rfl (fun w h Y => PySem.W.kIn_of Y) ?F
  case F =>
    intro w mg fa h KX G hmg
    refine' Ov.all_mk KX G hmg ?a0 ?l0 ?c0 ?k0 ?a1 ?l1 ?c1 ?k1 ?a2 ?l2 ?c2 ?k2 ?a3 ?l3 ?c3 ?k3 ?a4 ?l4 ?c4 ?k4 ?a5 ?l5 ?c5 ?k5 ?a6 ?l6 ?c6 ?k6 ?a7 ?l7 ?c7 ?k7 ?a8 ?l8 ?c8 ?k8 ?a9 ?l9 ?c9 ?k9 ?a10 ?l10 ?c10 ?k10 ?a11 ?l11 ?c11 ?k11 ?a12 ?l12 ?c12 ?k12 ?a13 ?l13 ?c13 ?k13 ?a14 ?l14 ?c14 ?k14 ?a15 ?l15 ?c15 ?k15 ?a16 ?l16 ?c16 ?k16 ?a17 ?l17 ?c17 ?k17 ?a18 ?l18 ?c18 ?k18 ?a19 ?l19 ?c19 ?k19 ?a20 ?l20 ?c20 ?k20 ?a21 ?l21 ?c21 ?k21 ?a22 ?l22 ?c22 ?k22 ?a23 ?l23 ?c23 ?k23 ?a24 ?l24 ?c24 ?k24 ?a25 ?l25 ?c25 ?k25 ?a26 ?l26 ?c26 ?k26 ?a27 ?l27 ?c27 ?k27 ?a28 ?l28 ?c28 ?k28 ?a29 ?l29 ?c29 ?k29 ?a30 ?l30 ?c30 ?k30 ?zisinstance ?zlist ?ztuple ?zlen ?zall ?zany ?zzip ?zbool ?zstr ?zint ?zabs ?zmax ?zmin ?zrange ?zsorted ?zenumerate ?zset ?zsum ?zreversed ?zrepr ?zdict ?zValueError ?zLookupError ?zRuntimeError ?zOverflowError ?zIndexError ?zKeyError ?zNotImplementedError
    (case a0 => k_is)
    (case l0 => k_is)
    (case c0 => k_is)
    (case k0 => k_is)
    (case a1 => k_is)
    (case l1 => k_is)
    (case c1 => k_is)
    (case k1 => k_is)
    (case a2 => k_is)
    (case l2 => k_is)
    (case c2 => k_is)
    (case k2 => k_is)
    (case a3 => k_is)
    (case l3 => k_is)
    (case c3 => k_is)
    (case k3 => k_is)
    (case a4 => k_is)
    (case l4 => k_is)
    (case c4 => k_is)
    (case k4 => k_is)
    (case a5 => k_is)
    (case l5 => k_is)
    (case c5 => k_is)
    (case k5 => k_is)
    (case a6 => k_is)
    (case l6 => k_is)
    (case c6 => k_is)
    (case k6 => k_is)
    (case a7 => k_is)
    (case l7 => k_is)
    (case c7 => k_is)
    (case k7 => k_is)
    (case a8 => k_is)
    (case l8 => k_is)
    (case c8 => k_is)
    (case k8 => k_is)
    (case a9 => k_is)
    (case l9 => k_is)
    (case c9 => k_is)
    (case k9 => k_is)
    (case a10 => k_is)
    (case l10 => k_is)
    (case c10 => k_is)
    (case k10 => k_is)
    (case a11 => k_is)
    (case l11 => k_is)
    (case c11 => k_is)
    (case k11 => k_is)
    (case a12 => k_is)
    (case l12 => k_is)
    (case c12 => k_is)
    (case k12 => k_is)
    (case a13 => k_is)
    (case l13 => k_is)
    (case c13 => k_is)
    (case k13 => k_is)
    (case a14 => k_is)
    (case l14 => k_is)
    (case c14 => k_is)
    (case k14 => k_is)
    (case a15 => k_is)
    (case l15 => k_is)
    (case c15 => k_is)
    (case k15 => k_is)
    (case a16 => k_is)
    (case l16 => k_is)
    (case c16 => k_is)
    (case k16 => k_is)
    (case a17 => k_is)
    (case l17 => k_is)
    (case c17 => k_is)
    (case k17 => k_is)
    (case a18 => k_is)
    (case l18 => k_is)
    (case c18 => k_is)
    (case k18 => k_is)
    (case a19 => k_is)
    (case l19 => k_is)
    (case c19 => k_is)
    (case k19 => k_is)
    (case a20 => k_is)
    (case l20 => k_is)
    (case c20 => k_is)
    (case k20 => k_is)
    (case a21 => k_is)
    (case l21 => k_is)
    (case c21 => k_is)
    (case k21 => k_is)
    (case a22 => k_is)
    (case l22 => k_is)
    (case c22 => k_is)
    (case k22 => k_is)
    (case a23 => k_is)
    (case l23 => k_is)
    (case c23 => k_is)
    (case k23 => k_is)
    (case a24 => k_is)
    (case l24 => k_is)
    (case c24 => k_is)
    (case k24 => k_is)
    (case a25 => k_is)
    (case l25 => k_is)
    (case c25 => k_is)
    (case k25 => k_is)
    (case a26 => k_is)
    (case l26 => k_is)
    (case c26 => k_is)
    (case k26 => k_is)
    (case a27 => k_is)
    (case l27 => k_is)
    (case c27 => k_is)
    (case k27 => k_is)
    (case a28 => k_is)
    (case l28 => k_is)
    (case c28 => k_is)
    (case k28 => k_is)
    (case a29 => k_is)
    (case l29 => k_is)
    (case c29 => k_is)
    (case k29 => k_is)
    (case a30 => k_is)
    (case l30 => k_is)
    (case c30 => k_is)
    (case k30 => k_is)
    (case zisinstance => k_is)
    (case zlist => k_is)
    (case ztuple => k_is)
    (case zlen => k_is)
    (case zall => k_is)
    (case zany => k_is)
    (case zzip => k_is)
    (case zbool => k_is)
    (case zstr => k_is)
    (case zint => k_is)
    (case zabs => k_is)
    (case zmax => k_is)
    (case zmin => k_is)
    (case zrange => k_is)
    (case zsorted => k_is)
    (case zenumerate => k_is)
    (case zset => k_is)
    (case zsum => k_is)
    (case zreversed => k_is)
    (case zrepr => k_is)
    (case zdict => k_is)
    (case zValueError => k_is)
    (case zLookupError => k_is)
    (case zRuntimeError => k_is)
    (case zOverflowError => k_is)
    (case zIndexError => k_is)
    (case zKeyError => k_is)
    (case zNotImplementedError => k_is)
