import PyProof.Rows.All
import Wide.All
import OpenK.AllK
import Wide.FinOn
import HandS.ForMost
import HandS.More
import HandS.IsInst
import HandS.Walk
import HandS.Zip
import HandS.Defaults
import HandS.MakeKwOnly
import HandS.ExcInit
import KE.KExcInit
import KE.KExcIs
import HandS.Evl
import HandS.Style
import HandS.CallSlots
import HandS.TryOnly
import HandS.WordsExc
import KE.KTryMore
import HandS.TupAny
import HandS.Conv
import HandS.DictTup
import HandS.Iter
import KE.KeyNested
import KE.KDictDisplayH
import HandS.Ends
import HandS.SetFor
import HandS.TupSets
import HandS.DictComp
import KE.KRevSl
import KE.GoesEnumKw
import KE.GoesMore
import HandS.SortInts
import PyProof.ListCopy
import PyProof.ReprLen
import PyProof.Rows.ReprOcc
import PyProof.StrLawsRepr
import HandS.Deep
import HandS.Rev
import KE.GoesEnum
import KE.KDictZip
import PyProof.Rows.RuleDivmod
import HandS.TupMul
import HandS.Wide
import HandS.SortRule
import HandS.NoneIn
import HandS.SortKw
import HandS.NamedTupSort
import KE.DataMinMax
import KE.SortData
import KE.KDictWalk
import HandS.DictSubView
import HandS.TupLen
import KE.KDictSum
import PyProof.Rows.SetFrom
import HandS.Strs
import HandS.Set
import KE.KSortKey
import KE.KTupSum
import KE.KIndexOf
import PyProof.Rows.TupTab
import PyProof.DictRoadsH
import PyProof.DictMoreH
import OpenK.KOps
import HandS.FStr
import PyProof.InstNe
import HandS.Codes
import PySem.Challenge.RW_overlooks_k60_whole_all_rows_of_few_peop
set_option Elab.async false
set_option linter.all false
set_option maxRecDepth 100000
set_option maxHeartbeats 4000000
/-! exceptions of the program's own classes as values -/
namespace OvX
open PySem PySem.W PySem.Calls PyProof.Rows PySem.HandSPX PySem.Builtin PySem.Builtin.ObjectAttr
/-- what the written part says of an own class of exceptions -/
structure ExK (K : Frag) (C : Addr) (bmB : List Value) (newId : String) : Prop where
  over : excOver K C bmB = true
  ini : excInitIn K C bmB newId = true
  sa : findIn K (.ref C) "__setattr__" = some (some (.builtin "object.__setattr__"))
  ga : findIn K (.ref C) "__getattribute__" = some (some (.builtin "BaseException.__getattribute__"))
  gg : findIn K (.ref C) "__getattr__" = some none
  exC : subIn K (.ref C) (.type "BaseException") = some true
  hd : hasDictIn K C = true
  kC : keepIn K (.ref C) = true
  ca : findIn K (.ref C) "__class__" = some (some (.builtin "object.__class__"))
  sp : specialIn K (.builtin "object.__class__") "__get__" = some (some (.builtin "getset_descriptor.__get__"))
  tk : takesIn K (.builtin "object.__class__") = some true
  mr : mroIn K C (.type "object") = some true
end OvX
set_option Elab.async false
set_option linter.all false
set_option maxRecDepth 100000
set_option maxHeartbeats 4000000
namespace Ov
open PySem L2
section
variable {X : Cx} {CX : CXT} {k n : Nat} {fI C : Addr} {fd : FuncData} {ps ks : List Str} {sp : Sp} {E : XK} {x : Str} {p pos : Pos} {e o : Expr} {es : List Expr} {kws : List Keyword} {t tk : TA} {te : TE} {g : List Value → List Value → List Value} {gV : List V → List V → List V} {B newId initId : String} {bmB : List Value}
/-- an exception of the class at C at a, with the attributes fs -/
def Exc (K : PySem.W.Frag) (H : Hp) (a C : Addr) (fs : List (Str × V)) : Prop := ∃ bmB newId, OvX.ExK K C bmB newId ∧ ((fs = [] ∧ H a = some (exo a C none)) ∨ ∃ dx, H a = some (exo a C (some dx)) ∧ H dx = some (exd dx fs))
theorem Exc.same {K : PySem.W.Frag} {H H' : Hp} {a C : Addr} {fs : List (Str × V)} (h : Exc K H a C fs) (s : Same H H') : Exc K H' a C fs := by
  obtain ⟨b, m, T, h⟩ := h
  rcases h with ⟨e, h⟩ | ⟨dx, h1, h2⟩
  · exact ⟨b, m, T, .inl ⟨e, s _ _ h⟩⟩
  · exact ⟨b, m, T, .inr ⟨dx, s _ _ h1, s _ _ h2⟩⟩
end
end Ov
set_option Elab.async false
set_option linter.all false
set_option maxRecDepth 100000
set_option maxHeartbeats 4000000
namespace Ov
open PySem L2
/-! heaps -/
def SameB (p : Addr) (H H' : Hp) : Prop := ∀ b o, b ≠ p → H b = some o → H' b = some o
theorem SameB.refl (p : Addr) (H : Hp) : SameB p H H := fun _ _ _ h => h
theorem SameB.trans {p : Addr} {H H1 H2 : Hp} (a : SameB p H H1) (b : SameB p H1 H2) : SameB p H H2 := fun c o n h => b c o n (a c o n h)
theorem SameB.of {p : Addr} {H H' : Hp} (a : Same H H') : SameB p H H' := fun c o _ h => a c o h
theorem same_new {H : Hp} {p : Addr} (h : H p = none) (o : HO) : Same H (upd H p o) := fun b u q => by rw [upd_ne (ne_of_none q h)]; exact q
def Bx (H : Hp) (p : Addr) (n : Int) : Prop := ∃ b0 b1 b2 : Int, H p = some (.lst [.int b0, .int b1, .int b2]) ∧ 0 ≤ b0 ∧ 0 ≤ b1 ∧ b1 < 2 ^ 62 ∧ 0 ≤ b2 ∧ b2 ≤ n
theorem Bx.mono {H : Hp} {p : Addr} {n m : Int} (h : Bx H p n) (e : n ≤ m) : Bx H p m := by
  obtain ⟨b0, b1, b2, h1, h2, h3, h4, h5, h6⟩ := h
  exact ⟨b0, b1, b2, h1, h2, h3, h4, h5, by omega⟩
theorem Bx.same {H H' : Hp} {p : Addr} {n : Int} (h : Bx H p n) (e : Same H H') : Bx H' p n := by
  obtain ⟨b0, b1, b2, h1, h2⟩ := h
  exact ⟨b0, b1, b2, e _ _ h1, h2⟩
theorem same_refl (H : Hp) : Same H H := fun _ _ h => h
theorem Exc.mut {K : PySem.W.Frag} {H H' : Hp} {a C p : Addr} {fs : List (Str × V)} {xs : List V} (h : Exc K H a C fs) (hp : H p = some (.lst xs)) (s : SameB p H H') : Exc K H' a C fs := by
  obtain ⟨b, m, T, h⟩ := h
  have n1 : ∀ q d, exo q C d ≠ .lst xs := fun q d z => by
    have z' : HO.ext _ = HO.lst xs := z
    cases z'
  rcases h with ⟨e, h⟩ | ⟨dx, h1, h2⟩
  · exact ⟨b, m, T, .inl ⟨e, s _ _ (fun z => by rw [z, hp] at h; exact n1 _ _ (Option.some.inj h).symm) h⟩⟩
  · refine ⟨b, m, T, .inr ⟨dx, s _ _ (fun z => by rw [z, hp] at h1; exact n1 _ _ (Option.some.inj h1).symm) h1, s _ _ (fun z => ?_) h2⟩⟩
    rw [z, hp] at h2
    have z' : HO.lst xs = HO.ext _ := Option.some.inj h2
    cases z'
/-! values that are the same data, of depth below n -/
def flat : V → Bool
  | .non | .bl _ | .int _ | .str _ => true
  | _ => false
def Sm (K : PySem.W.Frag) : Nat → Hp → V → V → Prop
  | 0, _, _, _ => False
  | n + 1, H, x, y => (x = y ∧ flat x = true) ∨ (∃ (a b : Addr) (xs ys : List V), x = .ref a ∧ y = .ref b ∧ ((SqL K H a xs ∧ SqL K H b ys) ∨ (SqT K H a xs ∧ SqT K H b ys)) ∧ xs.length = ys.length ∧ xs.length ≤ 1000 ∧
      ∀ (i : Nat) (u v : V), xs[i]? = some u → ys[i]? = some v → Sm K n H u v)
theorem seqT {K : PySem.W.Frag} {H H' : Hp} {a : Addr} {xs : List V} (e : Same H H') (h : SqT K H a xs) : SqT K H' a xs := by
  rcases h with (h | ⟨o, h⟩) | h
  · exact .inl (.inl (e _ _ h))
  · exact .inl (.inr ⟨o, e _ _ h⟩)
  · exact .inr h
theorem Sm.same {K : PySem.W.Frag} {H H' : Hp} (e : Same H H') : ∀ {n : Nat} {x y : V}, Sm K n H x y → Sm K n H' x y := by
  intro n
  induction n with
  | zero => intro x y h; exact h
  | succ n ih =>
    intro x y h
    unfold Sm at h ⊢
    rcases h with h | ⟨a, b, xs, ys, h1, h2, h3, h4, h5, h6⟩
    · exact .inl h
    · exact .inr ⟨a, b, xs, ys, h1, h2, h3.imp (fun z => ⟨e.seq z.1, e.seq z.2⟩) (fun z => ⟨seqT e z.1, seqT e z.2⟩), h4, h5, fun i u v p q => ih (h6 i u v p q)⟩
/-! list.count of flat items -/
/-- built-in names that the module does not bind -/
structure Blt (mg : Str → Option Value) : Prop where
  isinstance : mg "isinstance" = none
  list : mg "list" = none
  tuple : mg "tuple" = none
  len : mg "len" = none
  all : mg "all" = none
  any : mg "any" = none
  zip : mg "zip" = none
  bool : mg "bool" = none
  str : mg "str" = none
  int : mg "int" = none
  abs : mg "abs" = none
  max : mg "max" = none
  min : mg "min" = none
  range : mg "range" = none
  sorted : mg "sorted" = none
  enumerate : mg "enumerate" = none
  set : mg "set" = none
  sum : mg "sum" = none
  reversed : mg "reversed" = none
  repr : mg "repr" = none
  dict : mg "dict" = none
  ValueError : mg "ValueError" = none
  LookupError : mg "LookupError" = none
  RuntimeError : mg "RuntimeError" = none
  OverflowError : mg "OverflowError" = none
  IndexError : mg "IndexError" = none
  KeyError : mg "KeyError" = none
  NotImplementedError : mg "NotImplementedError" = none
end Ov
set_option Elab.async false
set_option linter.all false
set_option maxRecDepth 100000
set_option maxHeartbeats 4000000
namespace Ov
open PySem L2
/-! lists, numbers -/
theorem sub_len : ∀ (l ks : List Int), l.Nodup → (∀ x ∈ l, x ∈ ks) → l.length ≤ ks.length
  | [], ks, _, _ => Nat.zero_le _
  | a :: r, ks, nd, h => by
    have ha := h a (List.mem_cons_self ..)
    have nd2 := List.nodup_cons.mp nd
    have ih := sub_len r (ks.erase a) nd2.2 fun x hx => (List.mem_erase_of_ne (fun e : x = a => nd2.1 (e ▸ hx))).mpr (h x (List.mem_cons_of_mem _ hx))
    have e := List.length_erase_of_mem ha
    have p : 0 < ks.length := List.length_pos_of_mem ha
    rw [List.length_cons]
    omega
theorem emod_ne {a M : Int} {i j : Nat} (hM : (j : Int) < M) (hij : i < j) : (a + i) % M ≠ (a + j) % M := fun e => by
  have h1 : ((a + j) - (a + i)) % M = 0 := Int.emod_eq_emod_iff_emod_sub_eq_zero.mp e.symm
  have h2 : (a + j) - (a + i) = (j : Int) - i := by omega
  rw [h2, Int.emod_eq_of_lt (by omega) (by omega)] at h1
  omega
theorem step_mod {x M : Int} (hM : 0 < M) : ((x % M + 1) % M) + 1 = (x + 1) % M + 1 := by
  rw [Int.emod_add_emod]
/-! ints as data -/
def dInts (ns : List Int) : PyData := .list (ns.map .int)
theorem lay_ints : ∀ ns : List Int, PyData.canLayAll0 (ns.map PyData.int) = true
  | [] => rfl
  | n :: r => by
    show (PyData.canLay0 (.int n) && PyData.canLayAll0 (r.map PyData.int)) = true
    rw [lay_ints r]
    rfl
theorem depth_ints : ∀ ns : List Int, PyData.depthAll (ns.map PyData.int) ≤ 1
  | [] => Nat.zero_le _
  | n :: r => by
    have ih := depth_ints r
    show max (PyData.depth (.int n)) (PyData.depthAll (r.map PyData.int)) ≤ 1
    have e : PyData.depth (.int n) ≤ 1 := by
      first
        | exact Nat.zero_le _
        | exact Nat.le_refl _
    omega
theorem sh_ints (ns : List Int) : SeqAt.shaped (dInts ns) = true := by
  unfold SeqAt.shaped
  have h1 : PyData.canLay0 (dInts ns) = true := lay_ints ns
  have h2 : PyData.depth (dInts ns) ≤ 64 := by
    have := depth_ints ns
    show PyData.depthAll (ns.map PyData.int) + 1 ≤ 64
    omega
  rw [h1, decide_eq_true h2]
  rfl
theorem sh_intsT (ns : List Int) : SeqAt.shaped (.tuple (ns.map .int)) = true := by
  unfold SeqAt.shaped
  have h1 : PyData.canLay0 (.tuple (ns.map .int)) = true := lay_ints ns
  have h2 : PyData.depth (.tuple (ns.map .int)) ≤ 64 := by
    have := depth_ints ns
    show PyData.depthAll (ns.map PyData.int) + 1 ≤ 64
    omega
  rw [h1, decide_eq_true h2]
  rfl
theorem eqv_ints : ∀ ns ms : List Int, PyData.eqv (dInts ns) (dInts ms) = decide (ns = ms)
  | [], [] => rfl
  | [], m :: r => by rw [decide_eq_false (by simp)]; rfl
  | n :: r, [] => by rw [decide_eq_false (by simp)]; rfl
  | n :: r, m :: q => by
    have ih := eqv_ints r q
    have e : PyData.eqv (dInts (n :: r)) (dInts (m :: q)) = (PyData.eqv (.int n) (.int m) && PyData.eqv (dInts r) (dInts q)) := by
      simp [dInts, PyData.eqv, PyData.eqvAll]
    rw [e, ih]
    by_cases h : n = m
    · subst h
      simp [PyData.eqv]
    · have e2 : PyData.eqv (.int n) (.int m) = false := by simp [PyData.eqv, h]
      rw [e2, decide_eq_false (show ¬ (n :: r = m :: q) from fun z => h (List.cons.inj z).1)]
      rfl
/-! dicts of numbers, all True -/
def kvs (ks : List Int) : List (Key × V) := ks.map fun k => (Sum.inl k, .bl true)
theorem sort_lt : ∀ {l : List Int}, l.Pairwise (· ≤ ·) → l.Nodup → l.Pairwise (· < ·)
  | [], _, _ => .nil
  | a :: r, h, n => by
    have h' := List.pairwise_cons.mp h
    have n' := List.nodup_cons.mp n
    refine List.pairwise_cons.mpr ⟨fun b hb => ?_, sort_lt h'.2 n'.2⟩
    have := h'.1 b hb
    have ne : a ≠ b := fun e => n'.1 (e ▸ hb)
    omega
end Ov
set_option Elab.async false
set_option linter.all false
set_option maxRecDepth 100000
set_option maxHeartbeats 4000000
namespace Ov
open PySem L2
/-- an exception that was caught, of the class at C, its dict d -/
def exg (a C : Addr) (d : Option Addr) : HO := .ext fun h => ∃ (oe : Obj) (vs : Array Value), h.get? a = some oe ∧ oe.cls = .ref C ∧ oe.dict = d ∧ oe.data = .fields vs
/-- names of classes, one after the other -/
inductive Nms (X : Cx) : List Expr → List Value → Prop where
  | nil : Nms X [] []
  | cons {x : Str} {p : Pos} {c : Value} {es : List Expr} {cs : List Value} (hg : Gl X x) (hd : (x == ("__debug__" : Str)) = false) (hm : X.mg x = some c) (he : starEach (.Name x p :: es) X.env = (false, eval (.Name x p) X.env) :: starEach es X.env) (r : Nms X es cs) : Nms X (.Name x p :: es) (c :: cs)
theorem Nms.run {X : Cx} {pins : List (Addr × Obj)} {σ : L2.St} {H : Hp} {s : Shared} {E : Value → Shared → Prop} {pos : Pos} (I : Inv X pins σ H s) : ∀ {es : List Expr} {cs : List Value} {Q : List Value → Shared → Prop}, Nms X es cs → Q cs s → wpAny (model X.prog X.w) X.A (spliced (backTo pos (starEach es X.env))) Q E s
  | _, _, _, .nil, q => wpAny_items_nil q
  | _, _, _, .cons hg hd hm he r, q => wpAny_items_cons (ld_glob I hg hm (Nms.run I r q) hd) he
/-- what such a try wishes of an exception of the body: it is caught, held by slot i in the suite, and kept behind it -/
def wKeep (t : Value → Value → Bool) (K : PySem.W.Frag) (cs : List Value) (i : Nat) (ts : Addr → Value → Option Addr → TS) (D : Ends) : WX := fun cls d σ H =>
  ∃ C : Addr, cls = .ref C ∧ (∀ c ∈ cs, PySem.W.exmOne K cls c = some (t cls c)) ∧ cs.any (t cls) = true ∧
    ∀ a, H a = none → ts a cls d { nx := fun σ' H' => D.nx (σ'.set i none) (upd H' a (exg a C d)), rt := fun _ _ => False, bk := fun _ _ => False, ct := fun _ _ => False } (σ.set i (some (.ref a))) H
end Ov
set_option Elab.async false
set_option linter.all false
set_option maxRecDepth 100000
set_option maxHeartbeats 4000000
namespace Ov
open PySem L2
abbrev tlValueError : List Value := [.type "ValueError", .type "Exception", .type "BaseException", .type "object"]
abbrev tlLookupError : List Value := [.type "LookupError", .type "Exception", .type "BaseException", .type "object"]
abbrev tlRuntimeError : List Value := [.type "RuntimeError", .type "Exception", .type "BaseException", .type "object"]
abbrev tlOverflowError : List Value := [.type "OverflowError", .type "ArithmeticError", .type "Exception", .type "BaseException", .type "object"]
def spOth : Sp := fun vs H Q _ => ∃ v, vs = [v] ∧ Q .non H
def tl : Nat → List Value
  | 0 => tlValueError
  | 1 => tlLookupError
  | 2 => tlRuntimeError
  | _ => tlOverflowError
def nw : Nat → String
  | 0 => "ValueError.__new__"
  | 1 => "LookupError.__new__"
  | 2 => "RuntimeError.__new__"
  | _ => "OverflowError.__new__"
structure Cl (K : PySem.W.Frag) (C : Addr) (k : Nat) : Prop where
  ex : OvX.ExK K C (tl k) (nw k)
  mro : (PySem.W.clsIn K C).map (·.mro) = some (.ref C :: tl k)
  ty : PySem.W.typeIn K (.ref C) = some (.type "type")
theorem tl_ref (k : Nat) (D : Addr) : (tl k).contains (.ref D) = false := by
  match k with
  | 0 => rfl
  | 1 => rfl
  | 2 => rfl
  | _ + 3 => rfl
theorem Cl.sub {K : PySem.W.Frag} {C : Addr} {k : Nat} (x : Cl K C k) (v : Value) : PySem.W.subIn K (.ref C) v = some ((Value.ref C :: tl k).contains v) := by
  obtain ⟨cd, h1, h2⟩ := Option.map_eq_some_iff.mp x.mro
  show PySem.W.mroIn K C v = _
  unfold PySem.W.mroIn
  rw [h1, Option.bind_some, h2]
  rfl
theorem Cl.own {K : PySem.W.Frag} {C D : Addr} {k j : Nat} (x : Cl K C k) (y : Cl K D j) : PySem.W.kitOne K (.ref C) (.ref D) = some (decide (C = D)) := by
  unfold PySem.W.kitOne
  by_cases h : C = D
  · subst h
    rw [if_pos (beq_self_eq_true _), decide_eq_true rfl]
  · have e : (Value.ref C == Value.ref D) = false := beq_eq_false_iff_ne.mpr fun z => h (Value.ref.inj z)
    rw [e, if_neg Bool.false_ne_true, decide_eq_false h]
    obtain ⟨cd, h1, h2⟩ := Option.map_eq_some_iff.mp y.mro
    show (if ((PySem.W.clsIn K D).isSome && PySem.W.typeIn K (.ref D) == some (.type "type")) = true then PySem.W.subIn K (.ref C) (.ref D) else none) = some false
    rw [h1, y.ty, if_pos (by rfl), x.sub, List.contains_cons, tl_ref]
    rw [show (Value.ref D == Value.ref C) = false from beq_eq_false_iff_ne.mpr fun z => h (Value.ref.inj z).symm]
    rfl
theorem kbn_of {K : PySem.W.Frag} {x qual : Str} {st : Stmt} {f : Addr} {fd : FuncData} {ps : List Str} (F : Fun K x qual st f fd) (n : Nat) (ks : List Str)
    (h : ∀ (kV doc pm : Value) (an : Option Addr) (cdv ct : Value) (us ws : List Value), us.length = n → ws.length = ks.length → bindArgs (PySem.W.fnOf x qual (defArgs st) (defBody st) (defScope st) .none kV doc pm an cdv ct) ⟨us, ks.zip ws⟩ = pure (ps.zip (us ++ ws))) :
    KBn K fd ps n ks (fun us ws => us ++ ws) (fun vs zs => vs ++ zs) := by
  obtain ⟨oc, od, kV, doc, pm, an, cdv, ct, osl, rfl, lk, hcd⟩ := F.ex
  exact ⟨fun s us ws _ l1 l2 => .of_eq (h kV doc pm an cdv ct us ws l1 l2), fun r1 r2 => r1.append r2⟩
def E0 : XK := fun _ _ _ => False
/-! the three ways -/
theorem laid {H : Hp} {a dx C : Addr} {f : Str} {v : V} (na : H a = none) (nd : upd H a (exo a C none) dx = none) (ne : dx ≠ a) :
    Same H (upd (upd (upd H a (exo a C none)) dx (exd dx [(f, v)])) a (exo a C (some dx))) := fun b o h => by
  have hb : b ≠ a := ne_of_none h na
  have hd : b ≠ dx := ne_of_none h (by rw [upd_ne ne] at nd; exact nd)
  rw [upd_ne hb, upd_ne hd, upd_ne hb]
  exact h
/-- C() -/
structure MkE0 (P : Program) (w : World) (K : PySem.W.Frag) (mg : Str → Option Value) (base : Heap) (C : Addr) (k : Nat) (x : Str) : Prop where
  cl : Cl K C k
  mgC : mg x = some (.ref C)
  ini : ∃ (fI : Addr) (fd : FuncData), PySem.W.findIn K (.ref C) "__init__" = some (some (.ref fI)) ∧ PySem.W.typeIn K (.ref fI) = some (.type "function") ∧ FnOk P w K mg base CX0 1 fI fd ["self"] spOth ∧ KBn K fd ["self"] 1 [] (fun us ws => us ++ ws) (fun vs zs => vs ++ zs)
theorem tl_tail (k : Nat) : PySem.W.excTail (tl k) (tl k) = true := by
  match k with
  | 0 => decide +kernel
  | 1 => decide +kernel
  | 2 => decide +kernel
  | _ + 3 => exact (by decide +kernel : PySem.W.excTail tlOverflowError tlOverflowError = true)
section
variable {K : PySem.W.Frag} {C : Addr} {nm q : Str} {N : Addr} {bs : List Value} {sn : List Str} {sub : List Value} {ab : Bool} {col : Option Bool} {dd : Option Addr} {k0 k1 k2 k3 k5 : Option Value}
theorem cl_mk (k : Nat) (xL : K.lookup C = some (excClassObj nm q C N bs (tl k) true sn sub ab col dd k0 k1 k2 k3 k5 (nw k)))
    (sa : PySem.W.findIn K (.ref C) "__setattr__" = some (some (.builtin "object.__setattr__"))) (ga : PySem.W.findIn K (.ref C) "__getattribute__" = some (some (.builtin "BaseException.__getattribute__"))) (gg : PySem.W.findIn K (.ref C) "__getattr__" = some none)
    (kC : PySem.W.keepIn K (.ref C) = true) (ca : PySem.W.findIn K (.ref C) "__class__" = some (some (.builtin "object.__class__"))) (ty : PySem.W.typeIn K (.ref C) = some (.type "type"))
    (sp : PySem.W.specialIn K (.builtin "object.__class__") "__get__" = some (some (.builtin "getset_descriptor.__get__"))) (tk : PySem.W.takesIn K (.builtin "object.__class__") = some true) : Cl K C k := by
  have hc : (PySem.W.clsIn K C).map (·.mro) = some (.ref C :: tl k) := by
    unfold PySem.W.clsIn
    rw [xL]
    rfl
  have hs : ∀ v, PySem.W.mroIn K C v = some ((Value.ref C :: tl k).contains v) := fun v => by
    obtain ⟨cd, h1, h2⟩ := Option.map_eq_some_iff.mp hc
    unfold PySem.W.mroIn
    rw [h1, Option.bind_some, h2]
    rfl
  have tB : (tl k).contains (.type "BaseException") = true ∧ (tl k).contains (.type "object") = true := by
    match k with
    | 0 => decide +kernel
    | 1 => decide +kernel
    | 2 => decide +kernel
    | _ + 3 => exact (by decide +kernel : tlOverflowError.contains (.type "BaseException") = true ∧ tlOverflowError.contains (.type "object") = true)
  refine ⟨⟨?_, ?_, sa, ga, gg, ?_, ?_, kC, ca, sp, tk, ?_⟩, hc, ty⟩
  · unfold PySem.W.excOver PySem.W.clsIn
    rw [xL]
    show (C == C && PySem.W.excTail (tl k) (tl k)) = true
    rw [tl_tail, beq_self_eq_true]
    rfl
  · unfold PySem.W.excInitIn
    rw [xL]
    show (C == C && nw k == nw k && !false && PySem.W.excTail (tl k) (tl k)) = true
    rw [tl_tail, beq_self_eq_true, beq_self_eq_true]
    rfl
  · show PySem.W.mroIn K C _ = _
    rw [hs, List.contains_cons, tB.1, Bool.or_true]
  · unfold PySem.W.hasDictIn PySem.W.clsIn
    rw [xL]
    rfl
  · rw [hs, List.contains_cons, tB.2, Bool.or_true]
end
/-! raise C(e) -/
/-! a caught exception -/
def Cau (K : PySem.W.Frag) (H : Hp) (a C : Addr) (fs : List (Str × V)) : Prop := ∃ (k : Nat) (d : Addr), Cl K C k ∧ H a = some (exg a C (some d)) ∧ H d = some (.xd fs)
theorem Cau.same {K : PySem.W.Frag} {H H' : Hp} {a C : Addr} {fs : List (Str × V)} (h : Cau K H a C fs) (s : Same H H') : Cau K H' a C fs := by
  obtain ⟨k, d, x, h1, h2⟩ := h
  exact ⟨k, d, x, s _ _ h1, s _ _ h2⟩
/-- one own class among the classes of a clause -/
theorem Cl.exm {K : PySem.W.Frag} {C D : Addr} {k j : Nat} (x : Cl K C k) (y : Cl K D j) : PySem.W.exmOne K (.ref C) (.ref D) = some (decide (C = D)) := by
  obtain ⟨cd, h1, h2⟩ := Option.map_eq_some_iff.mp y.mro
  show (if (PySem.W.subIn K (.ref D) (.type "BaseException") == some true) = true then (if ((PySem.W.clsIn K D).isSome && PySem.W.typeIn K (.ref D) == some (.type "type")) = true then PySem.W.subIn K (.ref C) (.ref D) else none) else none) = _
  rw [y.ex.exC, if_pos (by rfl), h1, y.ty, if_pos (by rfl), x.sub, List.contains_cons, tl_ref, Bool.or_false]
  by_cases h : C = D
  · subst h
    rw [beq_self_eq_true, decide_eq_true rfl]
  · rw [decide_eq_false h]
    exact congrArg some (beq_eq_false_iff_ne.mpr fun z => h (Value.ref.inj z).symm)
/-! f(k = v, ..): keywords alone -/
end Ov
set_option Elab.async false
set_option linter.all false
set_option maxRecDepth 100000
set_option maxHeartbeats 4000000
namespace Ov
open PySem L2 PySem.Spec PyProof.Rows
/-! sequences that are lists or tuples -/
/-- a tuple whose object has no dict of its own -/
def TP (H : Hp) (a : Addr) (xs : List V) : Prop := ∃ o : Obj, H a = some (.frz o (.tup xs)) ∧ o.dict = none
theorem TP.sq {K : PySem.W.Frag} {H : Hp} {a : Addr} {xs : List V} (h : TP H a xs) : SqT K H a xs := let ⟨o, e, _⟩ := h; .inl (.inr ⟨o, e⟩)
theorem TP.same {H H' : Hp} {a : Addr} {xs : List V} (h : TP H a xs) (s : Same H H') : TP H' a xs := let ⟨o, e, d⟩ := h; ⟨o, s _ _ e, d⟩
theorem TP.new {H : Hp} {a : Addr} {xs : List V} {o : Obj} (d : o.dict = none) : TP (upd H a (.frz o (.tup xs))) a xs := ⟨o, upd_same, d⟩
theorem TP.some {H : Hp} {a : Addr} {xs : List V} (h : TP H a xs) : ∃ o, H a = some o := let ⟨o, e, _⟩ := h; ⟨_, e⟩
theorem seqP {K : PySem.W.Frag} {H H' : Hp} {a : Addr} {xs : List V} (s : Same H H') (h : TP H a xs) : SqT K H' a xs := (h.same s).sq
section
open PySem.Spec PyProof.Rows
/-- a new tuple of the items us -/
def bo (us : List Value) : Obj := { cls := .type "tuple", data := .seq us.toArray }
theorem bo_ok {P : Program} {w : World} {H : Hp} {h : Heap} {p : Addr} {xs : List V} {us : List Value} (e : h.get? p = some (bo us)) (r : Vals xs us) (z : xs.length ≤ sizeLine) : ObjOk P w H h p (.frz (bo us) (.tup xs)) :=
  ⟨e, z, us, r, _, e, rfl, 0, rfl⟩
variable {X : Cx}
theorem bo_laid {pins : List (Addr × Obj)} {σ : L2.St} {H : Hp} {s : Shared} {xs : List V} {us : List Value} (I : Inv X pins σ H s) (r : Vals xs us) (z : xs.length ≤ sizeLine) : Inv X pins σ (upd H s.heap.objs.size (.frz (bo us) (.tup xs))) { s with heap := s.heap.push (bo us) } :=
  I.laid (t' := s.toks) (fun b u e => Heap.get?_push_of_some _ e) (Nat.le_refl _) (bo_ok (Heap.get?_push_size _ rfl) r z)
/-- (a, b, ..) -/
def tTupB (t : TA) : TE := fun σ H Q => t σ H fun xs H1 => xs.length ≤ sizeLine ∧ ∀ p o, H1 p = none → o.dict = none → Q (.ref p) (upd H1 p (.frz o (.tup xs)))
theorem pe_tupB {es : List Expr} {t : TA} {x1} {pos : Pos} (h : PA X es t) : PE X (.Tuple es x1 pos) (tTupB t) :=
  ⟨fun pins s σ H Q I hq => wpAny_Tuple_spliced (thn (h.run pos pins s σ H _ I hq) fun us s1 ⟨xs, H1, I1, r, z, q⟩ => ⟨by rw [← r.length]; exact z, ⟨.ref s1.heap.objs.size, _, bo_laid I1 r z, rfl, q _ _ (I1.hok.fresh (Nat.le_refl _)) rfl⟩⟩)⟩
end
def Sq (K : PySem.W.Frag) (H : Hp) (a : Addr) (xs : List V) : Prop := SqL K H a xs ∨ SqT K H a xs
theorem Sq.same {K : PySem.W.Frag} {H H' : Hp} {a : Addr} {xs : List V} (h : Sq K H a xs) (s : Same H H') : Sq K H' a xs := h.imp (fun z => s.seq z) (fun z => seqT s z)
theorem cut_all {xs : List V} {lo hi : Option Int} (h : HT.sIx xs.length 0 lo = 0 ∧ HT.sIx xs.length xs.length hi = xs.length) : cutV xs lo hi = xs := by
  unfold cutV
  rw [h.1, h.2]
  simp
section
variable {X : Cx}
/-- a slice of a list or a tuple, by its items -/
def rCut (K : PySem.W.Frag) : V → Option Int → Option Int → Hp → VK → Prop := fun x lo hi H Q => ∃ (a : Addr) (xs : List V), x = .ref a ∧
  ((SqL K H a xs ∧ ∀ p H', Same H H' → H p = none → H' p = some (.lst (cutV xs lo hi)) → Q (.ref p) H') ∨ (TP H a xs ∧ ∀ p H', Same H H' → TP H' p (cutV xs lo hi) → Q (.ref p) H'))
theorem sl_cut : SlR X (rCut X.K) := by
  intro pins s σ H x v vl vu lo hi sl Q I rx hs pl pu q
  obtain ⟨a, xs, rfl, ⟨h, q⟩ | ⟨h, q⟩⟩ := q
  · exact sl_list pins s σ H _ v vl vu lo hi sl Q I rx hs pl pu ⟨a, xs, rfl, h, fun p hp => q p _ (same_new hp _) hp upd_same⟩
  · cases rx
    obtain ⟨its, r, ht, hz⟩ := I.tuple h.sq
    have hlen : its.toArray.size = xs.length := by rw [List.size_toArray]; exact r.length.symm
    refine ⟨"tuple", _, PyProof.Rows.slot_tuple_getitem.lookup, ht.typeIs, ?_⟩
    by_cases hw : HT.sIx xs.length 0 lo = 0 ∧ HT.sIx xs.length xs.length hi = xs.length
    · exact getItem_tuple_whole ht hs pl pu (by rw [hlen]; exact hw) ⟨.ref a, H, I, rfl, q a H (same_refl H) (by rw [cut_all hw]; exact h)⟩
    · refine HT.getItem_tuple_cut ht hs pl pu (by rw [hlen]; exact hw) ?_ (by rw [hlen]; exact hz)
      rw [hlen]
      exact ⟨.ref s.heap.objs.size, _, bo_laid I ((r.drop (HT.sIx xs.length 0 lo)).take (HT.sIx xs.length xs.length hi - HT.sIx xs.length 0 lo)) (Nat.le_trans (cutV_length xs lo hi) hz), rfl, q _ _ (same_new (I.hok.fresh (Nat.le_refl _)) _) (TP.new rfl)⟩
/-- t + u, by its items -/
def rCatW (K : PySem.W.Frag) : R2 := fun x y H Q => ∃ (a b : Addr) (xs ys : List V), x = .ref a ∧ y = .ref b ∧ TP H a xs ∧ TP H b ys ∧ xs.length + ys.length ≤ sizeLine ∧ ∀ p H', Same H H' → TP H' p (xs ++ ys) → Q (.ref p) H'
theorem op_catW : OpR X (binaryOp .Add) (rCatW X.K) := by
  intro pins s σ H x y v u Q I rx ry h
  obtain ⟨a, b, xs, ys, rfl, rfl, ha, hb, hl, q⟩ := h
  cases rx
  cases ry
  obtain ⟨its, r1, p1, _⟩ := I.tuple ha.sq
  obtain ⟨its2, r2, p2, _⟩ := I.tuple hb.sq
  by_cases hx : xs = []
  · subst hx
    cases r1
    exact cat_tup0 p1 p2 ⟨.ref b, H, I, rfl, q b H (same_refl H) hb⟩
  · refine HT.cat_tup p1 p2 (fun z => hx (r1.nil_iff.mp z)) (fun z => ⟨.ref a, H, I, rfl, q a H (same_refl H) (by rw [r2.nil_iff.mp z, List.append_nil]; exact ha)⟩) (fun z => ?_) (by rw [← r1.length, ← r2.length]; exact hl)
    exact ⟨.ref s.heap.objs.size, _, bo_laid I (r1.append r2) (by rw [List.length_append]; exact hl), rfl, q _ _ (same_new (I.hok.fresh (Nat.le_refl _)) _) (TP.new rfl)⟩
/-- tuple(x), by its items -/
def rTupW (K : PySem.W.Frag) : List V → Hp → VK → Prop := fun vs H Q => ∃ (a : Addr) (xs : List V), vs = [.ref a] ∧ (SqL K H a xs ∨ TP H a xs) ∧ ∀ p H', Same H H' → TP H' p xs → Q (.ref p) H'
theorem call_tupW : CallR X (.type "tuple") (rTupW X.K) := by
  intro pins s σ H vs us Q I r h
  obtain ⟨a, xs, rfl, hs, q⟩ := h
  rw [Vals.ref1 r]
  rcases hs with hs | hs
  · obtain ⟨its, r', pl, hz⟩ := I.list hs
    refine call_tuple_list pl.isList (fun h' kp => ?_) (by have := r'.length; simp only [List.size_toArray]; omega)
    have I1 : Inv X pins σ H { s with heap := h' } := I.kept (t' := s.toks) kp
    exact ⟨.ref h'.objs.size, _, bo_laid I1 r' hz, rfl, q _ _ (same_new (I1.hok.fresh (Nat.le_refl _)) _) (TP.new rfl)⟩
  · obtain ⟨its, r', pl, hz⟩ := I.tuple hs.sq
    exact call_tuple_same pl ⟨.ref a, H, I, rfl, q a H (same_refl H) hs⟩
end
/-! numbers among numbers -/
end Ov
set_option Elab.async false
set_option linter.all false
set_option maxRecDepth 100000
set_option maxHeartbeats 2000000
namespace L2
open PySem PySem.Spec PyProof.Rows
/-! dicts whose keys are tuples of numbers and such tuples, their values numbers -/
/-- the object at p is o -/
def objO (p : Addr) (o : Obj) : HO := .ext fun h => h.get? p = some o
theorem objO_ok {P : Program} {w : World} {H : Hp} {h : Heap} {p : Addr} {o : Obj} (e : h.get? p = some o) : ObjOk P w H h p (objO p o) :=
  ⟨e, ⟨_, e⟩, fun _ _ e1 k => k _ e1⟩
theorem objO_get {P : Program} {w : World} {H : Hp} {h : Heap} {p : Addr} {o : Obj} (ok : HOk P w H h) (e : H p = some (objO p o)) : h.get? p = some o :=
  (show ObjOk P w H h p (objO p o) from ok p _ e).1
mutual
inductive Nk (H : Hp) : V → NestedKey → Prop
  | int (i : Int) : Nk H (.int i) (.num i)
  | tup {a : Addr} {xs : List V} {ks : List NestedKey} : Ov.TP H a xs → NkAll H xs ks → Nk H (.ref a) (.tup ks)
inductive NkAll (H : Hp) : List V → List NestedKey → Prop
  | nil : NkAll H [] []
  | cons {v : V} {k : NestedKey} {vs : List V} {ks : List NestedKey} : Nk H v k → NkAll H vs ks → NkAll H (v :: vs) (k :: ks)
end
section
variable {P : Program} {w : World} {H H' : Hp} {h : Heap}
mutual
theorem Nk.keep (s : ∀ b xs, Ov.TP H b xs → Ov.TP H' b xs) : ∀ (k : NestedKey) {v : V}, Nk H v k → Nk H' v k
  | .num i, _, h => by cases h; exact .int i
  | .tup ks, _, h => by cases h with | tup e t => exact .tup (s _ _ e) (NkAll.keep s ks t)
  | .none, _, h => by cases h
  | .text _, _, h => by cases h
theorem NkAll.keep (s : ∀ b xs, Ov.TP H b xs → Ov.TP H' b xs) : ∀ (ks : List NestedKey) {vs : List V}, NkAll H vs ks → NkAll H' vs ks
  | [], _, h => by cases h; exact .nil
  | k :: ks, _, h => by cases h with | cons a t => exact .cons (Nk.keep s k a) (NkAll.keep s ks t)
end
mutual
theorem Nk.is (ok : HOk P w H h) : ∀ (k : NestedKey) {v : V} {u : Value}, Nk H v k → RelV v u → NestedIs h k u
  | .num i, _, u, x, r => by
    cases x
    obtain ⟨t, rfl⟩ := (show ∃ t, u = Value.int i t from r)
    exact .int i t
  | .tup ks, _, u, x, r => by
    cases x with
    | @tup a xs _ e t =>
      cases (show u = Value.ref a from r)
      obtain ⟨o0, e, _⟩ := e
      obtain ⟨_, _, its, rv, o, h1, h2, n, h3⟩ := (show ObjOk P w H h a (.frz o0 (.tup xs)) from ok a _ e)
      exact .tup h1 h2 h3 (by simpa using NkAll.is ok ks t rv)
  | .none, _, _, x, _ => by cases x
  | .text _, _, _, x, _ => by cases x
theorem NkAll.is (ok : HOk P w H h) : ∀ (ks : List NestedKey) {vs : List V} {us : List Value}, NkAll H vs ks → Vals vs us → NestedAll h ks us
  | [], _, _, x, r => by cases x; cases r; exact .nil
  | k :: ks, _, _, x, r => by
    cases x with
    | cons a t =>
      cases r with
      | cons q r => exact .cons (Nk.is ok k a q) (NkAll.is ok ks t r)
end
mutual
theorem Nk.hash : ∀ (k : NestedKey) {v : V}, Nk H v k → ∀ w w' : World, k.hash w = k.hash w'
  | .num i, _, _, _, _ => rfl
  | .tup ks, _, x, w, w' => by
    cases x with
    | tup e t =>
      show reduceHash (Builtin.Tuple.tupleHashOf (NestedKey.hashes w ks)) = reduceHash (Builtin.Tuple.tupleHashOf (NestedKey.hashes w' ks))
      rw [NkAll.hash ks t w w']
  | .none, _, x, _, _ => by cases x
  | .text _, _, x, _, _ => by cases x
theorem NkAll.hash : ∀ (ks : List NestedKey) {vs : List V}, NkAll H vs ks → ∀ w w' : World, NestedKey.hashes w ks = NestedKey.hashes w' ks
  | [], _, _, _, _ => rfl
  | k :: ks, _, x, w, w' => by
    cases x with
    | cons a t =>
      show NestedKey.hash w k :: NestedKey.hashes w ks = NestedKey.hash w' k :: NestedKey.hashes w' ks
      rw [Nk.hash k a w w', NkAll.hash ks t w w']
end
end
abbrev NE := NestedKey × Addr × Value
/-- the entries and what they stand for -/
def NX (H : Hp) : List NE → List (NestedKey × Int) → Prop
  | [], [] => True
  | x :: xs, kv :: kvs => (x.1 = kv.1 ∧ kv.1.depth ≤ 8 ∧ Nk H (.ref x.2.1) kv.1 ∧ ∃ t, x.2.2 = Value.int kv.2 t) ∧ NX H xs kvs
  | _, _ => False
theorem NX.keep {H H' : Hp} (s : ∀ b xs, Ov.TP H b xs → Ov.TP H' b xs) : ∀ {xs : List NE} {kvs : List (NestedKey × Int)}, NX H xs kvs → NX H' xs kvs
  | [], [], _ => trivial
  | _ :: _, kv :: _, ⟨⟨e, d, n, t⟩, r⟩ => ⟨⟨e, d, Nk.keep s kv.1 n, t⟩, NX.keep s r⟩
  | [], _ :: _, h => h.elim
  | _ :: _, [], h => h.elim
theorem NX.keys {H : Hp} : ∀ {xs : List NE} {kvs : List (NestedKey × Int)}, NX H xs kvs → xs.map (·.1) = kvs.map (·.1)
  | [], [], _ => rfl
  | _ :: _, kv :: _, ⟨⟨e, _⟩, r⟩ => by rw [List.map_cons, List.map_cons, e, NX.keys r]
  | [], _ :: _, h => h.elim
  | _ :: _, [], h => h.elim
theorem NX.len {H : Hp} {xs : List NE} {kvs : List (NestedKey × Int)} (h : NX H xs kvs) : xs.length = kvs.length := by
  have := congrArg List.length h.keys
  rwa [List.length_map, List.length_map] at this
theorem NX.app {H : Hp} : ∀ {xs ys : List NE} {kvs jvs : List (NestedKey × Int)}, NX H xs kvs → NX H ys jvs → NX H (xs ++ ys) (kvs ++ jvs)
  | [], _, [], _, _, h => h
  | _ :: _, _, _ :: _, _, ⟨a, r⟩, h => ⟨a, NX.app r h⟩
  | [], _, _ :: _, _, h, _ => h.elim
  | _ :: _, _, [], _, h, _ => h.elim
theorem NX.get {H : Hp} : ∀ {xs : List NE} {kvs : List (NestedKey × Int)} {i : Nat} {kv : NestedKey × Int}, NX H xs kvs → kvs[i]? = some kv → ∃ b t, xs[i]? = some (kv.1, b, Value.int kv.2 t) ∧ Nk H (.ref b) kv.1
  | (k, b, v) :: _, (k', v') :: _, 0, kv, ⟨⟨e1, e2, e3, t, e4⟩, _⟩, h => by
    cases h
    cases (show k = k' from e1)
    cases (show v = Value.int v' t from e4)
    exact ⟨b, t, rfl, e3⟩
  | _ :: _, _ :: _, i + 1, kv, ⟨_, r⟩, h => NX.get (i := i) r (by simpa using h)
  | [], [], _, _, _, h => by simp at h
  | [], _ :: _, _, _, h, _ => h.elim
  | _ :: _, [], _, _, h, _ => h.elim
/-- what the object o says of the entries -/
def NOb (p : Addr) (o : Obj) (xs : List NE) : Prop := (p == sysModules) = false ∧ o.ExactDict ∧ ∃ es ep, o.data = .dict es ep ∧ ∀ w : World, es.toList = xs.map fun x => (⟨x.1.hash w, .ref x.2.1, x.2.2⟩ : DictEntry)
theorem NX.all {H : Hp} : ∀ {xs : List NE} {kvs : List (NestedKey × Int)}, NX H xs kvs → ∀ x ∈ xs, x.1.depth ≤ 8 ∧ Nk H (.ref x.2.1) x.1
  | [], [], _, x, hx => by cases hx
  | y :: _, kv :: _, ⟨⟨e, d, n, _⟩, r⟩, x, hx => by
    rcases List.mem_cons.mp hx with rfl | hx
    · rw [e]; exact ⟨d, n⟩
    · exact NX.all r x hx
  | [], _ :: _, h, _, _ => h.elim
  | _ :: _, [], h, _, _ => h.elim
section
variable {P : Program} {w : World} {H : Hp} {h : Heap} {p : Addr} {o : Obj} {xs : List NE} {kvs : List (NestedKey × Int)}
theorem n_dict (ok : HOk P w H h) (e : H p = some (objO p o)) (x : NOb p o xs) (r : NX H xs kvs) (nd : (kvs.map (·.1)).Nodup) : h.DictOfH (nestedKind P w) p xs := by
  obtain ⟨_, h1, es, ep, h2, h3⟩ := x
  refine ⟨o, es, ep, objO_get ok e, h1, h2, h3 w, fun y hy => ?_, by rw [r.keys]; exact nd⟩
  obtain ⟨a, b⟩ := r.all y hy
  exact ⟨Nk.is ok y.1 b rfl, a⟩
theorem n_back {K : Hp} (sm : (p == sysModules) = false) (d : h.DictOfH (nestedKind P w) p xs) (r : NX K xs kvs) : ∃ o, h.get? p = some o ∧ NOb p o xs := by
  obtain ⟨o, es, ep, h1, h2, h3, h4, _, _⟩ := d
  refine ⟨o, h1, sm, h2, es, ep, h3, fun w' => h4.trans (List.map_congr_left fun y hy => ?_)⟩
  show (⟨y.1.hash w, .ref y.2.1, y.2.2⟩ : DictEntry) = _
  rw [Nk.hash y.1 (r.all y hy).2 w w']
end
/-! look-up -/
def lookN : List (NestedKey × Int) → NestedKey → Option Int
  | [], _ => none
  | (j, v) :: r, k => if j = k then some v else lookN r k
def putN (kvs : List (NestedKey × Int)) (k : NestedKey) (v : Int) : List (NestedKey × Int) := if (lookN kvs k).isSome = true then kvs.map (fun kv => if kv.1 = k then (kv.1, v) else kv) else kvs ++ [(k, v)]
theorem NX.look {H : Hp} (k : NestedKey) : ∀ {xs : List NE} {kvs : List (NestedKey × Int)}, NX H xs kvs → (lookN kvs k = none ∧ atKey xs k = none) ∨ ∃ v b t, lookN kvs k = some v ∧ atKey xs k = some (b, Value.int v t)
  | [], [], _ => .inl ⟨rfl, rfl⟩
  | (j, b, u) :: xs, (j', v') :: kvs, ⟨⟨e1, _, _, t, e4⟩, r⟩ => by
    cases (show j = j' from e1)
    cases (show u = Value.int v' t from e4)
    by_cases e : j = k
    · exact .inr ⟨v', b, t, if_pos e, by unfold atKey; rw [List.find?_cons_of_pos (by simpa using e)]; rfl⟩
    · have e2 : atKey ((j, b, Value.int v' t) :: xs) k = atKey xs k := by unfold atKey; rw [List.find?_cons_of_neg (by simpa using e)]
      have e3 : lookN ((j, v') :: kvs) k = lookN kvs k := if_neg e
      rw [e2, e3]
      exact NX.look k r
  | [], _ :: _, h => h.elim
  | _ :: _, [], h => h.elim
theorem NX.map {H : Hp} {k : NestedKey} {v : Int} {t : Tok} : ∀ {xs : List NE} {kvs : List (NestedKey × Int)}, NX H xs kvs → NX H (xs.map (putAt k (Value.int v t))) (kvs.map fun kv => if kv.1 = k then (kv.1, v) else kv)
  | [], [], _ => trivial
  | (j, b, u) :: xs, (j', v') :: kvs, ⟨⟨e1, e2, e3, e4⟩, r⟩ => by
    cases (show j = j' from e1)
    refine ⟨?_, NX.map r⟩
    show (putAt k (Value.int v t) (j, b, u)).1 = (if j = k then (j, v) else (j, v')).1 ∧ _
    by_cases e : j = k
    · rw [show putAt k (Value.int v t) (j, b, u) = (j, b, Value.int v t) from if_pos e]
      simp only [if_pos e]
      exact ⟨trivial, e2, e3, t, rfl⟩
    · rw [show putAt k (Value.int v t) (j, b, u) = (j, b, u) from if_neg e]
      simp only [if_neg e]
      exact ⟨trivial, e2, e3, e4⟩
  | [], _ :: _, h => h.elim
  | _ :: _, [], h => h.elim
theorem NX.put {H : Hp} {xs : List NE} {kvs : List (NestedKey × Int)} {k : NestedKey} {b : Addr} {v : Int} {t : Tok} (r : NX H xs kvs) (d : k.depth ≤ 8) (n : Nk H (.ref b) k) : NX H (storedH xs k b (Value.int v t)) (putN kvs k v) := by
  unfold storedH putN
  rcases r.look k with ⟨e1, e2⟩ | ⟨v', b', t', e1, e2⟩
  · rw [e1, e2]
    exact r.app ⟨⟨rfl, d, n, t, rfl⟩, trivial⟩
  · rw [e1, e2]
    exact r.map
theorem lookN_none {kvs : List (NestedKey × Int)} {k : NestedKey} (h : lookN kvs k = none) : k ∉ kvs.map (·.1) := by
  induction kvs with
  | nil => simp
  | cons x r ih =>
    obtain ⟨j, v⟩ := x
    by_cases e : j = k
    · rw [show lookN ((j, v) :: r) k = some v from if_pos e] at h; cases h
    · rw [show lookN ((j, v) :: r) k = lookN r k from if_neg e] at h
      intro z
      rcases List.mem_cons.mp z with z | z
      · exact e z.symm
      · exact ih h z
theorem putN_nodup {kvs : List (NestedKey × Int)} {k : NestedKey} {v : Int} (h : (kvs.map (·.1)).Nodup) : ((putN kvs k v).map (·.1)).Nodup := by
  unfold putN
  split
  · rw [List.map_map, show ((·.1) ∘ fun kv : NestedKey × Int => if kv.1 = k then (kv.1, v) else kv) = (·.1) from funext fun x => by
      show (if x.1 = k then (x.1, v) else x).1 = x.1
      split <;> rfl]
    exact h
  · rename_i c
    have c : lookN kvs k = none := by cases e : lookN kvs k with | none => rfl | some _ => rw [e] at c; exact absurd rfl c
    rw [List.map_append]
    refine List.nodup_append.mpr ⟨h, by simp, fun x hx y hy => ?_⟩
    cases List.mem_singleton.mp hy
    exact fun e => lookN_none c (by have e : x = k := e; rw [← e]; exact hx)
end L2
set_option Elab.async false
set_option linter.all false
set_option maxRecDepth 100000
set_option maxHeartbeats 4000000
namespace Ov
open PySem L2 PySem.Spec PyProof.Rows
/-! Calls where no repr is under way around: as FnOk, but the guards around are known to be none. -/
structure FnG (P : Program) (w : World) (K : PySem.W.Frag) (mg : Str → Option Value) (base : Heap) (k : Nat) (f : Addr) (fd : FuncData) (ps : List Str) (sp : Sp) : Prop where
  count : ∀ {vs H Q E}, sp vs H Q E → vs.length = ps.length
  go : ∀ {A : Around} {outer : List Env} {s : Shared} {H : Hp} {args : Args} {us : List Value} {vs : List V} {Q : VK} {E : XK}, A.guards = some [] → Room k A → Env0 P w K mg base A outer s H →
    BindsTo s fd args (ps.zip us) → Vals vs us → sp vs H Q E → codeAny (model P w) A (.call (.ref f) args) (CR L2.CX0 outer P w H s Q E) s
section
variable {P : Program} {w : World} {K : PySem.W.Frag} {mg : Str → Option Value} {base : Heap}
theorem Fun.okG {x qual : Str} {st : Stmt} {f : Addr} {fd : FuncData} {N ps : List Str} {k : Nat} {sp : Sp} (F : Fun K x qual st f fd) (S : FnScope N ps (defScope st))
    (len : ∀ vs H Q E, sp vs H Q E → vs.length = ps.length)
    (body : ∀ (cd : Value) (A : Around) (outer : List Env) (s : Shared) (H : Hp) (vs : List V) (Q : VK) (E : XK), A.guards = some [] →
      Room k (A.deeper (envOfC qual (defScope st) s.heap.objs.size f cd)) → sp vs H Q E →
      ∃ t, PSs (cxOf L2.CX0 P w K mg base N qual (defScope st) f cd A outer s H E).nox (defBody st) t ∧ t { nx := fun _ H' => Q .non H', rt := Q } (start N vs) H) :
    FnG P w K mg base (k + 1) f fd ps sp := by
  obtain ⟨_, _, _, _, _, _, cd, _, _, rfl, lk, hcd⟩ := F.ex
  refine ⟨fun h => len _ _ _ _ h, ?_⟩
  intro A outer s H args us vs Q E hg hr e0 hb r hsp
  have up : ∀ b o, base.get? b = some o → s.heap.get? b = some o := fun b o e => (e0.bs b o e).1
  have kin := e0.mod.kin.keeps up
  refine codeAny_call_function hr.depth (kin _ _ lk) rfl S.co S.gen rfl (PySem.W.codeRec_of kin hcd) (hb _ _ _ _ ?_)
  refine wpAny_newFunctionEnv_cells S.kind (fun y hy => (S.par y.1 (List.of_mem_zip hy).1).imp id fun q => And.intro q (PySem.W.cellsFrom_some _ _ _ (.inl q))) ?_
  intro env he s1 x
  cases he
  refine ⟨(e0.mod.nolimit.keeps up).keeps x.toInCall.keep, codeAny_func ?_⟩
  obtain ⟨t, ht, hq⟩ := body cd A outer s H vs Q E hg (hr.deeper _) hsp
  refine wpAny_mono (ht.nox.run _ _ _ _ _ (inv_start S hr.hd e0 (len _ _ _ _ hsp) r x) hq) ?_ fun _ _ z => z
  intro fl s' hs
  match fl, hs with
  | .ret u, ⟨v, _, H', J, rv, q⟩ => exact ⟨v, H', J.os, J.bare, J.base, J.hok, rv, q⟩
  | .next, ⟨_, H', J, q⟩ => exact ⟨.non, H', J.os, J.bare, J.base, J.hok, rfl, q⟩
  | .brk, ⟨_, _, _, q⟩ => exact q.elim
  | .cont, ⟨_, _, _, q⟩ => exact q.elim
end
/-! repr of data -/
/-! the head, for FnG: the script alone is tracked (or it is one of the module's own objects) -/
section
variable {P : Program} {w : World} {K : PySem.W.Frag} {mg mb : Str → Option Value} {k : Nat} {fa a : Addr} {fd : FuncData} {x : Str} {sp : Sp} {s : Shared} {vs : List Value} {ns : List Int}
def scriptH (K : PySem.W.Frag) (a : Addr) (vs : List Value) (ns : List Int) : Hp := fun b => if b = a ∧ K.lookup a = none then some (.frz { cls := .type "list", data := .seq vs.toArray } (.lst (ns.map V.int))) else none
theorem scriptH_at {b : Addr} {o : HO} (h : scriptH K a vs ns b = some o) : b = a ∧ K.lookup a = none ∧ o = .frz { cls := .type "list", data := .seq vs.toArray } (.lst (ns.map V.int)) := by
  unfold scriptH at h
  split at h
  · rename_i q
    cases h
    exact ⟨q.1, q.2, rfl⟩
  · cases h
theorem headG (kin : K.In s.heap) (hns : s.heap.Ns mainGlobals mg) (hb : s.heap.Ns builtinsNs mb) (hbb : ∀ y : Str, y ≠ "__name__" → mb y = bootBuiltins y) (lim : s.heap.NoLimit) (hg : s.gens = #[])
    (ha : s.heap.get? a = some { cls := .type "list", data := .seq vs.toArray }) (hi : IntsAre vs ns) (hl : ns.length ≤ sizeLine) (hr : Room k callerA)
    (F : ∀ base : Heap, K.In base → base.Ns mainGlobals mg → FnG P w K mg base k fa fd [x] sp) (bind : ∀ (s : Shared) (u : Value), BindsTo s fd ⟨[u], []⟩ [(x, u)])
    (hsp : ∀ H : Hp, SqL K H a (ns.map V.int) → sp [.ref a] H (fun v _ => v = .bl true) fun _ _ _ => False) :
    codeAny (model P w) callerA (.call (.ref fa) ⟨[.ref a], []⟩) (fun r s' => r = .ok (.ret (.bool true)) ∧ OldK s.heap s'.heap ∧ s'.os = s.os ∧ AllBare s'.gens) s := by
  have rv := vals_ints hi
  have nk : ∀ {b o}, scriptH K a vs ns b = some o → K.lookup b = none := fun h => by
    obtain ⟨rfl, q, _⟩ := scriptH_at h
    exact q
  have hok : HOk P w (scriptH K a vs ns) s.heap := by
    intro b o h
    obtain ⟨rfl, _, rfl⟩ := scriptH_at h
    exact ⟨ha, by rw [List.length_map]; exact hl, vs, _, rv, ha⟩
  have hS : SqL K (scriptH K a vs ns) a (ns.map V.int) := by
    cases q : K.lookup a with
    | none => exact .inl (.inr ⟨_, if_pos ⟨rfl, q⟩⟩)
    | some o =>
      have e := kin a o q
      rw [ha] at e
      cases e
      exact .inr ⟨_, vs.toArray, _, q, rfl, rfl, rfl, by rw [List.size_toArray, hi.length]; exact hl, by simpa using rv⟩
  have dict : ∀ {b : Addr} {o : Obj} {es : Array DictEntry} {ep : Nat}, s.heap.get? b = some o → o.data = .dict es ep → scriptH K a vs ns b = none := fun {b o es ep} e d => by
    cases q : scriptH K a vs ns b with
    | none => rfl
    | some z =>
      obtain ⟨rfl, _, _⟩ := scriptH_at q
      rw [ha] at e
      cases e
      have d' : Data.seq vs.toArray _ = Data.dict es ep := d
      cases d'
  have ns' : ∀ {b : Addr} {m : Str → Option Value}, s.heap.Ns b m → (hidT s.heap (scriptH K a vs ns)).Ns b m := fun {b m} h => by
    obtain ⟨o, es, ep, e, d, r⟩ := h
    exact ⟨o, es, ep, hidT_get e (dict e d), d, r⟩
  have kin' : K.In (hidT s.heap (scriptH K a vs ns)) := fun b o e => by
    refine hidT_get (kin b o e) ?_
    cases q : scriptH K a vs ns b with
    | none => rfl
    | some z =>
      rw [nk q] at e
      cases e
  have e0 : Env0 P w K mg (hidT s.heap (scriptH K a vs ns)) callerA [] s (scriptH K a vs ns) := by
    obtain ⟨mc, h1, h2⟩ := lim
    exact ⟨rfl, ⟨kin', ns' hns, ⟨mb, ns' hb, hbb⟩, ⟨mc, ns' h1, h2⟩⟩, fun _ _ e => of_hidT e, Nat.le_of_eq (hidT_size _ _), trivial, (fun _ z => nomatch z), hok, .of_eq hg⟩
  refine codeAny_mono ((F _ kin' (ns' hns)).go (us := [.ref a]) (vs := [.ref a]) rfl hr e0 (bind s (.ref a)) (.cons rfl .nil) (hsp _ hS)) fun r s' h => ?_
  match r, h with
  | .error _, h => exact False.elim h
  | .ok .next, h => exact False.elim h
  | .ok .brk, h => exact False.elim h
  | .ok .cont, h => exact False.elim h
  | .ok (.ret u), ⟨v, H', os, bare, un, hok', r', q⟩ =>
    obtain rfl : v = .bl true := q
    obtain rfl : u = Value.bool true := r'
    refine ⟨rfl, OldK.of_keep fun b o e => ?_, os, bare⟩
    cases q : scriptH K a vs ns b with
    | none => exact un.keep b o e q (fun z => nomatch z) (fun z => nomatch z)
    | some z =>
      obtain ⟨rfl, _, rfl⟩ := scriptH_at q
      have e2 := (hok' _ _ (un.frzs _ _ _ q)).1
      rw [ha] at e
      cases e
      exact e2
theorem walkG {l : PySem.W.OpenLaw} {n k : Nat} {q : Program} {loose : List Str} {XP : (Str → Option Value) → Heap → Prop} {YP : World → Heap → Prop} {d : DefRec} {K : Params → PySem.W.Frag} {sp : World → Sp} {x : Str}
    (hn : l.most = some n) (hn2 : n ≤ sizeLine) (hdf : d.params.defaults = []) (hr : Room k callerA) (hY : ∀ (w : World) (h : Heap), YP w h → (K w.params).In h)
    (F : ∀ (w : World) (mg : Str → Option Value) (fa : Addr) (h : Heap), (K w.params).In h → h.Ns mainGlobals mg → mg d.name = some (.ref fa) →
      ∃ fd : FuncData, (∀ (s : Shared) (u : Value), BindsTo s fd ⟨[u], []⟩ [(x, u)]) ∧ ∀ base : Heap, (K w.params).In base → base.Ns mainGlobals mg → FnG l.prog w (K w.params) mg base k fa fd [x] (sp w))
    (hsp : ∀ (w : World) (H : Hp) (a : Addr) (ns : List Int), ns.length ≤ n → SqL (K w.params) H a (ns.map V.int) → sp w [.ref a] H (fun v _ => v = .bl true) fun _ _ _ => False) :
    PySem.W.WalkO q loose XP YP l.row.toRowW d [] (fun f vs => PySem.call f vs) := by
  refine Att.attach_call hn hdf ?_
  intro w s₀ s₁ mg mb fa o pm cd doc a vs ns G Y ho hd hcd hmg hobj hi hlen hg
  obtain ⟨fd, hb, hF⟩ := F w mg fa _ (hY w _ Y) G.T.g hmg
  exact headG (hY w _ Y) G.T.g G.T.b G.T.builtins G.T.nolimit hg hobj hi (Nat.le_trans hlen hn2) hr hF hb fun H hS => hsp w H a ns hlen hS
end
end Ov
set_option Elab.async false
set_option linter.all false
set_option maxRecDepth 100000
set_option maxHeartbeats 4000000
set_option Elab.async false
set_option linter.all false
set_option maxRecDepth 100000
set_option maxHeartbeats 4000000
namespace Ov
open PySem L2 PySem.Spec PyProof.Rows
/-! enumerate(v), enumerate(v, start=k), v a list or a tuple that stays as it is -/
def YPairB (xs ys : Nat → Option V) : Nat → Hp → V → Hp → Prop := fun i H v H' => ∃ (T : Addr) (x y : V) (o : Obj), v = .ref T ∧ H T = none ∧ o.dict = none ∧ H' = upd H T (.frz o (.tup [x, y])) ∧ xs i = some x ∧ ys i = some y
section
variable {X : Cx} {pins : List (Addr × Obj)} {σ : L2.St} {elts : List Expr} {kk : Nat} {tpos : Pos} {R : It → Hp → Prop} {s : Shared} {H : Hp} {a : Addr} {k : Int} {xs : List V} {h' : Heap}
theorem fp2 (I : L2.Inv X pins σ H s) : ∀ b ∈ [s.heap.objs.size + 1, s.heap.objs.size], FpOk X pins H b := fun b hb => by
  have le : s.heap.objs.size ≤ b := by
    rcases List.mem_cons.mp hb with z | z
    · rw [z]; exact Nat.le_succ _
    · rw [List.mem_singleton.mp z]; exact Nat.le_refl _
  exact I.fpOk le (I.hok.fresh le)
end
end Ov
set_option Elab.async false
set_option linter.all false
set_option maxRecDepth 100000
set_option maxHeartbeats 4000000
set_option Elab.async false
set_option linter.all false
set_option maxRecDepth 100000
set_option maxHeartbeats 4000000
namespace Ov
open PySem L2
/-! data: their types, numbers, rows -/
def tyD : PyData → String
  | .none => "NoneType"
  | .bool _ => "bool"
  | .int _ => "int"
  | .str _ => "str"
  | .list _ => "list"
  | .tuple _ => "tuple"
  | .dict _ => "dict"
def intsOf : List PyData → List Int
  | [] => []
  | .int i :: r => i :: intsOf r
  | _ :: r => intsOf r
mutual
theorem Dp.same {K : PySem.W.Frag} {H H' : Hp} (s : Same H H') : ∀ {v : V} (d : PyData), Dp K H v d → Dp K H' v d
  | _, .none, h => by cases h; exact .non
  | _, .bool b, h => by cases h; exact .bl b
  | _, .int i, h => by cases h; exact .int i
  | _, .str x, h => by cases h; exact .str x
  | _, .list ds, h => by cases h with | lst q t => exact .lst (s.seq q) (DpAll.same s ds t)
  | _, .tuple ds, h => by cases h with | tup q t => exact .tup (seqT s q) (DpAll.same s ds t)
  | _, .dict _, h => by cases h
theorem DpAll.same {K : PySem.W.Frag} {H H' : Hp} (s : Same H H') : ∀ {xs : List V} (ds : List PyData), DpAll K H xs ds → DpAll K H' xs ds
  | _, [], h => by cases h; exact .nil
  | _, d :: ds, h => by cases h with | cons q t => exact .cons (Dp.same s d q) (DpAll.same s ds t)
end
end Ov
set_option Elab.async false
set_option linter.all false
set_option maxRecDepth 100000
set_option maxHeartbeats 4000000
namespace Ov
open PySem L2 PySem.Spec PyProof.Rows
/-! sorted(v), v a list or a tuple of numbers -/
section
variable {prog : Program} {w : World} {A : Around} {E : Value → Shared → Prop} {s : Shared}
theorem collect_tup {l : Addr} {vs : List Value} {Q : List Value → Shared → Prop} (hl : s.heap.IsTuple l vs.toArray)
    (h : Q vs { s with heap := (s.heap.push (seqObj "list" #[] 0)).update s.heap.objs.size (Obj.mapSeq (· ++ vs.toArray)) }) (hz : vs.length ≤ sizeLine) : wpAny (model prog w) A (collect (.ref l)) Q E s := by
  obtain ⟨o, ho, hc, n, hd⟩ := hl
  have new : (s.heap.push (seqObj "list" #[] 0)).get? s.heap.objs.size = some (seqObj "list" #[] 0) := Heap.get?_push_size _ rfl
  unfold collect
  refine wpAny_bind (wpAny_runValue (codeAny_builtin entry_proto_collect' ?_))
  show wpAny _ _ (do again (.builtin "list.__iadd__" ⟨[← newList [], .ref l], []⟩)) _ _ s
  refine wpAny_bind (wpAny_newList (wpAny_pure ⟨Code.quiet_builtin _ (by decide +kernel), codeAny_builtin entry_list_iadd' ?_⟩))
  have up := Heap.get?_push_of_some (seqObj "list" #[] 0) ho
  have fit : ((#[] : Array Value) ++ vs.toArray).size ≤ sizeLine + 1 := by
    rw [Array.size_append, List.size_toArray]
    show 0 + vs.length ≤ sizeLine + 1
    omega
  have yes : (Value.type "tuple" == Value.type "tuple") = true := rfl
  show wpAny _ _ (Builtin.List.listExtendWith (.ref s.heap.objs.size) (.ref l) (.ref s.heap.objs.size)) _ _ { s with heap := s.heap.push (seqObj "list" #[] 0) }
  unfold Builtin.List.listExtendWith
  refine wpAny_bind (wpAny_typeOf (T := "tuple") ⟨o, up, hc⟩ ?_)
  rw [if_pos (by rw [yes, Bool.or_true])]
  refine wpAny_bind (listItems_at up hd (wpAny_bind (listItems_at (xs := #[]) (n := 0) new rfl ?_)))
  rw [if_neg (by simp)]
  refine wpAny_bind (listUpdate_at (xs := #[]) (n := 0) new rfl (wpAny_pure ?_) (Nat.zero_le _) fit)
  show wpAny (model prog w) A (load s.heap.objs.size >>= _) Q E _
  refine wpAny_bind (wpAny_load (get?_update_seq new _) ?_)
  show wpAny _ _ (pure ((#[] : Array Value) ++ vs.toArray).toList) Q E _
  rw [show ((#[] : Array Value) ++ vs.toArray).toList = vs by simp]
  exact wpAny_pure h
theorem sorted_tup {l : Addr} {vs : List Value} {ns : List Int} {Q : Value → Shared → Prop} (hl : s.heap.IsTuple l vs.toArray) (hi : IntsAre vs ns) (hz : vs.length ≤ sizeLine)
    (h : ∀ out : List Value, SrtO.Srtd SrtO.ltIv out → SrtO.Stb SrtO.ltIv out vs → Q (.ref (s.heap.objs.size + 1)) { s with heap := sortedAll s.heap vs out.toArray }) :
    wpAny (model prog w) A (call (.builtin "sorted") [.ref l]) Q E s := by
  refine Calls.call_function_entry kind_sorted plain_sorted entry_sorted (args_sorted1 _) ?_
  unfold Builtin.«sorted»
  refine wpAny_bind (m := checkCount "sorted" 1 1 _) (wpAny_pure (wpAny_bind (collect_tup hl (wpAny_bind (wpAny_newList ?_ hz)) hz)))
  have sz : ((s.heap.push (seqObj "list" #[] 0)).update s.heap.objs.size (Obj.mapSeq (· ++ vs.toArray))).objs.size = s.heap.objs.size + 1 := by rw [Heap.size_update, size_push']
  have new : (((s.heap.push (seqObj "list" #[] 0)).update s.heap.objs.size (Obj.mapSeq (· ++ vs.toArray))).push (seqObj "list" vs.toArray 0)).get? (s.heap.objs.size + 1) = some (seqObj "list" vs.toArray 0) := by
    rw [← sz]
    exact Heap.get?_push_size _ rfl
  show wpAny _ _ _ _ _ { s with heap := ((s.heap.push (seqObj "list" #[] 0)).update s.heap.objs.size (Obj.mapSeq (· ++ vs.toArray))).push (seqObj "list" vs.toArray 0) }
  rw [sz]
  refine wpAny_bind (wpAny_holding (wpAny_call_entry slot_list_sort ⟨_, new, rfl⟩ entry_list_sort ?_ (args_list_sort _)))
  exact SrtO.list_sort_ord SrtO.swo_int new hz (fun h2 => SrtO.ints_sortable hi h2) fun out hs hb => ⟨_, rfl, wpAny_pure ⟨_, rfl, h out hs hb⟩⟩
end
section
variable {X : Cx}
def rSrtW (K : PySem.W.Frag) : List V → Hp → VK → Prop := fun vs H Q => ∃ (a : Addr) (ns : List Int), vs = [V.ref a] ∧ Sq K H a (ns.map V.int) ∧ ∀ (ns' : List Int) (p : Addr) (H' : Hp), ns'.Perm ns → ns'.Pairwise (· ≤ ·) → H p = none → Same H H' → H' p = some (.lst (ns'.map V.int)) → Q (.ref p) H'
theorem cr_sortedW : CallR X (.builtin "sorted") (rSrtW X.K) := by
  intro pins s σ H vs us Q I r h
  obtain ⟨a, ns, rfl, hs | hs, q⟩ := h
  · exact cr_sortedI pins s σ H _ us Q I r ⟨a, ns, rfl, hs, fun ns' p k1 k2 hp => q ns' p _ k1 k2 hp (same_new hp _) upd_same⟩
  · obtain ⟨its, rv, hl, hz⟩ := I.tuple hs
    rw [Vals.ref1 r]
    have hi := rv.ints
    refine sorted_tup hl hi (by rw [← rv.length]; exact hz) ?_
    intro out h1 h2
    obtain ⟨k1, k2, k3⟩ := SrtO.ints_out hi h1 h2
    obtain ⟨ep, he⟩ := sortedAll_at s.heap its out.toArray
    have fr : H (s.heap.objs.size + 1) = none := I.hok.fresh (Nat.le_succ _)
    have len : ((out.map SrtO.iv).map V.int).length ≤ sizeLine := by
      rw [List.length_map, k2.length_eq]
      rw [List.length_map] at hz
      exact hz
    exact ⟨.ref _, _, I.laid (t' := s.toks) (o := .lst ((out.map SrtO.iv).map V.int)) (fun _ _ => sortedAll_old) (Nat.le_succ _) ⟨len, out, ep, vals_of_ints k1, he⟩, rfl, q _ _ _ k2 k3 fr (same_new fr _) upd_same⟩
end
end Ov
set_option Elab.async false
set_option linter.all false
set_option maxRecDepth 100000
set_option maxHeartbeats 4000000
set_option Elab.async false
set_option linter.all false
set_option maxRecDepth 100000
set_option maxHeartbeats 4000000
namespace Ov
open PySem L2
/-! a heap without the box, and without what else is set aside -/
open Classical in
noncomputable def off (S : Addr → Prop) (H : Hp) : Hp := fun b => if S b then none else H b
theorem off_ne {S : Addr → Prop} {b : Addr} {H : Hp} (h : ¬ S b) : off S H b = H b := if_neg h
theorem off_at {S : Addr → Prop} {H : Hp} {b : Addr} {o : HO} (h : off S H b = some o) : ¬ S b ∧ H b = some o := by
  unfold off at h
  split at h
  · cases h
  · exact ⟨by assumption, h⟩
theorem off_sub (S : Addr → Prop) (H : Hp) : Same (off S H) H := fun b o h => (off_at h).2
/-! data of a bounded form -/
def leaf (m : Nat) : PyData → Prop
  | .none => True
  | .bool _ => True
  | .int i => -(10 ^ 30 + (m : Int)) ≤ i ∧ i ≤ 10 ^ 30 + (m : Int)
  | .str x => (reprText x).length ≤ 1100
  | _ => False
def Bd (m : Nat) : Nat → PyData → Prop
  | 0, d => leaf m d
  | n + 1, d => leaf m d ∨ ∃ ds : List PyData, (d = .list ds ∨ d = .tuple ds) ∧ ds.length ≤ 16 + m ∧ ∀ e ∈ ds, Bd m n e
theorem leaf.mono {m k : Nat} (h : m ≤ k) : ∀ {d : PyData}, leaf m d → leaf k d
  | .none, _ => trivial
  | .bool _, _ => trivial
  | .int i, z => by
    obtain ⟨a, b⟩ := z
    exact ⟨by omega, by omega⟩
  | .str _, z => z
theorem Bd.mono {m k : Nat} (h : m ≤ k) : ∀ {n j : Nat} {d : PyData}, n ≤ j → Bd m n d → Bd k j d
  | 0, 0, _, _, z => leaf.mono h z
  | 0, j + 1, _, _, z => .inl (leaf.mono h z)
  | n + 1, j + 1, d, le, z => by
    rcases z with z | ⟨ds, e, l, a⟩
    · exact .inl (leaf.mono h z)
    · exact .inr ⟨ds, e, by omega, fun x hx => Bd.mono h (by omega) (a x hx)⟩
def Ln : Nat → Nat
  | 0 => 2000
  | n + 1 => 18 * (Ln n + 2) + 3
def Fits (n : Nat) (d : PyData) : Prop := d.hasDict = false ∧ d.depth ≤ n + 1 ∧ d.showable = true ∧ d.shown.length ≤ Ln n
theorem log_small {i : Int} (h : -(10 ^ 30 + 2) ≤ i ∧ i ≤ 10 ^ 30 + 2) : i.natAbs.log2 < 1920 := by
  by_cases z : i.natAbs = 0
  · rw [z]
    decide
  · have lt : i.natAbs < 2 ^ 100 := by omega
    exact Nat.lt_trans ((Nat.log2_lt z).mpr lt) (by decide)
theorem leaf_fits {m : Nat} (hm : m ≤ 2) : ∀ {d : PyData}, leaf m d → Fits 0 d
  | .none, _ => ⟨rfl, by decide, rfl, by decide⟩
  | .bool b, _ => ⟨rfl, by show _ ≤ 1; simp [PyData.depth], rfl, by cases b <;> decide⟩
  | .int i, z => by
    have l := log_small (i := i) (by obtain ⟨a, b⟩ := z; exact ⟨by omega, by omega⟩)
    refine ⟨rfl, by simp [PyData.depth], decide_eq_true l, ?_⟩
    have := PyProof.Rows.int_text_len_1921 l
    show (Str.ofString (toString i)).length ≤ 2000
    omega
  | .str x, z => ⟨rfl, by simp [PyData.depth], rfl, by
    have : (reprText x).length ≤ 1100 := z
    show (reprText x).length ≤ 2000
    omega⟩
theorem Bd.size {n : Nat} (h : n ≤ 3) {d : PyData} (f : Fits n d) : d.shown.length ≤ sizeLine := by
  have : ∀ k, k ≤ 3 → Ln k ≤ 2 ^ 24 := fun k hk => by
    match k, hk with
    | 0, _ => decide
    | 1, _ => decide
    | 2, _ => decide
    | 3, _ => decide
  exact Nat.le_trans f.2.2.2 (this n h)
end Ov
set_option Elab.async false
set_option linter.all false
set_option maxRecDepth 100000
set_option maxHeartbeats 4000000
namespace Ov
open PySem L2
/-! data that are sequences, or not; one item less, more, another -/
section
variable {m n : Nat} {ds : List PyData}
/-- a sequence of such data, wider by one at most -/
theorem Bd.seq (l : ds.length ≤ 16 + (m + 1)) (a : ∀ e ∈ ds, Bd (m + 1) n e) : Bd (m + 1) (n + 1) (.list ds) ∧ Bd (m + 1) (n + 1) (.tuple ds) := ⟨.inr ⟨ds, .inl rfl, l, a⟩, .inr ⟨ds, .inr rfl, l, a⟩⟩
end
end Ov
set_option Elab.async false
set_option linter.all false
set_option maxRecDepth 100000
set_option maxHeartbeats 4000000
namespace Ov
open PySem PySem.Spec PyProof.Rows L2
/-! an error without fields: raised, caught, asked for its class -/
section
variable {X : Cx}
/-! caught, with a field or without -/
def Cau0 (K : PySem.W.Frag) (H : Hp) (a C : Addr) : Prop := ∃ k : Nat, Cl K C k ∧ H a = some (exg a C none)
def CauF (K : PySem.W.Frag) (H : Hp) (a C : Addr) (f : Str) (u : V) : Prop := (f ≠ "" ∧ Cau K H a C [(f, u)]) ∨ (f = "" ∧ Cau0 K H a C)
def CauX (K : PySem.W.Frag) (H : Hp) (a C : Addr) : Prop := (∃ fs, Cau K H a C fs) ∨ Cau0 K H a C
theorem CauF.same {K : PySem.W.Frag} {H H' : Hp} {a C : Addr} {f : Str} {u : V} (h : CauF K H a C f u) (s : Same H H') : CauF K H' a C f u := by
  rcases h with ⟨n, h⟩ | ⟨n, k, x, h⟩
  · exact .inl ⟨n, h.same s⟩
  · exact .inr ⟨n, k, x, s _ _ h⟩
theorem CauF.x {K : PySem.W.Frag} {H : Hp} {a C : Addr} {f : Str} {u : V} (h : CauF K H a C f u) : CauX K H a C := by
  rcases h with ⟨n, h⟩ | ⟨n, h⟩
  · exact .inl ⟨_, h⟩
  · exact .inr h
theorem CauX.same {K : PySem.W.Frag} {H H' : Hp} {a C : Addr} (h : CauX K H a C) (s : Same H H') : CauX K H' a C := by
  rcases h with ⟨fs, h⟩ | ⟨k, x, h⟩
  · exact .inl ⟨fs, h.same s⟩
  · exact .inr ⟨k, x, s _ _ h⟩
end
end Ov
set_option Elab.async false
set_option linter.all false
set_option maxRecDepth 100000
set_option maxHeartbeats 2000000
namespace L2
open PySem PySem.Spec PyProof.Rows
/-! dicts whose keys are nested tuples, their values anything -/
def DX (H : Hp) : List NE → List (NestedKey × V) → Prop
  | [], [] => True
  | x :: xs, kv :: kvs => (x.1 = kv.1 ∧ kv.1.depth ≤ 8 ∧ Nk H (.ref x.2.1) kv.1 ∧ RelV kv.2 x.2.2) ∧ DX H xs kvs
  | _, _ => False
theorem DX.keep {H H' : Hp} (s : ∀ b xs, Ov.TP H b xs → Ov.TP H' b xs) : ∀ {xs : List NE} {kvs : List (NestedKey × V)}, DX H xs kvs → DX H' xs kvs
  | [], [], _ => trivial
  | _ :: _, kv :: _, ⟨⟨e, d, n, t⟩, r⟩ => ⟨⟨e, d, Nk.keep s kv.1 n, t⟩, DX.keep s r⟩
  | [], _ :: _, h => h.elim
  | _ :: _, [], h => h.elim
theorem DX.keys {H : Hp} : ∀ {xs : List NE} {kvs : List (NestedKey × V)}, DX H xs kvs → xs.map (·.1) = kvs.map (·.1)
  | [], [], _ => rfl
  | _ :: _, kv :: _, ⟨⟨e, _⟩, r⟩ => by rw [List.map_cons, List.map_cons, e, DX.keys r]
  | [], _ :: _, h => h.elim
  | _ :: _, [], h => h.elim
theorem DX.len {H : Hp} {xs : List NE} {kvs : List (NestedKey × V)} (h : DX H xs kvs) : xs.length = kvs.length := by
  have := congrArg List.length h.keys
  rwa [List.length_map, List.length_map] at this
theorem DX.app {H : Hp} : ∀ {xs ys : List NE} {kvs jvs : List (NestedKey × V)}, DX H xs kvs → DX H ys jvs → DX H (xs ++ ys) (kvs ++ jvs)
  | [], _, [], _, _, h => h
  | _ :: _, _, _ :: _, _, ⟨a, r⟩, h => ⟨a, DX.app r h⟩
  | [], _, _ :: _, _, h, _ => h.elim
  | _ :: _, _, [], _, h, _ => h.elim
theorem DX.get {H : Hp} : ∀ {xs : List NE} {kvs : List (NestedKey × V)} {i : Nat} {kv : NestedKey × V}, DX H xs kvs → kvs[i]? = some kv → ∃ b u, xs[i]? = some (kv.1, b, u) ∧ Nk H (.ref b) kv.1 ∧ RelV kv.2 u
  | (k, b, v) :: _, (k', v') :: _, 0, kv, ⟨⟨e1, e2, e3, e4⟩, _⟩, h => by
    cases h
    cases (show k = k' from e1)
    exact ⟨b, v, rfl, e3, e4⟩
  | _ :: _, _ :: _, i + 1, kv, ⟨_, r⟩, h => DX.get (i := i) r (by simpa using h)
  | [], [], _, _, _, h => by simp at h
  | [], _ :: _, _, _, h, _ => h.elim
  | _ :: _, [], _, _, h, _ => h.elim
theorem DX.all {H : Hp} : ∀ {xs : List NE} {kvs : List (NestedKey × V)}, DX H xs kvs → ∀ x ∈ xs, x.1.depth ≤ 8 ∧ Nk H (.ref x.2.1) x.1
  | [], [], _, x, hx => by cases hx
  | y :: _, kv :: _, ⟨⟨e, d, n, _⟩, r⟩, x, hx => by
    rcases List.mem_cons.mp hx with rfl | hx
    · rw [e]; exact ⟨d, n⟩
    · exact DX.all r x hx
  | [], _ :: _, h, _, _ => h.elim
  | _ :: _, [], h, _, _ => h.elim
section
variable {P : Program} {w : World} {H : Hp} {h : Heap} {p : Addr} {o : Obj} {xs : List NE} {kvs : List (NestedKey × V)}
theorem d_dictX (ok : HOk P w H h) (e : H p = some (objO p o)) (x : NOb p o xs) (r : DX H xs kvs) (nd : (kvs.map (·.1)).Nodup) : h.DictOfH (nestedKind P w) p xs := by
  obtain ⟨_, h1, es, ep, h2, h3⟩ := x
  refine ⟨o, es, ep, objO_get ok e, h1, h2, h3 w, fun y hy => ?_, by rw [r.keys]; exact nd⟩
  obtain ⟨a, b⟩ := r.all y hy
  exact ⟨Nk.is ok y.1 b rfl, a⟩
theorem d_backX {K : Hp} (sm : (p == sysModules) = false) (d : h.DictOfH (nestedKind P w) p xs) (r : DX K xs kvs) : ∃ o, h.get? p = some o ∧ NOb p o xs := by
  obtain ⟨o, es, ep, h1, h2, h3, h4, _, _⟩ := d
  refine ⟨o, h1, sm, h2, es, ep, h3, fun w' => h4.trans (List.map_congr_left fun y hy => ?_)⟩
  show (⟨y.1.hash w, .ref y.2.1, y.2.2⟩ : DictEntry) = _
  rw [Nk.hash y.1 (r.all y hy).2 w w']
end
/-! look-up -/
section
variable {α : Type}
def lookG : List (NestedKey × α) → NestedKey → Option α
  | [], _ => none
  | (j, v) :: r, k => if j = k then some v else lookG r k
def putG (kvs : List (NestedKey × α)) (k : NestedKey) (v : α) : List (NestedKey × α) := if (lookG kvs k).isSome = true then kvs.map (fun kv => if kv.1 = k then (kv.1, v) else kv) else kvs ++ [(k, v)]
theorem lookG_none {kvs : List (NestedKey × α)} {k : NestedKey} (h : lookG kvs k = none) : k ∉ kvs.map (·.1) := by
  induction kvs with
  | nil => simp
  | cons x r ih =>
    obtain ⟨j, v⟩ := x
    by_cases e : j = k
    · rw [show lookG ((j, v) :: r) k = some v from if_pos e] at h; cases h
    · rw [show lookG ((j, v) :: r) k = lookG r k from if_neg e] at h
      intro z
      rcases List.mem_cons.mp z with z | z
      · exact e z.symm
      · exact ih h z
theorem putG_nodup {kvs : List (NestedKey × α)} {k : NestedKey} {v : α} (h : (kvs.map (·.1)).Nodup) : ((putG kvs k v).map (·.1)).Nodup := by
  unfold putG
  split
  · rw [List.map_map, show ((·.1) ∘ fun kv : NestedKey × α => if kv.1 = k then (kv.1, v) else kv) = (·.1) from funext fun x => by
      show (if x.1 = k then (x.1, v) else x).1 = x.1
      split <;> rfl]
    exact h
  · rename_i c
    have c : lookG kvs k = none := by cases e : lookG kvs k with | none => rfl | some _ => rw [e] at c; exact absurd rfl c
    rw [List.map_append]
    refine List.nodup_append.mpr ⟨h, by simp, fun x hx y hy => ?_⟩
    cases List.mem_singleton.mp hy
    exact fun e => lookG_none c (by have e : x = k := e; rw [← e]; exact hx)
/-- without k -/
def outG (kvs : List (NestedKey × α)) (k : NestedKey) : List (NestedKey × α) := kvs.filter fun kv => decide (kv.1 ≠ k)
end
theorem DX.look {H : Hp} (k : NestedKey) : ∀ {xs : List NE} {kvs : List (NestedKey × V)}, DX H xs kvs → (lookG kvs k = none ∧ atKey xs k = none) ∨ ∃ v b u, lookG kvs k = some v ∧ atKey xs k = some (b, u) ∧ RelV v u
  | [], [], _ => .inl ⟨rfl, rfl⟩
  | (j, b, u) :: xs, (j', v') :: kvs, ⟨⟨e1, _, _, e4⟩, r⟩ => by
    cases (show j = j' from e1)
    by_cases e : j = k
    · exact .inr ⟨v', b, u, if_pos e, by unfold atKey; rw [List.find?_cons_of_pos (by simpa using e)]; rfl, e4⟩
    · have e2 : atKey ((j, b, u) :: xs) k = atKey xs k := by unfold atKey; rw [List.find?_cons_of_neg (by simpa using e)]
      have e3 : lookG ((j, v') :: kvs) k = lookG kvs k := if_neg e
      rw [e2, e3]
      exact DX.look k r
  | [], _ :: _, h => h.elim
  | _ :: _, [], h => h.elim
theorem DX.map {H : Hp} {k : NestedKey} {v : V} {u : Value} (z : RelV v u) : ∀ {xs : List NE} {kvs : List (NestedKey × V)}, DX H xs kvs → DX H (xs.map (putAt k u)) (kvs.map fun kv => if kv.1 = k then (kv.1, v) else kv)
  | [], [], _ => trivial
  | (j, b, u') :: xs, (j', v') :: kvs, ⟨⟨e1, e2, e3, e4⟩, r⟩ => by
    cases (show j = j' from e1)
    refine ⟨?_, DX.map z r⟩
    show (putAt k u (j, b, u')).1 = (if j = k then (j, v) else (j, v')).1 ∧ _
    by_cases e : j = k
    · rw [show putAt k u (j, b, u') = (j, b, u) from if_pos e]
      simp only [if_pos e]
      exact ⟨trivial, e2, e3, z⟩
    · rw [show putAt k u (j, b, u') = (j, b, u') from if_neg e]
      simp only [if_neg e]
      exact ⟨trivial, e2, e3, e4⟩
  | [], _ :: _, h => h.elim
  | _ :: _, [], h => h.elim
theorem DX.put {H : Hp} {xs : List NE} {kvs : List (NestedKey × V)} {k : NestedKey} {b : Addr} {v : V} {u : Value} (z : RelV v u) (r : DX H xs kvs) (d : k.depth ≤ 8) (n : Nk H (.ref b) k) : DX H (storedH xs k b u) (putG kvs k v) := by
  unfold storedH putG
  rcases r.look k with ⟨e1, e2⟩ | ⟨v', b', t', e1, e2, _⟩
  · rw [e1, e2]
    exact r.app ⟨⟨rfl, d, n, z⟩, trivial⟩
  · rw [e1, e2]
    exact r.map z
theorem DX.out {H : Hp} {k : NestedKey} : ∀ {xs : List NE} {kvs : List (NestedKey × V)}, DX H xs kvs → DX H (withoutH xs k) (outG kvs k)
  | [], [], _ => trivial
  | (j, b, u) :: xs, (j', v') :: kvs, ⟨⟨e1, e2, e3, e4⟩, r⟩ => by
    cases (show j = j' from e1)
    have ih := DX.out (k := k) r
    unfold withoutH outG at ih ⊢
    by_cases e : j = k
    · rw [List.filter_cons_of_neg (by simp [e]), List.filter_cons_of_neg (by simp [e])]
      exact ih
    · rw [List.filter_cons_of_pos (by simp [e]), List.filter_cons_of_pos (by simp [e])]
      exact ⟨⟨rfl, e2, e3, e4⟩, ih⟩
  | [], _ :: _, h => h.elim
  | _ :: _, [], h => h.elim
end L2
set_option Elab.async false
set_option linter.all false
set_option maxRecDepth 100000
set_option maxHeartbeats 4000000
namespace Ov
open PySem L2
/-! Programs over plain data: what a slot holds is data, or a list that this slot alone owns.
 A reading of the hand layer is held against a plain function over the slots' data. -/
/-! data: as Dp, but no list of the written part -/
/-- a dict of numbers, its values numbers too -/
def kvI (kvs : List (Int × Int)) : List (L2.Key × V) := kvs.map fun kv => (Sum.inl kv.1, V.int kv.2)
/-- a dict of tuples of numbers, its values numbers -/
def kvK (kvs : List (List Int × Int)) : List (List L2.Key × V) := kvs.map fun kv => (kv.1.map Sum.inl, V.int kv.2)
def kvS (ks : List (List Int)) : List (List L2.Key × V) := ks.map fun k => (k.map Sum.inl, V.bl true)
def dkD (kvs : List (List Int × Int)) : PyData := .dict (kvs.map fun kv => (.tuple (kv.1.map .int), .int kv.2))
def dcD (kvs : List (Int × Int)) : PyData := .dict (kvs.map fun kv => (.int kv.1, .int kv.2))
/-- a number, or a tuple of numbers -/
def Fv (K : PySem.W.Frag) (H : Hp) (v : V) (d : PyData) : Prop := (∃ i : Int, v = .int i ∧ d = .int i) ∨ ∃ (p : Addr) (ns : List Int), v = .ref p ∧ TP H p (ns.map V.int) ∧ d = .tuple (ns.map .int)
theorem Fv.same {K : PySem.W.Frag} {H H' : Hp} (s : Same H H') {v : V} {d : PyData} (h : Fv K H v d) : Fv K H' v d := h.imp id fun ⟨p, ns, e1, e2, e3⟩ => ⟨p, ns, e1, e2.same s, e3⟩
def kvV (kvs : List (Int × V × PyData)) : List (L2.Key × V) := kvs.map fun x => (Sum.inl x.1, x.2.1)
mutual
inductive Da (K : PySem.W.Frag) (H : Hp) : V → PyData → Prop
  | non : Da K H .non .none
  | bl (b : Bool) : Da K H (.bl b) (.bool b)
  | int (i : Int) : Da K H (.int i) (.int i)
  | str (x : Str) : Da K H (.str x) (.str x)
  | lst {a : Addr} {xs : List V} {ds : List PyData} : SqL K H a xs → DaAll K H xs ds → Da K H (.ref a) (.list ds)
  | tup {a : Addr} {xs : List V} {ds : List PyData} : TP H a xs → DaAll K H xs ds → Da K H (.ref a) (.tuple ds)
  | dct {a : Addr} {d : List (PyData × PyData)} (kvs : List (Int × V × PyData)) : d = kvs.map (fun x => (.int x.1, x.2.2)) → H a = some (.dK (kvV kvs)) → (∀ x ∈ kvs, Fv K H x.2.1 x.2.2) → Da K H (.ref a) (.dict d)
  | dtk {a : Addr} {d : List (PyData × PyData)} (kvs : List (List Int × Int)) : kvs ≠ [] → d = kvs.map (fun kv => (.tuple (kv.1.map .int), .int kv.2)) → H a = some (.dT (kvK kvs)) → Da K H (.ref a) (.dict d)
inductive DaAll (K : PySem.W.Frag) (H : Hp) : List V → List PyData → Prop
  | nil : DaAll K H [] []
  | cons {v : V} {vs : List V} {d : PyData} {ds : List PyData} : Da K H v d → DaAll K H vs ds → DaAll K H (v :: vs) (d :: ds)
end
section
variable {K : PySem.W.Frag} {H H' : Hp}
theorem Da.dctI {a : Addr} {d : List (PyData × PyData)} (kvs : List (Int × Int)) (e : d = kvs.map (fun kv => (.int kv.1, .int kv.2))) (h : H a = some (.dK (kvI kvs))) : Da K H (.ref a) (.dict d) :=
  .dct (kvs.map fun kv => (kv.1, V.int kv.2, PyData.int kv.2)) (by rw [e, List.map_map]; rfl) (by rw [h]; unfold kvV kvI; rw [List.map_map]; rfl) fun x hx => by
    obtain ⟨kv, _, rfl⟩ := List.mem_map.mp hx
    exact .inl ⟨_, rfl, rfl⟩
theorem rd_same {a : Addr} {xs : List V} (s : Same H H') (h : SqL K H a xs) : SqL K H' a xs := h.imp (fun h => h.imp (fun z => s _ _ z) fun ⟨u, z⟩ => ⟨u, s _ _ z⟩) id
theorem rd_sq {a : Addr} {xs : List V} (h : SqL K H a xs) : SqL K H a xs := h
mutual
theorem Da.same (s : Same H H') : ∀ {v : V} (d : PyData), Da K H v d → Da K H' v d
  | _, .none, h => by cases h; exact .non
  | _, .bool b, h => by cases h; exact .bl b
  | _, .int i, h => by cases h; exact .int i
  | _, .str x, h => by cases h; exact .str x
  | _, .list ds, h => by cases h with | lst q t => exact .lst (rd_same s q) (DaAll.same s ds t)
  | _, .tuple ds, h => by cases h with | tup q t => exact .tup (q.same s) (DaAll.same s ds t)
  | _, .dict _, h => by cases h with
    | dct kvs e q f => exact .dct kvs e (s _ _ q) fun x hx => (f x hx).same s
    | dtk kvs n e q => exact .dtk kvs n e (s _ _ q)
theorem DaAll.same (s : Same H H') : ∀ {xs : List V} (ds : List PyData), DaAll K H xs ds → DaAll K H' xs ds
  | _, [], h => by cases h; exact .nil
  | _, d :: ds, h => by cases h with | cons q t => exact .cons (Da.same s d q) (DaAll.same s ds t)
end
mutual
theorem Da.dp : ∀ {v : V} (d : PyData), d.hasDict = false → Da K H v d → Dp K H v d
  | _, .none, _, h => by cases h; exact .non
  | _, .bool b, _, h => by cases h; exact .bl b
  | _, .int i, _, h => by cases h; exact .int i
  | _, .str x, _, h => by cases h; exact .str x
  | _, .list ds, n, h => by cases h with | lst q t => exact .lst (rd_sq q) (DaAll.dp ds n t)
  | _, .tuple ds, n, h => by cases h with | tup q t => exact .tup q.sq (DaAll.dp ds n t)
  | _, .dict _, n, h => by cases n
theorem DaAll.dp : ∀ {xs : List V} (ds : List PyData), PyData.hasDictAll ds = false → DaAll K H xs ds → DpAll K H xs ds
  | _, [], _, h => by cases h; exact .nil
  | _, d :: ds, n, h => by cases h with | cons q t => exact .cons (Da.dp d (Bool.or_eq_false_iff.mp n).1 q) (DaAll.dp ds (Bool.or_eq_false_iff.mp n).2 t)
end
mutual
theorem lay_nd : ∀ (d : PyData), d.canLay0 = true → d.hasDict = false
  | .none, _ => rfl
  | .bool _, _ => rfl
  | .int _, _ => rfl
  | .str _, _ => rfl
  | .list ds, h => lay_ndAll ds h
  | .tuple ds, h => lay_ndAll ds h
  | .dict _, h => by cases h
theorem lay_ndAll : ∀ (ds : List PyData), PyData.canLayAll0 ds = true → PyData.hasDictAll ds = false
  | [], _ => rfl
  | d :: ds, h => by
    have h' : (PyData.canLay0 d && PyData.canLayAll0 ds) = true := h
    rw [Bool.and_eq_true] at h'
    exact Bool.or_eq_false_iff.mpr ⟨lay_nd d h'.1, lay_ndAll ds h'.2⟩
end
theorem shp_nd {d : PyData} (h : SeqAt.shaped d = true) : d.hasDict = false := by
  have h' : (d.canLay0 && decide (d.depth ≤ 64)) = true := h
  rw [Bool.and_eq_true] at h'
  exact lay_nd d h'.1
theorem daAll_len : ∀ {xs : List V} {ds : List PyData}, DaAll K H xs ds → xs.length = ds.length
  | _, _, .nil => rfl
  | _, _, .cons _ t => congrArg (· + 1) (daAll_len t)
theorem daAll_get : ∀ {xs : List V} {ds : List PyData}, DaAll K H xs ds → ∀ {i : Nat} {d : PyData}, ds[i]? = some d → ∃ x, xs[i]? = some x ∧ Da K H x d
  | _, _, .nil, i, d, h => by simp at h
  | _, _, .cons h t, 0, d, e => by cases e; exact ⟨_, rfl, h⟩
  | _, _, .cons h t, i + 1, d, e => daAll_get t (i := i) e
theorem daAll_append : ∀ {xs ys : List V} {ds es : List PyData}, DaAll K H xs ds → DaAll K H ys es → DaAll K H (xs ++ ys) (ds ++ es)
  | _, _, _, _, .nil, t => t
  | _, _, _, _, .cons h r, t => .cons h (daAll_append r t)
theorem daAll_drop : ∀ {xs : List V} {ds : List PyData}, DaAll K H xs ds → ∀ i : Nat, DaAll K H (xs.drop i) (ds.drop i)
  | _, _, t, 0 => t
  | _, _, .nil, i + 1 => .nil
  | _, _, .cons _ r, i + 1 => daAll_drop r i
theorem daAll_take : ∀ {xs : List V} {ds : List PyData}, DaAll K H xs ds → ∀ i : Nat, DaAll K H (xs.take i) (ds.take i)
  | _, _, _, 0 => by rw [List.take_zero, List.take_zero]; exact .nil
  | _, _, .nil, i + 1 => .nil
  | _, _, .cons h r, i + 1 => .cons h (daAll_take r i)
theorem daAll_set {v : V} {d : PyData} (z : Da K H v d) : ∀ {xs : List V} {ds : List PyData}, DaAll K H xs ds → ∀ i : Nat, DaAll K H (xs.set i v) (ds.set i d)
  | _, _, .nil, i => .nil
  | _, _, .cons _ r, 0 => .cons z r
  | _, _, .cons h r, i + 1 => .cons h (daAll_set z r i)
end
/-- no tuple, and not locked -/
def NT : HO → Prop
  | .tup _ => False
  | .frz _ _ => False
  | _ => True
theorem off_P {S : Addr → Prop} {a : Addr} {H : Hp} {xs : List V} (hS : ∀ b, S b → ∃ o, H b = some o ∧ NT o) (h : TP H a xs) : TP (off S H) a xs := by
  obtain ⟨o, h, d⟩ := h
  refine ⟨o, (off_ne fun z => ?_).trans h, d⟩
  obtain ⟨ys, e, n⟩ := hS a z
  rw [h] at e
  cases e
  exact n
theorem TP.off {S : Addr → Prop} {a : Addr} {H : Hp} {xs : List V} (h : TP (off S H) a xs) : TP H a xs := let ⟨o, e, d⟩ := h; ⟨o, off_sub S H _ _ e, d⟩
inductive It1 where
  | dat (d : PyData)
  | own (ds : List PyData)
inductive Wv where
  | dat (d : PyData)
  | own (xs : List It1)
  | exc (C : Addr) (f : Str) (d : PyData)
  /-- a dict of numbers, each True -/
  | dct (ks : List Int)
  /-- a dict of numbers, its values numbers too -/
  | dci (kvs : List (Int × Int))
  /-- a dict of tuples of numbers, its values numbers -/
  | dtk (kvs : List (List Int × Int))
  /-- a dict of tuples of numbers, its values True -/
  | dts (ks : List (List Int))
  /-- data that stands at a known value -/
  | pin (u : V) (d : PyData)
  /-- a dict of nested keys, its values numbers: one's own -/
  | dtn (kvs : List (NestedKey × Int))
  /-- the same, read only -/
  | nd (kvs : List (NestedKey × Int))
  /-- a dict of nested keys, its values any data: one's own -/
  | dtd (kvs : List (NestedKey × PyData))
  /-- the same, read only -/
  | ndd (kvs : List (NestedKey × PyData))
  /-- a dict of numbers, its values numbers, that nobody writes any more -/
  | lkd (kvs : List (Int × Int))
  /-- an object of the class at C whose fields states and entries are lists of its own, of data -/
  | lin (C : Addr) (ss es : List PyData)
abbrev En := List (Option Wv)
def un (B : Addr → Prop) (l : List Addr) : Addr → Prop := fun b => B b ∨ b ∈ l
/-- all but what stands at l is kept -/
def Fr (l : List Addr) (H H' : Hp) : Prop := ∀ b o, b ∉ l → H b = some o → H' b = some o
def kvT (ks : List Int) : List (L2.Key × V) := ks.map fun k => (Sum.inl k, V.bl true)
/-- the dict of nested keys at p -/
def NdR (G : Hp) (p : Addr) (kvs : List (NestedKey × Int)) : Prop := ∃ o xs, G p = some (objO p o) ∧ NOb p o xs ∧ NX G xs kvs ∧ (kvs.map (·.1)).Nodup
theorem NdR.same {G G' : Hp} (s : Same G G') {p : Addr} {kvs : List (NestedKey × Int)} (h : NdR G p kvs) : NdR G' p kvs := by
  obtain ⟨o, xs, h1, h2, h3, h4⟩ := h
  exact ⟨o, xs, s _ _ h1, h2, h3.keep fun b xs e => e.same s, h4⟩
/-- values that are data -/
def DVs (K : PySem.W.Frag) (G : Hp) : List (NestedKey × V) → List (NestedKey × PyData) → Prop
  | [], [] => True
  | a :: as, b :: bs => (a.1 = b.1 ∧ Da K G a.2 b.2) ∧ DVs K G as bs
  | _, _ => False
theorem DVs.same {K : PySem.W.Frag} {G G' : Hp} (s : Same G G') : ∀ {us : List (NestedKey × V)} {kvs : List (NestedKey × PyData)}, DVs K G us kvs → DVs K G' us kvs
  | [], [], _ => trivial
  | _ :: _, b :: _, ⟨⟨e, d⟩, r⟩ => ⟨⟨e, Da.same s b.2 d⟩, DVs.same s r⟩
  | [], _ :: _, h => h.elim
  | _ :: _, [], h => h.elim
def NdD (K : PySem.W.Frag) (G : Hp) (p : Addr) (kvs : List (NestedKey × PyData)) : Prop := ∃ o xs us, G p = some (objO p o) ∧ NOb p o xs ∧ DX G xs us ∧ DVs K G us kvs ∧ (us.map (·.1)).Nodup
theorem NdD.same {K : PySem.W.Frag} {G G' : Hp} (s : Same G G') {p : Addr} {kvs : List (NestedKey × PyData)} (h : NdD K G p kvs) : NdD K G' p kvs := by
  obtain ⟨o, xs, us, h1, h2, h3, h4, h5⟩ := h
  exact ⟨o, xs, us, s _ _ h1, h2, h3.keep fun b xs e => e.same s, h4.same s, h5⟩
def linF (a b : Addr) : List (Str × V) := [("states", V.ref a), ("entries", V.ref b)]
/-- what is known of the class -/
structure LinC (K : PySem.W.Frag) (C : Addr) : Prop where
  cls : Cls K C
  ns : NoAttr K C "states"
  ne : NoAttr K C "entries"
section
variable {K : PySem.W.Frag}
def Rp1 (K : PySem.W.Frag) (H G : Hp) (v : V) (x : It1) (l : List Addr) : Prop :=
  match x with
  | .dat d => l = [] ∧ Da K G v d
  | .own ds => ∃ q us, v = .ref q ∧ l = [q] ∧ H q = some (.lst us) ∧ DaAll K G us ds
def Rp1s (K : PySem.W.Frag) (H G : Hp) : List V → List It1 → List Addr → Prop
  | [], [], l => l = []
  | v :: vs, x :: xs, l => ∃ a b, l = a ++ b ∧ Rp1 K H G v x a ∧ Rp1s K H G vs xs b
  | _, _, _ => False
def RpW (K : PySem.W.Frag) (H G : Hp) (v : V) (w : Wv) (l : List Addr) : Prop :=
  match w with
  | .dat d => l = [] ∧ Da K G v d
  | .own xs => ∃ p vs b, v = .ref p ∧ l = p :: b ∧ H p = some (.lst vs) ∧ Rp1s K H G vs xs b
  | .exc C f d => l = [] ∧ ∃ a u, v = .ref a ∧ CauF K G a C f u ∧ (f ≠ "" → Da K G u d)
  | .dct ks => ∃ p, v = .ref p ∧ l = [p] ∧ H p = some (.dK (kvT ks))
  | .dci kvs => ∃ p, v = .ref p ∧ l = [p] ∧ H p = some (.dK (kvI kvs))
  | .dtk kvs => ∃ p, v = .ref p ∧ l = [p] ∧ H p = some (.dT (kvK kvs))
  | .dts ks => ∃ p, v = .ref p ∧ l = [p] ∧ H p = some (.dT (kvS ks))
  | .pin u d => l = [] ∧ v = u ∧ Da K G v d
  | .dtn kvs => ∃ p o xs, v = .ref p ∧ l = [p] ∧ H p = some (objO p o) ∧ NOb p o xs ∧ NX G xs kvs ∧ (kvs.map (·.1)).Nodup
  | .nd kvs => l = [] ∧ ∃ p, v = .ref p ∧ NdR G p kvs
  | .dtd kvs => ∃ p o xs us, v = .ref p ∧ l = [p] ∧ H p = some (objO p o) ∧ NOb p o xs ∧ DX G xs us ∧ DVs K G us kvs ∧ (us.map (·.1)).Nodup
  | .ndd kvs => l = [] ∧ ∃ p, v = .ref p ∧ NdD K G p kvs
  | .lkd kvs => l = [] ∧ ∃ p od, v = .ref p ∧ G p = some (.frz od (.dK (kvI kvs)))
  | .lin C ss es => LinC K C ∧ ∃ p dx a b vs ws, v = .ref p ∧ l = [a, b] ∧ G p = some (.ins C dx (linF a b)) ∧ H a = some (.lst vs) ∧ DaAll K G vs ss ∧ H b = some (.lst ws) ∧ DaAll K G ws es
def RpS (K : PySem.W.Frag) (H G : Hp) (s : Option V) (e : Option Wv) (l : List Addr) : Prop :=
  match e with
  | none => l = []
  | some w => ∃ v, s = some v ∧ RpW K H G v w l
def RpE (K : PySem.W.Frag) (H G : Hp) : St → En → List Addr → Prop
  | [], [], l => l = []
  | s :: σ, e :: env, l => ∃ a b, l = a ++ b ∧ RpS K H G s e a ∧ RpE K H G σ env b
  | _, _, _ => False
variable {H H' G G' : Hp}
theorem Rp1.mv (s : Same G G') {v : V} {x : It1} {l : List Addr} (k : ∀ q ∈ l, H' q = H q) (h : Rp1 K H G v x l) : Rp1 K H' G' v x l := by
  cases x with
  | dat d => exact ⟨h.1, Da.same s d h.2⟩
  | own ds =>
    obtain ⟨q, us, e1, e2, e3, e4⟩ := h
    exact ⟨q, us, e1, e2, (k q (by rw [e2]; exact List.mem_cons_self ..)).trans e3, DaAll.same s ds e4⟩
theorem Rp1s.mv (s : Same G G') : ∀ {vs : List V} {xs : List It1} {l : List Addr}, (∀ q ∈ l, H' q = H q) → Rp1s K H G vs xs l → Rp1s K H' G' vs xs l
  | [], [], l, _, h => h
  | v :: vs, x :: xs, l, k, ⟨a, b, e, h1, h2⟩ => ⟨a, b, e, h1.mv s fun q z => k q (by rw [e]; exact List.mem_append_left _ z), Rp1s.mv s (fun q z => k q (by rw [e]; exact List.mem_append_right _ z)) h2⟩
theorem RpW.mv (s : Same G G') {v : V} {w : Wv} {l : List Addr} (k : ∀ q ∈ l, H' q = H q) (h : RpW K H G v w l) : RpW K H' G' v w l := by
  cases w with
  | dat d => exact ⟨h.1, Da.same s d h.2⟩
  | own xs =>
    obtain ⟨p, vs, b, e1, e2, e3, e4⟩ := h
    exact ⟨p, vs, b, e1, e2, (k p (by rw [e2]; exact List.mem_cons_self ..)).trans e3, Rp1s.mv s (fun q z => k q (by rw [e2]; exact List.mem_cons_of_mem _ z)) e4⟩
  | exc C f d =>
    obtain ⟨e, a, u, e1, e2, e3⟩ := h
    exact ⟨e, a, u, e1, e2.same s, fun z => Da.same s d (e3 z)⟩
  | dct ks =>
    obtain ⟨p, e1, e2, e3⟩ := h
    exact ⟨p, e1, e2, (k p (by rw [e2]; exact List.mem_cons_self ..)).trans e3⟩
  | dci ks =>
    obtain ⟨p, e1, e2, e3⟩ := h
    exact ⟨p, e1, e2, (k p (by rw [e2]; exact List.mem_cons_self ..)).trans e3⟩
  | dtk ks =>
    obtain ⟨p, e1, e2, e3⟩ := h
    exact ⟨p, e1, e2, (k p (by rw [e2]; exact List.mem_cons_self ..)).trans e3⟩
  | pin u d => exact ⟨h.1, h.2.1, Da.same s d h.2.2⟩
  | nd kvs => obtain ⟨e1, p, e2, e3⟩ := h; exact ⟨e1, p, e2, e3.same s⟩
  | ndd kvs => obtain ⟨e1, p, e2, e3⟩ := h; exact ⟨e1, p, e2, e3.same s⟩
  | dtd kvs =>
    obtain ⟨p, o, xs, us, e1, e2, e3, e4, e5, e6, e7⟩ := h
    exact ⟨p, o, xs, us, e1, e2, (k p (by rw [e2]; exact List.mem_cons_self ..)).trans e3, e4, e5.keep fun b xs e => e.same s, e6.same s, e7⟩
  | lkd kvs => obtain ⟨e1, p, od, e2, e3⟩ := h; exact ⟨e1, p, od, e2, s _ _ e3⟩
  | lin C ss es =>
    obtain ⟨hc, p, dx, a, b, vs, ws, e1, e2, e3, e5, e6, e7, e8⟩ := h
    exact ⟨hc, p, dx, a, b, vs, ws, e1, e2, s _ _ e3, (k a (by rw [e2]; simp)).trans e5, DaAll.same s ss e6, (k b (by rw [e2]; simp)).trans e7, DaAll.same s es e8⟩
  | dtn kvs =>
    obtain ⟨p, o, xs, e1, e2, e3, e4, e5, e6⟩ := h
    exact ⟨p, o, xs, e1, e2, (k p (by rw [e2]; exact List.mem_cons_self ..)).trans e3, e4, e5.keep fun b xs e => e.same s, e6⟩
  | dts ks =>
    obtain ⟨p, e1, e2, e3⟩ := h
    exact ⟨p, e1, e2, (k p (by rw [e2]; exact List.mem_cons_self ..)).trans e3⟩
theorem RpS.mv (s : Same G G') {v : Option V} {e : Option Wv} {l : List Addr} (k : ∀ q ∈ l, H' q = H q) (h : RpS K H G v e l) : RpS K H' G' v e l := by
  cases e with
  | none => exact h
  | some w =>
    obtain ⟨x, e1, e2⟩ := h
    exact ⟨x, e1, e2.mv s k⟩
theorem RpE.mv (s : Same G G') : ∀ {σ : St} {env : En} {l : List Addr}, (∀ q ∈ l, H' q = H q) → RpE K H G σ env l → RpE K H' G' σ env l
  | [], [], l, _, h => h
  | v :: σ, e :: env, l, k, ⟨a, b, z, h1, h2⟩ => ⟨a, b, z, h1.mv s fun q y => k q (by rw [z]; exact List.mem_append_left _ y), RpE.mv s (fun q y => k q (by rw [z]; exact List.mem_append_right _ y)) h2⟩
theorem Rp1.trk {v : V} {x : It1} {l : List Addr} (h : Rp1 K H G v x l) : ∀ q ∈ l, ∃ o, H q = some o ∧ NT o := by
  cases x with
  | dat d => intro q z; rw [h.1] at z; cases z
  | own ds =>
    obtain ⟨p, us, e1, e2, e3, e4⟩ := h
    intro q z
    rw [e2] at z
    cases List.mem_singleton.mp z
    exact ⟨_, e3, trivial⟩
theorem Rp1s.trk : ∀ {vs : List V} {xs : List It1} {l : List Addr}, Rp1s K H G vs xs l → ∀ q ∈ l, ∃ o, H q = some o ∧ NT o
  | [], [], l, h => fun q z => by rw [show l = [] from h] at z; cases z
  | v :: vs, x :: xs, l, ⟨a, b, e, h1, h2⟩ => fun q z => by
    rw [e] at z
    exact (List.mem_append.mp z).elim (h1.trk q) (Rp1s.trk h2 q)
theorem RpW.trk {v : V} {w : Wv} {l : List Addr} (h : RpW K H G v w l) : ∀ q ∈ l, ∃ o, H q = some o ∧ NT o := by
  cases w with
  | dat d => intro q z; rw [h.1] at z; cases z
  | own xs =>
    obtain ⟨p, vs, b, e1, e2, e3, e4⟩ := h
    intro q z
    rw [e2] at z
    rcases List.mem_cons.mp z with z | z
    · cases z; exact ⟨_, e3, trivial⟩
    · exact e4.trk q z
  | exc C f d => intro q z; rw [h.1] at z; cases z
  | dct ks =>
    obtain ⟨p, e1, e2, e3⟩ := h
    intro q z
    rw [e2] at z
    cases List.mem_singleton.mp z
    exact ⟨_, e3, trivial⟩
  | dci ks =>
    obtain ⟨p, e1, e2, e3⟩ := h
    intro q z
    rw [e2] at z
    cases List.mem_singleton.mp z
    exact ⟨_, e3, trivial⟩
  | dtk ks =>
    obtain ⟨p, e1, e2, e3⟩ := h
    intro q z
    rw [e2] at z
    cases List.mem_singleton.mp z
    exact ⟨_, e3, trivial⟩
  | pin u d => intro q z; rw [h.1] at z; cases z
  | nd kvs => intro q z; rw [h.1] at z; cases z
  | ndd kvs => intro q z; rw [h.1] at z; cases z
  | dtd kvs =>
    obtain ⟨p, o, xs, us, e1, e2, e3, _⟩ := h
    intro q z
    rw [e2] at z
    cases List.mem_singleton.mp z
    exact ⟨_, e3, trivial⟩
  | lkd kvs => intro q z; rw [h.1] at z; cases z
  | lin C ss es =>
    obtain ⟨_, p, dx, a, b, vs, ws, e1, e2, e3, e5, e6, e7, e8⟩ := h
    intro q z
    rw [e2] at z
    simp only [List.mem_cons, List.not_mem_nil, or_false] at z
    rcases z with rfl | rfl
    · exact ⟨_, e5, trivial⟩
    · exact ⟨_, e7, trivial⟩
  | dtn kvs =>
    obtain ⟨p, o, xs, e1, e2, e3, _⟩ := h
    intro q z
    rw [e2] at z
    cases List.mem_singleton.mp z
    exact ⟨_, e3, trivial⟩
  | dts ks =>
    obtain ⟨p, e1, e2, e3⟩ := h
    intro q z
    rw [e2] at z
    cases List.mem_singleton.mp z
    exact ⟨_, e3, trivial⟩
theorem RpE.trk : ∀ {σ : St} {env : En} {l : List Addr}, RpE K H G σ env l → ∀ q ∈ l, ∃ o, H q = some o ∧ NT o
  | [], [], l, h => fun q z => by rw [show l = [] from h] at z; cases z
  | s :: σ, e :: env, l, ⟨a, b, z, h1, h2⟩ => fun q y => by
    rw [z] at y
    refine (List.mem_append.mp y).elim (fun y => ?_) (RpE.trk h2 q)
    cases e with
    | none => rw [show a = [] from h1] at y; cases y
    | some w => obtain ⟨v, _, h1⟩ := h1; exact h1.trk q y
/-- one slot, and what may come in its place -/
theorem RpE.focus : ∀ {σ : St} {env : En} {l : List Addr} {i : Nat} {e : Option Wv}, RpE K H G σ env l → env[i]? = some e → ∃ s a lx ly, σ[i]? = some s ∧ l = lx ++ (a ++ ly) ∧ RpS K H G s e a ∧
    ∀ {H' G' : Hp} {s' : Option V} {e' : Option Wv} {a' : List Addr}, Same G G' → (∀ q ∈ lx, H' q = H q) → (∀ q ∈ ly, H' q = H q) → RpS K H' G' s' e' a' → RpE K H' G' (σ.set i s') (env.set i e') (lx ++ (a' ++ ly))
  | [], [], l, i, e, h, q => by simp at q
  | s :: σ, e :: env, l, 0, _, ⟨a, b, z, h1, h2⟩, q => by
    cases q
    refine ⟨s, a, [], b, rfl, z, h1, fun {H' G' s' e' a'} sg kx ky h' => ⟨a', b, rfl, h', h2.mv sg ky⟩⟩
  | s :: σ, e :: env, l, i + 1, e0, ⟨a, b, z, h1, h2⟩, q => by
    obtain ⟨s0, a0, lx, ly, q1, q2, q3, q4⟩ := RpE.focus (i := i) (e := e0) h2 q
    refine ⟨s0, a0, a ++ lx, ly, q1, by rw [z, q2, List.append_assoc], q3, fun {H' G' s' e' a'} sg kx ky h' => ?_⟩
    refine ⟨a, lx ++ (a' ++ ly), by rw [List.append_assoc], h1.mv sg fun q y => kx q (List.mem_append_left _ y), q4 sg (fun q y => kx q (List.mem_append_right _ y)) ky h'⟩
theorem RpE.len : ∀ {σ : St} {env : En} {l : List Addr}, RpE K H G σ env l → σ.length = env.length
  | [], [], _, _ => rfl
  | _ :: _, _ :: _, _, ⟨_, _, _, _, h⟩ => congrArg (· + 1) (RpE.len h)
end
/-- the slots hold what env says, the lists owned standing at l, beside the lists B of others -/
structure Rep (K : PySem.W.Frag) (B : Addr → Prop) (σ : St) (H : Hp) (env : En) (l : List Addr) : Prop where
  rp : RpE K H (off (un B l) H) σ env l
  nd : l.Nodup
  out : ∀ b ∈ l, ¬ B b
  tb : ∀ b, B b → ∃ o, H b = some o ∧ NT o
section
variable {K : PySem.W.Frag} {B B' : Addr → Prop} {σ : St} {H H' H1 H2 : Hp} {env : En} {l l' : List Addr}
theorem off_mono {S S' : Addr → Prop} {H H' : Hp} (hS : ∀ b, S' b → ¬ S b → H b = none) (s : ∀ b o, ¬ S b → H b = some o → H' b = some o) : Same (off S H) (off S' H') := fun b o h => by
  obtain ⟨n, e⟩ := off_at h
  rw [off_ne fun z => by rw [hS b z n] at e; cases e]
  exact s b o n e
theorem Fr.refl (l : List Addr) (H : Hp) : Fr l H H := fun _ _ _ h => h
theorem Fr.of {l : List Addr} (s : Same H H') : Fr l H H' := fun b o _ h => s b o h
theorem Fr.trans (a : Fr l H H1) (b : Fr l H1 H2) : Fr l H H2 := fun c o n h => b c o n (a c o n h)
theorem Fr.keep (f : Fr l H H') : Same (off (un B l) H) (off (un B l) H') := off_mono (fun b z n => absurd z n) fun b o n h => f b o (fun z => n (.inr z)) h
theorem Rep.tl (r : Rep K B σ H env l) : ∀ b, un B l b → ∃ o, H b = some o ∧ NT o := fun b z => z.elim (r.tb b) fun z => r.rp.trk b z
theorem Rep.fresh (r : Rep K B σ H env l) {p : Addr} (h : H p = none) : ¬ un B l p := fun z => by
  obtain ⟨o, e, _⟩ := r.tl p z
  rw [h] at e
  cases e
/-- the heap grows; more lists may stand beside -/
theorem Rep.grow (r : Rep K B σ H env l) (s : Same H H') (h1 : ∀ b, B b → B' b) (h2 : ∀ b, B' b → B b ∨ H b = none) (h3 : ∀ b, B' b → ∃ o, H' b = some o ∧ NT o) : Rep K B' σ H' env l := by
  have t := r.rp.trk
  refine ⟨r.rp.mv ?_ fun q z => ?_, r.nd, fun b z y => (h2 b y).elim (r.out b z) fun e => r.fresh e (.inr z), h3⟩
  · exact off_mono (fun b z n => z.elim (fun z => (h2 b z).elim (fun z => absurd (.inl z) n) id) fun z => absurd (.inr z) n) fun b o n h => s b o h
  · obtain ⟨us, e, _⟩ := t q z
    rw [e, s _ _ e]
theorem Rep.same (r : Rep K B σ H env l) (s : Same H H') : Rep K B σ H' env l := r.grow s (fun _ z => z) (fun _ z => .inl z) fun b z => by
  obtain ⟨o, e, n⟩ := r.tb b z
  exact ⟨o, s _ _ e, n⟩
/-- fewer lists beside -/
theorem Rep.less (r : Rep K B' σ H env l) (h : ∀ b, B b → B' b) : Rep K B σ H env l :=
  ⟨r.rp.mv (off_mono (fun b z n => absurd (z.elim (fun z => .inl (h b z)) .inr) n) fun b o n e => e) fun _ _ => rfl, r.nd, fun b z y => r.out b z (h b y), fun b z => r.tb b (h b z)⟩
theorem Rep.len (r : Rep K B σ H env l) : σ.length = env.length := r.rp.len
end
/-! results -/
inductive R where
  | dat (d : PyData)
  | slot (i : Nat)
  | exc (C : Addr) (f : Str) (d : PyData)
def RpR (K : PySem.W.Frag) (G : Hp) (σ : St) (v : V) (r : R) : Prop :=
  match r with
  | .dat d => Da K G v d
  | .slot i => σ[i]? = some (some v)
  | .exc C f d => ∃ a u, v = .ref a ∧ CauF K G a C f u ∧ (f ≠ "" → Da K G u d)
theorem RpR.mv {K : PySem.W.Frag} {G G' : Hp} {σ : St} {v : V} {r : R} (s : Same G G') (h : RpR K G σ v r) : RpR K G' σ v r := by
  cases r with
  | dat d => exact Da.same s d h
  | slot i => exact h
  | exc C f d =>
    obtain ⟨a, u, e1, e2, e3⟩ := h
    exact ⟨a, u, e1, e2.same s, fun z => Da.same s d (e3 z)⟩
inductive Rs (α : Type) where
  | ok (a : α) (env : En)
  | ex (C : Addr) (f : Str) (d : PyData)
def M (α : Type) := En → Option (Rs α)
def M.bind {α β : Type} (x : M α) (f : α → M β) : M β := fun env =>
  match x env with
  | none => none
  | some (.ok a e) => f a e
  | some (.ex C g d) => some (.ex C g d)
def M.pure {α : Type} (a : α) : M α := fun env => some (.ok a env)
instance : Monad M where
  pure := M.pure
  bind := M.bind
def lift {α : Type} (o : Option α) : M α := fun env => o.map fun a => .ok a env
def itds : List It1 → Option (List PyData)
  | [] => some []
  | .dat d :: r => (itds r).map (d :: ·)
  | .own _ :: _ => none
/-- a list of data as a list owned -/
def dats (ds : List PyData) : List It1 := ds.map .dat
theorem itds_dats (ds : List PyData) : itds (dats ds) = some ds := by
  induction ds with
  | nil => rfl
  | cons d r ih => show (itds (dats r)).map (d :: ·) = _; rw [ih]; rfl
theorem itds_eq : ∀ {xs : List It1} {ds : List PyData}, itds xs = some ds → xs = dats ds
  | [], ds, h => by cases h; rfl
  | .dat d :: r, ds, h => by
    obtain ⟨q, e1, e2⟩ := Option.map_eq_some_iff.mp (show (itds r).map (d :: ·) = some ds from h)
    subst e2
    rw [itds_eq e1]
    rfl
  | .own _ :: _, ds, h => by cases h
/-- the data of a result, as it stands -/
def vw (r : R) : M PyData := fun env =>
  match r with
  | .dat d => some (.ok d env)
  | .slot i =>
    match env[i]? with
    | some (some (.own xs)) => (itds xs).map fun ds => .ok (.list ds) env
    | _ => none
  | .exc _ _ _ => none
/-- data to be read: the outermost list may be one that is owned -/
def Vw (K : PySem.W.Frag) (S : Addr → Prop) (H : Hp) (v : V) (d : PyData) : Prop :=
  Da K (off S H) v d ∨ ∃ p vs ds, v = .ref p ∧ d = .list ds ∧ H p = some (.lst vs) ∧ DaAll K (off S H) vs ds
theorem rp1s_dats {K : PySem.W.Frag} {H G : Hp} : ∀ {vs : List V} {ds : List PyData} {l : List Addr}, Rp1s K H G vs (dats ds) l → l = [] ∧ DaAll K G vs ds
  | [], [], l, h => ⟨h, .nil⟩
  | v :: vs, d :: ds, l, ⟨a, b, e, h1, h2⟩ => by
    obtain ⟨e2, h3⟩ := rp1s_dats h2
    exact ⟨by rw [e, h1.1, e2]; rfl, .cons h1.2 h3⟩
  | [], _ :: _, _, h => h.elim
  | _ :: _, [], _, h => h.elim
theorem rp1s_of {K : PySem.W.Frag} {H G : Hp} : ∀ {vs : List V} {ds : List PyData}, DaAll K G vs ds → Rp1s K H G vs (dats ds) []
  | _, _, .nil => rfl
  | _, _, .cons h t => ⟨[], [], rfl, ⟨rfl, h⟩, rp1s_of t⟩
theorem vw_ok {K : PySem.W.Frag} {B : Addr → Prop} {σ : St} {H : Hp} {env env' : En} {l : List Addr} {v : V} {r : R} {d : PyData} (h : Rep K B σ H env l) (q : RpR K (off (un B l) H) σ v r) (e : vw r env = some (.ok d env')) : env' = env ∧ Vw K (un B l) H v d := by
  cases r with
  | dat d' => cases e; exact ⟨rfl, .inl q⟩
  | exc _ _ _ => cases e
  | slot i =>
    unfold vw at e
    simp only at e
    split at e
    · rename_i xs hx
      obtain ⟨ds, e1, e2⟩ := Option.map_eq_some_iff.mp e
      cases e2
      have hx2 := itds_eq e1
      subst hx2
      obtain ⟨s, a, lx, ly, q1, q2, ⟨v', q3, p, vs, b, q4, q5, q6, q7⟩, _⟩ := h.rp.focus hx
      rw [show σ[i]? = some (some v) from q] at q1
      cases q1
      cases q3
      exact ⟨rfl, .inr ⟨p, vs, ds, q4, rfl, q6, (rp1s_dats q7).2⟩⟩
    · cases e
theorem vw_noex {r : R} {env : En} {C : Addr} {f : Str} {d : PyData} : vw r env ≠ some (.ex C f d) := by
  unfold vw
  intro e
  split at e
  · cases e
  · split at e
    · obtain ⟨_, _, e2⟩ := Option.map_eq_some_iff.mp e
      cases e2
    · cases e
  · cases e
end Ov
set_option Elab.async false
set_option linter.all false
set_option maxRecDepth 100000
set_option maxHeartbeats 4000000
namespace Ov
open PySem L2
/-! readings held against plain functions: expressions -/
def Exn (K : PySem.W.Frag) (E : XK) (B : Addr → Prop) (H : Hp) (l : List Addr) (C : Addr) (f : Str) (d : PyData) : Prop :=
  (f ≠ "" → ∀ dx H' v, Fr l H H' → ¬ B dx → H' dx = some (.xd [(f, v)]) → Da K (off B H') v d → E (.ref C) (some dx) H') ∧ (f = "" → ∀ H', Fr l H H' → E (.ref C) none H')
theorem Exn.later {K : PySem.W.Frag} {E : XK} {B : Addr → Prop} {H H1 : Hp} {l : List Addr} {C : Addr} {f : Str} {d : PyData} (x : Exn K E B H l C f d) (s : Fr l H H1) : Exn K E B H1 l C f d :=
  ⟨fun hf dx H' v fr n h q => x.1 hf dx H' v (s.trans fr) n h q, fun hf H' fr => x.2 hf H' (s.trans fr)⟩
theorem Exn.wide {K : PySem.W.Frag} {E : XK} {B : Addr → Prop} {H : Hp} {l l1 : List Addr} {C : Addr} {f : Str} {d : PyData} (x : Exn K E B H l C f d) : Exn K E (un B l1) H l C f d :=
  ⟨fun hf dx H' v fr n hh q => x.1 hf dx H' v fr (fun z => n (.inl z)) hh (Da.same (off_mono (fun b z n => absurd (.inl z) n) fun b o n e => e) d q), x.2⟩
def PostE (K : PySem.W.Frag) (E : XK) (B : Addr → Prop) (σ : St) (H : Hp) (l : List Addr) (rs : Rs R) (Q : VK) : Prop :=
  match rs with
  | .ok r env' => ∀ v H', Rep K B σ H' env' l → Fr l H H' → RpR K (off (un B l) H') σ v r → Q v H'
  | .ex C f d => Exn K E B H l C f d
def PostT (K : PySem.W.Frag) (E : XK) (B : Addr → Prop) (σ : St) (H : Hp) (l : List Addr) (rs : Rs Bool) (Q : Bool → Hp → Prop) : Prop :=
  match rs with
  | .ok b env' => ∀ H', Rep K B σ H' env' l → Fr l H H' → Q b H'
  | .ex C f d => Exn K E B H l C f d
def RpRs (K : PySem.W.Frag) (G : Hp) (σ : St) : List V → List R → Prop
  | [], [] => True
  | v :: vs, r :: rs => RpR K G σ v r ∧ RpRs K G σ vs rs
  | _, _ => False
theorem RpRs.mv {K : PySem.W.Frag} {G G' : Hp} {σ : St} (s : Same G G') : ∀ {vs : List V} {rs : List R}, RpRs K G σ vs rs → RpRs K G' σ vs rs
  | [], [], _ => trivial
  | _ :: _, _ :: _, h => ⟨h.1.mv s, h.2.mv s⟩
def PostA (K : PySem.W.Frag) (E : XK) (B : Addr → Prop) (σ : St) (H : Hp) (l : List Addr) (rs : Rs (List R)) (Q : List V → Hp → Prop) : Prop :=
  match rs with
  | .ok r env' => ∀ vs H', Rep K B σ H' env' l → Fr l H H' → RpRs K (off (un B l) H') σ vs r → Q vs H'
  | .ex C f d => Exn K E B H l C f d
structure OkE (K : PySem.W.Frag) (E : XK) (t : TE) (f : M R) : Prop where
  run : ∀ {B : Addr → Prop} {σ : St} {H : Hp} {env : En} {l : List Addr} {rs : Rs R}, Rep K B σ H env l → f env = some rs → ∀ {Q : VK}, PostE K E B σ H l rs Q → t σ H Q
structure OkT (K : PySem.W.Frag) (E : XK) (t : TT) (f : M Bool) : Prop where
  run : ∀ {B : Addr → Prop} {σ : St} {H : Hp} {env : En} {l : List Addr} {rs : Rs Bool}, Rep K B σ H env l → f env = some rs → ∀ {Q : Bool → Hp → Prop}, PostT K E B σ H l rs Q → t σ H Q
structure OkA (K : PySem.W.Frag) (E : XK) (t : TA) (f : M (List R)) : Prop where
  run : ∀ {B : Addr → Prop} {σ : St} {H : Hp} {env : En} {l : List Addr} {rs : Rs (List R)}, Rep K B σ H env l → f env = some rs → ∀ {Q : List V → Hp → Prop}, PostA K E B σ H l rs Q → t σ H Q
theorem bind_some {α β : Type} {x : M α} {f : α → M β} {env : En} {rs : Rs β} (h : (M.bind x f) env = some rs) : (∃ a e, x env = some (.ok a e) ∧ f a e = some rs) ∨ ∃ C g d, x env = some (.ex C g d) ∧ rs = .ex C g d := by
  unfold M.bind at h
  split at h
  · cases h
  · exact .inl ⟨_, _, by assumption, h⟩
  · cases h
    exact .inr ⟨_, _, _, by assumption, rfl⟩
theorem lift_some {α : Type} {o : Option α} {env : En} {rs : Rs α} (h : lift o env = some rs) : ∃ a, o = some a ∧ rs = .ok a env := by
  obtain ⟨a, e1, e2⟩ := Option.map_eq_some_iff.mp h
  exact ⟨a, e1, e2.symm⟩
section
variable {K : PySem.W.Frag} {E : XK}
/-- take the first step of a bind: its exception is passed on -/
theorem OkE.seq {α : Type} {ta : TE} {fa : M R} {g : R → M α} (oa : OkE K E ta fa) {B : Addr → Prop} {σ : St} {H : Hp} {env : En} {l : List Addr} {rs : Rs α} (r : Rep K B σ H env l) (h : (M.bind fa g) env = some rs) {Q : VK}
    (hx : ∀ C f d, rs = .ex C f d → Exn K E B H l C f d) (hq : ∀ a e v H', g a e = some rs → Rep K B σ H' e l → Fr l H H' → RpR K (off (un B l) H') σ v a → Q v H') : ta σ H Q := by
  rcases bind_some h with ⟨a, e, h1, h2⟩ | ⟨C, f, d, h1, h2⟩
  · exact oa.run r h1 (fun v H' r' fr q => hq a e v H' h2 r' fr q)
  · exact oa.run r h1 (hx C f d h2)
theorem OkA.seq {α : Type} {ta : TA} {fa : M (List R)} {g : List R → M α} (oa : OkA K E ta fa) {B : Addr → Prop} {σ : St} {H : Hp} {env : En} {l : List Addr} {rs : Rs α} (r : Rep K B σ H env l) (h : (M.bind fa g) env = some rs) {Q : List V → Hp → Prop}
    (hx : ∀ C f d, rs = .ex C f d → Exn K E B H l C f d) (hq : ∀ a e v H', g a e = some rs → Rep K B σ H' e l → Fr l H H' → RpRs K (off (un B l) H') σ v a → Q v H') : ta σ H Q := by
  rcases bind_some h with ⟨a, e, h1, h2⟩ | ⟨C, f, d, h1, h2⟩
  · exact oa.run r h1 (fun v H' r' fr q => hq a e v H' h2 r' fr q)
  · exact oa.run r h1 (hx C f d h2)
theorem OkT.seq {α : Type} {ta : TT} {fa : M Bool} {g : Bool → M α} (oa : OkT K E ta fa) {B : Addr → Prop} {σ : St} {H : Hp} {env : En} {l : List Addr} {rs : Rs α} (r : Rep K B σ H env l) (h : (M.bind fa g) env = some rs) {Q : Bool → Hp → Prop}
    (hx : ∀ C f d, rs = .ex C f d → Exn K E B H l C f d) (hq : ∀ a e H', g a e = some rs → Rep K B σ H' e l → Fr l H H' → Q a H') : ta σ H Q := by
  rcases bind_some h with ⟨a, e, h1, h2⟩ | ⟨C, f, d, h1, h2⟩
  · exact oa.run r h1 (fun H' r' fr => hq a e H' h2 r' fr)
  · exact oa.run r h1 (hx C f d h2)
theorem PostE.exn {B : Addr → Prop} {σ : St} {H : Hp} {l : List Addr} {rs : Rs R} {Q : VK} (h : PostE K E B σ H l rs Q) : ∀ C f d, rs = .ex C f d → Exn K E B H l C f d := fun C f d e => by subst e; exact h
theorem PostT.exn {B : Addr → Prop} {σ : St} {H : Hp} {l : List Addr} {rs : Rs Bool} {Q : Bool → Hp → Prop} (h : PostT K E B σ H l rs Q) : ∀ C f d, rs = .ex C f d → Exn K E B H l C f d := fun C f d e => by subst e; exact h
theorem PostA.exn {B : Addr → Prop} {σ : St} {H : Hp} {l : List Addr} {rs : Rs (List R)} {Q : List V → Hp → Prop} (h : PostA K E B σ H l rs Q) : ∀ C f d, rs = .ex C f d → Exn K E B H l C f d := fun C f d e => by subst e; exact h
theorem exn_later {α : Type} {B : Addr → Prop} {H H1 : Hp} {l : List Addr} {rs : Rs α} (h : ∀ C f d, rs = .ex C f d → Exn K E B H l C f d) (s : Fr l H H1) : ∀ C f d, rs = .ex C f d → Exn K E B H1 l C f d := fun C f d e => (h C f d e).later s
theorem PostE.later {B : Addr → Prop} {σ : St} {H H1 : Hp} {l : List Addr} {rs : Rs R} {Q : VK} (h : PostE K E B σ H l rs Q) (s : Fr l H H1) : PostE K E B σ H1 l rs Q := by
  cases rs with
  | ok r env => exact fun v H' r' fr q => h v H' r' (s.trans fr) q
  | ex C f d => exact Exn.later h s
theorem PostT.later {B : Addr → Prop} {σ : St} {H H1 : Hp} {l : List Addr} {rs : Rs Bool} {Q : Bool → Hp → Prop} (h : PostT K E B σ H l rs Q) (s : Fr l H H1) : PostT K E B σ H1 l rs Q := by
  cases rs with
  | ok r env => exact fun H' r' fr => h H' r' (s.trans fr)
  | ex C f d => exact Exn.later h s
/-! names, constants -/
def get (i : Nat) : M R := fun env =>
  match env[i]? with
  | some (some (.dat d)) => some (.ok (.dat d) env)
  | some (some (.own _)) => some (.ok (.slot i) env)
  | some (some (.exc C f d)) => some (.ok (.exc C f d) env)
  | some (some (.dct _)) => some (.ok (.slot i) env)
  | some (some (.lin _ _ _)) => some (.ok (.slot i) env)
  | some (some (.dci _)) => some (.ok (.slot i) env)
  | some (some (.dtk _)) => some (.ok (.slot i) env)
  | some (some (.dts _)) => some (.ok (.slot i) env)
  | some (some (.pin _ d)) => some (.ok (.dat d) env)
  | _ => none
theorem OkE.var (i : Nat) : OkE K E (tVar i) (get i) := by
  refine ⟨?_⟩
  intro B σ H env l rs r h Q post
  unfold get at h
  cases q : env[i]? with
  | none => rw [q] at h; cases h
  | some e =>
    cases e with
    | none => rw [q] at h; cases h
    | some w =>
      rw [q] at h
      obtain ⟨s, a, lx, ly, q1, q2, ⟨v, q3, q4⟩, _⟩ := r.rp.focus q
      subst q3
      refine ⟨v, q1, ?_⟩
      cases w with
      | dat d => cases h; exact post v H r (Fr.refl _ _) q4.2
      | own xs => cases h; exact post v H r (Fr.refl _ _) q1
      | exc C f d => cases h; exact post v H r (Fr.refl _ _) q4.2
      | dct _ => cases h; exact post v H r (Fr.refl _ _) q1
      | lin _ _ _ => cases h; exact post v H r (Fr.refl _ _) q1
      | dci ks => cases h; exact post v H r (Fr.refl _ _) q1
      | dtk ks => cases h; exact post v H r (Fr.refl _ _) q1
      | dts ks => cases h; exact post v H r (Fr.refl _ _) q1
      | pin u d => cases h; exact post v H r (Fr.refl _ _) q4.2.2
      | dtn _ => cases h
      | dtd _ => cases h
      | nd _ => cases h
      | ndd _ => cases h
      | lkd _ => cases h
def con (d : PyData) : M R := M.pure (.dat d)
theorem OkE.con {v : V} {d : PyData} (hd : ∀ H : Hp, Da K H v d) : OkE K E (fun _ H Q => Q v H) (con d) := by
  refine ⟨?_⟩
  intro B σ H env l rs r h Q post
  cases h
  exact post v H r (Fr.refl _ _) (hd _)
/-! operations -/
def OpOk (K : PySem.W.Frag) (r : R2) (fo : PyData → PyData → Option PyData) : Prop := ∀ {S : Addr → Prop} {H : Hp} {x y : V} {a b d : PyData}, (∀ q, S q → ∃ o, H q = some o ∧ NT o) → Vw K S H x a → Vw K S H y b → fo a b = some d →
  ∀ {Q : VK}, (∀ v H', Same H H' → Da K (off S H') v d → Q v H') → r x y H Q
def UnOk (K : PySem.W.Frag) (r : V → Hp → VK → Prop) (fo : PyData → Option PyData) : Prop := ∀ {S : Addr → Prop} {H : Hp} {x : V} {a d : PyData}, (∀ q, S q → ∃ o, H q = some o ∧ NT o) → Vw K S H x a → fo a = some d →
  ∀ {Q : VK}, (∀ v H', Same H H' → Da K (off S H') v d → Q v H') → r x H Q
inductive VwAll (K : PySem.W.Frag) (S : Addr → Prop) (H : Hp) : List V → List PyData → Prop
  | nil : VwAll K S H [] []
  | cons {v : V} {vs : List V} {d : PyData} {ds : List PyData} : Vw K S H v d → VwAll K S H vs ds → VwAll K S H (v :: vs) (d :: ds)
def CbOk (K : PySem.W.Frag) (r : List V → Hp → VK → Prop) (fo : List PyData → Option PyData) : Prop := ∀ {S : Addr → Prop} {H : Hp} {xs : List V} {as : List PyData} {d : PyData}, (∀ q, S q → ∃ o, H q = some o ∧ NT o) → VwAll K S H xs as → fo as = some d →
  ∀ {Q : VK}, (∀ v H', Same H H' → Da K (off S H') v d → Q v H') → r xs H Q
def op2 (fo : PyData → PyData → Option PyData) (fa fb : M R) : M R := M.bind fa fun a => M.bind fb fun b => M.bind (vw a) fun x => M.bind (vw b) fun y => M.bind (lift (fo x y)) fun d => M.pure (.dat d)
def op1 (fo : PyData → Option PyData) (fa : M R) : M R := M.bind fa fun a => M.bind (vw a) fun x => M.bind (lift (fo x)) fun d => M.pure (.dat d)
theorem vw_step {α : Type} {B : Addr → Prop} {σ : St} {H : Hp} {env : En} {l : List Addr} {v : V} {r : R} {g : PyData → M α} {rs : Rs α} (h : Rep K B σ H env l) (q : RpR K (off (un B l) H) σ v r) (e : (M.bind (vw r) g) env = some rs) :
    ∃ d, g d env = some rs ∧ Vw K (un B l) H v d := by
  rcases bind_some e with ⟨a, e1, h1, h2⟩ | ⟨C, f, d, h1, _⟩
  · obtain ⟨rfl, q2⟩ := vw_ok h q h1
    exact ⟨a, h2, q2⟩
  · exact absurd h1 vw_noex
theorem lift_step {α β : Type} {o : Option α} {g : α → M β} {env : En} {rs : Rs β} (e : (M.bind (lift o) g) env = some rs) : ∃ a, o = some a ∧ g a env = some rs := by
  rcases bind_some e with ⟨a, e1, h1, h2⟩ | ⟨C, f, d, h1, _⟩
  · obtain ⟨b, e2, e3⟩ := lift_some h1
    cases e3
    exact ⟨a, e2, h2⟩
  · obtain ⟨b, e2, e3⟩ := lift_some h1
    cases e3
theorem OkE.op {r : R2} {fo : PyData → PyData → Option PyData} {ta tb : TE} {fa fb : M R} (o : OpOk K r fo) (oa : OkE K E ta fa) (ob : OkE K E tb fb) : OkE K E (tOp r ta tb) (op2 fo fa fb) := by
  refine ⟨?_⟩
  intro B σ H env l rs rp h Q post
  refine oa.seq rp h post.exn fun a e v1 H1 h1 r1 f1 q1 => ?_
  refine ob.seq r1 h1 (exn_later post.exn f1) fun b e2 v2 H2 h2 r2 f2 q2 => ?_
  obtain ⟨x, h3, w1⟩ := vw_step r2 (q1.mv f2.keep) h2
  obtain ⟨y, h4, w2⟩ := vw_step r2 q2 h3
  obtain ⟨d, h5, h6⟩ := lift_step h4
  cases h6
  exact o r2.tl w1 w2 h5 fun v H' s q => post v H' (r2.same s) ((f1.trans f2).trans (Fr.of s)) q
theorem OkE.un {r : V → Hp → VK → Prop} {fo : PyData → Option PyData} {ta : TE} {fa : M R} (o : UnOk K r fo) (oa : OkE K E ta fa) : OkE K E (tUn r ta) (op1 fo fa) := by
  refine ⟨?_⟩
  intro B σ H env l rs rp h Q post
  refine oa.seq rp h post.exn fun a e v1 H1 h1 r1 f1 q1 => ?_
  obtain ⟨x, h3, w1⟩ := vw_step r1 q1 h1
  obtain ⟨d, h5, h6⟩ := lift_step h3
  cases h6
  exact o r1.tl w1 h5 fun v H' s q => post v H' (r1.same s) (f1.trans (Fr.of s)) q
/-! arguments -/
def anil : M (List R) := M.pure []
def acons (fa : M R) (fr : M (List R)) : M (List R) := M.bind fa fun a => M.bind fr fun r => M.pure (a :: r)
theorem OkA.nil : OkA K E tNil anil := by
  refine ⟨?_⟩
  intro B σ H env l rs rp h Q post
  cases h
  exact post [] H rp (Fr.refl _ _) trivial
theorem OkA.cons {ta : TE} {tr : TA} {fa : M R} {fr : M (List R)} (oa : OkE K E ta fa) (or : OkA K E tr fr) : OkA K E (tCons ta tr) (acons fa fr) := by
  refine ⟨?_⟩
  intro B σ H env l rs rp h Q post
  refine oa.seq rp h post.exn fun a e v1 H1 h1 r1 f1 q1 => ?_
  refine or.seq r1 h1 (exn_later post.exn f1) fun b e2 v2 H2 h2 r2 f2 q2 => ?_
  cases h2
  exact post (v1 :: v2) H2 r2 (f1.trans f2) ⟨q1.mv f2.keep, q2⟩
def vws : List R → M (List PyData)
  | [] => M.pure []
  | r :: rs => M.bind (vw r) fun d => M.bind (vws rs) fun ds => M.pure (d :: ds)
theorem vws_ok {B : Addr → Prop} {σ : St} {H : Hp} {env : En} {l : List Addr} (h : Rep K B σ H env l) : ∀ {vs : List V} {rs : List R} {α : Type} {g : List PyData → M α} {z : Rs α}, RpRs K (off (un B l) H) σ vs rs → (M.bind (vws rs) g) env = some z → ∃ ds, g ds env = some z ∧ VwAll K (un B l) H vs ds
  | [], [], α, g, z, _, e => ⟨[], e, .nil⟩
  | v :: vs, r :: rs, α, g, z, q, e => by
    have e' : (M.bind (vw r) fun d => M.bind (vws rs) fun ds => g (d :: ds)) env = some z := by
      rw [← e]
      show _ = (M.bind (M.bind (vw r) fun d => M.bind (vws rs) fun ds => M.pure (d :: ds)) g) env
      unfold M.bind
      cases vw r env with
      | none => rfl
      | some a =>
        cases a with
        | ok a e2 =>
          simp only
          cases vws rs e2 with
          | none => rfl
          | some b => cases b <;> rfl
        | ex _ _ _ => rfl
    obtain ⟨d, e2, w⟩ := vw_step h q.1 e'
    obtain ⟨ds, e3, w2⟩ := vws_ok h q.2 e2
    exact ⟨d :: ds, e3, .cons w w2⟩
def cb (fo : List PyData → Option PyData) (fa : M (List R)) : M R := M.bind fa fun a => M.bind (vws a) fun ds => M.bind (lift (fo ds)) fun d => M.pure (.dat d)
theorem OkE.cb {r : List V → Hp → VK → Prop} {fo : List PyData → Option PyData} {t : TA} {fa : M (List R)} (o : CbOk K r fo) (oa : OkA K E t fa) : OkE K E (tCB r t) (Ov.cb fo fa) := by
  refine ⟨?_⟩
  intro B σ H env l rs rp h Q post
  refine oa.seq rp h post.exn fun a e vs H1 h1 r1 f1 q1 => ?_
  obtain ⟨ds, h2, w⟩ := vws_ok r1 q1 h1
  obtain ⟨d, h5, h6⟩ := lift_step h2
  cases h6
  exact o r1.tl w h5 fun v H' s q => post v H' (r1.same s) (f1.trans (Fr.of s)) q
/-! data that a new object holds -/
theorem Vw.da {S : Addr → Prop} {H : Hp} {v : V} {d : PyData} (h : Vw K S H v d) : Da K H v d := by
  rcases h with h | ⟨p, vs, ds, e1, e2, e3, e4⟩
  · exact Da.same (off_sub S H) d h
  · subst e1 e2
    exact .lst (SqL.of e3) (DaAll.same (off_sub S H) ds e4)
/-- results that are data through and through -/
def dds : List R → Option (List PyData)
  | [] => some []
  | .dat d :: r => (dds r).map (d :: ·)
  | _ :: _ => none
theorem dds_ok {G : Hp} {σ : St} : ∀ {vs : List V} {rs : List R} {ds : List PyData}, RpRs K G σ vs rs → dds rs = some ds → DaAll K G vs ds
  | [], [], ds, _, e => by cases e; exact .nil
  | v :: vs, .dat d :: rs, ds, q, e => by
    obtain ⟨x, e1, e2⟩ := Option.map_eq_some_iff.mp (show (dds rs).map (d :: ·) = some ds from e)
    subst e2
    exact .cons q.1 (dds_ok q.2 e1)
  | v :: vs, .slot i :: rs, ds, q, e => by cases e
  | v :: vs, .exc _ _ _ :: rs, ds, q, e => by cases e
theorem new_dp {S : Addr → Prop} {H : Hp} {p : Addr} {vs : List V} {ds : List PyData} (hS : ∀ q, S q → ∃ o, H q = some o ∧ NT o) (hp : H p = none) (h : DaAll K (off S H) vs ds) :
    Da K (off S (upd H p (.lst vs))) (.ref p) (.list ds) ∧ ∀ o : Obj, o.dict = none → Da K (off S (upd H p (.frz o (.tup vs)))) (.ref p) (.tuple ds) := by
  have np : ¬ S p := fun z => by obtain ⟨o, e, _⟩ := hS p z; rw [hp] at e; cases e
  have k : ∀ o, Same (off S H) (off S (upd H p o)) := fun o => off_mono (fun b z n => absurd z n) fun b u n e => by rw [upd_ne (ne_of_none e hp)]; exact e
  exact ⟨.lst (SqL.of ((off_ne np).trans upd_same)) (DaAll.same (k _) ds h), fun o od => .tup ⟨o, (off_ne np).trans upd_same, od⟩ (DaAll.same (k _) ds h)⟩
def sz (n : Nat) : Option Unit := if n ≤ 1000000 then some () else none
theorem sz_ok {n : Nat} {u : Unit} (h : sz n = some u) : n ≤ sizeLine := by
  unfold sz at h
  split at h
  · exact Nat.le_trans (by assumption) (by decide)
  · cases h
def tupD (fa : M (List R)) : M R := M.bind fa fun a => M.bind (lift (dds a)) fun ds => M.bind (lift (sz ds.length)) fun _ => M.pure (.dat (.tuple ds))
def lstD (fa : M (List R)) : M R := M.bind fa fun a => M.bind (lift (dds a)) fun ds => M.bind (lift (sz ds.length)) fun _ => M.pure (.dat (.list ds))
theorem OkE.tup {t : TA} {fa : M (List R)} (oa : OkA K E t fa) : OkE K E (tTupB t) (tupD fa) := by
  refine ⟨?_⟩
  intro B σ H env l rs rp h Q post
  refine oa.seq rp h post.exn fun a e vs H1 h1 r1 f1 q1 => ?_
  obtain ⟨ds, e1, h2⟩ := lift_step h1
  obtain ⟨u, e2, h3⟩ := lift_step h2
  cases h3
  have dp := dds_ok q1 e1
  refine ⟨by rw [daAll_len dp]; exact sz_ok e2, fun p o hp od => ?_⟩
  exact post _ _ (r1.same (same_new hp _)) (f1.trans (Fr.of (same_new hp _))) ((new_dp r1.tl hp dp).2 o od)
theorem OkE.lst {t : TA} {fa : M (List R)} (oa : OkA K E t fa) : OkE K E (tLst t) (lstD fa) := by
  refine ⟨?_⟩
  intro B σ H env l rs rp h Q post
  refine oa.seq rp h post.exn fun a e vs H1 h1 r1 f1 q1 => ?_
  obtain ⟨ds, e1, h2⟩ := lift_step h1
  obtain ⟨u, e2, h3⟩ := lift_step h2
  cases h3
  have dp := dds_ok q1 e1
  refine ⟨by rw [daAll_len dp]; exact sz_ok e2, fun p hp => ?_⟩
  exact post _ _ (r1.same (same_new hp _)) (f1.trans (Fr.of (same_new hp _))) (new_dp r1.tl hp dp).1
/-! truth, and, or, not, if *)-/
def tb1 (fa : M R) : M Bool := M.bind fa fun a => M.bind (vw a) fun d => match d with
  | .bool b => M.pure b
  | _ => fun _ => none
theorem OkT.val {t : TE} {fa : M R} (oa : OkE K E t fa) : OkT K E (tB t) (tb1 fa) := by
  refine ⟨?_⟩
  intro B σ H env l rs rp h Q post
  refine oa.seq rp h post.exn fun a e v1 H1 h1 r1 f1 q1 => ?_
  obtain ⟨d, h2, w⟩ := vw_step r1 q1 h1
  cases d with
  | bool b =>
    cases h2
    have := w.da
    cases this
    exact ⟨b, rfl, post H1 r1 f1⟩
  | none => cases h2
  | int _ => cases h2
  | str _ => cases h2
  | list _ => cases h2
  | tuple _ => cases h2
  | dict _ => cases h2
theorem OkT.test {t : TE} {fa : M R} (oa : OkE K E t fa) : OkT K E (tTest t) (tb1 fa) := OkT.val oa
def andT (fa fb : M Bool) : M Bool := M.bind fa fun a => if a = true then fb else M.pure false
def orT (fa fb : M Bool) : M Bool := M.bind fa fun a => if a = true then M.pure true else fb
def notT (fa : M Bool) : M Bool := M.bind fa fun a => M.pure (!a)
theorem OkT.and {ta tb : TT} {fa fb : M Bool} (oa : OkT K E ta fa) (ob : OkT K E tb fb) : OkT K E (tAnd ta tb) (andT fa fb) := by
  refine ⟨?_⟩
  intro B σ H env l rs rp h Q post
  refine oa.seq rp h post.exn fun a e H1 h1 r1 f1 => ?_
  cases a with
  | true => exact iteT (ob.run r1 (by simpa using h1) (post.later f1))
  | false => refine iteF ?_; simp only [Bool.false_eq_true, if_false] at h1; cases h1; exact post H1 r1 f1
theorem OkT.or {ta tb : TT} {fa fb : M Bool} (oa : OkT K E ta fa) (ob : OkT K E tb fb) : OkT K E (tOr ta tb) (orT fa fb) := by
  refine ⟨?_⟩
  intro B σ H env l rs rp h Q post
  refine oa.seq rp h post.exn fun a e H1 h1 r1 f1 => ?_
  cases a with
  | true => refine iteT ?_; simp only [if_true] at h1; cases h1; exact post H1 r1 f1
  | false => exact iteF (ob.run r1 (by simpa using h1) (post.later f1))
theorem OkT.not {ta : TT} {fa : M Bool} (oa : OkT K E ta fa) : OkT K E (tNot ta) (notT fa) := by
  refine ⟨?_⟩
  intro B σ H env l rs rp h Q post
  refine oa.seq rp h post.exn fun a e H1 h1 r1 f1 => ?_
  cases h1
  exact post H1 r1 f1
def ofB (b : Bool) : R := .dat (.bool b)
def andV (fa fb : M R) : M R := M.bind (tb1 fa) fun a => if a = true then fb else M.pure (ofB false)
def orV (fa fb : M R) : M R := M.bind (tb1 fa) fun a => if a = true then M.pure (ofB true) else fb
def notV (fa : M R) : M R := M.bind (tb1 fa) fun a => M.pure (ofB !a)
theorem OkE.and {ta tb : TE} {fa fb : M R} (oa : OkE K E ta fa) (ob : OkE K E tb fb) : OkE K E (tAndV ta tb) (andV fa fb) := by
  refine ⟨?_⟩
  intro B σ H env l rs rp h Q post
  refine (OkT.val oa).seq rp h post.exn fun a e H1 h1 r1 f1 => ?_
  cases a with
  | true => exact iteT (ob.run r1 (by simpa using h1) (post.later f1))
  | false => refine iteF ?_; simp only [Bool.false_eq_true, if_false] at h1; cases h1; exact post _ H1 r1 f1 (.bl false)
def ifE (ft : M Bool) (fa fb : M R) : M R := M.bind ft fun c => if c = true then fa else fb
def chainE (fo fo' : PyData → PyData → Option PyData) (fa fb fc : M R) : M R := M.bind fa fun a => M.bind fb fun b => M.bind (vw a) fun x => M.bind (vw b) fun y => M.bind (lift (fo x y)) fun d => match d with
  | .bool k => if k = true then M.bind fc fun c => M.bind (vw b) fun y' => M.bind (vw c) fun z => M.bind (lift (fo' y' z)) fun d' => M.pure (.dat d') else M.pure (ofB false)
  | _ => fun _ => none
end
end Ov
set_option Elab.async false
set_option linter.all false
set_option maxRecDepth 100000
set_option maxHeartbeats 4000000
namespace Ov
open PySem L2
/-! operators by data -/
section
variable {K : PySem.W.Frag} {S : Addr → Prop} {H : Hp} {x y : V}
theorem vw_int {i : Int} (h : Vw K S H x (.int i)) : x = .int i := by have := h.da; cases this; rfl
theorem vw_bool {b : Bool} (h : Vw K S H x (.bool b)) : x = .bl b := by have := h.da; cases this; rfl
theorem vw_str {z : Str} (h : Vw K S H x (.str z)) : x = .str z := by have := h.da; cases this; rfl
theorem vw_none (h : Vw K S H x .none) : x = .non := by have := h.da; cases this; rfl
theorem vw_list {ds : List PyData} (h : Vw K S H x (.list ds)) : ∃ p vs, x = .ref p ∧ SqL K H p vs ∧ DaAll K (off S H) vs ds := by
  rcases h with h | ⟨p, vs, es, e1, e2, e3, e4⟩
  · cases h with | lst q t => exact ⟨_, _, rfl, rd_same (off_sub S H) q, t⟩
  · cases e2; exact ⟨p, vs, e1, .inl (.inl e3), e4⟩
theorem vw_tup {ds : List PyData} (h : Vw K S H x (.tuple ds)) : ∃ p vs, x = .ref p ∧ SqT K (off S H) p vs ∧ DaAll K (off S H) vs ds := by
  rcases h with h | ⟨p, vs, es, e1, e2, e3, e4⟩
  · cases h with | tup q t => exact ⟨_, _, rfl, q.sq, t⟩
  · cases e2
theorem vw_tupP {ds : List PyData} (h : Vw K S H x (.tuple ds)) : ∃ p vs, x = .ref p ∧ TP (off S H) p vs ∧ DaAll K (off S H) vs ds := by
  rcases h with h | ⟨p, vs, es, e1, e2, e3, e4⟩
  · cases h with | tup q t => exact ⟨_, _, rfl, q, t⟩
  · cases e2
end
def seqD : PyData → Option (List PyData)
  | .list ds => some ds
  | .tuple ds => some ds
  | _ => none
theorem vw_seq {K : PySem.W.Frag} {S : Addr → Prop} {H : Hp} {x : V} {d : PyData} {ds : List PyData} (h : Vw K S H x d) (e : seqD d = some ds) : ∃ p vs, x = .ref p ∧ (SqL K H p vs ∨ SqT K H p vs) ∧ DaAll K (off S H) vs ds := by
  cases d with
  | list es => cases e; obtain ⟨p, vs, e1, e2, e3⟩ := vw_list h; exact ⟨p, vs, e1, .inl (rd_sq e2), e3⟩
  | tuple es => cases e; obtain ⟨p, vs, e1, e2, e3⟩ := vw_tup h; exact ⟨p, vs, e1, .inr (seqT (off_sub S H) e2), e3⟩
  | none => cases e
  | bool _ => cases e
  | int _ => cases e
  | str _ => cases e
  | dict _ => cases e
theorem vw_seqP {K : PySem.W.Frag} {S : Addr → Prop} {H : Hp} {x : V} {d : PyData} {ds : List PyData} (h : Vw K S H x d) (e : seqD d = some ds) : ∃ p vs, x = .ref p ∧ (SqL K H p vs ∨ TP H p vs) ∧ DaAll K (off S H) vs ds := by
  cases d with
  | list es => cases e; obtain ⟨p, vs, e1, e2, e3⟩ := vw_list h; exact ⟨p, vs, e1, .inl (rd_sq e2), e3⟩
  | tuple es => cases e; obtain ⟨p, vs, e1, e2, e3⟩ := vw_tupP h; exact ⟨p, vs, e1, .inr e2.off, e3⟩
  | none => cases e
  | bool _ => cases e
  | int _ => cases e
  | str _ => cases e
  | dict _ => cases e
def iI (h : Int → Int → Int) (a b : PyData) : Option PyData :=
  match a, b with
  | .int i, .int j => some (.int (h i j))
  | _, _ => none
def iIc (p : Int → Int → Bool) (h : Int → Int → Int) (a b : PyData) : Option PyData :=
  match a, b with
  | .int i, .int j => if p i j = true then some (.int (h i j)) else none
  | _, _ => none
def iB (h : Int → Int → Bool) (a b : PyData) : Option PyData :=
  match a, b with
  | .int i, .int j => some (.bool (h i j))
  | _, _ => none
section
variable {K : PySem.W.Frag}
theorem iI_some {h : Int → Int → Int} {a b d : PyData} (e : iI h a b = some d) : ∃ i j, a = .int i ∧ b = .int j ∧ d = .int (h i j) := by
  unfold iI at e
  split at e
  · cases e; exact ⟨_, _, rfl, rfl, rfl⟩
  · cases e
theorem iB_some {h : Int → Int → Bool} {a b d : PyData} (e : iB h a b = some d) : ∃ i j, a = .int i ∧ b = .int j ∧ d = .bool (h i j) := by
  unfold iB at e
  split at e
  · cases e; exact ⟨_, _, rfl, rfl, rfl⟩
  · cases e
theorem iIc_some {p : Int → Int → Bool} {h : Int → Int → Int} {a b d : PyData} (e : iIc p h a b = some d) : ∃ i j, a = .int i ∧ b = .int j ∧ p i j = true ∧ d = .int (h i j) := by
  unfold iIc at e
  split at e
  · split at e
    · cases e; exact ⟨_, _, rfl, rfl, by assumption, rfl⟩
    · cases e
  · cases e
theorem okI {h : Int → Int → Int} : OpOk K (rI0 fun i j => .int (h i j)) (iI h) := by
  intro S H x y a b d hS wa wb e Q q
  obtain ⟨i, j, rfl, rfl, rfl⟩ := iI_some e
  exact ⟨i, j, vw_int wa, vw_int wb, q _ _ (same_refl _) (.int _)⟩
theorem okB {h : Int → Int → Bool} : OpOk K (rI0 fun i j => .bl (h i j)) (iB h) := by
  intro S H x y a b d hS wa wb e Q q
  obtain ⟨i, j, rfl, rfl, rfl⟩ := iB_some e
  exact ⟨i, j, vw_int wa, vw_int wb, q _ _ (same_refl _) (.bl _)⟩
theorem okC {C : Int → Int → Prop} {p : Int → Int → Bool} {h : Int → Int → Int} (hp : ∀ i j, p i j = true → C i j) : OpOk K (rI C fun i j => .int (h i j)) (iIc p h) := by
  intro S H x y a b d hS wa wb e Q q
  obtain ⟨i, j, rfl, rfl, hc, rfl⟩ := iIc_some e
  exact ⟨i, j, vw_int wa, vw_int wb, hp i j hc, q _ _ (same_refl _) (.int _)⟩
def addD := iI (· + ·)
def subD := iI (· - ·)
def pMul (i j : Int) : Bool := decide (-(2 ^ 64) < i ∧ i < 2 ^ 64) || decide (-(2 ^ 64) < j ∧ j < 2 ^ 64)
def pDiv (_ j : Int) : Bool := decide (0 < j ∧ j < 1073741824)
def pMod (_ j : Int) : Bool := decide (0 < j)
def pPow (i j : Int) : Bool := decide (0 ≤ j ∧ j ≤ 1000000 ∧ i.natAbs < 2 ^ 64)
def mulD := iIc pMul (· * ·)
def divD := iIc pDiv (· / ·)
def modD := iIc pMod (· % ·)
def powD := iIc pPow (fun i j => i ^ j.toNat)
def ltD := iB fun i j => decide (i < j)
def leD := iB fun i j => decide (i ≤ j)
def gtD := iB fun i j => decide (j < i)
def geD := iB fun i j => decide (j ≤ i)
theorem ok_add : OpOk K (rI0 fun i j => .int (i + j)) addD := okI
theorem ok_sub : OpOk K (rI0 fun i j => .int (i - j)) subD := okI
theorem ok_lt : OpOk K (rI0 fun i j => .bl (decide (i < j))) ltD := okB
theorem ok_le : OpOk K (rI0 fun i j => .bl (decide (i ≤ j))) leD := okB
theorem ok_gt : OpOk K (rI0 fun i j => .bl (decide (j < i))) gtD := okB
theorem ok_ge : OpOk K (rI0 fun i j => .bl (decide (j ≤ i))) geD := okB
theorem ok_mul : OpOk K (rI CMul fun i j => .int (i * j)) mulD := okC fun i j h => (Bool.or_eq_true_iff.mp h).imp of_decide_eq_true of_decide_eq_true
theorem ok_div : OpOk K (rI CDiv fun i j => .int (i / j)) divD := okC fun i j h => of_decide_eq_true h
theorem ok_mod : OpOk K (rI (fun _ j => 0 < j) fun i j => .int (i % j)) modD := okC fun i j h => of_decide_eq_true h
theorem ok_pow : OpOk K (rI CPow fun i j => .int (i ^ j.toNat)) powD := okC fun i j h => of_decide_eq_true h
def negD : PyData → Option PyData
  | .int i => some (.int (-i))
  | _ => none
theorem ok_neg : UnOk K (rU fun i => .int (-i)) negD := by
  intro S H x a d hS wa e Q q
  cases a with
  | int i => cases e; exact ⟨i, vw_int wa, q _ _ (same_refl _) (.int _)⟩
  | none => cases e
  | bool _ => cases e
  | str _ => cases e
  | list _ => cases e
  | tuple _ => cases e
  | dict _ => cases e
/-! == of atoms alike; of data -/
def eqA (n : Bool) (a b : PyData) : Option PyData :=
  match a, b with
  | .int i, .int j => some (.bool (n ^^ decide (i = j)))
  | .bool i, .bool j => some (.bool (n ^^ decide (i = j)))
  | .str i, .str j => some (.bool (n ^^ decide (i = j)))
  | .none, .none => some (.bool (n ^^ true))
  | _, _ => none
theorem eqA_some {n : Bool} {a b d : PyData} {S : Addr → Prop} {H : Hp} {x y : V} (wa : Vw K S H x a) (wb : Vw K S H y b) (e : eqA n a b = some d) : scal x y = true ∧ d = .bool (n ^^ decide (x = y)) := by
  unfold eqA at e
  split at e
  · rw [vw_int wa, vw_int wb]; cases e; exact ⟨rfl, by simp⟩
  · rw [vw_bool wa, vw_bool wb]; cases e; exact ⟨rfl, by simp⟩
  · rw [vw_str wa, vw_str wb]; cases e; exact ⟨rfl, by simp⟩
  · rw [vw_none wa, vw_none wb]; cases e; exact ⟨rfl, by simp⟩
  · cases e
theorem ok_eq : OpOk K rEq (eqA false) := by
  intro S H x y a b d hS wa wb e Q q
  obtain ⟨h1, rfl⟩ := eqA_some wa wb e
  exact ⟨h1, q _ _ (same_refl _) (by rw [Bool.false_xor]; exact .bl _)⟩
theorem ok_ne : OpOk K rNe (eqA true) := by
  intro S H x y a b d hS wa wb e Q q
  obtain ⟨h1, rfl⟩ := eqA_some wa wb e
  exact ⟨h1, q _ _ (same_refl _) (by rw [Bool.true_xor]; exact .bl _)⟩
def shp (d : PyData) : Bool := SeqAt.shaped d
def eqvD (n : Bool) (a b : PyData) : Option PyData := if shp a && shp b then some (.bool (n ^^ PyData.eqv a b)) else none
theorem ok_eqD : OpOk K (rEqD K) (eqvD false) := by
  intro S H x y a b d hS wa wb e Q q
  unfold eqvD at e
  split at e
  · rename_i h
    cases e
    rw [Bool.and_eq_true] at h
    exact ⟨a, b, Da.dp _ (shp_nd h.1) wa.da, Da.dp _ (shp_nd h.2) wb.da, h.1, h.2, q _ _ (same_refl _) (by rw [Bool.false_xor]; exact .bl _)⟩
  · cases e
theorem ok_neD : OpOk K (rNeD K) (eqvD true) := by
  intro S H x y a b d hS wa wb e Q q
  unfold eqvD at e
  split at e
  · rename_i h
    cases e
    rw [Bool.and_eq_true] at h
    exact ⟨a, b, Da.dp _ (shp_nd h.1) wa.da, Da.dp _ (shp_nd h.2) wb.da, h.1, h.2, q _ _ (same_refl _) (by rw [Bool.true_xor]; exact .bl _)⟩
  · cases e
/-! in -/
def atomD : PyData → Bool
  | .none | .bool _ | .int _ | .str _ => true
  | _ => false
theorem atom_flat {H : Hp} {x : V} {a : PyData} (h : Da K H x a) (e : atomD a = true) : flatV x = true := by
  cases h with
  | non => rfl
  | bl _ => rfl
  | int _ => rfl
  | str _ => rfl
  | lst _ _ => cases e
  | tup _ _ => cases e
  | dct _ _ _ _ => cases e
  | dtk _ _ _ _ => cases e
theorem atom_eqv {H : Hp} {x y : V} {a b : PyData} (h : Da K H x a) (h' : Da K H y b) (e : atomD a = true) (e' : atomD b = true) : eqV x y = PyData.eqv a b := by
  cases h with
  | non => cases h' with
    | non => rfl
    | bl _ => rfl
    | int _ => rfl
    | str _ => rfl
    | lst _ _ => cases e'
    | tup _ _ => cases e'
    | dct _ _ _ _ => cases e'
    | dtk _ _ _ _ => cases e'
  | bl _ => cases h' with
    | non => rfl
    | bl _ => rfl
    | int _ => rfl
    | str _ => rfl
    | lst _ _ => cases e'
    | tup _ _ => cases e'
    | dct _ _ _ _ => cases e'
    | dtk _ _ _ _ => cases e'
  | int _ => cases h' with
    | non => rfl
    | bl _ => rfl
    | int _ => rfl
    | str _ => rfl
    | lst _ _ => cases e'
    | tup _ _ => cases e'
    | dct _ _ _ _ => cases e'
    | dtk _ _ _ _ => cases e'
  | str _ => cases h' with
    | non => rfl
    | bl _ => rfl
    | int _ => rfl
    | str _ => rfl
    | lst _ _ => cases e'
    | tup _ _ => cases e'
    | dct _ _ _ _ => cases e'
    | dtk _ _ _ _ => cases e'
  | lst _ _ => cases e
  | tup _ _ => cases e
  | dct _ _ _ _ => cases e
  | dtk _ _ _ _ => cases e
theorem atoms_flat {H : Hp} : ∀ {vs : List V} {ds : List PyData}, DaAll K H vs ds → ds.all atomD = true → vs.all flatV = true
  | _, _, .nil, _ => rfl
  | _, _, .cons h t, e => by
    rw [List.all_cons, Bool.and_eq_true] at e ⊢
    exact ⟨atom_flat h e.1, atoms_flat t e.2⟩
theorem atoms_in {H : Hp} {x : V} {a : PyData} (h : Da K H x a) (e : atomD a = true) : ∀ {vs : List V} {ds : List PyData}, DaAll K H vs ds → ds.all atomD = true → inV x vs = ds.any fun z => PyData.eqv z a
  | _, _, .nil, _ => rfl
  | _, _, .cons h' t, e' => by
    rw [List.all_cons, Bool.and_eq_true] at e'
    have ih := atoms_in h e t e'.2
    unfold inV at ih ⊢
    rw [List.any_cons, List.any_cons, ih, atom_eqv h' h e'.1 e]
def inF (n : Bool) (a b : PyData) : Option PyData :=
  match seqD b with
  | some ds => if atomD a && ds.all atomD then some (.bool (n ^^ ds.any fun z => PyData.eqv z a)) else none
  | none => none
theorem ok_inF {n : Bool} : OpOk K (rIn K n) (inF n) := by
  intro S H x y a b d hS wa wb e Q q
  unfold inF at e
  cases h : seqD b with
  | none => rw [h] at e; cases e
  | some ds =>
    rw [h] at e
    simp only at e
    split at e
    · rename_i h2
      cases e
      rw [Bool.and_eq_true] at h2
      obtain ⟨p, vs, rfl, e2, e3⟩ := vw_seq wb h
      have e4 := DaAll.same (off_sub S H) ds e3
      refine ⟨p, vs, rfl, e2, atom_flat wa.da h2.1, atoms_flat e3 h2.2, q _ _ (same_refl _) ?_⟩
      rw [atoms_in wa.da h2.1 e4 h2.2]
      cases n
      · rw [Bool.false_xor]; exact .bl _
      · rw [Bool.true_xor]; exact .bl _
    · cases e
/-! items -/
theorem atI_da {H : Hp} {vs : List V} {ds : List PyData} (h : DaAll K H vs ds) {i : Int} {d : PyData} (e : atI ds i = some d) : ∃ x, atI vs i = some x ∧ Da K H x d := by
  unfold atI at e ⊢
  rw [daAll_len h]
  cases q : ixN ds.length i with
  | none => rw [q] at e; cases e
  | some j =>
    rw [q] at e
    exact daAll_get h e
def ixD (a b : PyData) : Option PyData :=
  match seqD a, b with
  | some ds, .int i => atI ds i
  | _, _ => none
theorem ok_ix : OpOk K (rIx K) ixD := by
  intro S H x y a b d hS wa wb e Q q
  unfold ixD at e
  split at e
  · rename_i ds i h
    rw [vw_int wb]
    cases a with
    | list es =>
      cases h
      obtain ⟨p, vs, rfl, e2, e3⟩ := vw_list wa
      obtain ⟨z, e4, e5⟩ := atI_da e3 e
      exact .inl ⟨p, vs, i, z, rfl, rfl, rd_sq e2, e4, q _ _ (same_refl _) e5⟩
    | tuple es =>
      cases h
      obtain ⟨p, vs, rfl, e2, e3⟩ := vw_tup wa
      obtain ⟨z, e4, e5⟩ := atI_da e3 e
      exact .inr (.inl ⟨p, vs, i, z, rfl, rfl, seqT (off_sub S H) e2, e4, q _ _ (same_refl _) e5⟩)
    | none => cases h
    | bool _ => cases h
    | int _ => cases h
    | str _ => cases h
    | dict _ => cases h
  · cases e
/-! slices -/
def cutL {α : Type} (xs : List α) (lo hi : Option Int) : List α := (xs.drop (HT.sIx xs.length 0 lo)).take (HT.sIx xs.length xs.length hi - HT.sIx xs.length 0 lo)
theorem cut_da {H : Hp} {vs : List V} {ds : List PyData} (h : DaAll K H vs ds) (lo hi : Option Int) : DaAll K H (cutV vs lo hi) (cutL ds lo hi) := by
  unfold cutV cutL
  rw [daAll_len h]
  exact daAll_take (daAll_drop h _) _
def cutD (a : PyData) (lo hi : Option Int) : Option PyData :=
  match a with
  | .list ds => some (.list (cutL ds lo hi))
  | .tuple ds => some (.tuple (cutL ds lo hi))
  | _ => none
theorem off_new {H H' : Hp} {S : Addr → Prop} (s : Same H H') : Same (off S H) (off S H') := off_mono (fun b z n => absurd z n) fun b o n h => s b o h
theorem hS_later {H H' : Hp} {S : Addr → Prop} (hS : ∀ q, S q → ∃ o, H q = some o ∧ NT o) (s : Same H H') : ∀ q, S q → ∃ o, H' q = some o ∧ NT o := fun q z => by
  obtain ⟨o, e, n⟩ := hS q z
  exact ⟨o, s _ _ e, n⟩
theorem ok_cut {S : Addr → Prop} {H : Hp} {x : V} {a d : PyData} {lo hi : Option Int} (hS : ∀ q, S q → ∃ o, H q = some o ∧ NT o) (wa : Vw K S H x a) (e : cutD a lo hi = some d) {Q : VK} (q : ∀ v H', Same H H' → Da K (off S H') v d → Q v H') : rCut K x lo hi H Q := by
  cases a with
  | list ds =>
    cases e
    obtain ⟨p, vs, rfl, e2, e3⟩ := vw_list wa
    refine ⟨p, vs, rfl, .inl ⟨rd_sq e2, fun b H' s n h => q _ _ s ?_⟩⟩
    exact .lst (SqL.of ((off_ne fun z => by obtain ⟨o, e, _⟩ := hS b z; rw [n] at e; cases e).trans h)) (DaAll.same (off_new s) _ (cut_da e3 lo hi))
  | tuple ds =>
    cases e
    obtain ⟨p, vs, rfl, e2, e3⟩ := vw_tupP wa
    refine ⟨p, vs, rfl, .inr ⟨e2.off, fun b H' s h => q _ _ s ?_⟩⟩
    exact .tup (off_P (hS_later hS s) h) (DaAll.same (off_new s) _ (cut_da e3 lo hi))
  | none => cases e
  | bool _ => cases e
  | int _ => cases e
  | str _ => cases e
  | dict _ => cases e
end
def PostO (K : PySem.W.Frag) (E : XK) (B : Addr → Prop) (σ : St) (H : Hp) (l : List Addr) (rs : Rs (Option Int)) (Q : Option Int → Hp → Prop) : Prop :=
  match rs with
  | .ok b env' => ∀ H', Rep K B σ H' env' l → Fr l H H' → Q b H'
  | .ex C f d => Exn K E B H l C f d
structure OkP (K : PySem.W.Frag) (E : XK) (t : TO) (f : M (Option Int)) : Prop where
  run : ∀ {B : Addr → Prop} {σ : St} {H : Hp} {env : En} {l : List Addr} {rs : Rs (Option Int)}, Rep K B σ H env l → f env = some rs → ∀ {Q : Option Int → Hp → Prop}, PostO K E B σ H l rs Q → t σ H Q
section
variable {K : PySem.W.Frag} {E : XK}
theorem OkP.seq {α : Type} {ta : TO} {fa : M (Option Int)} {g : Option Int → M α} (oa : OkP K E ta fa) {B : Addr → Prop} {σ : St} {H : Hp} {env : En} {l : List Addr} {rs : Rs α} (r : Rep K B σ H env l) (h : (M.bind fa g) env = some rs) {Q : Option Int → Hp → Prop}
    (hx : ∀ C f d, rs = .ex C f d → Exn K E B H l C f d) (hq : ∀ a e H', g a e = some rs → Rep K B σ H' e l → Fr l H H' → Q a H') : ta σ H Q := by
  rcases bind_some h with ⟨a, e, h1, h2⟩ | ⟨C, f, d, h1, h2⟩
  · exact oa.run r h1 (fun H' r' fr => hq a e H' h2 r' fr)
  · exact oa.run r h1 (hx C f d h2)
def poN : M (Option Int) := M.pure none
def asI : R → Option Int
  | .dat (.int i) => some i
  | _ => none
theorem asI_some {a : R} {i : Int} (h : asI a = some i) : a = .dat (.int i) := by
  unfold asI at h
  split at h
  · cases h; rfl
  · cases h
def poS (fa : M R) : M (Option Int) := M.bind fa fun a => M.bind (lift (asI a)) fun i => M.pure (some i)
theorem OkP.none : OkP K E tNoPart poN := by
  refine ⟨?_⟩
  intro B σ H env l rs rp h Q post
  cases h
  exact post H rp (Fr.refl _ _)
theorem OkP.some {t : TE} {fa : M R} (oa : OkE K E t fa) : OkP K E (tPart t) (poS fa) := by
  refine ⟨?_⟩
  intro B σ H env l rs rp h Q post
  refine oa.seq rp h (fun C f d e => by subst e; exact post) fun a e v1 H1 h1 r1 f1 q1 => ?_
  obtain ⟨i, h2, h3⟩ := lift_step h1
  cases h3
  rw [asI_some h2] at q1
  cases q1
  exact ⟨_, rfl, post H1 r1 f1⟩
def slD (fa : M R) (fl fh : M (Option Int)) : M R := M.bind fa fun a => M.bind fl fun lo => M.bind fh fun hi => M.bind (vw a) fun x => M.bind (lift (cutD x lo hi)) fun d => M.pure (.dat d)
theorem OkE.sl {t : TE} {tl th : TO} {fa : M R} {fl fh : M (Option Int)} (oa : OkE K E t fa) (ol : OkP K E tl fl) (oh : OkP K E th fh) : OkE K E (tSl (rCut K) t tl th) (slD fa fl fh) := by
  refine ⟨?_⟩
  intro B σ H env l rs rp h Q post
  refine oa.seq rp h post.exn fun a e v1 H1 h1 r1 f1 q1 => ?_
  refine ol.seq r1 h1 (exn_later post.exn f1) fun lo e2 H2 h2 r2 f2 => ?_
  refine oh.seq r2 h2 (exn_later post.exn (f1.trans f2)) fun hi e3 H3 h3 r3 f3 => ?_
  obtain ⟨x, h4, w1⟩ := vw_step r3 (q1.mv (f2.trans f3).keep) h3
  obtain ⟨d, h5, h6⟩ := lift_step h4
  cases h6
  exact ok_cut r3.tl w1 h5 fun v H' s q => post v H' (r3.same s) (((f1.trans f2).trans f3).trans (Fr.of s)) q
end
/-! built-in calls -/
section
variable {X : Cx}
/-- xs + ys of lists that stand -/
def rCatL (K : PySem.W.Frag) : R2 := fun x y H Q => ∃ l b xs zs, x = .ref l ∧ y = .ref b ∧ SqL K H l xs ∧ SqL K H b zs ∧ xs.length + zs.length ≤ sizeLine ∧ ∀ p, H p = none → Q (.ref p) (upd H p (.lst (xs ++ zs)))
theorem op_catL : OpR X (binaryOp .Add) (rCatL X.K) := by
  intro pins s σ H x y v u Q I rx ry h
  obtain ⟨l, b, xs, zs, rfl, rfl, hH, hB, hz, q⟩ := h
  cases rx
  cases ry
  obtain ⟨its, r, e, z⟩ := I.list hH
  obtain ⟨its2, r2, e2, z2⟩ := I.list hB
  have hl := r.length
  have hl2 := r2.length
  obtain ⟨⟨cls, dd, data, sl⟩, ho, hc, n, hd⟩ := e.isList
  obtain ⟨⟨cls2, dd2, data2, sl2⟩, ho2, hc2, n2, hd2⟩ := e2.isList
  simp only at hc hd hc2 hd2
  subst hc hd hc2 hd2
  have ea : its.toArray ++ its2.toArray = (its ++ its2).toArray := by simp
  refine concat_meets ⟨_, ho, rfl⟩ ⟨_, ho2, rfl⟩ noFill_list_add seq_list_add PySem.F.slot_list_add PySem.F.entry_list_add (PySem.F.args_list_add_2 _ _) (PyProof.Rows.list_addW l b its.toArray its2.toArray n n2 dd dd2 sl sl2 (by rw [List.size_toArray, List.size_toArray]; omega)) ⟨ho, ho2, ?_⟩
  rw [ea]
  exact ⟨.ref _, _, I.lnew (t' := s.toks) (r.append r2) (by rw [List.length_append]; omega), rfl, q _ I.fresh⟩
end
section
variable {K : PySem.W.Frag}
def catD (a b : PyData) : Option PyData :=
  match a, b with
  | .list xs, .list ys => (sz (xs.length + ys.length)).map fun _ => .list (xs ++ ys)
  | _, _ => none
theorem ok_catL : OpOk K (rCatL K) catD := by
  intro S H x y a b d hS wa wb e Q q
  unfold catD at e
  split at e
  · obtain ⟨u, e1, e2⟩ := Option.map_eq_some_iff.mp e
    subst e2
    obtain ⟨p, vs, rfl, h2, h3⟩ := vw_list wa
    obtain ⟨p', vs', rfl, h2', h3'⟩ := vw_list wb
    refine ⟨p, p', vs, vs', rfl, rfl, h2, h2', by rw [daAll_len h3, daAll_len h3']; exact sz_ok e1, fun r hr => ?_⟩
    exact q _ _ (same_new hr _) (new_dp hS hr (daAll_append h3 h3')).1
  · cases e
def catT (a b : PyData) : Option PyData :=
  match a, b with
  | .tuple xs, .tuple ys => (sz (xs.length + ys.length)).map fun _ => .tuple (xs ++ ys)
  | _, _ => none
theorem ok_catT : OpOk K (rCatW K) catT := by
  intro S H x y a b d hS wa wb e Q q
  unfold catT at e
  split at e
  · obtain ⟨u, e1, e2⟩ := Option.map_eq_some_iff.mp e
    subst e2
    obtain ⟨p, vs, rfl, h2, h3⟩ := vw_tupP wa
    obtain ⟨p', vs', rfl, h2', h3'⟩ := vw_tupP wb
    refine ⟨p, p', vs, vs', rfl, rfl, h2.off, h2'.off, by rw [daAll_len h3, daAll_len h3']; exact sz_ok e1, fun r H' s hr => ?_⟩
    exact q _ _ s (.tup (off_P (hS_later hS s) hr) (DaAll.same (off_new s) _ (daAll_append h3 h3')))
  · cases e
def lenD (as : List PyData) : Option PyData :=
  match as with
  | [a] => (seqD a).map fun ds => .int ds.length
  | _ => none
theorem vwAll1 {S : Addr → Prop} {H : Hp} {xs : List V} {a : PyData} (h : VwAll K S H xs [a]) : ∃ x, xs = [x] ∧ Vw K S H x a := by
  cases h with | cons h t => cases t; exact ⟨_, rfl, h⟩
theorem vwAll2 {S : Addr → Prop} {H : Hp} {xs : List V} {a b : PyData} (h : VwAll K S H xs [a, b]) : ∃ x y, xs = [x, y] ∧ Vw K S H x a ∧ Vw K S H y b := by
  cases h with | cons h t => cases t with | cons h' t => cases t; exact ⟨_, _, rfl, h, h'⟩
theorem ok_len : CbOk K (fun xs H Q => ∃ p ys, xs = [.ref p] ∧ (SqL K H p ys ∨ SqT K H p ys) ∧ Q (.int ys.length) H) lenD := by
  intro S H xs as d hS w e Q q
  unfold lenD at e
  split at e
  · obtain ⟨ds, e1, e2⟩ := Option.map_eq_some_iff.mp e
    subst e2
    obtain ⟨x, rfl, wx⟩ := vwAll1 w
    obtain ⟨p, vs, rfl, h2, h3⟩ := vw_seq wx e1
    exact ⟨p, vs, rfl, h2, q _ _ (same_refl _) (by rw [daAll_len h3]; exact .int _)⟩
  · cases e
def tupleD (as : List PyData) : Option PyData :=
  match as with
  | [a] => (seqD a).map fun ds => .tuple ds
  | _ => none
theorem ok_tuple : CbOk K (rTupW K) tupleD := by
  intro S H xs as d hS w e Q q
  unfold tupleD at e
  split at e
  · obtain ⟨ds, e1, e2⟩ := Option.map_eq_some_iff.mp e
    subst e2
    obtain ⟨x, rfl, wx⟩ := vwAll1 w
    obtain ⟨p, vs, rfl, h2, h3⟩ := vw_seqP wx e1
    exact ⟨p, vs, rfl, h2, fun r H' s hr => q _ _ s (.tup (off_P (hS_later hS s) hr) (DaAll.same (off_new s) _ h3))⟩
  · cases e
def absD (as : List PyData) : Option PyData :=
  match as with
  | [.int i] => some (.int (if i < 0 then -i else i))
  | _ => none
theorem ok_abs : CbOk K (fun xs H Q => ∃ i, xs = [.int i] ∧ Q (.int (if i < 0 then -i else i)) H) absD := by
  intro S H xs as d hS w e Q q
  unfold absD at e
  split at e
  · cases e
    obtain ⟨x, rfl, wx⟩ := vwAll1 w
    exact ⟨_, by rw [vw_int wx], q _ _ (same_refl _) (.int _)⟩
  · cases e
def minD (as : List PyData) : Option PyData :=
  match as with
  | [.int i, .int j] => some (.int (if j < i then j else i))
  | _ => none
theorem ok_min : CbOk K (fun xs H Q => ∃ i j, xs = [.int i, .int j] ∧ Q (.int (if j < i then j else i)) H) minD := by
  intro S H xs as d hS w e Q q
  unfold minD at e
  split at e
  · cases e
    obtain ⟨x, y, rfl, wx, wy⟩ := vwAll2 w
    exact ⟨_, _, by rw [vw_int wx, vw_int wy], q _ _ (same_refl _) (.int _)⟩
  · cases e
def maxD (as : List PyData) : Option PyData :=
  match as with
  | [.int i, .int j] => some (.int (if j > i then j else i))
  | _ => none
theorem ok_max : CbOk K (fun xs H Q => ∃ i j, xs = [.int i, .int j] ∧ Q (.int (if j > i then j else i)) H) maxD := by
  intro S H xs as d hS w e Q q
  unfold maxD at e
  split at e
  · cases e
    obtain ⟨x, y, rfl, wx, wy⟩ := vwAll2 w
    exact ⟨_, _, by rw [vw_int wx, vw_int wy], q _ _ (same_refl _) (.int _)⟩
  · cases e
def intD (as : List PyData) : Option PyData :=
  match as with
  | [.int i] => some (.int i)
  | [.bool k] => some (.int (if k then 1 else 0))
  | _ => none
theorem ok_int : CbOk K (fun xs H Q => (∃ i, xs = [.int i] ∧ Q (.int i) H) ∨ ∃ k, xs = [.bl k] ∧ Q (.int (if k then 1 else 0)) H) intD := by
  intro S H xs as d hS w e Q q
  unfold intD at e
  split at e
  · cases e
    obtain ⟨x, rfl, wx⟩ := vwAll1 w
    exact .inl ⟨_, by rw [vw_int wx], q _ _ (same_refl _) (.int _)⟩
  · cases e
    obtain ⟨x, rfl, wx⟩ := vwAll1 w
    exact .inr ⟨_, by rw [vw_bool wx], q _ _ (same_refl _) (.int _)⟩
  · cases e
/-- a list of truth values -/
def boolsD : List PyData → Option (List Bool)
  | [] => some []
  | .bool b :: r => (boolsD r).map (b :: ·)
  | _ :: _ => none
theorem bools_da {H : Hp} : ∀ {vs : List V} {ds : List PyData} {bs : List Bool}, DaAll K H vs ds → boolsD ds = some bs → vs = bs.map V.bl
  | _, _, bs, .nil, e => by cases e; rfl
  | _, _, bs, .cons (d := .bool b) h t, e => by
    obtain ⟨q, e1, e2⟩ := Option.map_eq_some_iff.mp (show (boolsD _).map (b :: ·) = some bs from e)
    subst e2
    cases h
    rw [bools_da t e1]
    rfl
  | _, _, bs, .cons (d := .int b) h t, e => by cases e
  | _, _, bs, .cons (d := .none) h t, e => by cases e
  | _, _, bs, .cons (d := .str b) h t, e => by cases e
  | _, _, bs, .cons (d := .list b) h t, e => by cases e
  | _, _, bs, .cons (d := .tuple b) h t, e => by cases e
  | _, _, bs, .cons (d := .dict b) h t, e => by cases e
def intsD : List PyData → Option (List Int)
  | [] => some []
  | .int b :: r => (intsD r).map (b :: ·)
  | _ :: _ => none
theorem ints_da {H : Hp} : ∀ {vs : List V} {ds : List PyData} {bs : List Int}, DaAll K H vs ds → intsD ds = some bs → vs = bs.map V.int
  | _, _, bs, .nil, e => by cases e; rfl
  | _, _, bs, .cons (d := .int b) h t, e => by
    obtain ⟨q, e1, e2⟩ := Option.map_eq_some_iff.mp (show (intsD _).map (b :: ·) = some bs from e)
    subst e2
    cases h
    rw [ints_da t e1]
    rfl
  | _, _, bs, .cons (d := .bool b) h t, e => by cases e
  | _, _, bs, .cons (d := .none) h t, e => by cases e
  | _, _, bs, .cons (d := .str b) h t, e => by cases e
  | _, _, bs, .cons (d := .list b) h t, e => by cases e
  | _, _, bs, .cons (d := .tuple b) h t, e => by cases e
  | _, _, bs, .cons (d := .dict b) h t, e => by cases e
theorem intsD_map (ns : List Int) : intsD (ns.map PyData.int) = some ns := by
  induction ns with
  | nil => rfl
  | cons n r ih => show (intsD (r.map PyData.int)).map (n :: ·) = _; rw [ih]; rfl
theorem da_ints {H : Hp} : ∀ ns : List Int, DaAll K H (ns.map V.int) (ns.map PyData.int)
  | [] => .nil
  | n :: r => .cons (.int n) (da_ints r)
def allD (as : List PyData) : Option PyData :=
  match as with
  | [.list ds] => (boolsD ds).map fun bs => .bool (bs.all id)
  | _ => none
theorem ok_all : CbOk K (rAll K) allD := by
  intro S H xs as d hS w e Q q
  unfold allD at e
  split at e
  · obtain ⟨bs, e1, e2⟩ := Option.map_eq_some_iff.mp e
    subst e2
    obtain ⟨x, rfl, wx⟩ := vwAll1 w
    obtain ⟨p, vs, rfl, h2, h3⟩ := vw_list wx
    rw [bools_da h3 e1] at h2
    exact ⟨p, bs, rfl, rd_sq h2, q _ _ (same_refl _) (.bl _)⟩
  · cases e
def sumD (as : List PyData) : Option PyData :=
  match as with
  | [.list ds] => (intsD ds).map fun bs => .int bs.sum
  | _ => none
theorem ok_sum : CbOk K (rSum K) sumD := by
  intro S H xs as d hS w e Q q
  unfold sumD at e
  split at e
  · obtain ⟨bs, e1, e2⟩ := Option.map_eq_some_iff.mp e
    subst e2
    obtain ⟨x, rfl, wx⟩ := vwAll1 w
    obtain ⟨p, vs, rfl, h2, h3⟩ := vw_list wx
    rw [ints_da h3 e1] at h2
    exact ⟨p, bs, rfl, rd_sq h2, q _ _ (same_refl _) (.int _)⟩
  · cases e
/-- numbers in order -/
def sortI (ns : List Int) : List Int := ns.mergeSort (fun a b => decide (a ≤ b))
theorem sort_uniq {a b : List Int} (p : a.Perm b) (ha : a.Pairwise (· ≤ ·)) (hb : b.Pairwise (· ≤ ·)) : a = b := p.eq_of_pairwise (fun x y _ _ h1 h2 => Int.le_antisymm h1 h2) ha hb
theorem sortI_perm (ns : List Int) : (sortI ns).Perm ns := List.mergeSort_perm ..
theorem sortI_pw (ns : List Int) : (sortI ns).Pairwise (· ≤ ·) := by
  have h := List.pairwise_mergeSort (le := fun a b : Int => decide (a ≤ b)) (fun a b c h1 h2 => decide_eq_true (Int.le_trans (of_decide_eq_true h1) (of_decide_eq_true h2))) (fun a b => by
    rw [Bool.or_eq_true]
    exact (Int.le_total a b).imp decide_eq_true decide_eq_true) ns
  exact h.imp fun z => of_decide_eq_true z
def sortD (as : List PyData) : Option PyData :=
  match as with
  | [a] => (seqD a).bind fun ds => (intsD ds).map fun ns => .list ((sortI ns).map .int)
  | _ => none
theorem ok_sort : CbOk K (rSrtW K) sortD := by
  intro S H xs as d hS w e Q q
  unfold sortD at e
  split at e
  · obtain ⟨ds, e1, e2⟩ := Option.bind_eq_some_iff.mp e
    obtain ⟨ns, e3, e4⟩ := Option.map_eq_some_iff.mp e2
    subst e4
    obtain ⟨x, rfl, wx⟩ := vwAll1 w
    obtain ⟨p, vs, rfl, h2, h3⟩ := vw_seq wx e1
    rw [ints_da h3 e3] at h2
    refine ⟨p, ns, rfl, h2, fun ns' r H' pm pw n s hr => q _ _ s ?_⟩
    have : ns' = sortI ns := sort_uniq (pm.trans (sortI_perm ns).symm) pw (sortI_pw ns)
    subst this
    exact .lst (SqL.of ((off_ne fun z => by obtain ⟨o, e, _⟩ := hS r z; rw [n] at e; cases e).trans hr)) (da_ints _)
  · cases e
end
end Ov
set_option Elab.async false
set_option linter.all false
set_option maxRecDepth 100000
set_option maxHeartbeats 4000000
namespace Ov
open PySem L2
/-! values that may be owned, statements -/
structure Fr2 (l : List Addr) (H : Hp) (l' : List Addr) (H' : Hp) : Prop where
  fr : Fr l H H'
  sub : ∀ b ∈ l', b ∈ l ∨ H b = none
theorem Fr2.refl (l : List Addr) (H : Hp) : Fr2 l H l H := ⟨Fr.refl _ _, fun _ z => .inl z⟩
theorem Fr2.of {l : List Addr} {H H' : Hp} (f : Fr l H H') : Fr2 l H l H' := ⟨f, fun _ z => .inl z⟩
theorem Fr2.trans {l l1 l2 : List Addr} {H H1 H2 : Hp} (a : Fr2 l H l1 H1) (b : Fr2 l1 H1 l2 H2) : Fr2 l H l2 H2 := by
  refine ⟨fun c o n h => b.fr c o (fun z => ?_) (a.fr c o n h), fun c z => ?_⟩
  · rcases a.sub c z with z | z
    · exact n z
    · rw [h] at z; cases z
  · rcases b.sub c z with z | z
    · exact a.sub c z
    · by_cases m : c ∈ l
      · exact .inl m
      · cases q : H c with
        | none => exact .inr rfl
        | some o => rw [a.fr c o m q] at z; cases z
section
variable {K : PySem.W.Frag} {E : XK}
theorem Exn.later2 {B : Addr → Prop} {H H1 : Hp} {l l1 : List Addr} {C : Addr} {f : Str} {d : PyData} (x : Exn K E B H l C f d) (s : Fr2 l H l1 H1) : Exn K E B H1 l1 C f d :=
  ⟨fun hf dx H' v fr n h q => x.1 hf dx H' v (s.trans (Fr2.of fr)).fr n h q, fun hf H' fr => x.2 hf H' (s.trans (Fr2.of fr)).fr⟩
def PostW (K : PySem.W.Frag) (E : XK) (B : Addr → Prop) (σ : St) (H : Hp) (l : List Addr) (rs : Rs Wv) (Q : VK) : Prop :=
  match rs with
  | .ok w env' => ∀ v H' lw, Rep K (un B lw) σ H' env' l → Fr l H H' → RpW K H' (off (un (un B lw) l) H') v w lw → lw.Nodup → (∀ b ∈ lw, H b = none) → Q v H'
  | .ex C f d => Exn K E B H l C f d
structure OkW (K : PySem.W.Frag) (E : XK) (t : TE) (f : M Wv) : Prop where
  run : ∀ {B : Addr → Prop} {σ : St} {H : Hp} {env : En} {l : List Addr} {rs : Rs Wv}, Rep K B σ H env l → f env = some rs → ∀ {Q : VK}, PostW K E B σ H l rs Q → t σ H Q
theorem PostW.exn {B : Addr → Prop} {σ : St} {H : Hp} {l : List Addr} {rs : Rs Wv} {Q : VK} (h : PostW K E B σ H l rs Q) : ∀ C f d, rs = .ex C f d → Exn K E B H l C f d := fun C f d e => by subst e; exact h
theorem OkW.seq {α : Type} {ta : TE} {fa : M Wv} {g : Wv → M α} (oa : OkW K E ta fa) {B : Addr → Prop} {σ : St} {H : Hp} {env : En} {l : List Addr} {rs : Rs α} (r : Rep K B σ H env l) (h : (M.bind fa g) env = some rs) {Q : VK}
    (hx : ∀ C f d, rs = .ex C f d → Exn K E B H l C f d) (hq : ∀ a e v H' lw, g a e = some rs → Rep K (un B lw) σ H' e l → Fr l H H' → RpW K H' (off (un (un B lw) l) H') v a lw → lw.Nodup → (∀ b ∈ lw, H b = none) → Q v H') : ta σ H Q := by
  rcases bind_some h with ⟨a, e, h1, h2⟩ | ⟨C, f, d, h1, h2⟩
  · exact oa.run r h1 (fun v H' lw r' fr q n1 n2 => hq a e v H' lw h2 r' fr q n1 n2)
  · exact oa.run r h1 (hx C f d h2)
theorem un_nil (B : Addr → Prop) : un B [] = B := by
  funext b
  exact propext ⟨fun z => z.elim id (fun z => by cases z), .inl⟩
theorem un_app (B : Addr → Prop) (a b : List Addr) : un (un B a) b = un B (a ++ b) := by
  funext c
  exact propext ⟨fun z => z.elim (fun z => z.imp id (List.mem_append_left _)) fun z => .inr (List.mem_append_right _ z), fun z => z.elim (fun z => .inl (.inl z)) fun z => (List.mem_append.mp z).elim (fun z => .inl (.inr z)) .inr⟩
def toW : R → Option Wv
  | .dat d => some (.dat d)
  | .exc C f d => some (.exc C f d)
  | .slot _ => none
/-- a value that is no list of one's own -/
def pl (f : M R) : M Wv := M.bind f fun r => lift (toW r)
theorem OkE.w {t : TE} {f : M R} (o : OkE K E t f) : OkW K E t (pl f) := by
  refine ⟨?_⟩
  intro B σ H env l rs rp h Q post
  refine o.seq rp h post.exn fun a e v H' h1 r1 f1 q1 => ?_
  obtain ⟨w, h2, h3⟩ := lift_some h1
  subst h3
  refine post v H' [] (by rw [un_nil]; exact r1) f1 ?_ List.nodup_nil (fun _ z => by cases z)
  rw [un_nil]
  cases a with
  | dat d => cases h2; exact ⟨rfl, q1⟩
  | slot i => cases h2
  | exc C f d => cases h2; exact ⟨rfl, q1⟩
/-- a list of one's own as data from here on -/
def itD : It1 → PyData
  | .dat d => d
  | .own ds => .list ds
def ofW : Wv → Option R
  | .dat d => some (.dat d)
  | .own xs => some (.dat (.list (xs.map itD)))
  | .exc C f d => some (.exc C f d)
  | .dct _ => none
  | .lin _ _ _ => none
  | .dci kvs => some (.dat (dcD kvs))
  | .dts _ => none
  | .pin _ _ => none
  | .dtn _ => none
  | .dtd _ => none
  | .nd _ => none
  | .ndd _ => none
  | .lkd _ => none
  | .dtk [] => none
  | .dtk (z :: r) => some (.dat (dkD (z :: r)))
theorem rp1_free {H G G' : Hp} {v : V} {x : It1} {l : List Addr} (s : Same G G') (k : ∀ b ∈ l, ∀ us, H b = some (.lst us) → G' b = some (.lst us)) (h : Rp1 K H G v x l) : Da K G' v (itD x) := by
  cases x with
  | dat d => exact Da.same s d h.2
  | own ds =>
    obtain ⟨q, us, rfl, rfl, e3, e4⟩ := h
    exact .lst (SqL.of (k q (List.mem_cons_self ..) us e3)) (DaAll.same s ds e4)
theorem rp1s_free {H G G' : Hp} (s : Same G G') : ∀ {vs : List V} {xs : List It1} {l : List Addr}, (∀ b ∈ l, ∀ us, H b = some (.lst us) → G' b = some (.lst us)) → Rp1s K H G vs xs l → DaAll K G' vs (xs.map itD)
  | [], [], l, _, h => .nil
  | v :: vs, x :: xs, l, k, ⟨a, b, e, h1, h2⟩ => .cons (rp1_free s (fun c z => k c (by rw [e]; exact List.mem_append_left _ z)) h1) (rp1s_free s (fun c z => k c (by rw [e]; exact List.mem_append_right _ z)) h2)
  | [], _ :: _, _, _, h => h.elim
  | _ :: _, [], _, _, h => h.elim
theorem rpW_free {H G G' : Hp} {σ : St} {v : V} {w : Wv} {r : R} {l : List Addr} (hr : ofW w = some r) (s : Same G G') (k : ∀ b ∈ l, ∀ us, H b = some us → G' b = some us) (h : RpW K H G v w l) : RpR K G' σ v r := by
  cases w with
  | dct _ => cases hr
  | lin _ _ _ => cases hr
  | dci kvs =>
    cases hr
    obtain ⟨p, rfl, rfl, e3⟩ := h
    exact .dctI kvs rfl (k p (List.mem_cons_self ..) _ e3)
  | dts ks => cases hr
  | pin _ _ => cases hr
  | dtn _ => cases hr
  | dtd _ => cases hr
  | nd _ => cases hr
  | ndd _ => cases hr
  | lkd _ => cases hr
  | dtk kvs =>
    cases kvs with
    | nil => cases hr
    | cons z r =>
      cases hr
      obtain ⟨p, rfl, rfl, e3⟩ := h
      exact .dtk (z :: r) (by simp) rfl (k p (List.mem_cons_self ..) _ e3)
  | dat d => cases hr; exact Da.same s d h.2
  | own xs =>
    cases hr
    obtain ⟨p, vs, b, rfl, rfl, e3, e4⟩ := h
    exact .lst (SqL.of (k p (List.mem_cons_self ..) _ e3)) (rp1s_free s (fun c z us => k c (List.mem_cons_of_mem _ z) (.lst us)) e4)
  | exc C f d =>
    cases hr
    obtain ⟨_, a, u, e1, e2, e3⟩ := h
    exact ⟨a, u, e1, e2.same s, fun z => Da.same s d (e3 z)⟩
def fz (f : M Wv) : M R := M.bind f fun w => lift (ofW w)
theorem OkW.e {t : TE} {f : M Wv} (o : OkW K E t f) : OkE K E t (fz f) := by
  refine ⟨?_⟩
  intro B σ H env l rs rp h Q post
  refine o.seq rp h post.exn fun a e v H' lw h1 r1 f1 q1 nd fr => ?_
  obtain ⟨r, h2, h3⟩ := lift_some h1
  subst h3
  refine post v H' (r1.less fun _ z => .inl z) f1 (rpW_free h2 (off_mono (fun b z n => absurd (z.elim (fun z => .inl (.inl z)) .inr) n) fun b o n e => e) (fun b z us e => ?_) q1)
  refine (off_ne fun y => ?_).trans e
  exact rp.fresh (fr b z) y
inductive Fl where
  | nx | bk | ct
  | rt (w : Wv)
def PostS (K : PySem.W.Frag) (E : XK) (bx : Nat) (B : Addr → Prop) (σ : St) (H : Hp) (l : List Addr) (rs : Rs Fl) (D : Ends) : Prop :=
  match rs with
  | .ok .nx env' => ∀ σ' H' l', Rep K B σ' H' env' l' → Fr2 l H l' H' → (∀ z : Fin bx, σ'[z.1]? = σ[z.1]?) → D.nx σ' H'
  | .ok .bk env' => ∀ σ' H' l', Rep K B σ' H' env' l' → Fr2 l H l' H' → (∀ z : Fin bx, σ'[z.1]? = σ[z.1]?) → D.bk σ' H'
  | .ok .ct env' => ∀ σ' H' l', Rep K B σ' H' env' l' → Fr2 l H l' H' → (∀ z : Fin bx, σ'[z.1]? = σ[z.1]?) → D.ct σ' H'
  | .ok (.rt w) env' => ∀ v σ' H' l' lw, Rep K (un B lw) σ' H' env' l' → Fr2 l H (l' ++ lw) H' → (∀ z : Fin bx, σ'[z.1]? = σ[z.1]?) → RpW K H' (off (un (un B lw) l') H') v w lw → lw.Nodup → (∀ b ∈ lw, b ∉ l' ∧ ¬ B b) → D.rt v H'
  | .ex C f d => Exn K E B H l C f d
structure OkS (K : PySem.W.Frag) (E : XK) (bx : Nat) (t : TS) (f : M Fl) : Prop where
  run : ∀ {B : Addr → Prop} {σ : St} {H : Hp} {env : En} {l : List Addr} {rs : Rs Fl}, Rep K B σ H env l → f env = some rs → ∀ {D : Ends}, PostS K E bx B σ H l rs D → t D σ H
variable {bx : Nat}
theorem PostS.exn {B : Addr → Prop} {σ : St} {H : Hp} {l : List Addr} {rs : Rs Fl} {D : Ends} (h : PostS K E bx B σ H l rs D) : ∀ C f d, rs = .ex C f d → Exn K E B H l C f d := fun C f d e => by subst e; exact h
theorem PostS.later {B : Addr → Prop} {σ σ1 : St} {H H1 : Hp} {l l1 : List Addr} {rs : Rs Fl} {D : Ends} (h : PostS K E bx B σ H l rs D) (s : Fr2 l H l1 H1) (e0 : ∀ z : Fin bx, σ1[z.1]? = σ[z.1]?) : PostS K E bx B σ1 H1 l1 rs D := by
  cases rs with
  | ex C f d => exact Exn.later2 h s
  | ok fl env =>
    cases fl with
    | nx => exact fun σ' H' l' r f b => h σ' H' l' r (s.trans f) fun z => (b z).trans (e0 z)
    | bk => exact fun σ' H' l' r f b => h σ' H' l' r (s.trans f) fun z => (b z).trans (e0 z)
    | ct => exact fun σ' H' l' r f b => h σ' H' l' r (s.trans f) fun z => (b z).trans (e0 z)
    | rt w => exact fun v σ' H' l' lw r f b => h v σ' H' l' lw r (s.trans f) fun z => (b z).trans (e0 z)
def nxt : M Fl := M.pure .nx
theorem OkS.nil : OkS K E bx tNext nxt := by
  refine ⟨?_⟩
  intro B σ H env l rs rp h D post
  cases h
  exact post σ H l rp (Fr2.refl _ _) fun _ => rfl
def thenS (f g : M Fl) : M Fl := M.bind f fun fl => match fl with
  | .nx => g
  | o => M.pure o
theorem OkS.cut {t u : TS} {f g : M Fl} (o : OkS K E bx t f) (o' : OkS K E bx u g) : OkS K E bx (Evl.tCut t u) (thenS f g) := by
  refine ⟨?_⟩
  intro B σ H env l rs rp h D post
  rcases bind_some h with ⟨fl, e, h1, h2⟩ | ⟨C, g', d, h1, h2⟩
  · cases fl with
    | nx => exact ⟨fun σ' H' => ∃ l', Rep K B σ' H' e l' ∧ Fr2 l H l' H' ∧ (∀ z : Fin bx, σ'[z.1]? = σ[z.1]?), o.run rp h1 (fun σ' H' l' r f b => ⟨l', r, f, b⟩), fun σ' H' ⟨l', r, f, b⟩ => o'.run r h2 (post.later f b)⟩
    | bk => cases h2; exact ⟨fun _ _ => False, o.run rp h1 post, fun _ _ z => z.elim⟩
    | ct => cases h2; exact ⟨fun _ _ => False, o.run rp h1 post, fun _ _ z => z.elim⟩
    | rt w => cases h2; exact ⟨fun _ _ => False, o.run rp h1 post, fun _ _ z => z.elim⟩
  · subst h2; exact ⟨fun _ _ => False, o.run rp h1 post, fun _ _ z => z.elim⟩
def exprS (f : M R) : M Fl := M.bind f fun _ => M.pure .nx
theorem OkS.expr {t : TE} {f : M R} (o : OkE K E t f) : OkS K E bx (tDrop t) (exprS f) := by
  refine ⟨?_⟩
  intro B σ H env l rs rp h D post
  refine o.seq rp h post.exn fun a e v H' h1 r1 f1 q1 => ?_
  cases h1
  exact post σ H' l r1 (Fr2.of f1) fun _ => rfl
def retS (f : M Wv) : M Fl := M.bind f fun w => M.pure (.rt w)
theorem OkS.ret {t : TE} {f : M Wv} (o : OkW K E t f) : OkS K E bx (tRet t) (retS f) := by
  refine ⟨?_⟩
  intro B σ H env l rs rp h D post
  refine o.seq rp h post.exn fun a e v H' lw h1 r1 f1 q1 nd fr => ?_
  cases h1
  exact post v σ H' l lw r1 ⟨f1, fun b z => (List.mem_append.mp z).imp id (fr b)⟩ (fun _ => rfl) q1 nd fun b z => ⟨fun y => rp.fresh (fr b z) (.inr y), fun y => rp.fresh (fr b z) (.inl y)⟩
def retN : M Fl := M.pure (.rt (.dat .none))
/-- the list of slot i leaves -/
def moveS (i : Nat) : M Fl := fun env =>
  match env[i]? with
  | some (some (.own xs)) => some (.ok (.rt (.own xs)) (env.set i none))
  | _ => none
theorem OkS.move (i : Nat) : OkS K E bx (tRet (tVar i)) (moveS i) := by
  refine ⟨?_⟩
  intro B σ H env l rs rp h D post
  unfold moveS at h
  split at h
  · rename_i xs hx
    cases h
    obtain ⟨s, a, lx, ly, q1, q2, ⟨v, q3, q4⟩, q5⟩ := rp.rp.focus hx
    subst q3
    have ev : un (un B a) (lx ++ ([] ++ ly)) = un B l := by
      rw [un_app, q2]
      funext b
      refine propext ⟨fun z => z.imp id fun z => ?_, fun z => z.imp id fun z => ?_⟩
      · rcases List.mem_append.mp z with z | z
        · exact List.mem_append_right _ (List.mem_append_left _ z)
        · rcases List.mem_append.mp z with z | z
          · exact List.mem_append_left _ z
          · exact List.mem_append_right _ (List.mem_append_right _ (by simpa using z))
      · rcases List.mem_append.mp z with z | z
        · exact List.mem_append_right _ (List.mem_append_left _ z)
        · rcases List.mem_append.mp z with z | z
          · exact List.mem_append_left _ z
          · exact List.mem_append_right _ (List.mem_append_right _ (by simpa using z))
    have nd := rp.nd
    rw [q2] at nd
    obtain ⟨n1, n2, n3⟩ := List.nodup_append.mp nd
    obtain ⟨n4, n5, n6⟩ := List.nodup_append.mp n2
    have e : σ.set i (some v) = σ := by
      apply List.ext_getElem?
      intro j
      by_cases z : i = j
      · subst z; rw [List.getElem?_set_self (List.getElem?_eq_some_iff.mp q1).1, q1]
      · rw [List.getElem?_set_ne z]
    have r' : Rep K (un B a) σ H (env.set i none) (lx ++ ([] ++ ly)) := by
      refine ⟨?_, ?_, ?_, ?_⟩
      · rw [ev]
        have := q5 (H' := H) (G' := off (un B l) H) (s' := some v) (e' := none) (a' := []) (fun _ _ z => z) (fun _ _ => rfl) (fun _ _ => rfl) rfl
        rw [e] at this
        exact this
      · rw [List.nil_append]
        exact List.nodup_append.mpr ⟨n1, n5, fun x hx y hy => n3 x hx y (List.mem_append_right _ hy)⟩
      · intro b z y
        rw [List.nil_append] at z
        rcases y with y | y
        · refine rp.out b ?_ y
          rw [q2]
          exact (List.mem_append.mp z).elim (List.mem_append_left _) fun z => List.mem_append_right _ (List.mem_append_right _ z)
        · rcases List.mem_append.mp z with z | z
          · exact n3 b z b (List.mem_append_left _ y) rfl
          · exact n6 b y b z rfl
      · intro b z
        refine rp.tl b (z.imp id fun z => ?_)
        rw [q2]
        exact List.mem_append_right _ (List.mem_append_left _ z)
    refine ⟨v, q1, post v σ H (lx ++ ([] ++ ly)) a r' ⟨Fr.refl _ _, fun b z => .inl ?_⟩ (fun _ => rfl) (by rw [ev]; exact q4) n4 fun b z => ⟨fun y => ?_, fun y => ?_⟩⟩
    · rw [q2]
      rcases List.mem_append.mp z with z | z
      · rw [List.nil_append] at z
        exact (List.mem_append.mp z).elim (List.mem_append_left _) fun z => List.mem_append_right _ (List.mem_append_right _ z)
      · exact List.mem_append_right _ (List.mem_append_left _ z)
    · rw [List.nil_append] at y
      rcases List.mem_append.mp y with y | y
      · exact n3 b y b (List.mem_append_left _ z) rfl
      · exact n6 b z b y rfl
    · exact rp.out b (by rw [q2]; exact List.mem_append_right _ (List.mem_append_left _ z)) y
  · cases h
def ifS (c : M Bool) (f g : M Fl) : M Fl := M.bind c fun b => if b = true then f else g
theorem OkS.ife {c : TT} {t u : TS} {fc : M Bool} {f g : M Fl} (oc : OkT K E c fc) (o : OkS K E bx t f) (o' : OkS K E bx u g) : OkS K E bx (tIfS c t u) (ifS fc f g) := by
  refine ⟨?_⟩
  intro B σ H env l rs rp h D post
  refine oc.seq rp h post.exn fun b e H1 h1 r1 f1 => ?_
  cases b with
  | true => exact iteT (o.run r1 (by simpa using h1) (post.later (Fr2.of f1) fun _ => rfl))
  | false => exact iteF (o'.run r1 (by simpa using h1) (post.later (Fr2.of f1) fun _ => rfl))
/-! stores to names -/
theorem Rep.put {B : Addr → Prop} {σ : St} {H : Hp} {env : En} {l lw : List Addr} {i : Nat} {v : V} {w : Wv} (r : Rep K (un B lw) σ H env l) (hi : i < env.length) (h : RpW K H (off (un (un B lw) l) H) v w lw) (nd : lw.Nodup) (hw : ∀ b ∈ lw, b ∉ l ∧ ¬ B b) :
    ∃ l', Rep K B (σ.set i (some v)) H (env.set i (some w)) l' ∧ ∀ b ∈ l', b ∈ l ∨ b ∈ lw := by
  obtain ⟨s, a, lx, ly, q1, q2, q3, q5⟩ := r.rp.focus (List.getElem?_eq_getElem hi)
  have nd0 := r.nd
  rw [q2] at nd0
  obtain ⟨n1, n2, n3⟩ := List.nodup_append.mp nd0
  obtain ⟨n4, n5, n6⟩ := List.nodup_append.mp n2
  have mem : ∀ b ∈ lx ++ (lw ++ ly), b ∈ l ∨ b ∈ lw := fun b z => by
    rw [q2]
    rcases List.mem_append.mp z with z | z
    · exact .inl (List.mem_append_left _ z)
    · rcases List.mem_append.mp z with z | z
      · exact .inr z
      · exact .inl (List.mem_append_right _ (List.mem_append_right _ z))
  have sub : Same (off (un (un B lw) l) H) (off (un B (lx ++ (lw ++ ly))) H) := off_mono (fun b z n => absurd (z.elim (fun z => .inl (.inl z)) fun z => (mem b z).elim .inr fun z => .inl (.inr z)) n) fun b o n e => e
  refine ⟨lx ++ (lw ++ ly), ⟨q5 sub (fun _ _ => rfl) (fun _ _ => rfl) ⟨v, rfl, h.mv sub fun _ _ => rfl⟩, ?_, ?_, fun b z => r.tb b (.inl z)⟩, mem⟩
  · have inl : ∀ b ∈ ly, b ∈ l := fun b z => by rw [q2]; exact List.mem_append_right _ (List.mem_append_right _ z)
    have inx : ∀ b ∈ lx, b ∈ l := fun b z => by rw [q2]; exact List.mem_append_left _ z
    refine List.nodup_append.mpr ⟨n1, List.nodup_append.mpr ⟨nd, n5, fun x hx y hy e => (hw x hx).1 (by rw [e]; exact inl y hy)⟩, fun x hx y hy e => ?_⟩
    rcases List.mem_append.mp hy with z | z
    · exact (hw y z).1 (by rw [← e]; exact inx x hx)
    · exact n3 x hx y (List.mem_append_right _ z) e
  · intro b z y
    rcases mem b z with z | z
    · exact r.out b z (.inl y)
    · exact (hw b z).2 y
def putM (i : Nat) (w : Wv) : M Unit := fun env => if i < env.length then some (.ok () (env.set i (some w))) else none
theorem putM_some {i : Nat} {w : Wv} {env : En} {rs : Rs Unit} (h : putM i w env = some rs) : i < env.length ∧ rs = .ok () (env.set i (some w)) := by
  unfold putM at h
  split at h
  · cases h; exact ⟨by assumption, rfl⟩
  · cases h
def setS (i : Nat) (f : M Wv) : M Fl := M.bind f fun w => M.bind (putM i w) fun _ => M.pure .nx
theorem putM_step {α : Type} {i : Nat} {w : Wv} {g : Unit → M α} {env : En} {rs : Rs α} (h : (M.bind (putM i w) g) env = some rs) : i < env.length ∧ g () (env.set i (some w)) = some rs := by
  rcases bind_some h with ⟨a, e, h1, h2⟩ | ⟨C, f, d, h1, h2⟩
  · obtain ⟨z, e1⟩ := putM_some h1
    cases e1
    exact ⟨z, h2⟩
  · obtain ⟨z, e1⟩ := putM_some h1
    cases e1
theorem OkS.set {i : Nat} {t : TE} {f : M Wv} (hb : ∀ z : Fin bx, i ≠ z.1) (o : OkW K E t f) : OkS K E bx (tAsg t (gName i)) (setS i f) := by
  refine ⟨?_⟩
  intro B σ H env l rs rp h D post
  refine o.seq rp h post.exn fun w e v H' lw h1 r1 f1 q1 nd fr => ?_
  obtain ⟨hi, h2⟩ := putM_step h1
  cases h2
  obtain ⟨l', r', m⟩ := r1.put hi q1 nd fun b z => ⟨fun y => rp.fresh (fr b z) (.inr y), fun y => rp.fresh (fr b z) (.inl y)⟩
  exact post _ H' l' r' ⟨f1, fun b z => (m b z).imp id (fr b)⟩ fun z => List.getElem?_set_ne (hb z)
end
end Ov
set_option Elab.async false
set_option linter.all false
set_option maxRecDepth 100000
set_option maxHeartbeats 4000000
namespace Ov
open PySem L2
/-! targets -/
def isOwn : Option (Option Wv) → Bool
  | some (some (.own _)) => true
  | some (some (.dct _)) => true
  | some (some (.lin _ _ _)) => true
  | some (some (.dci _)) => true
  | some (some (.dtk _)) => true
  | some (some (.dts _)) => true
  | some (some (.dtn _)) => true
  | some (some (.dtd _)) => true
  | _ => false
def free (env : En) (js : List Nat) : Prop := ∀ j ∈ js, isOwn env[j]? = false
section
variable {K : PySem.W.Frag} {E : XK} {bx : Nat}
structure OkG (K : PySem.W.Frag) (g : TG) (js : List Nat) (p : PyData → En → Option En) : Prop where
  run : ∀ {B : Addr → Prop} {σ : St} {H : Hp} {env env' : En} {l : List Addr} {v : V} {d : PyData}, Rep K B σ H env l → Da K (off (un B l) H) v d → p d env = some env' → ∀ {Q : St → Hp → Prop},
    (∀ σ' l', Rep K B σ' H env' l' → (∀ b ∈ l', b ∈ l) → (free env js → l' = l) → (∀ j, j ∉ js → σ'[j]? = σ[j]?) → Q σ' H) → g v σ H Q
  keep : ∀ {d : PyData} {env env' : En}, p d env = some env' → (∀ j, j ∉ js → env'[j]? = env[j]?) ∧ (∀ j ∈ js, isOwn env'[j]? = false) ∧ env'.length = env.length
structure OkGs (K : PySem.W.Frag) (g : TGs) (js : List Nat) (n : Nat) (p : List PyData → En → Option En) : Prop where
  run : ∀ {B : Addr → Prop} {σ : St} {H : Hp} {env env' : En} {l : List Addr} {vs : List V} {ds : List PyData}, Rep K B σ H env l → DaAll K (off (un B l) H) vs ds → p ds env = some env' → ∀ {Q : St → Hp → Prop},
    (∀ σ' l', Rep K B σ' H env' l' → (∀ b ∈ l', b ∈ l) → (free env js → l' = l) → (∀ j, j ∉ js → σ'[j]? = σ[j]?) → Q σ' H) → g vs σ H Q
  keep : ∀ {ds : List PyData} {env env' : En}, p ds env = some env' → (∀ j, j ∉ js → env'[j]? = env[j]?) ∧ (∀ j ∈ js, isOwn env'[j]? = false) ∧ env'.length = env.length
  len : ∀ {ds : List PyData} {env env' : En}, p ds env = some env' → ds.length = n
def gN (i : Nat) (d : PyData) (env : En) : Option En := if i < env.length then some (env.set i (some (.dat d))) else none
theorem Rep.putD {B : Addr → Prop} {σ : St} {H : Hp} {env : En} {l : List Addr} {i : Nat} {v : V} {d : PyData} (r : Rep K B σ H env l) (hi : i < env.length) (h : Da K (off (un B l) H) v d) :
    ∃ l', Rep K B (σ.set i (some v)) H (env.set i (some (.dat d))) l' ∧ (∀ b ∈ l', b ∈ l) ∧ (isOwn env[i]? = false → l' = l) := by
  obtain ⟨s, a, lx, ly, q1, q2, q3, q5⟩ := r.rp.focus (List.getElem?_eq_getElem hi)
  have nd0 := r.nd
  rw [q2] at nd0
  obtain ⟨n1, n2, n3⟩ := List.nodup_append.mp nd0
  obtain ⟨n4, n5, n6⟩ := List.nodup_append.mp n2
  have mem : ∀ b ∈ lx ++ ([] ++ ly), b ∈ l := fun b z => by
    rw [q2]
    rcases List.mem_append.mp z with z | z
    · exact List.mem_append_left _ z
    · exact List.mem_append_right _ (List.mem_append_right _ (by simpa using z))
  have sub : Same (off (un B l) H) (off (un B (lx ++ ([] ++ ly))) H) := off_mono (fun b z n => absurd (z.imp id (mem b)) n) fun b o n e => e
  refine ⟨lx ++ ([] ++ ly), ⟨q5 sub (fun _ _ => rfl) (fun _ _ => rfl) ⟨v, rfl, rfl, Da.same sub d h⟩, ?_, fun b z => r.out b (mem b z), r.tb⟩, mem, fun z => ?_⟩
  · rw [List.nil_append]
    exact List.nodup_append.mpr ⟨n1, n5, fun x hx y hy => n3 x hx y (List.mem_append_right _ hy)⟩
  · rw [List.getElem?_eq_getElem hi] at z
    have : a = [] := by
      cases q : env[i] with
      | none => rw [q] at q3; exact q3
      | some w =>
        rw [q] at q3 z
        obtain ⟨v', _, q3⟩ := q3
        cases w with
        | dat _ => exact q3.1
        | own xs => cases z
        | dct _ => cases z
        | lin _ _ _ => cases z
        | dci ks => cases z
        | dtk ks => cases z
        | dts ks => cases z
        | pin _ _ => exact q3.1
        | dtn _ => cases z
        | dtd _ => cases z
        | nd _ => exact q3.1
        | ndd _ => exact q3.1
        | lkd _ => exact q3.1
        | exc _ _ _ => exact q3.1
    rw [q2, this]
theorem OkG.name (i : Nat) : OkG K (gName i) [i] (gN i) := by
  refine ⟨?_, ?_⟩
  · intro B σ H env env' l v d r h e Q q
    unfold gN at e
    split at e
    · rename_i hi
      cases e
      obtain ⟨l', r', m, f⟩ := r.putD hi h
      exact q _ l' r' m (fun z => f (z i (List.mem_cons_self ..))) fun j n => List.getElem?_set_ne fun z => n (by rw [z]; exact List.mem_cons_self ..)
    · cases e
  · intro d env env' e
    unfold gN at e
    split at e
    · rename_i hi
      cases e
      refine ⟨fun j n => List.getElem?_set_ne fun z => n (by rw [z]; exact List.mem_cons_self ..), fun j z => ?_, List.length_set ..⟩
      cases List.mem_singleton.mp z
      rw [List.getElem?_set_self hi]
      rfl
    · cases e
def gsN (ds : List PyData) (env : En) : Option En :=
  match ds with
  | [] => some env
  | _ => none
def gsC (p : PyData → En → Option En) (q : List PyData → En → Option En) (ds : List PyData) (env : En) : Option En :=
  match ds with
  | d :: r => (p d env).bind fun e => q r e
  | [] => none
theorem OkGs.nil : OkGs K gNil [] 0 gsN := by
  refine ⟨?_, ?_, ?_⟩
  · intro B σ H env env' l vs ds r h e Q q
    unfold gsN at e
    split at e
    · cases e; cases h; exact ⟨rfl, q σ l r (fun _ z => z) (fun _ => rfl) fun _ _ => rfl⟩
    · cases e
  · intro ds env env' e
    unfold gsN at e
    split at e
    · cases e; exact ⟨fun _ _ => rfl, fun _ z => (by cases z), rfl⟩
    · cases e
  · intro ds env env' e
    unfold gsN at e
    split at e
    · rfl
    · cases e
theorem OkGs.cons {g : TG} {gs : TGs} {is js : List Nat} {n : Nat} {p : PyData → En → Option En} {q : List PyData → En → Option En} (o : OkG K g is p) (os : OkGs K gs js n q) : OkGs K (gCons g gs) (is ++ js) (n + 1) (gsC p q) := by
  have two : ∀ {d : PyData} {env e : En}, p d env = some e → free env (is ++ js) → free env is ∧ free e js := fun {d env e} h f => by
    obtain ⟨k1, k2, _⟩ := o.keep h
    refine ⟨fun j z => f j (List.mem_append_left _ z), fun j z => ?_⟩
    by_cases y : j ∈ is
    · exact k2 j y
    · rw [k1 j y]; exact f j (List.mem_append_right _ z)
  refine ⟨?_, ?_, ?_⟩
  · intro B σ H env env' l vs ds r h e Q k
    cases ds with
    | nil => cases e
    | cons d ds =>
      obtain ⟨e1, h1, h2⟩ := Option.bind_eq_some_iff.mp (show (p d env).bind (fun e => q ds e) = some env' from e)
      cases h with
      | cons ha hr =>
        refine ⟨_, _, rfl, o.run r ha h1 fun σ1 l1 r1 m1 f1 k1 => ?_⟩
        have sub : Same (off (un B l) H) (off (un B l1) H) := off_mono (fun b z n => absurd (z.imp id (m1 b)) n) fun b o n e => e
        refine os.run r1 (DaAll.same sub ds hr) h2 fun σ2 l2 r2 m2 f2 k2 => ?_
        refine k σ2 l2 r2 (fun b z => m1 b (m2 b z)) (fun f => ?_) fun j n => ?_
        · obtain ⟨f3, f4⟩ := two h1 f
          rw [f2 f4, f1 f3]
        · rw [k2 j fun z => n (List.mem_append_right _ z), k1 j fun z => n (List.mem_append_left _ z)]
  · intro ds env env' e
    cases ds with
    | nil => cases e
    | cons d ds =>
      obtain ⟨e1, h1, h2⟩ := Option.bind_eq_some_iff.mp (show (p d env).bind (fun e => q ds e) = some env' from e)
      obtain ⟨a1, a2, a3⟩ := o.keep h1
      obtain ⟨b1, b2, b3⟩ := os.keep h2
      refine ⟨fun j n => ?_, fun j z => ?_, b3.trans a3⟩
      · rw [b1 j fun z => n (List.mem_append_right _ z), a1 j fun z => n (List.mem_append_left _ z)]
      · by_cases y : j ∈ js
        · exact b2 j y
        · rw [b1 j y]
          exact a2 j ((List.mem_append.mp z).resolve_right y)
  · intro ds env env' e
    cases ds with
    | nil => cases e
    | cons d ds =>
      obtain ⟨e1, h1, h2⟩ := Option.bind_eq_some_iff.mp (show (p d env).bind (fun e => q ds e) = some env' from e)
      rw [List.length_cons, os.len h2]
def gT (q : List PyData → En → Option En) (d : PyData) (env : En) : Option En :=
  match d with
  | .tuple ds => q ds env
  | _ => none
theorem OkG.tup {gs : TGs} {js : List Nat} {n : Nat} {q : List PyData → En → Option En} (os : OkGs K gs js n q) : OkG K (gTup K n gs) js (gT q) := by
  refine ⟨?_, ?_⟩
  · intro B σ H env env' l v d r h e Q k
    cases d with
    | tuple ds =>
      cases h with
      | tup hq ha =>
        exact ⟨_, _, rfl, hq.off.sq, (daAll_len ha).trans (os.len (show q ds env = some env' from e)), os.run r ha e k⟩
    | none => cases e
    | bool _ => cases e
    | int _ => cases e
    | str _ => cases e
    | list _ => cases e
    | dict _ => cases e
  · intro d env env' e
    cases d with
    | tuple ds => exact os.keep (show q ds env = some env' from e)
    | none => cases e
    | bool _ => cases e
    | int _ => cases e
    | str _ => cases e
    | list _ => cases e
    | dict _ => cases e
def liftE (p : En → Option En) : M Unit := fun env => (p env).map fun e => .ok () e
theorem liftE_step {α : Type} {p : En → Option En} {g : Unit → M α} {env : En} {rs : Rs α} (h : (M.bind (liftE p) g) env = some rs) : ∃ e, p env = some e ∧ g () e = some rs := by
  rcases bind_some h with ⟨a, e, h1, h2⟩ | ⟨C, f, d, h1, h2⟩
  · obtain ⟨e', h3, h4⟩ := Option.map_eq_some_iff.mp (show (p env).map (fun e => Rs.ok () e) = _ from h1)
    cases h4
    exact ⟨e, h3, h2⟩
  · obtain ⟨e', h3, h4⟩ := Option.map_eq_some_iff.mp (show (p env).map (fun e => Rs.ok () e) = _ from h1)
    cases h4
def asD : R → Option PyData
  | .dat d => some d
  | _ => none
theorem asD_some {a : R} {d : PyData} (h : asD a = some d) : a = .dat d := by
  unfold asD at h
  split at h
  · cases h; rfl
  · cases h
/-- a, b = e -/
def unS (p : PyData → En → Option En) (f : M R) : M Fl := M.bind f fun r => M.bind (lift (asD r)) fun d => M.bind (liftE (p d)) fun _ => M.pure .nx
theorem OkS.unpack {g : TG} {js : List Nat} {p : PyData → En → Option En} {t : TE} {f : M R} (og : OkG K g js p) (hb : ∀ z : Fin bx, z.1 ∉ js) (o : OkE K E t f) : OkS K E bx (tAsg t g) (unS p f) := by
  refine ⟨?_⟩
  intro B σ H env l rs rp h D post
  refine o.seq rp h post.exn fun a e v H' h1 r1 f1 q1 => ?_
  obtain ⟨d, h2, h3⟩ := lift_step h1
  obtain ⟨e2, h4, h5⟩ := liftE_step h3
  cases h5
  rw [asD_some h2] at q1
  exact og.run r1 q1 h4 fun σ' l' r' m f k => post σ' H' l' r' ⟨f1, fun b z => .inl (m b z)⟩ fun z => k z.1 (hb z)
/-! what is walked -/
def PostI (K : PySem.W.Frag) (E : XK) (B : Addr → Prop) (σ : St) (H : Hp) (l : List Addr) (rs : Rs (List PyData)) (R : It → Hp → Prop) : Prop :=
  match rs with
  | .ok ds env' => ∀ J H' G Y, Rep K B σ H' env' l → Fr l H H' → Walk J ds.length G Y → (∀ H2, Fr l H' H2 → G H2) →
      (∀ i x H2 H3 d S, Fr l H' H2 → Y i H2 x H3 → ds[i]? = some d → (∀ b, S b → un B l b ∨ H' b = none) → (∀ b, S b → ∃ o, H2 b = some o ∧ NT o) → Same H2 H3 ∧ Da K (off S H3) x d) → R J H'
  | .ex C f d => Exn K E B H l C f d
structure OkI (K : PySem.W.Frag) (E : XK) (t : TI) (f : M (List PyData)) : Prop where
  run : ∀ {B : Addr → Prop} {σ : St} {H : Hp} {env : En} {l : List Addr} {rs : Rs (List PyData)}, Rep K B σ H env l → f env = some rs → ∀ {R : It → Hp → Prop}, PostI K E B σ H l rs R → t σ H R
theorem PostI.exn {B : Addr → Prop} {σ : St} {H : Hp} {l : List Addr} {rs : Rs (List PyData)} {R : It → Hp → Prop} (h : PostI K E B σ H l rs R) : ∀ C f d, rs = .ex C f d → Exn K E B H l C f d := fun C f d e => by subst e; exact h
theorem Da.walk {B S : Addr → Prop} {l : List Addr} {H H2 : Hp} {x : V} {d : PyData} (h : Da K (off (un B l) H) x d) (f : Fr l H H2) (hs : ∀ b, S b → un B l b ∨ H b = none) : Da K (off S H2) x d :=
  Da.same (off_mono (fun b z n => (hs b z).resolve_left n) fun b o n e => f b o (fun z => n (.inr z)) e) d h
/-! for -/
def forM (p : PyData → En → Option En) (body : M Fl) : List PyData → M Fl
  | [] => M.pure .nx
  | d :: ds => fun env =>
    match p d env with
    | none => none
    | some e =>
      match body e with
      | none => none
      | some (.ex C f d) => some (.ex C f d)
      | some (.ok .nx e2) => forM p body ds e2
      | some (.ok .ct e2) => forM p body ds e2
      | some (.ok .bk e2) => some (.ok .nx e2)
      | some (.ok (.rt w) e2) => some (.ok (.rt w) e2)
def forS (fi : M (List PyData)) (p : PyData → En → Option En) (body : M Fl) : M Fl := M.bind fi fun ds => forM p body ds
theorem OkS.for {wi : TI} {g : TG} {tb : TS} {fi : M (List PyData)} {js : List Nat} {p : PyData → En → Option En} {body : M Fl} (oi : OkI K E wi fi) (og : OkG K g js p) (hb : ∀ z : Fin bx, z.1 ∉ js) (ob : OkS K E bx tb body) : OkS K E bx (tFor wi g tb) (forS fi p body) := by
  refine ⟨?_⟩
  intro B σ H env l rs rp h D post
  rcases bind_some h with ⟨ds, e0, h1, h2⟩ | ⟨C, f, d, h1, h2⟩
  case inr => exact oi.run rp h1 (post.exn C f d h2)
  refine oi.run rp h1 ?_
  intro J H1 G Y r1 f1 wk hG hY
  have post1 := post.later (Fr2.of f1) (σ1 := σ) fun _ => rfl
  refine for_it wk (fun i σ' H' => ∃ env_i l_i, Rep K B σ' H' env_i l_i ∧ Fr2 l H1 l_i H' ∧ (∀ z : Fin bx, σ'[z.1]? = σ[z.1]?) ∧ forM p body (ds.drop i) env_i = some rs) ⟨e0, l, r1, Fr2.refl _ _, fun _ => rfl, h2⟩ (fun i σ' H' _ ⟨_, _, _, f, _⟩ => hG H' f.fr) ?_ ?_
  · rintro i x σ' H2 H3 hi ⟨ei, li, ri, fi, b0, hi2⟩ hy
    have hd : ds.drop i = ds[i] :: ds.drop (i + 1) := List.drop_eq_getElem_cons hi
    rw [hd] at hi2
    unfold forM at hi2
    obtain ⟨s3, da⟩ := hY i x H2 H3 ds[i] (un B li) fi.fr hy (List.getElem?_eq_getElem hi) (fun b z => z.elim (fun z => .inl (.inl z)) fun z => (fi.sub b z).imp .inr id) ri.tl
    have r3 := ri.same s3
    cases q : p ds[i] ei with
    | none => rw [q] at hi2; cases hi2
    | some e2 =>
      rw [q] at hi2
      simp only at hi2
      refine og.run r3 da q fun σ4 l4 r4 m4 _ k4 => ?_
      have f4 : Fr2 l H1 l4 H3 := fi.trans ⟨Fr.of s3, fun b z => .inl (m4 b z)⟩
      have b4 : ∀ z : Fin bx, σ4[z.1]? = σ[z.1]? := fun z => (k4 z.1 (hb z)).trans (b0 z)
      cases q2 : body e2 with
      | none => rw [q2] at hi2; cases hi2
      | some z =>
        rw [q2] at hi2
        cases z with
        | ex C f d => cases hi2; exact ob.run r4 q2 (Exn.later2 post1 f4)
        | ok fl e3 =>
          cases fl with
          | nx => exact ob.run r4 q2 fun σ5 H5 l5 r5 f5 b5 => ⟨e3, l5, r5, f4.trans f5, fun z => (b5 z).trans (b4 z), hi2⟩
          | ct => exact ob.run r4 q2 fun σ5 H5 l5 r5 f5 b5 => ⟨e3, l5, r5, f4.trans f5, fun z => (b5 z).trans (b4 z), hi2⟩
          | bk => cases hi2; exact ob.run r4 q2 fun σ5 H5 l5 r5 f5 b5 => post1 σ5 H5 l5 r5 (f4.trans f5) fun z => (b5 z).trans (b4 z)
          | rt w => cases hi2; exact ob.run r4 q2 fun v σ5 H5 l5 lw r5 f5 b5 => post1 v σ5 H5 l5 lw r5 (f4.trans f5) fun z => (b5 z).trans (b4 z)
  · rintro σ' H' ⟨en, ln, rn, fn, b0, hn⟩
    rw [List.drop_length] at hn
    cases hn
    exact post1 σ' H' ln rn fn b0
/-! while -/
def whileM (c : M Bool) (body : M Fl) : Nat → M Fl
  | 0 => fun _ => none
  | n + 1 => fun env =>
    match c env with
    | none => none
    | some (.ex C f d) => some (.ex C f d)
    | some (.ok b e) => if b = true then
        match body e with
        | none => none
        | some (.ex C f d) => some (.ex C f d)
        | some (.ok .nx e2) => whileM c body n e2
        | some (.ok .ct e2) => whileM c body n e2
        | some (.ok .bk e2) => some (.ok .nx e2)
        | some (.ok (.rt w) e2) => some (.ok (.rt w) e2)
      else some (.ok .nx e)
theorem OkS.while {c : TT} {tb : TS} {fc : M Bool} {body : M Fl} (n : Nat) (oc : OkT K E c fc) (ob : OkS K E bx tb body) : OkS K E bx (tWhile c tb) (whileM fc body n) := by
  refine ⟨?_⟩
  intro B σ H env l rs rp h D post
  refine ⟨fun m σ' H' => ∃ en ln, Rep K B σ' H' en ln ∧ Fr2 l H ln H' ∧ (∀ z : Fin bx, σ'[z.1]? = σ[z.1]?) ∧ whileM fc body m en = some rs, ⟨n, env, l, rp, Fr2.refl _ _, fun _ => rfl, h⟩, ?_⟩
  rintro m σ' H' ⟨en, ln, rn, fn, b0, hm⟩
  cases m with
  | zero => cases hm
  | succ m =>
    unfold whileM at hm
    cases q : fc en with
    | none => rw [q] at hm; cases hm
    | some z =>
      rw [q] at hm
      cases z with
      | ex C f d => cases hm; exact oc.run rn q (Exn.later2 post fn)
      | ok b e =>
        refine oc.run rn q fun H1 r1 f1 => ?_
        have f1' := fn.trans (Fr2.of f1)
        cases b with
        | false =>
          refine iteF ?_
          cases hm
          exact post σ' H1 ln r1 f1' b0
        | true =>
          refine iteT ?_
          simp only [if_true] at hm
          cases q2 : body e with
          | none => rw [q2] at hm; cases hm
          | some z =>
            rw [q2] at hm
            have nx : ∀ e2, whileM fc body m e2 = some rs → ∀ σ5 H5 l5, Rep K B σ5 H5 e2 l5 → Fr2 ln H1 l5 H5 → (∀ z : Fin bx, σ5[z.1]? = σ'[z.1]?) → ∃ en ln, Rep K B σ5 H5 en ln ∧ Fr2 l H ln H5 ∧ (∀ z : Fin bx, σ5[z.1]? = σ[z.1]?) ∧ whileM fc body m en = some rs :=
              fun e2 h2 σ5 H5 l5 r5 f5 b5 => ⟨e2, l5, r5, f1'.trans f5, fun z => (b5 z).trans (b0 z), h2⟩
            refine ⟨fun σ5 H5 => ∃ en ln, Rep K B σ5 H5 en ln ∧ Fr2 l H ln H5 ∧ (∀ z : Fin bx, σ5[z.1]? = σ[z.1]?) ∧ whileM fc body m en = some rs, fun _ _ z => ⟨m, Nat.lt_succ_self m, z⟩, ?_⟩
            cases z with
            | ex C f d => cases hm; exact ob.run r1 q2 (Exn.later2 post f1')
            | ok fl e3 =>
              cases fl with
              | nx => exact ob.run r1 q2 (nx e3 hm)
              | ct => exact ob.run r1 q2 (nx e3 hm)
              | bk => cases hm; exact ob.run r1 q2 fun σ5 H5 l5 r5 f5 b5 => post σ5 H5 l5 r5 (f1'.trans f5) fun z => (b5 z).trans (b0 z)
              | rt w => cases hm; exact ob.run r1 q2 fun v σ5 H5 l5 lw r5 f5 b5 => post v σ5 H5 l5 lw r5 (f1'.trans f5) fun z => (b5 z).trans (b0 z)
/-! the list of a slot is data from here on -/
def frzM (i : Nat) : M Unit := fun env =>
  match env[i]? with
  | some (some (.own xs)) => some (.ok () (env.set i (some (.dat (.list (xs.map itD))))))
  | some _ => some (.ok () env)
  | none => none
theorem OkS.frz (i : Nat) {t : TS} {f : M Fl} (o : OkS K E bx t f) : OkS K E bx t (M.bind (frzM i) fun _ => f) := by
  refine ⟨?_⟩
  intro B σ H env l rs rp h D post
  rcases bind_some h with ⟨u, e, h1, h2⟩ | ⟨C, f, d, h1, h2⟩
  · unfold frzM at h1
    split at h1
    · rename_i xs hx
      cases h1
      obtain ⟨s, a, lx, ly, q1, q2, ⟨v, q3, q4⟩, q5⟩ := rp.rp.focus hx
      subst q3
      have hi : i < env.length := (List.getElem?_eq_some_iff.mp hx).1
      have nd := rp.nd
      rw [q2] at nd
      obtain ⟨n1, n2, n3⟩ := List.nodup_append.mp nd
      obtain ⟨n4, n5, n6⟩ := List.nodup_append.mp n2
      have mem : ∀ b ∈ lx ++ ([] ++ ly), b ∈ l ∧ b ∉ a := fun b z => by
        rw [q2]
        rcases List.mem_append.mp z with z | z
        · exact ⟨List.mem_append_left _ z, fun y => n3 b z b (List.mem_append_left _ y) rfl⟩
        · have z : b ∈ ly := by simpa using z
          exact ⟨List.mem_append_right _ (List.mem_append_right _ z), fun y => n6 b y b z rfl⟩
      have e : σ.set i (some v) = σ := by
        apply List.ext_getElem?
        intro j
        by_cases z : i = j
        · subst z; rw [List.getElem?_set_self (List.getElem?_eq_some_iff.mp q1).1, q1]
        · rw [List.getElem?_set_ne z]
      have sub : Same (off (un B l) H) (off (un B (lx ++ ([] ++ ly))) H) := off_mono (fun b z n => absurd (z.imp id fun z => (mem b z).1) n) fun b o n e => e
      have da : Da K (off (un B (lx ++ ([] ++ ly))) H) v (.list (xs.map itD)) := by
        have := rpW_free (σ := σ) (show ofW (.own xs) = some _ from rfl) sub (fun b z us e => (off_ne fun y => ?_).trans e) q4
        · exact this
        · rcases y with y | y
          · exact rp.out b (by rw [q2]; exact List.mem_append_right _ (List.mem_append_left _ z)) y
          · exact (mem b y).2 z
      have r' : Rep K B σ H (env.set i (some (.dat (.list (xs.map itD))))) (lx ++ ([] ++ ly)) := by
        refine ⟨?_, ?_, fun b z => rp.out b (mem b z).1, rp.tb⟩
        · have := q5 sub (fun _ _ => rfl) (fun _ _ => rfl) (show RpS K H _ (some v) (some (.dat (.list (xs.map itD)))) [] from ⟨v, rfl, rfl, da⟩)
          rw [e] at this
          exact this
        · rw [List.nil_append]
          exact List.nodup_append.mpr ⟨n1, n5, fun x hx y hy => n3 x hx y (List.mem_append_right _ hy)⟩
      exact o.run r' h2 (post.later ⟨Fr.refl _ _, fun b z => .inl (mem b z).1⟩ fun _ => rfl)
    · cases h1; exact o.run rp h2 post
    · cases h1
  · unfold frzM at h1
    split at h1 <;> cases h1
end
end Ov
set_option Elab.async false
set_option linter.all false
set_option maxRecDepth 100000
set_option maxHeartbeats 4000000
namespace Ov
open PySem L2
/-! comprehensions -/
def wipeE (env : En) : List Nat → En
  | [] => env
  | v :: vs => (wipeE env vs).set v none
def freeB (env : En) (js : List Nat) : Bool := js.all fun j => !isOwn env[j]?
theorem freeB_free {env : En} {js : List Nat} (h : freeB env js = true) : free env js := fun j z => by
  have := List.all_eq_true.mp h j z
  simpa using this
theorem wipeE_length (env : En) : ∀ vs : List Nat, (wipeE env vs).length = env.length
  | [] => rfl
  | v :: vs => by unfold wipeE; rw [List.length_set, wipeE_length env vs]
theorem wipe_get (σ : St) (j : Nat) : ∀ vs : List Nat, (wipe σ vs)[j]? = if j ∈ vs then (if j < σ.length then some none else none) else σ[j]?
  | [] => by simp [wipe]
  | v :: vs => by
    unfold wipe
    have ih := wipe_get σ j vs
    by_cases e : v = j
    · subst e
      by_cases h : v < σ.length
      · rw [List.getElem?_set_self (by rw [wipe_length]; exact h)]; simp [h]
      · rw [List.getElem?_eq_none (by rw [List.length_set, wipe_length]; omega)]; simp [h]
    · rw [List.getElem?_set_ne e, ih]
      have : (j ∈ v :: vs) ↔ j ∈ vs := ⟨fun z => (List.mem_cons.mp z).resolve_left fun z => e z.symm, List.mem_cons_of_mem _⟩
      simp only [this]
theorem wipeE_get (σ : En) (j : Nat) : ∀ vs : List Nat, (wipeE σ vs)[j]? = if j ∈ vs then (if j < σ.length then some none else none) else σ[j]?
  | [] => by simp [wipeE]
  | v :: vs => by
    unfold wipeE
    have ih := wipeE_get σ j vs
    by_cases e : v = j
    · subst e
      by_cases h : v < σ.length
      · rw [List.getElem?_set_self (by rw [wipeE_length]; exact h)]; simp [h]
      · rw [List.getElem?_eq_none (by rw [List.length_set, wipeE_length]; omega)]; simp [h]
    · rw [List.getElem?_set_ne e, ih]
      have : (j ∈ v :: vs) ↔ j ∈ vs := ⟨fun z => (List.mem_cons.mp z).resolve_left fun z => e z.symm, List.mem_cons_of_mem _⟩
      simp only [this]
theorem wipe_ext {σ τ : St} {vs : List Nat} (hl : σ.length = τ.length) (h : ∀ j, j ∉ vs → σ[j]? = τ[j]?) : wipe σ vs = wipe τ vs := by
  apply List.ext_getElem?
  intro j
  rw [wipe_get, wipe_get, hl]
  by_cases z : j ∈ vs
  · simp [z]
  · simp only [z, if_false]; exact h j z
section
variable {K : PySem.W.Frag} {E : XK} {bx : Nat} {H G : Hp}
theorem RpE.drop1 {σ : St} {env : En} {l : List Addr} {v : Nat} (h : RpE K H G σ env l) (f : isOwn env[v]? = false) : RpE K H G (σ.set v none) (env.set v none) l := by
  cases q : env[v]? with
  | none =>
    have n : env.length ≤ v := List.getElem?_eq_none_iff.mp q
    rw [List.set_eq_of_length_le n, List.set_eq_of_length_le (by rw [h.len]; exact n)]
    exact h
  | some e =>
    obtain ⟨s, a, lx, ly, q1, q2, q3, q5⟩ := h.focus q
    have ha : a = [] := by
      rw [q] at f
      cases e with
      | none => exact q3
      | some w =>
        obtain ⟨_, _, q3⟩ := q3
        cases w with
        | dat _ => exact q3.1
        | own _ => cases f
        | dct _ => cases f
        | lin _ _ _ => cases f
        | dci _ => cases f
        | dtk _ => cases f
        | dts _ => cases f
        | pin _ _ => exact q3.1
        | dtn _ => cases f
        | dtd _ => cases f
        | nd _ => exact q3.1
        | ndd _ => exact q3.1
        | lkd _ => exact q3.1
        | exc _ _ _ => exact q3.1
    rw [q2, ha]
    exact q5 (fun _ _ z => z) (fun _ _ => rfl) (fun _ _ => rfl) rfl
theorem RpE.wipe {σ : St} {env : En} {l : List Addr} (h : RpE K H G σ env l) : ∀ {vs : List Nat}, free env vs → RpE K H G (L2.wipe σ vs) (wipeE env vs) l
  | [], _ => h
  | v :: vs, f => by
    refine RpE.drop1 (RpE.wipe h (vs := vs) fun j z => f j (List.mem_cons_of_mem _ z)) ?_
    rw [wipeE_get]
    by_cases z : v ∈ vs
    · simp only [z, if_true]
      by_cases y : v < env.length
      · simp [y, isOwn]
      · simp [y, isOwn]
    · simp only [z, if_false]; exact f v (List.mem_cons_self ..)
/-- what stands in empty slots does not matter -/
theorem RpE.any : ∀ {σ τ : St} {env : En} {l : List Addr}, RpE K H G σ env l → σ.length = τ.length → (∀ (j : Nat) (w : Wv), env[j]? = some (some w) → τ[j]? = σ[j]?) → RpE K H G τ env l
  | [], [], [], l, h, _, _ => h
  | s :: σ, t :: τ, e :: env, l, ⟨a, b, z, h1, h2⟩, hl, hk => by
    refine ⟨a, b, z, ?_, RpE.any h2 (by simpa using hl) fun j w q => hk (j + 1) w q⟩
    cases e with
    | none => exact h1
    | some w =>
      have : t = s := Option.some.inj (hk 0 w rfl)
      rw [this]
      exact h1
theorem Rep.wipe {B : Addr → Prop} {σ : St} {env : En} {l : List Addr} {vs : List Nat} (r : Rep K B σ H env l) (f : free env vs) : Rep K B (L2.wipe σ vs) H (wipeE env vs) l := ⟨r.rp.wipe f, r.nd, r.out, r.tb⟩
theorem Rep.amb {B : Addr → Prop} {σ : St} {env : En} {l : List Addr} {p : Addr} {o : HO} (r : Rep K B σ H env l) (hp : B p) (n : NT o) : Rep K B σ (upd H p o) env l := by
  have sub : Same (off (un B l) H) (off (un B l) (upd H p o)) := off_mono (fun b z n => absurd z n) fun b o n e => by rw [upd_ne (fun z => n (.inl (by rw [z]; exact hp)))]; exact e
  refine ⟨r.rp.mv sub fun q z => upd_ne fun y => r.out q z (y ▸ hp), r.nd, r.out, fun b z => ?_⟩
  by_cases e : b = p
  · subst e; exact ⟨o, upd_same, n⟩
  · rw [upd_ne e]; exact r.tb b z
def yesT : M Bool := M.pure true
theorem OkT.yes : OkT K E tYes yesT := by
  refine ⟨?_⟩
  intro B σ H env l rs rp h Q post
  cases h
  exact post H rp (Fr.refl _ _)
def compM (p : PyData → En → Option En) (ft : M Bool) (fe : M R) (vs : List Nat) : List PyData → List PyData → M (List PyData)
  | [], acc => M.pure acc
  | d :: ds, acc => fun env =>
    match p d env with
    | none => none
    | some e =>
      match ft e with
      | some (.ok b e2) => if b = true then
          match fe e2 with
          | some (.ok (.dat y) e3) => if freeB e3 vs = true ∧ acc.length < 1000000 then compM p ft fe vs ds (acc ++ [y]) (wipeE e3 vs) else none
          | _ => none
        else if freeB e2 vs = true then compM p ft fe vs ds acc (wipeE e2 vs) else none
      | _ => none
theorem compM_noex {p : PyData → En → Option En} {ft : M Bool} {fe : M R} {vs : List Nat} : ∀ {ds acc : List PyData} {env : En} {C : Addr} {f : Str} {d : PyData}, compM p ft fe vs ds acc env ≠ some (.ex C f d)
  | [], acc, env, C, f, d, h => by cases h
  | d :: ds, acc, env, C, f, d', h => by
    unfold compM at h
    split at h
    · cases h
    · split at h
      · split at h
        · split at h
          · split at h
            · exact compM_noex h
            · cases h
          · cases h
        · split at h
          · exact compM_noex h
          · cases h
      · cases h
def lcW (fi : M (List PyData)) (p : PyData → En → Option En) (ft : M Bool) (fe : M R) (vs : List Nat) : M Wv := M.bind fi fun ds => fun env => if freeB env vs = true then (M.bind (compM p ft fe vs ds []) fun out => M.pure (.own (dats out))) (wipeE env vs) else none
theorem OkW.lc {wi : TI} {g : TG} {tt : TT} {te : TE} {vs js : List Nat} {fi : M (List PyData)} {p : PyData → En → Option En} {ft : M Bool} {fe : M R} (oi : OkI K E wi fi) (og : OkG K g js p) (hj : ∀ j ∈ js, j ∈ vs) (ot : OkT K L2.E0 tt ft) (oe : OkE K L2.E0 te fe) :
    OkW K E (tLc wi g tt te vs) (lcW fi p ft fe vs) := by
  refine ⟨?_⟩
  intro B σ H env l rs rp h Q post
  rcases bind_some h with ⟨ds, e0, h1, h2⟩ | ⟨C, f, d, h1, h2⟩
  case inr => exact oi.run rp h1 (post.exn C f d h2)
  split at h2
  case isFalse => cases h2
  rename_i hf0
  rcases bind_some h2 with ⟨out, e9, h3, h4⟩ | ⟨C, f, d, h3, _⟩
  case inr => exact absurd h3 compM_noex
  cases h4
  refine oi.run rp h1 ?_
  intro J H1 G Y r1 f1 wk hG hY D hD
  have nD : ∀ b ∈ l, b ≠ D := fun b z e => r1.fresh hD (.inr (e ▸ z))
  have r1' : Rep K (un B [D]) σ (upd H1 D (.lst [])) e0 l := r1.grow (same_new hD _) (fun _ z => .inl z) (fun b z => z.imp id fun z => by rw [List.mem_singleton.mp z]; exact hD) fun b z => by
    by_cases e : b = D
    · subst e; exact ⟨_, upd_same, trivial⟩
    · rw [upd_ne e]; exact r1.tb b (z.resolve_right fun z => e (List.mem_singleton.mp z))
  refine lc_it wk (fun i H' => ∃ env_i acc va, Rep K (un B [D]) (L2.wipe σ vs) H' env_i l ∧ Fr l H1 H' ∧ H' D = some (.lst va) ∧ DaAll K (off (un (un B [D]) l) H') va acc ∧ (∀ j ∈ vs, ∀ w, env_i[j]? ≠ some (some w)) ∧ compM p ft fe vs (ds.drop i) acc env_i = some (.ok out e9)) ?_ (fun i H' _ ⟨_, _, _, _, f, _⟩ => hG H' f) ?_ ?_
  · refine ⟨_, [], [], r1'.wipe (freeB_free hf0), Fr.of (same_new hD _), upd_same, .nil, fun j z w => ?_, h3⟩
    rw [wipeE_get]
    simp only [z, if_true]
    split <;> exact fun q => by cases q
  · rintro i x H2 H3 hi ⟨ei, acc, va, ri, fri, hDi, dai, fre, hc⟩ hy
    have hd : ds.drop i = ds[i] :: ds.drop (i + 1) := List.drop_eq_getElem_cons hi
    rw [hd] at hc
    unfold compM at hc
    obtain ⟨s3, da⟩ := hY i x H2 H3 ds[i] (un (un B [D]) l) fri hy (List.getElem?_eq_getElem hi) (fun b z => z.elim (fun z => z.elim (fun z => .inl (.inl z)) fun z => by rw [List.mem_singleton.mp z]; exact .inr hD) fun z => .inl (.inr z)) ri.tl
    have r3 := ri.same s3
    cases q : p ds[i] ei with
    | none => rw [q] at hc; cases hc
    | some e2 =>
      rw [q] at hc
      simp only at hc
      have fr0 : free ei js := fun j z => by
        cases q0 : ei[j]? with
        | none => rfl
        | some w =>
          cases w with
          | none => rfl
          | some w => exact absurd q0 (fre j (hj j z) w)
      refine og.run r3 da q fun σ4 l4 r4 m4 le4 k4 => ?_
      have el := le4 fr0
      subst el
      have sl : σ4.length = (L2.wipe σ vs).length := by rw [r4.len, (og.keep q).2.2, ri.len]
      have wp : L2.wipe σ4 vs = L2.wipe σ vs := by
        rw [wipe_ext sl fun j z => k4 j fun y => z (hj j y)]
        refine wipe_ext (wipe_length σ vs) fun j z => ?_
        rw [wipe_get]
        simp [z]
      refine ⟨wp, ?_⟩
      cases q2 : ft e2 with
      | none => rw [q2] at hc; cases hc
      | some z2 =>
        rw [q2] at hc
        cases z2 with
        | ex C f d => cases hc
        | ok b e3 =>
          refine ot.run r4 q2 fun H4 r5 f5 => ?_
          have nx : ∀ {e5 : En} {H5 : Hp}, Rep K (un B [D]) σ4 H5 e5 l4 → freeB e5 vs = true → Rep K (un B [D]) (L2.wipe σ vs) H5 (wipeE e5 vs) l4 ∧ ∀ j ∈ vs, ∀ w, (wipeE e5 vs)[j]? ≠ some (some w) := fun {e5 H5} r fb => by
            refine ⟨by rw [← wp]; exact r.wipe (freeB_free fb), fun j z w => ?_⟩
            rw [wipeE_get]
            simp only [z, if_true]
            split <;> exact fun q => by cases q
          have f25 : Fr l4 H2 H4 := (Fr.of s3).trans f5
          have kD : ∀ {H5 : Hp}, Fr l4 H2 H5 → H5 D = some (.lst va) := fun f => f D _ (fun z => nD D z rfl) hDi
          cases b with
          | false =>
            refine iteF ?_
            simp only [Bool.false_eq_true, if_false] at hc
            split at hc
            · rename_i fb
              obtain ⟨ra, rb⟩ := nx r5 fb
              exact ⟨_, acc, va, ra, fri.trans f25, kD f25, DaAll.same f25.keep acc dai, rb, hc⟩
            · cases hc
          | true =>
            refine iteT ?_
            simp only [if_true] at hc
            cases q3 : fe e3 with
            | none => rw [q3] at hc; cases hc
            | some z3 =>
              rw [q3] at hc
              cases z3 with
              | ex C f d => cases hc
              | ok y e4 =>
                cases y with
                | slot _ => cases hc
                | exc _ _ _ => cases hc
                | dat y =>
                  simp only at hc
                  split at hc
                  · rename_i fb
                    refine oe.run r5 q3 fun v H5 r6 f6 q6 => ?_
                    have f26 := f25.trans f6
                    have sz : va.length < sizeLine := by rw [daAll_len dai]; exact Nat.lt_trans fb.2 (by decide)
                    refine ⟨va, kD f26, sz, ?_⟩
                    obtain ⟨ra, rb⟩ := nx r6 fb.1
                    have hBD : (un B [D]) D := .inr (List.mem_cons_self ..)
                    have sub : Same (off (un (un B [D]) l4) H5) (off (un (un B [D]) l4) (upd H5 D (.lst (va ++ [v])))) := off_mono (fun b z n => absurd z n) fun b o n e => by rw [upd_ne (fun z => n (.inl (by rw [z]; exact hBD)))]; exact e
                    refine ⟨_, acc ++ [y], va ++ [v], ra.amb hBD trivial, fun b o n e => ?_, upd_same, ?_, rb, hc⟩
                    · rw [upd_ne (ne_of_none e hD)]
                      exact (fri.trans f26) b o n e
                    · exact daAll_append (DaAll.same sub acc (DaAll.same f26.keep acc dai)) (.cons (Da.same sub y q6) .nil)
                  · cases hc
  · rintro H9 ⟨en, acc, va, rn, frn, hDn, dan, fre, hc⟩
    rw [List.drop_length] at hc
    cases hc
    have rr : Rep K (un B [D]) σ H9 e9 l := ⟨rn.rp.any (wipe_length σ vs) fun j w q => by
      rw [wipe_get]
      by_cases z : j ∈ vs
      · exact absurd q (fre j z w)
      · simp [z], rn.nd, rn.out, rn.tb⟩
    refine post (.ref D) H9 [D] rr (f1.trans frn) ⟨D, va, [], rfl, rfl, hDn, rp1s_of dan⟩ (List.nodup_cons.mpr ⟨by simp, List.nodup_nil⟩) fun b z => ?_
    rw [List.mem_singleton.mp z]
    cases q : H D with
    | none => rfl
    | some o =>
      rw [f1 D o (fun z => nD D z rfl) q] at hD
      cases hD
end
end Ov
set_option Elab.async false
set_option linter.all false
set_option maxRecDepth 100000
set_option maxHeartbeats 4000000
namespace Ov
open PySem L2
/-! what is walked -/
section
variable {X : Cx} {tg : Expr}
def iSeq (K : PySem.W.Frag) (tl : TE) : TI := fun σ H R => tl σ H fun x H1 => ∃ a xs, x = .ref a ∧ ((SqL K H1 a xs ∧ R (Itl K a) H1) ∨ (SqT K H1 a xs ∧ R (Itt K a) H1))
theorem pi_seq {l : Expr} {tl : TE} (hl : PE X l tl) : PI X tg l (iSeq X.K tl) := by
  refine ⟨fun pins s σ H R I h => ?_⟩
  refine thn (hl.run pins s σ H _ I h) fun v s1 ⟨x, H1, I1, r1, q1⟩ => ?_
  obtain ⟨a, xs, e, ⟨hq, q⟩ | ⟨hq, q⟩⟩ := q1
  · subst e
    cases r1
    obtain ⟨its, rv, p, hz⟩ := I1.list hq
    refine wpAny_pyIter_list p.isList ?_
    refine ⟨s1.heap.objs.size, [s1.heap.objs.size], _, _, H1, rfl, I1.kept (t' := s1.toks) fun b o e => Heap.get?_push_of_some _ e, turn_list a _, ⟨_, Heap.get?_push_size _ rfl, rfl, rfl⟩, fun b hb => ?_, q⟩
    rw [List.mem_singleton.mp hb]
    exact I1.fpOk (Nat.le_refl _) (I1.hok.fresh (Nat.le_refl _))
  · subst e
    cases r1
    obtain ⟨its, rv, p, hz⟩ := I1.tuple hq
    refine wpAny_pyIter_tuple p ?_
    refine ⟨s1.heap.objs.size, [s1.heap.objs.size], _, _, H1, rfl, I1.kept (t' := s1.toks) fun b o e => Heap.get?_push_of_some _ e, turn_tuple a _, ⟨_, Heap.get?_push_size _ rfl, rfl, rfl⟩, fun b hb => ?_, q⟩
    rw [List.mem_singleton.mp hb]
    exact I1.fpOk (Nat.le_refl _) (I1.hok.fresh (Nat.le_refl _))
end
section
variable {K : PySem.W.Frag} {E : XK} {bx : Nat}
def seqI (f : M R) : M (List PyData) := M.bind f fun r => M.bind (lift (asD r)) fun d => lift (seqD d)
theorem OkI.seq {t : TE} {f : M R} (o : OkE K E t f) : OkI K E (iSeq K t) (seqI f) := by
  refine ⟨?_⟩
  intro B σ H env l rs rp h R post
  refine o.seq rp h post.exn fun a e v H1 h1 r1 f1 q1 => ?_
  obtain ⟨d, h2, h3⟩ := lift_step h1
  rw [asD_some h2] at q1
  obtain ⟨ds, h4, h5⟩ := lift_some h3
  subst h5
  have q1 : Da K (off (un B l) H1) v d := q1
  cases d with
  | list es =>
    cases h4
    cases q1 with
    | lst hq ha =>
      refine ⟨_, _, rfl, .inl ⟨rd_sq (rd_same (off_sub _ _) hq), post _ H1 _ _ r1 f1 (by rw [← daAll_len ha]; exact walk_list) (fun H2 f => rd_sq (rd_same (off_sub _ _) (rd_same f.keep hq))) ?_⟩⟩
      rintro i x H2 H3 d S fr ⟨rfl, hx⟩ hd hs _
      obtain ⟨y, e1, e2⟩ := daAll_get ha hd
      rw [hx] at e1
      cases e1
      exact ⟨same_refl _, e2.walk fr hs⟩
  | tuple es =>
    cases h4
    cases q1 with
    | tup hq ha =>
      refine ⟨_, _, rfl, .inr ⟨seqP (off_sub _ _) hq, post _ H1 _ _ r1 f1 (by rw [← daAll_len ha]; exact walk_tup) (fun H2 f => seqT (off_sub _ _) (seqP f.keep hq)) ?_⟩⟩
      rintro i x H2 H3 d S fr ⟨rfl, hx⟩ hd hs _
      obtain ⟨y, e1, e2⟩ := daAll_get ha hd
      rw [hx] at e1
      cases e1
      exact ⟨same_refl _, e2.walk fr hs⟩
  | none => cases h4
  | bool _ => cases h4
  | int _ => cases h4
  | str _ => cases h4
  | dict _ => cases h4
/-- lo, lo + 1, .. below hi -/
def rngL (lo hi : Int) : List Int := (List.range (hi - lo).toNat).map fun (k : Nat) => lo + (k : Int)
def rngD (as : List PyData) : Option (List PyData) :=
  match as with
  | [.int j] => if -(2 ^ 62) ≤ j ∧ j < 2 ^ 62 then some ((rngL 0 j).map .int) else none
  | _ => none
def rngD2 (as : List PyData) : Option (List PyData) :=
  match as with
  | [.int i, .int j] => if -(2 ^ 62) ≤ i ∧ i < 2 ^ 62 ∧ -(2 ^ 62) ≤ j ∧ j < 2 ^ 62 then some ((rngL i j).map .int) else none
  | _ => none
def argI (fo : List PyData → Option (List PyData)) (fa : M (List R)) : M (List PyData) := M.bind fa fun rs => M.bind (lift (dds rs)) fun ds => lift (fo ds)
theorem rng_len (lo hi : Int) : ((rngL lo hi).map PyData.int).length = (hi - lo).toNat := by simp [rngL]
theorem rng_get {lo hi : Int} {i : Nat} {d : PyData} (h : ((rngL lo hi).map PyData.int)[i]? = some d) : d = .int (lo + i) := by
  unfold rngL at h
  rw [List.getElem?_map, List.getElem?_map] at h
  obtain ⟨x, h1, h2⟩ := Option.map_eq_some_iff.mp h
  obtain ⟨y, h3, h4⟩ := Option.map_eq_some_iff.mp h1
  obtain ⟨h5, h6⟩ := List.getElem?_eq_some_iff.mp h3
  rw [List.getElem_range] at h6
  subst h6 h4 h2
  rfl
theorem OkI.range1 {t : TA} {fa : M (List R)} (o : OkA K E t fa) : OkI K E (iRng1 t) (argI rngD fa) := by
  refine ⟨?_⟩
  intro B σ H env l rs rp h R post
  refine o.seq rp h post.exn fun a e v H1 h1 r1 f1 q1 => ?_
  obtain ⟨ds, h2, h3⟩ := lift_step h1
  obtain ⟨out, h4, h5⟩ := lift_some h3
  subst h5
  have da := dds_ok q1 h2
  unfold rngD at h4
  split at h4
  · split at h4
    · rename_i j hj
      cases h4
      cases da with
      | cons d1 t1 =>
        cases t1
        cases d1
        refine ⟨j, rfl, hj.1, hj.2, post _ H1 _ _ r1 f1 (by rw [rng_len, show j - 0 = j by omega]; exact walk_range) (fun _ _ => trivial) ?_⟩
        rintro i x H2 H3 d S fr ⟨rfl, rfl⟩ hd hs _
        rw [rng_get hd]
        exact ⟨same_refl _, .int _⟩
    · cases h4
  · cases h4
theorem OkI.range2 {t : TA} {fa : M (List R)} (o : OkA K E t fa) : OkI K E (iRng2 t) (argI rngD2 fa) := by
  refine ⟨?_⟩
  intro B σ H env l rs rp h R post
  refine o.seq rp h post.exn fun a e v H1 h1 r1 f1 q1 => ?_
  obtain ⟨ds, h2, h3⟩ := lift_step h1
  obtain ⟨out, h4, h5⟩ := lift_some h3
  subst h5
  have da := dds_ok q1 h2
  unfold rngD2 at h4
  split at h4
  · split at h4
    · rename_i i0 j0 hj
      cases h4
      cases da with
      | cons d1 t1 =>
        cases t1 with
        | cons d2 t2 =>
          cases t2
          cases d1
          cases d2
          refine ⟨_, _, rfl, hj, post _ H1 _ _ r1 f1 (by rw [rng_len]; exact walk_range) (fun _ _ => trivial) ?_⟩
          rintro i x H2 H3 d S fr ⟨rfl, rfl⟩ hd hs _
          rw [rng_get hd]
          exact ⟨same_refl _, .int _⟩
    · cases h4
  · cases h4
/-- pairs -/
def pairUp (a b : List PyData) : List PyData := List.zipWith (fun x y => .tuple [x, y]) a b
theorem pair_get {a b : List PyData} {i : Nat} {d : PyData} (h : (pairUp a b)[i]? = some d) : ∃ x y, a[i]? = some x ∧ b[i]? = some y ∧ d = .tuple [x, y] := by
  unfold pairUp at h
  rw [List.getElem?_zipWith] at h
  cases q : a[i]? with
  | none => rw [q] at h; cases h
  | some x =>
    cases q2 : b[i]? with
    | none => rw [q, q2] at h; cases h
    | some y => rw [q, q2] at h; cases h; exact ⟨x, y, rfl, rfl, rfl⟩
theorem pair_len (a b : List PyData) : (pairUp a b).length = min a.length b.length := List.length_zipWith ..
/-- a new pair of two data -/
theorem pair_da {B S : Addr → Prop} {l : List Addr} {H1 H2 H3 : Hp} {T : Addr} {u v : V} {x y : PyData} {o : Obj} (hS : ∀ b, S b → ∃ o, H2 b = some o ∧ NT o) (hT : H2 T = none) (od : o.dict = none) (e : H3 = upd H2 T (.frz o (.tup [u, v]))) (hu : Da K (off S H2) u x) (hv : Da K (off S H2) v y) :
    Same H2 H3 ∧ Da K (off S H3) (.ref T) (.tuple [x, y]) := by
  subst e
  exact ⟨same_new hT _, (new_dp hS hT (.cons hu (.cons hv .nil))).2 o od⟩
theorem daAll1 {G : Hp} {vs : List V} {d : PyData} (h : DaAll K G vs [d]) : ∃ v, vs = [v] ∧ Da K G v d := by
  cases h with | cons a t => cases t; exact ⟨_, rfl, a⟩
end
end Ov
set_option Elab.async false
set_option linter.all false
set_option maxRecDepth 100000
set_option maxHeartbeats 4000000
namespace Ov
open PySem L2
/-! a list that a slot owns, changed by its methods -/
section
variable {K : PySem.W.Frag} {E : XK} {bx : Nat}
theorem set_same {α : Type} {σ : List α} {i : Nat} {s : α} (h : σ[i]? = some s) : σ.set i s = σ := by
  apply List.ext_getElem?
  intro j
  by_cases z : i = j
  · subst z; rw [List.getElem?_set_self (List.getElem?_eq_some_iff.mp h).1, h]
  · rw [List.getElem?_set_ne z]
/-- the list of slot i, and any other in its place -/
theorem Rep.mut2 {B : Addr → Prop} {σ : St} {H : Hp} {env : En} {l : List Addr} {i : Nat} {ds : List PyData} (r : Rep K B σ H env l) (hx : env[i]? = some (some (.own (dats ds)))) :
    ∃ p vs, σ[i]? = some (some (.ref p)) ∧ H p = some (.lst vs) ∧ p ∈ l ∧ DaAll K (off (un B l) H) vs ds ∧ ∀ {H' : Hp} {B' : Addr → Prop} {vs' : List V} {ds' : List PyData}, (∀ q ∈ l, q ≠ p → H' q = H q) → H' p = some (.lst vs') → Same (off (un B l) H) (off (un B' l) H') →
      DaAll K (off (un B' l) H') vs' ds' → (∀ b ∈ l, ¬ B' b) → (∀ b, B' b → ∃ o, H' b = some o ∧ NT o) → Rep K B' σ H' (env.set i (some (.own (dats ds')))) l := by
  obtain ⟨s, a, lx, ly, q1, q2, ⟨v, rfl, p, vs, b, rfl, rfl, q6, q7⟩, q5⟩ := r.rp.focus hx
  obtain ⟨rfl, q8⟩ := rp1s_dats q7
  have hp : p ∈ l := by rw [q2]; exact List.mem_append_right _ (List.mem_append_left _ (List.mem_cons_self ..))
  refine ⟨p, vs, q1, q6, hp, q8, fun {H' B' vs' ds'} k1 k2 sub h' o' t' => ?_⟩
  have nd := r.nd
  rw [q2] at nd
  obtain ⟨n1, n2, n3⟩ := List.nodup_append.mp nd
  obtain ⟨n4, n5, n6⟩ := List.nodup_append.mp n2
  refine ⟨?_, r.nd, o', t'⟩
  have := q5 (H' := H') (G' := off (un B' l) H') (s' := some (.ref p)) (e' := some (.own (dats ds'))) (a' := [p]) sub
    (fun q z => k1 q (by rw [q2]; exact List.mem_append_left _ z) fun e => n3 q z p (List.mem_append_left _ (List.mem_cons_self ..)) e) (fun q z => k1 q (by rw [q2]; exact List.mem_append_right _ (List.mem_append_right _ z)) fun e => n6 p (List.mem_cons_self ..) q z e.symm)
    ⟨_, rfl, p, vs', [], rfl, rfl, k2, rp1s_of h'⟩
  rw [set_same q1] at this
  rw [q2] at this ⊢
  exact this
theorem Rep.mut {B : Addr → Prop} {σ : St} {H : Hp} {env : En} {l : List Addr} {i : Nat} {ds : List PyData} (r : Rep K B σ H env l) (hx : env[i]? = some (some (.own (dats ds)))) :
    ∃ p vs, σ[i]? = some (some (.ref p)) ∧ H p = some (.lst vs) ∧ p ∈ l ∧ DaAll K (off (un B l) H) vs ds ∧ ∀ {vs' : List V} {ds' : List PyData}, DaAll K (off (un B l) H) vs' ds' → Rep K B σ (upd H p (.lst vs')) (env.set i (some (.own (dats ds')))) l := by
  obtain ⟨p, vs, q1, q6, hp, q8, q9⟩ := r.mut2 hx
  refine ⟨p, vs, q1, q6, hp, q8, fun {vs' ds'} h' => ?_⟩
  have sub : Same (off (un B l) H) (off (un B l) (upd H p (.lst vs'))) := off_mono (fun b z n => absurd z n) fun b o n e => by rw [upd_ne (fun z => n (.inr (by rw [z]; exact hp)))]; exact e
  refine q9 (fun q _ n => upd_ne n) upd_same sub (DaAll.same sub ds' h') r.out fun b z => ?_
  obtain ⟨o, e, n⟩ := r.tb b z
  exact ⟨o, by rw [upd_ne (fun y => r.out p hp (by rw [← y]; exact z))]; exact e, n⟩
theorem fr_upd {l : List Addr} {H : Hp} {p : Addr} {o : HO} (hp : p ∈ l) : Fr l H (upd H p o) := fun b u n h => by rw [upd_ne (fun z => n (by rw [z]; exact hp))]; exact h
def ownD (i : Nat) : M (List PyData) := fun env =>
  match env[i]? with
  | some (some (.own xs)) => (itds xs).map fun ds => .ok ds env
  | _ => none
theorem ownD_step {α : Type} {i : Nat} {g : List PyData → M α} {env : En} {rs : Rs α} (h : (M.bind (ownD i) g) env = some rs) : ∃ ds, env[i]? = some (some (.own (dats ds))) ∧ g ds env = some rs := by
  have key : ∀ z, ownD i env = some z → ∃ ds, env[i]? = some (some (.own (dats ds))) ∧ z = .ok ds env := fun z hz => by
    unfold ownD at hz
    split at hz
    · rename_i xs hx
      obtain ⟨ds, e1, e2⟩ := Option.map_eq_some_iff.mp hz
      exact ⟨ds, by rw [hx, itds_eq e1], e2.symm⟩
    · cases hz
  rcases bind_some h with ⟨a, e, h1, h2⟩ | ⟨C, f, d, h1, h2⟩
  · obtain ⟨ds, e1, e2⟩ := key _ h1
    cases e2
    exact ⟨_, e1, h2⟩
  · obtain ⟨ds, e1, e2⟩ := key _ h1
    cases e2
def setOwn (i : Nat) (ds : List PyData) : M Unit := fun env => some (.ok () (env.set i (some (.own (dats ds)))))
theorem setOwn_step {α : Type} {i : Nat} {ds : List PyData} {g : Unit → M α} {env : En} {rs : Rs α} (h : (M.bind (setOwn i ds) g) env = some rs) : g () (env.set i (some (.own (dats ds)))) = some rs := h
def MtOk (K : PySem.W.Frag) (r : V → List V → Hp → VK → Prop) (fo : List PyData → List PyData → Option (List PyData × PyData)) : Prop := ∀ {S : Addr → Prop} {H : Hp} {p : Addr} {vs xs : List V} {ds as ds' : List PyData} {d : PyData},
  H p = some (.lst vs) → DaAll K (off S H) vs ds → DaAll K (off S H) xs as → fo ds as = some (ds', d) → ∀ {Q : VK}, (∀ v vs', DaAll K (off S H) vs' ds' → Da K (off S H) v d → Q v (upd H p (.lst vs'))) → r (.ref p) xs H Q
def mthE (i : Nat) (fo : List PyData → List PyData → Option (List PyData × PyData)) (fa : M (List R)) : M R := M.bind (ownD i) fun _ => M.bind fa fun rs => M.bind (lift (dds rs)) fun as => M.bind (ownD i) fun ds => M.bind (lift (fo ds as)) fun r => M.bind (setOwn i r.1) fun _ => M.pure (.dat r.2)
theorem OkE.mth {i : Nat} {r : V → List V → Hp → VK → Prop} {fo : List PyData → List PyData → Option (List PyData × PyData)} {t : TA} {fa : M (List R)} (o : MtOk K r fo) (oa : OkA K E t fa) : OkE K E (tBM K "list" r (tVar i) t) (mthE i fo fa) := by
  refine ⟨?_⟩
  intro B σ H env l rs rp h Q post
  obtain ⟨ds0, hx0, h0⟩ := ownD_step h
  obtain ⟨p, vs0, q1, q2, q3, q4, _⟩ := rp.mut hx0
  refine ⟨.ref p, q1, .inl ⟨rfl, _, SqL.of q2⟩, ?_⟩
  refine oa.seq rp h0 post.exn fun a e vs H1 h1 r1 f1 w1 => ?_
  obtain ⟨as, h2, h3⟩ := lift_step h1
  obtain ⟨ds, hx, h4⟩ := ownD_step h3
  obtain ⟨⟨ds', d⟩, h5, h6⟩ := lift_step h4
  have h7 := setOwn_step h6
  cases h7
  obtain ⟨p', vs1, s1, s2, s3, s4, s5⟩ := r1.mut hx
  rw [q1] at s1
  cases s1
  refine o s2 s4 (dds_ok w1 h2) h5 fun v vs' d1 d2 => post v _ (s5 d1) (f1.trans (fr_upd s3)) ?_
  refine Da.same (off_mono (fun b z n => absurd z n) fun b o n e => ?_) _ d2
  rw [upd_ne (fun z => n (.inr (by rw [z]; exact s3)))]
  exact e
def appD (ds as : List PyData) : Option (List PyData × PyData) :=
  match as with
  | [a] => (sz (ds.length + 1)).map fun _ => (ds ++ [a], .none)
  | _ => none
theorem sz_lt {n : Nat} {u : Unit} (h : sz (n + 1) = some u) : n < sizeLine := sz_ok h
theorem ok_app : MtOk K rAppend appD := by
  intro S H p vs xs ds as ds' d hp hd ha e Q q
  unfold appD at e
  split at e
  · obtain ⟨u, e1, e2⟩ := Option.map_eq_some_iff.mp e
    cases e2
    obtain ⟨v, rfl, h1⟩ := daAll1 ha
    exact ⟨p, vs, v, rfl, rfl, hp, by rw [daAll_len hd]; exact sz_lt e1, q _ _ (daAll_append hd (.cons h1 .nil)) .non⟩
  · cases e
/-! x[i] = e, the list of a slot -/
def setIx (i : Nat) (fe fk : M R) : M Fl := M.bind fe fun r => M.bind (lift (asD r)) fun d => M.bind (ownD i) fun _ => M.bind fk fun k => M.bind (lift (asI k)) fun k => M.bind (ownD i) fun ds => M.bind (lift (ixN ds.length k)) fun j => M.bind (setOwn i (ds.set j d)) fun _ => M.pure .nx
theorem OkS.setIx {i : Nat} {te tk : TE} {fe fk : M R} (oe : OkE K E te fe) (ok : OkE K E tk fk) : OkS K E bx (tAsg te (gSub (tVar i) tk rSetL)) (Ov.setIx i fe fk) := by
  refine ⟨?_⟩
  intro B σ H env l rs rp h D post
  refine oe.seq rp h post.exn fun a e v H1 h1 r1 f1 q1 => ?_
  obtain ⟨d, h2, h3⟩ := lift_step h1
  obtain ⟨ds0, hx0, h4⟩ := ownD_step h3
  obtain ⟨p, vs0, s1, s2, s3, s4, _⟩ := r1.mut hx0
  refine ⟨.ref p, s1, ?_⟩
  refine ok.seq r1 h4 (exn_later post.exn f1) fun k e2 v2 H2 h5 r2 f2 q2 => ?_
  obtain ⟨k', h6, h7⟩ := lift_step h5
  obtain ⟨ds, hx, h8⟩ := ownD_step h7
  obtain ⟨j, h9, ha⟩ := lift_step h8
  have hb := setOwn_step ha
  cases hb
  obtain ⟨p', vs, t1, t2, t3, t4, t5⟩ := r2.mut hx
  rw [s1] at t1
  cases t1
  rw [asI_some h6] at q2
  cases q2
  rw [asD_some h2] at q1
  refine ⟨p, vs, k', j, rfl, rfl, t2, by rw [daAll_len t4]; exact h9, ?_⟩
  exact post σ _ l (t5 (daAll_set (Da.same f2.keep d q1) t4 j)) (Fr2.of ((f1.trans f2).trans (fr_upd t3))) fun _ => rfl
/-! new lists of one's own -/
theorem new_own {B : Addr → Prop} {σ : St} {H1 : Hp} {env : En} {l : List Addr} {p : Addr} {vs : List V} {ds : List PyData} (r : Rep K B σ H1 env l) (hp : H1 p = none) (da : DaAll K (off (un B l) H1) vs ds) :
    Rep K (un B [p]) σ (upd H1 p (.lst vs)) env l ∧ RpW K (upd H1 p (.lst vs)) (off (un (un B [p]) l) (upd H1 p (.lst vs))) (.ref p) (.own (dats ds)) [p] := by
  refine ⟨r.grow (same_new hp _) (fun _ z => .inl z) (fun b z => z.imp id fun z => by rw [List.mem_singleton.mp z]; exact hp) fun b z => ?_, p, vs, [], rfl, rfl, upd_same, rp1s_of (DaAll.same ?_ ds da)⟩
  · by_cases e : b = p
    · subst e; exact ⟨_, upd_same, trivial⟩
    · rw [upd_ne e]; exact r.tb b (z.resolve_right fun z => e (List.mem_singleton.mp z))
  · refine off_mono (fun b z n => ?_) fun b o n e => by rw [upd_ne (ne_of_none e hp)]; exact e
    rcases z with (z | z) | z
    · exact absurd (.inl z) n
    · rw [List.mem_singleton.mp z]; exact hp
    · exact absurd (.inr z) n
theorem fresh_back {B : Addr → Prop} {σ : St} {H H1 : Hp} {env : En} {l : List Addr} {p : Addr} (r : Rep K B σ H1 env l) (f : Fr l H H1) (hp : H1 p = none) : ∀ b ∈ [p], H b = none := fun b z => by
  rw [List.mem_singleton.mp z]
  cases q : H p with
  | none => rfl
  | some o =>
    rw [f p o (fun z => r.fresh hp (.inr z)) q] at hp
    cases hp
def lstW (fa : M (List R)) : M Wv := M.bind fa fun a => M.bind (lift (dds a)) fun ds => M.bind (lift (sz ds.length)) fun _ => M.pure (.own (dats ds))
theorem OkW.lst {t : TA} {fa : M (List R)} (oa : OkA K E t fa) : OkW K E (tLst t) (lstW fa) := by
  refine ⟨?_⟩
  intro B σ H env l rs rp h Q post
  refine oa.seq rp h post.exn fun a e vs H1 h1 r1 f1 q1 => ?_
  obtain ⟨ds, e1, h2⟩ := lift_step h1
  obtain ⟨u, e2, h3⟩ := lift_step h2
  cases h3
  have dp := dds_ok q1 e1
  refine ⟨by rw [daAll_len dp]; exact sz_ok e2, fun p hp => ?_⟩
  obtain ⟨n1, n2⟩ := new_own r1 hp dp
  exact post _ _ [p] n1 (f1.trans (Fr.of (same_new hp _))) n2 (List.nodup_cons.mpr ⟨by simp, List.nodup_nil⟩) (fresh_back r1 f1 hp)
def listW (fa : M (List R)) : M Wv := M.bind fa fun a => M.bind (vws a) fun ds => M.bind (lift (match ds with | [a] => seqD a | _ => none)) fun es => M.pure (.own (dats es))
theorem OkW.list {t : TA} {fa : M (List R)} (oa : OkA K E t fa) : OkW K E (tCB (fun xs H Q => ∃ p ys, xs = [.ref p] ∧ (SqL K H p ys ∨ SqT K H p ys) ∧ ∀ l, H l = none → Q (.ref l) (upd H l (.lst ys))) t) (listW fa) := by
  refine ⟨?_⟩
  intro B σ H env l rs rp h Q post
  refine oa.seq rp h post.exn fun a e vs H1 h1 r1 f1 q1 => ?_
  obtain ⟨ds, h2, w⟩ := vws_ok r1 q1 h1
  obtain ⟨es, h5, h6⟩ := lift_step h2
  cases h6
  split at h5
  · obtain ⟨x, rfl, wx⟩ := vwAll1 w
    obtain ⟨p, ys, rfl, hq, da⟩ := vw_seq wx h5
    refine ⟨p, ys, rfl, hq, fun p hp => ?_⟩
    obtain ⟨n1, n2⟩ := new_own r1 hp da
    exact post _ _ [p] n1 (f1.trans (Fr.of (same_new hp _))) n2 (List.nodup_cons.mpr ⟨by simp, List.nodup_nil⟩) (fresh_back r1 f1 hp)
  · cases h5
end
/-! what a def keeps -/
/-- data in, a value out -/
def spA (K : PySem.W.Frag) (F : List PyData → Option Wv) : Sp := fun vs H Q _ => ∃ B ds w, DaAll K (off B H) vs ds ∧ (∀ b, B b → ∃ o, H b = some o ∧ NT o) ∧ F ds = some w ∧
  ∀ v H' lw, Same H H' → RpW K H' (off (un B lw) H') v w lw → lw.Nodup → (∀ b ∈ lw, H b = none) → Q v H'
/-- the first argument is a list that may be changed -/
def spB (K : PySem.W.Frag) (F : List PyData → List PyData → Option (Wv × List PyData)) : Sp := fun vs H Q _ => ∃ B p bv bs vs' ds w bs', vs = .ref p :: vs' ∧ H p = some (.lst bv) ∧ ¬ B p ∧ DaAll K (off (un B [p]) H) bv bs ∧ DaAll K (off (un B [p]) H) vs' ds ∧
  (∀ b, B b → ∃ o, H b = some o ∧ NT o) ∧ F bs ds = some (w, bs') ∧
  ∀ v H' lw bv', Fr [p] H H' → H' p = some (.lst bv') → DaAll K (off (un (un B lw) [p]) H') bv' bs' → RpW K H' (off (un (un B lw) [p]) H') v w lw → lw.Nodup → (∀ b ∈ lw, H b = none) → Q v H'
def env0 (ds : List PyData) (n : Nat) : En := ds.map (fun d => some (.dat d)) ++ List.replicate n none
def runA (np n : Nat) (fb : M Fl) (ds : List PyData) : Option Wv := if ds.length = np then
  match fb (env0 ds (n - ds.length)) with
  | some (.ok .nx _) => some (.dat .none)
  | some (.ok (.rt w) _) => some w
  | _ => none else none
def runB (np n : Nat) (fb : M Fl) (bs ds : List PyData) : Option (Wv × List PyData) := if ds.length + 1 = np then
  match fb (some (.own (dats bs)) :: env0 ds (n - (ds.length + 1))) with
  | some (.ok (.rt w) (some (.own xs) :: _)) => (itds xs).map fun bs' => (w, bs')
  | _ => none else none
section
variable {K : PySem.W.Frag} {G H : Hp}
theorem rpe_none : ∀ n : Nat, RpE K H G (List.replicate n none) (List.replicate n none) []
  | 0 => rfl
  | n + 1 => ⟨[], [], rfl, rfl, rpe_none n⟩
theorem rpe_args : ∀ {vs : List V} {ds : List PyData} (n : Nat), DaAll K G vs ds → RpE K H G (vs.map some ++ List.replicate n none) (env0 ds n) []
  | _, _, n, .nil => rpe_none n
  | _, _, n, .cons h t => ⟨[], [], rfl, ⟨_, rfl, rfl, h⟩, rpe_args n t⟩
theorem finA {t : TS} {fb : M Fl} {N : List Str} {vs : List V} {Q : VK} {E : XK} {np : Nat} (o : OkS K L2.E0 0 t fb) (h : spA K (runA np N.length fb) vs H Q E) : t { nx := fun _ H' => Q .non H', rt := Q } (L2.start N vs) H := by
  obtain ⟨B, ds, w, da, hB, hf, q⟩ := h
  have el := daAll_len da
  have rp : Rep K B (L2.start N vs) H (env0 ds (N.length - ds.length)) [] := by
    refine ⟨?_, List.nodup_nil, fun _ z => (by cases z), hB⟩
    rw [un_nil]
    unfold L2.start
    rw [el]
    exact rpe_args _ da
  unfold runA at hf
  split at hf
  case isFalse => cases hf
  cases hz : fb (env0 ds (N.length - ds.length)) with
  | none => rw [hz] at hf; cases hf
  | some z =>
    rw [hz] at hf
    cases z with
    | ex C f d => cases hf
    | ok fl e =>
      cases fl with
      | bk => cases hf
      | ct => cases hf
      | nx =>
        cases hf
        refine o.run rp hz fun σ' H' l' r' f' _ => q .non H' [] (fun b o e => f'.fr b o (fun z => by cases z) e) ⟨rfl, .non⟩ List.nodup_nil fun _ z => by cases z
      | rt w' =>
        cases hf
        refine o.run rp hz fun v σ' H' l' lw r' f' _ rw' nd hl => q v H' lw (fun b o e => f'.fr b o (fun z => by cases z) e) ?_ nd fun b z => ?_
        · exact rw'.mv (off_mono (fun b z n => absurd (.inl z) n) fun b o n e => e) fun _ _ => rfl
        · exact (f'.sub b (List.mem_append_right _ z)).resolve_left fun z => by cases z
theorem finB {t : TS} {fb : M Fl} {N : List Str} {vs : List V} {Q : VK} {E : XK} {np : Nat} (o : OkS K L2.E0 1 t fb) (h : spB K (runB np N.length fb) vs H Q E) : t { nx := fun _ H' => Q .non H', rt := Q } (L2.start N vs) H := by
  obtain ⟨B, p, bv, bs, vs', ds, w, bs', rfl, hp, nB, db, da, hB, hf, q⟩ := h
  have el := daAll_len da
  have rp : Rep K B (L2.start N (.ref p :: vs')) H (some (.own (dats bs)) :: env0 ds (N.length - (ds.length + 1))) [p] := by
    refine ⟨?_, List.nodup_cons.mpr ⟨by simp, List.nodup_nil⟩, fun b z => by rw [List.mem_singleton.mp z]; exact nB, hB⟩
    unfold L2.start
    rw [List.map_cons, List.cons_append, List.length_cons, el]
    exact ⟨[p], [], rfl, ⟨_, rfl, p, bv, [], rfl, rfl, hp, rp1s_of db⟩, rpe_args _ da⟩
  unfold runB at hf
  split at hf
  case isFalse => cases hf
  cases hz : fb (some (.own (dats bs)) :: env0 ds (N.length - (ds.length + 1))) with
  | none => rw [hz] at hf; cases hf
  | some z =>
    rw [hz] at hf
    cases z with
    | ex C f d => cases hf
    | ok fl e =>
      cases fl with
      | bk => cases hf
      | ct => cases hf
      | nx => cases hf
      | rt w' =>
        cases e with
        | nil => cases hf
        | cons e0 er =>
          cases e0 with
          | none => cases hf
          | some w0 =>
          cases w0 with
          | dat _ => cases hf
          | exc _ _ _ => cases hf
          | dct _ => cases hf
          | lin _ _ _ => cases hf
          | dci _ => cases hf
          | dtk _ => cases hf
          | dts _ => cases hf
          | pin _ _ => cases hf
          | dtn _ => cases hf
          | dtd _ => cases hf
          | nd _ => cases hf
          | ndd _ => cases hf
          | lkd _ => cases hf
          | own xs =>
          obtain ⟨bs2, e1, e2⟩ := Option.map_eq_some_iff.mp (show (itds xs).map (fun bs' => (w', bs')) = _ from hf)
          cases e2
          have hx : (some (Wv.own xs) :: er)[0]? = some (some (.own (dats bs'))) := by rw [itds_eq e1]; rfl
          refine o.run rp hz fun v σ' H' l' lw r' f' b0 rw' nd hl => ?_
          obtain ⟨p', vs2, s1, s2, s3, s4, _⟩ := r'.mut hx
          have s0 : σ'[0]? = some (some (.ref p)) := (b0 0).trans rfl
          rw [s0] at s1
          cases s1
          have sub : Same (off (un (un B lw) l') H') (off (un (un B lw) [p]) H') := off_mono (fun b z n => ?_) fun b o n e => e
          · refine q v H' lw vs2 f'.fr s2 (DaAll.same sub _ s4) (rw'.mv sub fun _ _ => rfl) nd fun b z => ?_
            exact (f'.sub b (List.mem_append_right _ z)).resolve_left fun y => (hl b z).1 (by rw [List.mem_singleton.mp y]; exact s3)
          · rcases z with z | z
            · exact absurd (.inl z) n
            · rw [List.mem_singleton.mp z] at n; exact absurd (.inr s3) n
end
theorem lenA {K : PySem.W.Frag} {np n : Nat} {fb : M Fl} {vs : List V} {H : Hp} {Q : VK} {E : XK} (h : spA K (runA np n fb) vs H Q E) : vs.length = np := by
  obtain ⟨B, ds, w, da, hB, hf, q⟩ := h
  unfold runA at hf
  split at hf
  · rw [daAll_len da]; assumption
  · cases hf
theorem lenB {K : PySem.W.Frag} {np n : Nat} {fb : M Fl} {vs : List V} {H : Hp} {Q : VK} {E : XK} (h : spB K (runB np n fb) vs H Q E) : vs.length = np := by
  obtain ⟨B, p, bv, bs, vs', ds, w, bs', rfl, hp, nB, db, da, hB, hf, q⟩ := h
  unfold runB at hf
  split at hf
  · rw [List.length_cons, daAll_len da]; assumption
  · cases hf
/-! calls -/
section
variable {K : PySem.W.Frag} {E : XK} {bx : Nat}
def callA (F : List PyData → Option Wv) (fa : M (List R)) : M Wv := M.bind fa fun rs => M.bind (lift (dds rs)) fun ds => lift (F ds)
theorem callA_ok {B : Addr → Prop} {σ : St} {H H1 : Hp} {e : En} {l : List Addr} {vs : List V} {ds : List PyData} {F : List PyData → Option Wv} {w : Wv} {Q : VK} {E' : XK} (r1 : Rep K B σ H1 e l) (f1 : Fr l H H1) (da : DaAll K (off (un B l) H1) vs ds) (hw : F ds = some w)
    (post : PostW K E B σ H l (.ok w e) Q) : spA K F vs H1 Q E' := by
  refine ⟨un B l, ds, w, da, r1.tl, hw, fun v H' lw s rw' nd fr => ?_⟩
  have hl : ∀ b ∈ lw, ¬ un B l b := fun b z => r1.fresh (fr b z)
  refine post v H' lw (r1.grow s (fun _ z => .inl z) (fun b z => z.imp id (fr b)) fun b z => ?_) (f1.trans (Fr.of s)) (rw'.mv (off_mono (fun b z n => absurd (z.elim (fun z => z.elim (fun z => .inl (.inl z)) .inr) fun z => .inl (.inr z)) n) fun b o n e => e) fun _ _ => rfl) nd fun b z => ?_
  · rcases z with z | z
    · obtain ⟨o, e, n⟩ := r1.tb b z
      exact ⟨o, s _ _ e, n⟩
    · exact rw'.trk b z
  · cases q : H b with
    | none => rfl
    | some o =>
      have := f1 b o (fun y => hl b z (.inr y)) q
      rw [fr b z] at this
      cases this
theorem OkW.call {F : List PyData → Option Wv} {E' : XK} {t : TA} {fa : M (List R)} (oa : OkA K E t fa) : OkW K E (tCall (spA K F) [] E' t) (callA F fa) := by
  refine ⟨?_⟩
  intro B σ H env l rs rp h Q post
  refine oa.seq rp h post.exn fun a e vs H1 h1 r1 f1 q1 => ?_
  obtain ⟨ds, h2, h3⟩ := lift_step h1
  obtain ⟨w, h4, h5⟩ := lift_some h3
  subst h5
  rw [List.append_nil]
  exact callA_ok r1 f1 (dds_ok q1 h2) h4 post
/-- the first argument is slot i's own list -/
def callB (i : Nat) (F : List PyData → List PyData → Option (Wv × List PyData)) (fa : M (List R)) : M Wv := M.bind (ownD i) fun _ => M.bind fa fun rs => M.bind (lift (dds rs)) fun ds => M.bind (ownD i) fun bs => M.bind (lift (F bs ds)) fun r => M.bind (setOwn i r.2) fun _ => M.pure r.1
theorem un_less {B : Addr → Prop} {l : List Addr} {p : Addr} (hp : p ∈ l) : un (fun b => un B l b ∧ b ≠ p) [p] = un B l := by
  funext b
  refine propext ⟨fun z => z.elim (fun z => z.1) fun z => ?_, fun z => ?_⟩
  · rw [List.mem_singleton.mp z]; exact .inr hp
  · by_cases e : b = p
    · exact .inr (by rw [e]; exact List.mem_cons_self ..)
    · exact .inl ⟨z, e⟩
theorem OkW.callB {i : Nat} {F : List PyData → List PyData → Option (Wv × List PyData)} {E' : XK} {t : TA} {fa : M (List R)} (oa : OkA K E t fa) : OkW K E (tCall (spB K F) [] E' (tCons (tVar i) t)) (Ov.callB i F fa) := by
  refine ⟨?_⟩
  intro B σ H env l rs rp h Q post
  obtain ⟨ds0, hx0, h0⟩ := ownD_step h
  obtain ⟨p, vs0, q1, q2, q3, q4, _⟩ := rp.mut hx0
  refine ⟨.ref p, q1, ?_⟩
  refine oa.seq rp h0 post.exn fun a e vs H1 h1 r1 f1 w1 => ?_
  obtain ⟨as, h2, h3⟩ := lift_step h1
  obtain ⟨bs, hx, h4⟩ := ownD_step h3
  obtain ⟨⟨w, bs'⟩, h5, h6⟩ := lift_step h4
  have h7 := setOwn_step h6
  cases h7
  obtain ⟨p', vs1, s1, s2, s3, s4, s5⟩ := r1.mut2 hx
  rw [q1] at s1
  cases s1
  have da := dds_ok w1 h2
  rw [List.append_nil]
  refine ⟨fun b => un B l b ∧ b ≠ p, p, vs1, bs, vs, as, w, bs', rfl, s2, fun z => z.2 rfl, by rw [un_less s3]; exact s4, by rw [un_less s3]; exact da, fun b z => r1.tl b z.1, h5, fun v H' lw bv' fr hb' db' rw' nd fw => ?_⟩
  have ew : ∀ b, un (un B lw) l b → un (un (fun b => un B l b ∧ b ≠ p) lw) [p] b := fun b z => by
    by_cases e : b = p
    · exact .inr (by rw [e]; exact List.mem_cons_self ..)
    · exact .inl (z.elim (fun z => z.imp (fun z => ⟨.inl z, e⟩) id) fun z => .inl ⟨.inr z, e⟩)
  have sb : Same (off (un (un (fun b => un B l b ∧ b ≠ p) lw) [p]) H') (off (un (un B lw) l) H') := off_mono (fun b z n => absurd (ew b z) n) fun b o n e => e
  have hl : ∀ b ∈ lw, ¬ un B l b := fun b z => r1.fresh (fw b z)
  have sub : Same (off (un B l) H1) (off (un (un B lw) l) H') := off_mono (fun b z n => z.elim (fun z => z.elim (fun z => absurd (.inl z) n) (fw b)) fun z => absurd (.inr z) n) fun b o n e => fr b o (fun z => n (by rw [List.mem_singleton.mp z]; exact .inr s3)) e
  refine post v H' lw (s5 (fun q z n => ?_) hb' sub (DaAll.same sb _ db') (fun b z y => y.elim (r1.out b z) fun y => hl b y (.inr z)) fun b z => ?_) (f1.trans fun b o n e => fr b o (fun z => n (by rw [List.mem_singleton.mp z]; exact s3)) e) (rw'.mv sb fun _ _ => rfl) nd fun b z => ?_
  · obtain ⟨us, e, _⟩ := r1.rp.trk q z
    rw [e]
    exact fr q _ (fun y => n (List.mem_singleton.mp y)) e
  · rcases z with z | z
    · obtain ⟨o, e, n⟩ := r1.tb b z
      exact ⟨o, fr b o (fun y => r1.out p s3 (by rw [← List.mem_singleton.mp y]; exact z)) e, n⟩
    · exact rw'.trk b z
  · cases q : H b with
    | none => rfl
    | some o =>
      have := f1 b o (fun y => hl b z (.inr y)) q
      rw [fw b z] at this
      cases this
end
end Ov
set_option Elab.async false
set_option linter.all false
set_option maxRecDepth 100000
set_option maxHeartbeats 4000000
namespace Ov
open PySem L2
def chk (b : Bool) : Option Unit := if b = true then some () else none
theorem chk_ok {b : Bool} {u : Unit} (h : chk b = some u) : b = true := by
  unfold chk at h
  split at h
  · assumption
  · cases h
section
variable {K : PySem.W.Frag} {E : XK} {bx : Nat}
/-! isinstance of data -/
def kitD (T : String) (d : PyData) : Option Bool := kitB (tyD d) T
def isiE (T : String) (fa : M R) : M R := M.bind fa fun r => M.bind (vw r) fun d => M.bind (lift (kitD T d)) fun b => M.pure (ofB b)
def isiE2 (A B : String) (fa : M R) : M R := M.bind fa fun r => M.bind (vw r) fun d => M.bind (lift (kitD A d)) fun a => M.bind (lift (kitD B d)) fun b => M.pure (ofB (a || b))
/-! is None, is True -/
def isNR : R → Option Bool
  | .dat .none => some true
  | .dat _ => some false
  | .exc _ _ _ => some false
  | .slot _ => none
def isNE (n : Bool) (fa : M R) : M R := M.bind fa fun r => M.bind (lift (isNR r)) fun b => M.pure (ofB (n ^^ b))
theorem isNR_ok {G : Hp} {σ : St} {v : V} {r : R} {b : Bool} (q : RpR K G σ v r) (h : isNR r = some b) : decide (v = .non) = b := by
  cases r with
  | dat d =>
    have q : Da K G v d := q
    cases q with
    | non => cases h; rfl
    | bl _ => cases h; rfl
    | int _ => cases h; rfl
    | str _ => cases h; rfl
    | lst _ _ => cases h; rfl
    | tup _ _ => cases h; rfl
    | dct _ _ _ _ => cases h; rfl
    | dtk _ _ _ _ => cases h; rfl
  | slot i => cases h
  | exc C f d =>
    obtain ⟨a, u, rfl, _⟩ := q
    cases h
    rfl
theorem OkE.isN {ta : TE} {fa : M R} (oa : OkE K E ta fa) : OkE K E (tOp (fun x y H Q => y = .non ∧ Q (.bl (decide (x = .non))) H) ta (tC .non)) (isNE false fa) := by
  refine ⟨?_⟩
  intro B σ H env l rs rp h Q post
  refine oa.seq rp h post.exn fun a e v H1 h1 r1 f1 q1 => ?_
  obtain ⟨b, h3, h4⟩ := lift_step h1
  cases h4
  refine ⟨rfl, ?_⟩
  rw [isNR_ok q1 h3]
  exact post _ H1 r1 f1 (by rw [Bool.false_xor]; exact .bl b)
theorem OkE.notN {ta : TE} {fa : M R} (oa : OkE K E ta fa) : OkE K E (tOp (fun x y H Q => y = .non ∧ Q (.bl (!decide (x = .non))) H) ta (tC .non)) (isNE true fa) := by
  refine ⟨?_⟩
  intro B σ H env l rs rp h Q post
  refine oa.seq rp h post.exn fun a e v H1 h1 r1 f1 q1 => ?_
  obtain ⟨b, h3, h4⟩ := lift_step h1
  cases h4
  refine ⟨rfl, ?_⟩
  rw [isNR_ok q1 h3]
  exact post _ H1 r1 f1 (by rw [Bool.true_xor]; exact .bl _)
/-! turned round -/
/-! len(set(t)) -/
/-! str of a number, range as a tuple or list -/
def rgE (fr : M (Int × Int)) : M R := M.bind fr fun r => M.bind (lift (chk (decide (-(2 ^ 62) ≤ r.1 ∧ r.1 < 2 ^ 62 ∧ -(2 ^ 62) ≤ r.2 ∧ r.2 < 2 ^ 62 ∧ (r.2 - r.1).toNat ≤ 1000000)))) fun _ => M.pure (.dat (.tuple ((rngL r.1 r.2).map .int)))
def rg2 (fa fb : M R) : M (Int × Int) := M.bind fa fun a => M.bind fb fun b => M.bind (lift (asI a)) fun i => M.bind (lift (asI b)) fun j => M.pure (i, j)
/-! a, b = x, y -/
def parS (i j : Nat) (f g : M Wv) : M Fl := M.bind f fun v => M.bind g fun w => M.bind (putM i v) fun _ => M.bind (putM j w) fun _ => M.pure .nx
theorem OkS.par {i j : Nat} {ta tb : TE} {f g : M Wv} (hb : ∀ z : Fin bx, i ≠ z.1 ∧ j ≠ z.1) (o : OkW K E ta f) (o' : OkW K E tb g) : OkS K E bx (tPar i j (tCons ta (tCons tb tNil))) (parS i j f g) := by
  refine ⟨?_⟩
  intro B σ H env l rs rp h D post
  refine o.seq rp h post.exn fun w1 e1 v1 H1 l1 h1 r1 f1 q1 nd1 fr1 => ?_
  have n1 : ∀ b ∈ l1, ¬ un B l b := fun b z => rp.fresh (fr1 b z)
  have ex1 : ∀ C f d, rs = .ex C f d → Exn K E (un B l1) H1 l C f d := fun C f d e => by
    have := (post.exn C f d e).later f1
    exact this.wide
  refine o'.seq r1 h1 ex1 fun w2 e2 v2 H2 l2 h2 r2 f2 q2 nd2 fr2 => ?_
  have n2 : ∀ b ∈ l2, ¬ un (un B l1) l b := fun b z => r1.fresh (fr2 b z)
  obtain ⟨hi, h3⟩ := putM_step h2
  obtain ⟨hj, h4⟩ := putM_step h3
  cases h4
  refine ⟨v1, v2, rfl, ?_⟩
  have ec : un (un B l1) l2 = un (un B l2) l1 := by
    funext b
    exact propext ⟨fun z => z.elim (fun z => z.elim (fun z => .inl (.inl z)) .inr) fun z => .inl (.inr z), fun z => z.elim (fun z => z.elim (fun z => .inl (.inl z)) .inr) fun z => .inl (.inr z)⟩
  have q1' : RpW K H2 (off (un (un (un B l2) l1) l) H2) v1 w1 l1 := by
    refine q1.mv (off_mono (fun b z n => ?_) fun b o n e => f2 b o (fun z => n (.inr z)) e) fun b z => ?_
    · rcases z with ((z | z) | z) | z
      · exact absurd (.inl (.inl z)) n
      · exact fr2 b z
      · exact absurd (.inl (.inr z)) n
      · exact absurd (.inr z) n
    · obtain ⟨o, e, _⟩ := q1.trk b z
      rw [e]
      exact f2 b o (fun y => n1 b z (.inr y)) e
  rw [ec] at r2
  obtain ⟨l3, r3, m3⟩ := r2.put hi q1' nd1 fun b z => ⟨fun y => n1 b z (.inr y), fun y => y.elim (fun y => n1 b z (.inl y)) fun y => n2 b y (.inl (.inr z))⟩
  have sub3 : ∀ b ∈ l3, b ∈ l ∨ b ∈ l1 := m3
  have q2' : RpW K H2 (off (un (un B l2) l3) H2) v2 w2 l2 := by
    refine q2.mv (off_mono (fun b z n => ?_) fun b o n e => e) fun _ _ => rfl
    rcases z with (z | z) | z
    · exact absurd (.inl (.inl (.inl z))) n
    · exact absurd (.inl (.inr z)) n
    · rcases m3 b z with z | z
      · exact absurd (.inr z) n
      · exact absurd (.inl (.inl (.inr z))) n
  obtain ⟨l4, r4, m4⟩ := r3.put hj q2' nd2 fun b z => ⟨fun y => (m3 b y).elim (fun y => n2 b z (.inr y)) fun y => n2 b z (.inl (.inr y)), fun y => n2 b z (.inl (.inl y))⟩
  refine post _ H2 l4 r4 ⟨f1.trans f2, fun b z => ?_⟩ fun z => ?_
  · rcases m4 b z with z | z
    · exact (m3 b z).imp id (fr1 b)
    · refine .inr ?_
      cases q : H b with
      | none => rfl
      | some o =>
        have := f1 b o (fun y => n2 b z (.inr y)) q
        rw [fr2 b z] at this
        cases this
  · rw [List.getElem?_set_ne (hb z).2, List.getElem?_set_ne (hb z).1]
/-! dicts of numbers -/
def dnew : M Wv := M.pure (.dct [])
theorem OkW.dnew : OkW K E tDNewK Ov.dnew := by
  refine ⟨?_⟩
  intro B σ H env l rs rp h Q post
  cases h
  intro p hp
  refine post _ _ [p] (rp.grow (same_new hp _) (fun _ z => .inl z) (fun b z => z.imp id fun z => by rw [List.mem_singleton.mp z]; exact hp) fun b z => ?_) (Fr.of (same_new hp _)) ⟨p, rfl, rfl, upd_same⟩ (List.nodup_cons.mpr ⟨by simp, List.nodup_nil⟩) fun b z => by rw [List.mem_singleton.mp z]; exact hp
  by_cases e : b = p
  · subst e; exact ⟨_, upd_same, trivial⟩
  · rw [upd_ne e]; exact rp.tb b (z.resolve_right fun z => e (List.mem_singleton.mp z))
def dctD (i : Nat) : M (List Int) := fun env =>
  match env[i]? with
  | some (some (.dct ks)) => some (.ok ks env)
  | _ => none
theorem dctD_step {α : Type} {i : Nat} {g : List Int → M α} {env : En} {rs : Rs α} (h : (M.bind (dctD i) g) env = some rs) : ∃ ks, env[i]? = some (some (.dct ks)) ∧ g ks env = some rs := by
  have key : ∀ z, dctD i env = some z → ∃ ks, env[i]? = some (some (.dct ks)) ∧ z = .ok ks env := fun z hz => by
    unfold dctD at hz
    split at hz
    · rename_i ks hx
      cases hz
      exact ⟨ks, hx, rfl⟩
    · cases hz
  rcases bind_some h with ⟨a, e, h1, h2⟩ | ⟨C, f, d, h1, h2⟩
  · obtain ⟨ds, e1, e2⟩ := key _ h1
    cases e2
    exact ⟨_, e1, h2⟩
  · obtain ⟨ds, e1, e2⟩ := key _ h1
    cases e2
theorem Rep.dget {B : Addr → Prop} {σ : St} {H : Hp} {env : En} {l : List Addr} {i : Nat} {ks : List Int} (r : Rep K B σ H env l) (hx : env[i]? = some (some (.dct ks))) :
    ∃ p, σ[i]? = some (some (.ref p)) ∧ H p = some (.dK (kvT ks)) ∧ p ∈ l ∧ ∀ ks', Rep K B σ (upd H p (.dK (kvT ks'))) (env.set i (some (.dct ks'))) l := by
  obtain ⟨s, a, lx, ly, q1, q2, ⟨v, rfl, p, rfl, rfl, q6⟩, q5⟩ := r.rp.focus hx
  have hp : p ∈ l := by rw [q2]; exact List.mem_append_right _ (List.mem_append_left _ (List.mem_cons_self ..))
  refine ⟨p, q1, q6, hp, fun ks' => ?_⟩
  have nd := r.nd
  rw [q2] at nd
  obtain ⟨n1, n2, n3⟩ := List.nodup_append.mp nd
  obtain ⟨n4, n5, n6⟩ := List.nodup_append.mp n2
  have sub : Same (off (un B l) H) (off (un B l) (upd H p (.dK (kvT ks')))) := off_mono (fun b z n => absurd z n) fun b o n e => by rw [upd_ne (fun z => n (.inr (by rw [z]; exact hp)))]; exact e
  refine ⟨?_, r.nd, r.out, fun b z => ?_⟩
  · have := q5 (H' := upd H p (.dK (kvT ks'))) (s' := some (.ref p)) (e' := some (.dct ks')) (a' := [p]) sub
      (fun q z => upd_ne fun e => n3 q z p (List.mem_append_left _ (List.mem_cons_self ..)) e) (fun q z => upd_ne fun e => n6 p (List.mem_cons_self ..) q z e.symm) ⟨_, rfl, p, rfl, rfl, upd_same⟩
    rw [set_same q1] at this
    rw [q2] at this ⊢
    exact this
  · obtain ⟨o, e, n⟩ := r.tb b z
    exact ⟨o, by rw [upd_ne (fun y => r.out p hp (by rw [← y]; exact z))]; exact e, n⟩
theorem kvT_val (ks : List Int) (k : Int) : (valV (kvT ks) (Sum.inl k)).isSome = decide (k ∈ ks) := by
  unfold valV kvT
  rw [Option.isSome_map]
  induction ks with
  | nil => rfl
  | cons x r ih =>
    rw [List.map_cons, List.find?_cons]
    by_cases e : x = k
    · subst e; simp
    · have : decide ((Sum.inl x : L2.Key) = Sum.inl k) = false := decide_eq_false fun z => e (Sum.inl.inj z)
      simp only [this]
      rw [ih]
      simp [Ne.symm e]
def putT (ks : List Int) (k : Int) : List Int := if k ∈ ks then ks else ks ++ [k]
theorem kvT_put (ks : List Int) (k : Int) : putK (kvT ks) (Sum.inl k) (.bl true) = kvT (putT ks k) := by
  unfold putK putT
  have ha : ((kvT ks).any fun kv => decide (kv.1 = (Sum.inl k : L2.Key))) = decide (k ∈ ks) := by
    unfold kvT
    induction ks with
    | nil => rfl
    | cons x r ih =>
      rw [List.map_cons, List.any_cons, ih]
      by_cases e : x = k
      · subst e; simp
      · have : decide ((Sum.inl x : L2.Key) = Sum.inl k) = false := decide_eq_false fun z => e (Sum.inl.inj z)
        simp only [this, Bool.false_or]
        simp [Ne.symm e]
  rw [ha]
  by_cases e : k ∈ ks
  · simp only [e, decide_true, if_true]
    unfold kvT
    rw [List.map_map]
    refine List.map_congr_left fun x _ => ?_
    show (if (Sum.inl x : L2.Key) = Sum.inl k then _ else _) = _
    split <;> rfl
  · simp only [e, decide_false, if_false, Bool.false_eq_true]
    unfold kvT
    rw [List.map_append]
    rfl
def dinT (n : Bool) (i : Nat) (fk : M R) : M Bool := M.bind fk fun r => M.bind (lift (asI r)) fun k => M.bind (dctD i) fun ks => M.pure (n ^^ decide (k ∈ ks))
theorem OkT.din {i : Nat} {tk : TE} {fk : M R} (o : OkE K E tk fk) : OkT K E (tB (tDIn tk (tVar i))) (dinT false i fk) := by
  refine ⟨?_⟩
  intro B σ H env l rs rp h Q post
  refine o.seq rp h post.exn fun a e v H1 h1 r1 f1 q1 => ?_
  obtain ⟨k, h2, h3⟩ := lift_step h1
  obtain ⟨ks, hx, h4⟩ := dctD_step h3
  cases h4
  rw [asI_some h2] at q1
  cases q1
  obtain ⟨p, s1, s2, s3, _⟩ := r1.dget hx
  refine ⟨.ref p, s1, p, _, rfl, DGet.k (k := Sum.inl k) s2, _, rfl, ?_⟩
  rw [kvT_val]
  rw [Bool.false_xor] at post
  exact post H1 r1 f1
def dputS (i : Nat) (fk : M R) : M Fl := M.bind (dctD i) fun _ => M.bind fk fun r => M.bind (lift (asI r)) fun k => M.bind (dctD i) fun ks => M.bind (lift (chk (decide (ks.length < 1000)))) fun _ => M.bind (putM i (.dct (putT ks k))) fun _ => M.pure .nx
theorem OkS.dput {i : Nat} {tk : TE} {fk : M R} (o : OkE K E tk fk) : OkS K E bx (sDPut (tVar i) tk (tC (.bl true))) (dputS i fk) := by
  refine ⟨?_⟩
  intro B σ H env l rs rp h D post
  obtain ⟨ks0, hx0, h0⟩ := dctD_step h
  obtain ⟨p, s1, s2, s3, _⟩ := rp.dget hx0
  refine ⟨.ref p, s1, ?_⟩
  refine o.seq rp h0 post.exn fun a e v H1 h1 r1 f1 q1 => ?_
  obtain ⟨k, h2, h3⟩ := lift_step h1
  obtain ⟨ks, hx, h4⟩ := dctD_step h3
  obtain ⟨u, h4a, h4⟩ := lift_step h4
  have hn := of_decide_eq_true (chk_ok h4a)
  obtain ⟨_, h5⟩ := putM_step h4
  cases h5
  rw [asI_some h2] at q1
  cases q1
  obtain ⟨p', t1, t2, t3, t4⟩ := r1.dget hx
  rw [s1] at t1
  cases t1
  refine ⟨p, _, rfl, DPut.k (k := Sum.inl k) t2 ?_, ?_⟩
  · unfold kvT
    rw [List.length_map]
    exact small1000 (by omega)
  · rw [kvT_put]
    exact post σ _ l (t4 _) (Fr2.of (f1.trans (fr_upd t3))) fun _ => rfl
def sortDct (i : Nat) : M R := M.bind (dctD i) fun ks => M.bind (lift (chk (decide (ks.length < 64)))) fun _ => M.pure (.dat (.list ((sortI ks).map .int)))
theorem OkE.sortDct {i : Nat} : OkE K E (tCB (fun xs H Q => ∃ (a : Addr) (kvs : List (L2.Key × V)) (ks : List Int), xs = [.ref a] ∧ Rd H a (.dK kvs) ∧ kvs.map (·.1) = ks.map Sum.inl ∧ ks.length < 64 ∧
    ∀ (ys : List Int) (p : Addr), ys.Perm ks → ys.Pairwise (· ≤ ·) → H p = none → Q (.ref p) (upd H p (.lst (ys.map V.int)))) (tCons (tVar i) tNil)) (Ov.sortDct i) := by
  refine ⟨?_⟩
  intro B σ H env l rs rp h Q post
  obtain ⟨ks, hx, h0⟩ := dctD_step h
  obtain ⟨p, s1, s2, s3, _⟩ := rp.dget hx
  obtain ⟨u, h0a, h0⟩ := lift_step h0
  have hn := of_decide_eq_true (chk_ok h0a)
  · cases h0
    refine ⟨.ref p, s1, p, _, ks, rfl, .inl s2, ?_, hn, fun ys q pm pw hq => ?_⟩
    · unfold kvT
      rw [List.map_map]
      rfl
    · have : ys = sortI ks := sort_uniq (pm.trans (sortI_perm ks).symm) pw (sortI_pw ks)
      subst this
      exact post _ _ (rp.same (same_new hq _)) (Fr.of (same_new hq _)) (new_dp rp.tl hq (da_ints _)).1
end
end Ov
set_option Elab.async false
set_option linter.all false
set_option maxRecDepth 100000
set_option maxHeartbeats 4000000
namespace Ov
open PySem L2
theorem vacB {K : PySem.W.Frag} {vs : List V} {H : Hp} {Q : VK} {E : XK} (h : spB K (fun _ _ => none) vs H Q E) : False := by
  obtain ⟨B, p, bv, bs, vs', ds, w, bs', rfl, hp, nB, db, da, hB, hf, q⟩ := h
  cases hf
end Ov
set_option Elab.async false
set_option linter.all false
set_option maxRecDepth 100000
set_option maxHeartbeats 4000000
namespace Ov
open PySem L2
/-! the rules whose reading names the written part, with that part given (a comprehension's block has it too) -/
section
variable {X : Cx} {K : PySem.W.Frag} (hK : X.K = K)
include hK
theorem k_len : CallR X (.builtin "len") (fun xs H Q => ∃ p ys, xs = [.ref p] ∧ (SqL K H p ys ∨ SqT K H p ys) ∧ Q (.int ys.length) H) := by subst hK; exact call_len_seq
theorem k_tup : CallR X (.type "tuple") (rTupW K) := by subst hK; exact call_tupW
theorem k_all (hc : X.calm = true) : CallR X (.builtin "all") (rAll K) := by subst hK; exact cr_all hc
theorem k_sum (hc : X.calm = true) : CallR X (.builtin "sum") (rSum K) := by subst hK; exact cr_sum hc
theorem k_sorted : CallR X (.builtin "sorted") (rSrtW K) := by subst hK; exact cr_sortedW
theorem k_notin : OpR X (compareOp .NotIn) (rIn K true) := by subst hK; exact op_notIn_seq
theorem k_eqD (hu : X.A.units + 64 < cLine) : OpR X (compareOp .Eq) (rEqD K) := by subst hK; exact op_eqD hu
theorem k_neD (hu : X.A.units + 64 < cLine) : OpR X (compareOp .NotEq) (rNeD K) := by subst hK; exact op_neD hu
theorem k_ix : IxR X (rIx K) := by subst hK; exact ix_seq
theorem k_cut : SlR X (rCut K) := by subst hK; exact sl_cut
theorem k_catW : OpR X (binaryOp .Add) (rCatW K) := by subst hK; exact op_catW
theorem k_seq {tg l : Expr} {tl : TE} (hl : PE X l tl) : PI X tg l (iSeq K tl) := by subst hK; exact pi_seq hl
theorem k_bm {T id : String} {o e : Expr} {es : List Expr} {to : TE} {t : TA} {name : Str} {apos cpos : Pos} {r : V → List V → Hp → VK → Prop} (pa : PlainAttrs T) (slot : Slot T name id) (hty : typeOf (.builtin id) = pure (.type "method_descriptor")) (hm : MtR X id r) (ho : PE X o to) (ha : PA X (e :: es) t)
    (hbase : attributeBase o name X.env (eval o X.env) = eval o X.env := by rfl)
    (hfew : ((backTo cpos (starEach (e :: es) X.env)).all (fun x => !x.1) && (backToKw cpos (keywordEach [] X.env)).all (fun x => x.1.isSome)
      && decide ((e :: es).length + ([] : List Keyword).length + (if ([] : List Keyword).isEmpty then 0 else 1) < 30)) = true := by rfl)
    (hline : (apos.endLine == cpos.line) = true := by rfl) (hs : starEach (e :: es) X.env = (false, eval e X.env) :: starEach es X.env := by rfl) (hplain : (backTo cpos (starEach es X.env)).any (·.1) = false := by rfl) :
    PE X (.Call (.Attribute o name apos) (e :: es) [] cpos) (tBM K T r to t) := by subst hK; exact pe_bm pa slot hty hm ho ha hbase hfew hline hs hplain
end
section
variable {K : PySem.W.Frag} {E : XK}
/-- xs + ys as a list of one's own -/
def catW (fa fb : M R) : M Wv := M.bind fa fun a => M.bind fb fun b => M.bind (vw a) fun x => M.bind (vw b) fun y => M.bind (lift (catD x y)) fun d => M.bind (lift (match d with | .list ds => some ds | _ => none)) fun ds => M.pure (.own (dats ds))
end
end Ov
set_option Elab.async false
set_option linter.all false
set_option maxRecDepth 100000
set_option maxHeartbeats 4000000
namespace Ov
open PySem L2
/-! methods that only read, of a list that is plain data -/
section
variable {K : PySem.W.Frag} {E : XK}
def isLD : PyData → Option Unit
  | .list _ => some ()
  | _ => none
def rmE (fo : List PyData → Option PyData) (fa : M R) (fs : M (List R)) : M R := M.bind fa fun a => M.bind (vw a) fun x0 => M.bind (lift (isLD x0)) fun _ => M.bind fs fun rs => M.bind (vw a) fun x => M.bind (vws rs) fun as => M.bind (lift (fo (x :: as))) fun d => M.pure (.dat d)
theorem OkE.rm {r : V → List V → Hp → VK → Prop} {fo : List PyData → Option PyData} {ta : TE} {t : TA} {fa : M R} {fs : M (List R)} (o : CbOk K (fun vs H Q => ∃ x xs, vs = x :: xs ∧ r x xs H Q) fo) (oa : OkE K E ta fa) (os : OkA K E t fs) : OkE K E (tBM K "list" r ta t) (rmE fo fa fs) := by
  refine ⟨?_⟩
  intro B σ H env l rs rp h Q post
  refine oa.seq rp h post.exn fun a e v1 H1 h1 r1 f1 q1 => ?_
  obtain ⟨x0, h2, w0⟩ := vw_step r1 q1 h1
  obtain ⟨u, h3, h4⟩ := lift_step h2
  have hx : ∃ ds, x0 = .list ds := by
    cases x0 with
    | list ds => exact ⟨ds, rfl⟩
    | _ => cases h3
  obtain ⟨ds, rfl⟩ := hx
  obtain ⟨p, vs0, rfl, hs, _⟩ := vw_list w0
  refine ⟨.inl ⟨rfl, _, hs⟩, ?_⟩
  refine os.seq r1 h4 (exn_later post.exn f1) fun b e2 vs H2 h5 r2 f2 q2 => ?_
  obtain ⟨x, h6, w1⟩ := vw_step r2 (q1.mv f2.keep) h5
  obtain ⟨as, h7, w2⟩ := vws_ok r2 q2 h6
  obtain ⟨d, h8, h9⟩ := lift_step h7
  cases h9
  obtain ⟨x', xs', ex, hr⟩ := o r2.tl (.cons w1 w2) h8 fun v H' s q => post v H' (r2.same s) ((f1.trans f2).trans (Fr.of s)) q
  cases ex
  exact hr
/-- l.index(x) -/
def idxD (as : List PyData) : Option PyData :=
  match as with
  | [.list ds, d] => if shp (.list ds) && shp d then (ds.findIdx? fun z => PyData.eqv z d).map fun j => .int (j : Nat) else none
  | _ => none
theorem ok_idx : CbOk K (fun vs H Q => ∃ x xs, vs = x :: xs ∧ rIndexD K x xs H Q) idxD := by
  intro S H xs as d hS w e Q q
  unfold idxD at e
  split at e
  · split at e
    · rename_i ds d0 hc
      rw [Bool.and_eq_true] at hc
      obtain ⟨j, e1, e2⟩ := Option.map_eq_some_iff.mp e
      subst e2
      cases w with
      | cons w1 w2 =>
        cases w2 with
        | cons w2 w3 =>
          cases w3
          obtain ⟨p, vs, rfl, hs, hd⟩ := vw_list w1
          rw [List.findIdx?_eq_some_iff_getElem] at e1
          obtain ⟨hj, e3, e4⟩ := e1
          refine ⟨_, _, rfl, p, _, d0, ds, j, ds[j], rfl, rfl, Da.dp _ (shp_nd hc.1) w1.da, Da.dp _ (shp_nd hc.2) w2.da, hc.1, hc.2, List.getElem?_eq_getElem hj, e3, fun m z' hm hz => ?_, q _ _ (same_refl _) (.int _)⟩
          obtain ⟨hml, rfl⟩ := List.getElem?_eq_some_iff.mp hz
          exact Bool.eq_false_iff.mpr (e4 m hm)
    · cases e
  · cases e
end
section
variable {X : Cx} {K : PySem.W.Frag} (hK : X.K = K)
include hK
theorem k_index (hu : X.A.units + 65 < cLine) : MtR X "list.index" (rIndexD K) := by subst hK; exact mt_indexD hu
end
end Ov
set_option Elab.async false
set_option linter.all false
set_option maxRecDepth 100000
set_option maxHeartbeats 4000000
namespace Ov
open PySem L2 PySem.Spec PyProof.Rows
/-! zip of two sequences, each a list or a tuple -/
def SqB (t : Bool) (K : PySem.W.Frag) (H : Hp) (a : Addr) (xs : List V) : Prop := match t with
  | true => SqT K H a xs
  | false => SqL K H a xs
def ItB (t : Bool) (h : Heap) (it l : Addr) (k : Nat) : Prop := match t with
  | true => h.IsTupleIter it l k
  | false => h.IsListIter it l k
def SeB (t : Bool) (h : Heap) (l : Addr) (its : Array Value) : Prop := match t with
  | true => h.IsTuple l its
  | false => h.IsList l its
def itO (t : Bool) (l : Addr) : Obj := { cls := .type (match t with | true => "tuple_iterator" | false => "list_iterator"), data := .fields #[.ref l, .int 0 0] }
theorem drB {P : Program} {w : World} {A : Around} (t : Bool) (no : A.handled = none) (it l : Addr) (ne : l ≠ it) (its : Array Value) :
    Draws P w A it [it, l] its.size (fun i v => its[i]? = some v) (fun i h => ItB t h it l i ∧ SeB t h l its) := by
  cases t with
  | true => exact Draws.tuple no it l ne its
  | false => exact Draws.list no it l ne its
theorem bgB (t : Bool) (l : Addr) (its : Array Value) : Begins (.ref l) (itO t l) (fun h => SeB t h l its) := by
  cases t with
  | true => exact begins_tuple l its
  | false => exact begins_list l its
theorem ItB.new {t : Bool} {h : Heap} {it l : Addr} (e : h.get? it = some (itO t l)) : ItB t h it l 0 := by
  cases t with
  | true => exact ⟨_, e, rfl, rfl⟩
  | false => exact ⟨_, e, rfl, rfl⟩
theorem ItB.up {t : Bool} {h h' : Heap} {it l : Addr} {k : Nat} (x : ItB t h it l k) (f : ∀ o, h.get? it = some o → h'.get? it = some o) : ItB t h' it l k := by
  cases t with
  | true => exact Heap.IsTupleIter.at x f
  | false => exact Heap.IsListIter.at x f
theorem ItB.ob {t : Bool} {h : Heap} {it l : Addr} {k : Nat} (x : ItB t h it l k) : ∃ o, h.get? it = some o ∧ ∀ v, o.data ≠ .cell v := by
  cases t with
  | true => obtain ⟨o, e, _, d⟩ := x; exact ⟨o, e, fun v z => by rw [d] at z; cases z⟩
  | false => obtain ⟨o, e, _, d⟩ := x; exact ⟨o, e, fun v z => by rw [d] at z; cases z⟩
theorem SeB.lt {t : Bool} {h : Heap} {l : Addr} {its : Array Value} (x : SeB t h l its) : l < h.objs.size := by
  cases t with
  | true => obtain ⟨o, e, _⟩ := x; exact Heap.lt_size e
  | false => obtain ⟨o, e, _⟩ := x; exact Heap.lt_size e
section
variable {X : Cx} {pins : List (Addr × Obj)} {σ : L2.St} {H : Hp} {s : Shared} {t : Bool} {a : Addr} {xs ys : List V}
theorem SqB.read (I : Inv X pins σ H s) (h : SqB t X.K H a xs) : ∃ its : List Value, Vals xs its ∧ SeB t s.heap a its.toArray := by
  cases t with
  | true => obtain ⟨its, r, p, _⟩ := I.tuple h; exact ⟨its, r, p⟩
  | false => obtain ⟨its, r, p, _⟩ := I.list h; exact ⟨its, r, p.isList⟩
theorem SqB.inj (I : Inv X pins σ H s) (h : SqB t X.K H a xs) (h' : SqB t X.K H a ys) : xs = ys := by
  cases t with
  | true => exact I.tuple_inj h h'
  | false => exact I.list_inj h h'
end
def ItzB (t u : Bool) (K : PySem.W.Frag) (a b : Addr) : It where
  go := fun i H => ∃ (xs ys : List V) (x y : V), SqB t K H a xs ∧ SqB u K H b ys ∧ xs[i]? = some x ∧ ys[i]? = some y
  yld := fun i H v H' => ∃ (p : Addr) (x y : V) (o : Obj), v = .ref p ∧ H p = none ∧ o.dict = none ∧ H' = upd H p (.frz o (.tup [x, y])) ∧ (∀ xs, SqB t K H a xs → xs[i]? = some x) ∧ ∀ ys, SqB u K H b ys → ys[i]? = some y
  stop := fun i H => ∃ xs ys : List V, SqB t K H a xs ∧ SqB u K H b ys ∧ i ≤ xs.length ∧ i ≤ ys.length ∧ (xs.length = i ∨ ys.length = i)
theorem turn_zipB {P : Program} {w : World} {K : PySem.W.Frag} {tgs : List Expr} {kk : Nat} {tp : Pos} {t u : Bool} {a b z m n c d : Addr} (D : ZipSep2 z m n c d [c, a] [d, b]) (na : a ≠ c) (nb : b ≠ d) :
    Turn P w K (.Tuple tgs kk tp) (ItzB t u K a b) [z, m, n, c, d] z (fun i h => IsZip h z m n .none ∧ IsTupOf2 h m (.ref c) (.ref d) ∧ (∃ x y, IsTupOf2 h n x y) ∧ ItB t h c a i ∧ ItB u h d b i) where
  mem := by simp
  obj := fun i h st e he => by
    obtain ⟨q1, q2, ⟨x, y, q3⟩, q4, q5⟩ := st
    simp only [List.mem_cons, List.not_mem_nil, or_false] at he
    rcases he with rfl | rfl | rfl | rfl | rfl
    · exact ⟨_, q1, fun v r => nomatch r⟩
    · exact ⟨_, q2, fun v r => nomatch r⟩
    · exact ⟨_, q3, fun v r => nomatch r⟩
    · exact q4.ob
    · exact q5.ob
  keep := fun i h h' st k => by
    obtain ⟨q1, q2, ⟨x, y, q3⟩, q4, q5⟩ := st
    exact ⟨k _ (by simp) _ q1, k _ (by simp) _ q2, ⟨x, y, k _ (by simp) _ q3⟩, q4.up fun o e => k _ (by simp) o e, q5.up fun o e => k _ (by simp) o e⟩
  item := by
    intro X eP ew eK calm i pins s σ H E I ff st hg
    subst eP ew eK
    obtain ⟨q1, q2, ⟨x0, y0, q3⟩, q4, q5⟩ := st
    obtain ⟨xs, ys, x, y, hX, hY, ex, ey⟩ := hg
    obtain ⟨is, rx, px⟩ := hX.read I
    obtain ⟨js, ry, py⟩ := hY.read I
    obtain ⟨v1, e1, r1⟩ := rx.get ex
    obtain ⟨v2, e2, r2⟩ := ry.get ey
    have lz : z < s.heap.objs.size := Heap.lt_size q1
    have no := I.ok.hd calm
    have b1 : i < is.toArray.size := by simpa using (List.getElem?_eq_some_iff.mp e1).1
    have b2 : i < js.toArray.size := by simpa using (List.getElem?_eq_some_iff.mp e2).1
    refine wpAny_pyNext_zipD2_item D (drB t (A := X.A.in1) no c a na is.toArray) (drB u (A := X.A.in1) no d b nb js.toArray) q1 q2 q3 ⟨q4, px⟩ ⟨q5, py⟩ b1 b2 ?_
    intro w1 w2 h' tk p1 p2 z' n' s1 s2 nw hsz hk
    have c1 : w1 = v1 := Option.some.inj ((show is.toArray[i]? = some w1 from p1).symm.trans (by simpa using e1))
    have c2 : w2 = v2 := Option.some.inj ((show js.toArray[i]? = some w2 from p2).symm.trans (by simpa using e2))
    subst c1 c2
    refine ⟨_, rfl, wpAny_letOwnedTupleGo_zip (s := { s with heap := h', toks := tk }) z' fun h'' z'' sb => ?_⟩
    have nw2 : h''.get? s.heap.objs.size = some { cls := .type "tuple", data := .seq #[w1, w2] } := (sb.2 _ (Nat.ne_of_gt lz)).trans nw
    have ok : ObjOk X.prog X.w (upd H s.heap.objs.size (.frz (bo [w1, w2]) (.tup [x, y]))) h'' s.heap.objs.size (.frz (bo [w1, w2]) (.tup [x, y])) := bo_ok nw2 (.cons r1 (.cons r2 .nil)) (by show 2 ≤ sizeLine; decide)
    have I1 : Inv X pins σ (upd H s.heap.objs.size (.frz (bo [w1, w2]) (.tup [x, y]))) { s with heap := h'', toks := tk } := by
      refine I.turnedNew (t' := tk) (ch := [z, m, n, c, d]) (fun e o he f => ?_) ff (Nat.le_refl _) ok
      simp only [List.mem_cons, List.not_mem_nil, or_false, not_or] at he
      exact (sb.2 e he.1).trans (hk e o he.1 he.2.2.1 he.2.2.2.1 he.2.2.2.2 f)
    have zc : c ≠ z := fun e => D.zi1 e.symm
    have zd : d ≠ z := fun e => D.zi2 e.symm
    refine ⟨.ref s.heap.objs.size, _, I1, rfl, ⟨_, x, y, _, rfl, I.hok.fresh (Nat.le_refl _), rfl, rfl, fun l hl => by rw [hl.inj I hX]; exact ex, fun l hl => by rw [hl.inj I hY]; exact ey⟩, ⟨z'', ?_, ⟨w1, w2, ?_⟩, ?_, ?_⟩, fun e he => ?_⟩
    · exact (sb.2 _ D.TIz).trans (hk _ _ D.TIz D.TITO D.TIi1 D.TIi2 q2)
    · exact (sb.2 _ D.TOz).trans n'
    · exact s1.1.up fun o f => (sb.2 _ zc).trans f
    · exact s2.1.up fun o f => (sb.2 _ zd).trans f
    · obtain ⟨o, f, _⟩ : ∃ o, s.heap.get? e = some o ∧ True := by
        simp only [List.mem_cons, List.not_mem_nil, or_false] at he
        rcases he with rfl | rfl | rfl | rfl | rfl
        · exact ⟨_, q1, trivial⟩
        · exact ⟨_, q2, trivial⟩
        · exact ⟨_, q3, trivial⟩
        · obtain ⟨o, f, _⟩ := q4.ob; exact ⟨o, f, trivial⟩
        · obtain ⟨o, f, _⟩ := q5.ob; exact ⟨o, f, trivial⟩
      rw [upd_ne (Nat.ne_of_lt (Heap.lt_size f))]
      exact (ff e he).1
  done := by
    intro X eP ew eK calm i pins s σ H E I ff st hg
    subst eP ew eK
    obtain ⟨q1, q2, ⟨x0, y0, q3⟩, q4, q5⟩ := st
    obtain ⟨xs, ys, hX, hY, l1, l2, over⟩ := hg
    obtain ⟨is, rx, px⟩ := hX.read I
    obtain ⟨js, ry, py⟩ := hY.read I
    have no := I.ok.hd calm
    have g1 := rx.length
    have g2 := ry.length
    refine wpAny_pyNext_zipD2_end D (drB t (A := X.A.in1) no c a na is.toArray) (drB u (A := X.A.in1) no d b nb js.toArray) q1 q2 q3 ⟨q4, px⟩ ⟨q5, py⟩ (by rw [List.size_toArray]; omega) (by rw [List.size_toArray]; omega) ?_ fun h' tk hk => ⟨rfl, ?_⟩
    · rw [List.size_toArray, List.size_toArray]
      omega
    · refine I.turnedL (t' := tk) (ch := [z, m, n, c, d]) (fun e o he f => ?_) ff
      simp only [List.mem_cons, List.not_mem_nil, or_false, not_or] at he
      exact hk e o he.1 he.2.2.1 he.2.2.2.1 he.2.2.2.2 f
  self := fun A i s Q E st h => wpAny_pyIter_zip st.1 h
end Ov
set_option Elab.async false
set_option linter.all false
set_option maxRecDepth 100000
set_option maxHeartbeats 4000000
namespace Ov
open PySem L2 PySem.Spec PyProof.Rows
def iZipB (K : PySem.W.Frag) (ta : TA) : TI := fun σ H R => ta σ H fun vs H1 => ∃ (t u : Bool) (a b : Addr) (xs ys : List V), vs = [.ref a, .ref b] ∧ SqB t K H1 a xs ∧ SqB u K H1 b ys ∧ R (ItzB t u K a b) H1
theorem pi_zipB {X : Cx} {e1 e2 : Expr} {ta : TA} {p0 p1 p2 : Pos} {tgs : List Expr} {kk : Nat} (gl : Gl X "zip") (un : X.mg "zip" = none) (ha : PA X [e1, e2] ta)
    (st : starEach [e1, e2] X.env = (false, eval e1 X.env) :: starEach [e2] X.env := by rfl) (pl : (backTo p1 (starEach [e2] X.env)).any (·.1) = false := by rfl) :
    PI X (.Tuple tgs kk p2) (.Call (.Name "zip" p0) [e1, e2] [] p1) (iZipB X.K ta) := by
  refine ⟨fun pins s σ H R I h => ?_⟩
  refine Call_ (ld_blt I gl un boot_zip (callWith_type1 (thn (ha.run p1 pins s σ H _ I h) ?_) st pl))
  rintro us s1 ⟨vs, H1, J, rel, t, u, a, b, xs, ys, rfl, hX, hY, q⟩
  obtain ⟨v1, v2, rfl, r1, r2⟩ : ∃ v1 v2, us = [v1, v2] ∧ v1 = Value.ref a ∧ v2 = Value.ref b := by
    cases rel with
    | cons r rr => cases rr with | cons r' rr => cases rr; exact ⟨_, _, rfl, r, r'⟩
  subst r1 r2
  obtain ⟨is, _, px⟩ := hX.read J
  obtain ⟨js, _, py⟩ := hY.read J
  have la := px.lt
  have lb := py.lt
  refine zip_begins2 (bgB t a is.toArray) (bgB u b js.toArray) px py fun h' z m n c d _ hk => wpAny_pyIter_zip z ?_
  have J2 : Inv X pins σ H1 { s1 with heap := h' } := J.kept (t' := s1.toks) hk
  have sep : ZipSep2 (s1.heap.objs.size + 4) (s1.heap.objs.size + 2) (s1.heap.objs.size + 3) s1.heap.objs.size (s1.heap.objs.size + 1) [s1.heap.objs.size, a] [s1.heap.objs.size + 1, b] := zip_sep2 (fp1 := [a]) (fp2 := [b]) (fun e he => by rw [List.mem_singleton.mp he]; exact la) (fun e he => by rw [List.mem_singleton.mp he]; exact lb)
  refine ⟨_, [s1.heap.objs.size + 4, s1.heap.objs.size + 2, s1.heap.objs.size + 3, s1.heap.objs.size, s1.heap.objs.size + 1], _, _, H1, rfl, J2, turn_zipB sep (Nat.ne_of_lt la) (Nat.ne_of_lt (Nat.lt_succ_of_lt lb)), ⟨z, m, ⟨_, _, n⟩, .new c, .new d⟩, fun e he => ?_, q⟩
  have le : s1.heap.objs.size ≤ e := by
    simp only [List.mem_cons, List.not_mem_nil, or_false] at he
    rcases he with rfl | rfl | rfl | rfl | rfl
    · exact Nat.le_add_right _ _
    · exact Nat.le_add_right _ _
    · exact Nat.le_add_right _ _
    · exact Nat.le_refl _
    · exact Nat.le_add_right _ _
  exact J.fpOk le (J.hok.fresh le)
section
variable {K : PySem.W.Frag} {E : XK} {t u : Bool} {a b : Addr} {xs ys : List V}
theorem SqB.same {H H' : Hp} (s : Same H H') (h : SqB t K H a xs) : SqB t K H' a xs := by
  cases t with
  | true => exact seqT s h
  | false => exact rd_same s h
theorem da_sq {G : Hp} {v : V} {d : PyData} {ds : List PyData} (h : Da K G v d) (e : seqD d = some ds) : ∃ (t : Bool) (p : Addr) (vs : List V), v = .ref p ∧ SqB t K G p vs ∧ DaAll K G vs ds := by
  cases h with
  | lst q r => cases e; exact ⟨false, _, _, rfl, q, r⟩
  | tup q r => cases e; exact ⟨true, _, _, rfl, q.sq, r⟩
  | dct _ _ _ _ => cases e
  | dtk _ _ _ _ => cases e
  | non => cases e
  | bl _ => cases e
  | int _ => cases e
  | str _ => cases e
theorem walk_zipB {n : Nat} (hn : n = min xs.length ys.length) : Walk (ItzB t u K a b) n (fun H => SqB t K H a xs ∧ SqB u K H b ys) (YPairB (fun i => xs[i]?) (fun i => ys[i]?)) := by
  subst hn
  refine ⟨fun i H hi q => ?_, fun H q => ⟨xs, ys, q.1, q.2, by omega, by omega, by omega⟩, fun i H v H' _ q y => ?_⟩
  · have k1 : i < xs.length := by omega
    have k2 : i < ys.length := by omega
    exact ⟨xs, ys, xs[i], ys[i], q.1, q.2, List.getElem?_eq_getElem k1, List.getElem?_eq_getElem k2⟩
  · obtain ⟨T, x, y', o, g1, g2, g0, g3, g4, g5⟩ := y
    exact ⟨T, x, y', o, g1, g2, g0, g3, g4 _ q.1, g5 _ q.2⟩
def zipM (as : List PyData) : Option (List PyData) :=
  match as with
  | [x, y] => (seqD x).bind fun ds => (seqD y).map fun es => pairUp ds es
  | _ => none
theorem OkI.zipB {t : TA} {fa : M (List R)} (o : OkA K E t fa) : OkI K E (iZipB K t) (argI zipM fa) := by
  refine ⟨?_⟩
  intro B σ H env l rs rp h R post
  refine o.seq rp h post.exn fun a e v H1 h1 r1 f1 q1 => ?_
  obtain ⟨ds, h2, h3⟩ := lift_step h1
  obtain ⟨out, h4, h5⟩ := lift_some h3
  subst h5
  have da := dds_ok q1 h2
  unfold zipM at h4
  split at h4
  · obtain ⟨es, e1, e2⟩ := Option.bind_eq_some_iff.mp h4
    obtain ⟨gs, e3, e4⟩ := Option.map_eq_some_iff.mp e2
    subst e4
    cases da with
    | cons d1 t1 =>
      cases t1 with
      | cons d2 t2 =>
        cases t2
        obtain ⟨k1, p, ws, rfl, qa, ha⟩ := da_sq d1 e1
        obtain ⟨k2, p', ws', rfl, qb, hb⟩ := da_sq d2 e3
        refine ⟨k1, k2, p, p', ws, ws', rfl, qa.same (off_sub _ _), qb.same (off_sub _ _), post _ H1 _ _ r1 f1 (walk_zipB (by rw [pair_len, daAll_len ha, daAll_len hb])) (fun H2 f => ⟨(qa.same f.keep).same (off_sub _ _), (qb.same f.keep).same (off_sub _ _)⟩) ?_⟩
        rintro i x H2 H3 d S fr ⟨T, u, w, o', rfl, hT, od, g3, g4, g5⟩ hd hs hS
        obtain ⟨x1, y1, j1, j2, rfl⟩ := pair_get hd
        obtain ⟨u', m1, m2⟩ := daAll_get ha j1
        obtain ⟨w', m3, m4⟩ := daAll_get hb j2
        cases m1.symm.trans g4
        cases m3.symm.trans g5
        exact pair_da (B := B) (l := l) (H1 := H1) hS hT od g3 (m2.walk fr hs) (m4.walk fr hs)
  · cases h4
end
section
variable {X : Cx} {K : PySem.W.Frag} (hK : X.K = K)
include hK
theorem k_zipB {e1 e2 : Expr} {ta : TA} {p0 p1 p2 : Pos} {tgs : List Expr} {kk : Nat} (gl : Gl X "zip") (un : X.mg "zip" = none) (ha : PA X [e1, e2] ta)
    (st : starEach [e1, e2] X.env = (false, eval e1 X.env) :: starEach [e2] X.env := by rfl) (pl : (backTo p1 (starEach [e2] X.env)).any (·.1) = false := by rfl) :
    PI X (.Tuple tgs kk p2) (.Call (.Name "zip" p0) [e1, e2] [] p1) (iZipB K ta) := by subst hK; exact pi_zipB gl un ha st pl
end
end Ov
set_option Elab.async false
set_option linter.all false
set_option maxRecDepth 100000
set_option maxHeartbeats 4000000
set_option Elab.async false
set_option linter.all false
set_option maxRecDepth 100000
set_option maxHeartbeats 4000000
namespace Ov
open PySem L2 PySem.Spec PyProof.Rows
/-! list(zip(a, b)) -/
def Zs (h : Heap) (H : Hp) (z m n : Addr) : Prop := (IsZip h z m n .none ∧ ∃ x y, IsTupOf2 h n x y) ∨ ∃ (T : Addr) (f : Bool) (x y : V), IsZipHeld h z m n T f ∧ TP H T [x, y]
structure Lz (X : Cx) (pins : List (Addr × Obj)) (σ : L2.St) (t u : Bool) (a b : Addr) (xs ys : List V) (z m n c d : Addr) (H0 : Hp) (i : Nat) (H : Hp) (s : Shared) : Prop where
  inv : Inv X pins σ H s
  fa : SqB t X.K H0 a xs
  fb : SqB u X.K H0 b ys
  base : Same H0 H
  free : ∀ e ∈ [z, m, n, c, d], FpOk X pins H e
  zs : Zs s.heap H z m n
  tm : IsTupOf2 s.heap m (.ref c) (.ref d)
  i1 : ItB t s.heap c a i
  i2 : ItB u s.heap d b i
section
variable {X : Cx} {pins : List (Addr × Obj)} {σ : L2.St} {t u : Bool} {a b z m n c d : Addr} {xs ys : List V} {H0 H : Hp} {i : Nat} {s : Shared} {A : Around} {E : Value → Shared → Prop}
/-- the list grows -/
theorem Lz.push (L : Lz X pins σ t u a b xs ys z m n c d H0 i H s) {S : Addr} {vs : List V} {v : V} {w1 : Value} (h0 : H0 S = none) (hS : H S = some (.lst vs)) (rv : RelV v w1) (hz : vs.length < sizeLine) (no : ∀ p x y, TP H p [x, y] → p ≠ S) {its : List Value} {k : Nat} (e : s.heap.get? S = some { cls := .type "list", data := .seq its.toArray k }) (r : Vals vs its) :
    Lz X pins σ t u a b xs ys z m n c d H0 i (upd H S (.lst (vs ++ [v]))) { s with heap := s.heap.update S (Obj.mapSeq (·.push w1)) } := by
  have ne : ∀ q ∈ [z, m, n, c, d], q ≠ S := fun q hq z' => by
    have := (L.free q hq).1
    rw [z', hS] at this
    cases this
  have up : ∀ q o, q ≠ S → s.heap.get? q = some o → (s.heap.update S (Obj.mapSeq (·.push w1))).get? q = some o := fun q o h k => (Heap.get?_update_other _ _ (Ne.symm h)).trans k
  refine ⟨L.inv.lset (its' := its ++ [w1]) (t' := s.toks) hS e (by simp) (r.append (.cons rv .nil)) (by rw [List.length_append, List.length_singleton]; omega), L.fa, L.fb, fun q o k => ?_, fun q hq => ⟨?_, (L.free q hq).2⟩, ?_, up _ _ (ne m (by simp)) L.tm, L.i1.up fun o k => up _ o (ne c (by simp)) k, L.i2.up fun o k => up _ o (ne d (by simp)) k⟩
  · rw [upd_ne (ne_of_none k h0)]
    exact L.base q o k
  · rw [upd_ne (ne q hq)]
    exact (L.free q hq).1
  · rcases L.zs with ⟨j, x0, y0, j0⟩ | ⟨T, f, x0, y0, j, j0⟩
    · exact .inl ⟨up _ _ (ne z (by simp)) j, x0, y0, up _ _ (ne n (by simp)) j0⟩
    · refine .inr ⟨T, f, x0, y0, up _ _ (ne z (by simp)) j, ?_⟩
      obtain ⟨o, e, d⟩ := id j0
      exact ⟨o, (upd_ne (no T x0 y0 j0)).trans e, d⟩
end
end Ov
set_option Elab.async false
set_option linter.all false
set_option maxRecDepth 100000
set_option maxHeartbeats 4000000
namespace Ov
open PySem L2 PySem.Spec PyProof.Rows
section
variable {X : Cx} {pins : List (Addr × Obj)} {σ : L2.St} {t u : Bool} {a b z m n c d : Addr} {xs ys : List V} {H0 H : Hp} {i : Nat} {s : Shared} {A : Around} {E : Value → Shared → Prop}
theorem Lz.ty (L : Lz X pins σ t u a b xs ys z m n c d H0 i H s) : s.TypeIs (.ref z) "zip" := by
  rcases L.zs with ⟨k, _⟩ | ⟨T, f, x, y, k, _⟩
  · exact ⟨_, k, rfl⟩
  · exact ⟨_, k, rfl⟩
/-- another state of the list -/
theorem Lz.at {S : Addr} {vs : List V} (L : Lz X pins σ t u a b xs ys z m n c d H0 i H s) (hS : H S = some (.lst vs)) {s' : Shared} (I' : Inv X pins σ H s') (k : ∀ q o, q ≠ S → s.heap.get? q = some o → s'.heap.get? q = some o) : Lz X pins σ t u a b xs ys z m n c d H0 i H s' := by
  have ne : ∀ q ∈ [z, m, n, c, d], q ≠ S := fun q hq e => by
    have := (L.free q hq).1
    rw [e, hS] at this
    cases this
  refine ⟨I', L.fa, L.fb, L.base, L.free, ?_, k _ _ (ne m (by simp)) L.tm, L.i1.up fun o e => k _ o (ne c (by simp)) e, L.i2.up fun o e => k _ o (ne d (by simp)) e⟩
  rcases L.zs with ⟨j, x0, y0, j0⟩ | ⟨T, f, x0, y0, j, j0⟩
  · exact .inl ⟨k _ _ (ne z (by simp)) j, x0, y0, k _ _ (ne n (by simp)) j0⟩
  · exact .inr ⟨T, f, x0, y0, k _ _ (ne z (by simp)) j, j0⟩
end
end Ov
set_option Elab.async false
set_option linter.all false
set_option maxRecDepth 100000
set_option maxHeartbeats 4000000
namespace Ov
open PySem L2
theorem units65 {k : Nat} {A : Around} (r : Room k A) : A.units + 65 < cLine := by have := r.un; omega
end Ov
set_option Elab.async false
set_option linter.all false
set_option maxRecDepth 100000
set_option maxHeartbeats 4000000
namespace Ov
open PySem L2 PySem.Spec PyProof.Rows
/-! zip of three sequences, each a list or a tuple -/
def ItzC (t u o : Bool) (K : PySem.W.Frag) (a b g : Addr) : It where
  go := fun i H => ∃ (xs ys zs : List V) (x y r : V), SqB t K H a xs ∧ SqB u K H b ys ∧ SqB o K H g zs ∧ xs[i]? = some x ∧ ys[i]? = some y ∧ zs[i]? = some r
  yld := fun i H v H' => ∃ (p : Addr) (x y r : V) (ob : Obj), v = .ref p ∧ H p = none ∧ ob.dict = none ∧ H' = upd H p (.frz ob (.tup [x, y, r])) ∧ (∀ xs, SqB t K H a xs → xs[i]? = some x) ∧ (∀ ys, SqB u K H b ys → ys[i]? = some y) ∧ ∀ zs, SqB o K H g zs → zs[i]? = some r
  stop := fun i H => ∃ xs ys zs : List V, SqB t K H a xs ∧ SqB u K H b ys ∧ SqB o K H g zs ∧ i ≤ xs.length ∧ i ≤ ys.length ∧ i ≤ zs.length ∧ (xs.length = i ∨ ys.length = i ∨ zs.length = i)
theorem turn_zipC {P : Program} {w : World} {K : PySem.W.Frag} {tgs : List Expr} {kk : Nat} {tp : Pos} {t u o : Bool} {a b g z m n c d e3 : Addr} (D : ZipSep3 z m n c d e3 [c, a] [d, b] [e3, g]) (na : a ≠ c) (nb : b ≠ d) (ng : g ≠ e3) :
    Turn P w K (.Tuple tgs kk tp) (ItzC t u o K a b g) [z, m, n, c, d, e3] z (fun i h => IsZip h z m n .none ∧ IsTupOf3 h m (.ref c) (.ref d) (.ref e3) ∧ (∃ x y r, IsTupOf3 h n x y r) ∧ ItB t h c a i ∧ ItB u h d b i ∧ ItB o h e3 g i) where
  mem := by simp
  obj := fun i h st e he => by
    obtain ⟨q1, q2, ⟨x, y, r, q3⟩, q4, q5, q6⟩ := st
    simp only [List.mem_cons, List.not_mem_nil, or_false] at he
    rcases he with rfl | rfl | rfl | rfl | rfl | rfl
    · exact ⟨_, q1, fun v r => nomatch r⟩
    · exact ⟨_, q2, fun v r => nomatch r⟩
    · exact ⟨_, q3, fun v r => nomatch r⟩
    · exact q4.ob
    · exact q5.ob
    · exact q6.ob
  keep := fun i h h' st k => by
    obtain ⟨q1, q2, ⟨x, y, r, q3⟩, q4, q5, q6⟩ := st
    exact ⟨k _ (by simp) _ q1, k _ (by simp) _ q2, ⟨x, y, r, k _ (by simp) _ q3⟩, q4.up fun o e => k _ (by simp) o e, q5.up fun o e => k _ (by simp) o e, q6.up fun o e => k _ (by simp) o e⟩
  item := by
    intro X eP ew eK calm i pins s σ H E I ff st hg
    subst eP ew eK
    obtain ⟨q1, q2, ⟨x0, y0, r0, q3⟩, q4, q5, q6⟩ := st
    obtain ⟨xs, ys, zs, x, y, r, hX, hY, hZ, ex, ey, ez⟩ := hg
    obtain ⟨is, rx, px⟩ := hX.read I
    obtain ⟨js, ry, py⟩ := hY.read I
    obtain ⟨ks, rz, pz⟩ := hZ.read I
    obtain ⟨v1, e1, r1⟩ := rx.get ex
    obtain ⟨v2, e2, r2⟩ := ry.get ey
    obtain ⟨v3, e4, r3⟩ := rz.get ez
    have lz : z < s.heap.objs.size := Heap.lt_size q1
    have no := I.ok.hd calm
    have b1 : i < is.toArray.size := by simpa using (List.getElem?_eq_some_iff.mp e1).1
    have b2 : i < js.toArray.size := by simpa using (List.getElem?_eq_some_iff.mp e2).1
    have b3 : i < ks.toArray.size := by simpa using (List.getElem?_eq_some_iff.mp e4).1
    refine wpAny_pyNext_zipD3_item D (drB t (A := X.A.in1) no c a na is.toArray) (drB u (A := X.A.in1) no d b nb js.toArray) (drB o (A := X.A.in1) no e3 g ng ks.toArray) q1 q2 q3 ⟨q4, px⟩ ⟨q5, py⟩ ⟨q6, pz⟩ b1 b2 b3 ?_
    intro w1 w2 w3 h' tk p1 p2 p3 z' n' s1 s2 s3 nw hsz hk
    have c1 : w1 = v1 := Option.some.inj ((show is.toArray[i]? = some w1 from p1).symm.trans (by simpa using e1))
    have c2 : w2 = v2 := Option.some.inj ((show js.toArray[i]? = some w2 from p2).symm.trans (by simpa using e2))
    have c3 : w3 = v3 := Option.some.inj ((show ks.toArray[i]? = some w3 from p3).symm.trans (by simpa using e4))
    subst c1 c2 c3
    refine ⟨_, rfl, wpAny_letOwnedTupleGo_zip (s := { s with heap := h', toks := tk }) z' fun h'' z'' sb => ?_⟩
    have nw2 : h''.get? s.heap.objs.size = some { cls := .type "tuple", data := .seq #[w1, w2, w3] } := (sb.2 _ (Nat.ne_of_gt lz)).trans nw
    have ok : ObjOk X.prog X.w (upd H s.heap.objs.size (.frz (bo [w1, w2, w3]) (.tup [x, y, r]))) h'' s.heap.objs.size (.frz (bo [w1, w2, w3]) (.tup [x, y, r])) := bo_ok nw2 (.cons r1 (.cons r2 (.cons r3 .nil))) (by show 3 ≤ sizeLine; decide)
    have I1 : Inv X pins σ (upd H s.heap.objs.size (.frz (bo [w1, w2, w3]) (.tup [x, y, r]))) { s with heap := h'', toks := tk } := by
      refine I.turnedNew (t' := tk) (ch := [z, m, n, c, d, e3]) (fun e o he f => ?_) ff (Nat.le_refl _) ok
      simp only [List.mem_cons, List.not_mem_nil, or_false, not_or] at he
      exact (sb.2 e he.1).trans (hk e o he.1 he.2.2.1 he.2.2.2.1 he.2.2.2.2.1 he.2.2.2.2.2 f)
    have zc : c ≠ z := fun e => D.zi1 e.symm
    have zd : d ≠ z := fun e => D.zi2 e.symm
    have ze : e3 ≠ z := fun e => D.zi3 e.symm
    refine ⟨.ref s.heap.objs.size, _, I1, rfl, ⟨_, x, y, r, _, rfl, I.hok.fresh (Nat.le_refl _), rfl, rfl, fun l hl => by rw [hl.inj I hX]; exact ex, fun l hl => by rw [hl.inj I hY]; exact ey, fun l hl => by rw [hl.inj I hZ]; exact ez⟩, ⟨z'', ?_, ⟨w1, w2, w3, ?_⟩, ?_, ?_, ?_⟩, fun e he => ?_⟩
    · exact (sb.2 _ D.TIz).trans (hk _ _ D.TIz D.TITO D.TIi1 D.TIi2 D.TIi3 q2)
    · exact (sb.2 _ D.TOz).trans n'
    · exact s1.1.up fun o f => (sb.2 _ zc).trans f
    · exact s2.1.up fun o f => (sb.2 _ zd).trans f
    · exact s3.1.up fun o f => (sb.2 _ ze).trans f
    · obtain ⟨o, f, _⟩ : ∃ o, s.heap.get? e = some o ∧ True := by
        simp only [List.mem_cons, List.not_mem_nil, or_false] at he
        rcases he with rfl | rfl | rfl | rfl | rfl | rfl
        · exact ⟨_, q1, trivial⟩
        · exact ⟨_, q2, trivial⟩
        · exact ⟨_, q3, trivial⟩
        · obtain ⟨o, f, _⟩ := q4.ob; exact ⟨o, f, trivial⟩
        · obtain ⟨o, f, _⟩ := q5.ob; exact ⟨o, f, trivial⟩
        · obtain ⟨o, f, _⟩ := q6.ob; exact ⟨o, f, trivial⟩
      rw [upd_ne (Nat.ne_of_lt (Heap.lt_size f))]
      exact (ff e he).1
  done := by
    intro X eP ew eK calm i pins s σ H E I ff st hg
    subst eP ew eK
    obtain ⟨q1, q2, ⟨x0, y0, r0, q3⟩, q4, q5, q6⟩ := st
    obtain ⟨xs, ys, zs, hX, hY, hZ, l1, l2, l3, over⟩ := hg
    obtain ⟨is, rx, px⟩ := hX.read I
    obtain ⟨js, ry, py⟩ := hY.read I
    obtain ⟨ks, rz, pz⟩ := hZ.read I
    have no := I.ok.hd calm
    have g1 := rx.length
    have g2 := ry.length
    have g3 := rz.length
    refine wpAny_pyNext_zipD3_end D (drB t (A := X.A.in1) no c a na is.toArray) (drB u (A := X.A.in1) no d b nb js.toArray) (drB o (A := X.A.in1) no e3 g ng ks.toArray) q1 q2 q3 ⟨q4, px⟩ ⟨q5, py⟩ ⟨q6, pz⟩ (by rw [List.size_toArray]; omega) (by rw [List.size_toArray]; omega) (by rw [List.size_toArray]; omega) ?_ fun h' tk hk => ⟨rfl, ?_⟩
    · rw [List.size_toArray, List.size_toArray, List.size_toArray]
      omega
    · refine I.turnedL (t' := tk) (ch := [z, m, n, c, d, e3]) (fun e o he f => ?_) ff
      simp only [List.mem_cons, List.not_mem_nil, or_false, not_or] at he
      exact hk e o he.1 he.2.2.1 he.2.2.2.1 he.2.2.2.2.1 he.2.2.2.2.2 f
  self := fun A i s Q E st h => wpAny_pyIter_zip st.1 h
def iZipC (K : PySem.W.Frag) (ta : TA) : TI := fun σ H R => ta σ H fun vs H1 => ∃ (t u o : Bool) (a b g : Addr) (xs ys zs : List V), vs = [.ref a, .ref b, .ref g] ∧ SqB t K H1 a xs ∧ SqB u K H1 b ys ∧ SqB o K H1 g zs ∧ R (ItzC t u o K a b g) H1
theorem pi_zipC {X : Cx} {e1 e2 e3 : Expr} {ta : TA} {p0 p1 p2 : Pos} {tgs : List Expr} {kk : Nat} (gl : Gl X "zip") (un : X.mg "zip" = none) (ha : PA X [e1, e2, e3] ta)
    (st : starEach [e1, e2, e3] X.env = (false, eval e1 X.env) :: starEach [e2, e3] X.env := by rfl) (pl : (backTo p1 (starEach [e2, e3] X.env)).any (·.1) = false := by rfl) :
    PI X (.Tuple tgs kk p2) (.Call (.Name "zip" p0) [e1, e2, e3] [] p1) (iZipC X.K ta) := by
  refine ⟨fun pins s σ H R I h => ?_⟩
  refine Call_ (ld_blt I gl un boot_zip (callWith_type1 (thn (ha.run p1 pins s σ H _ I h) ?_) st pl))
  rintro us s1 ⟨vs, H1, J, rel, t, u, o, a, b, g, xs, ys, zs, rfl, hX, hY, hZ, q⟩
  obtain ⟨v1, v2, v3, rfl, r1, r2, r3⟩ : ∃ v1 v2 v3, us = [v1, v2, v3] ∧ v1 = Value.ref a ∧ v2 = Value.ref b ∧ v3 = Value.ref g := by
    cases rel with
    | cons r rr => cases rr with | cons r' rr => cases rr with | cons r'' rr => cases rr; exact ⟨_, _, _, rfl, r, r', r''⟩
  subst r1 r2 r3
  obtain ⟨is, _, px⟩ := hX.read J
  obtain ⟨js, _, py⟩ := hY.read J
  obtain ⟨ks, _, pz⟩ := hZ.read J
  have la := px.lt
  have lb := py.lt
  have lg := pz.lt
  refine zip_begins3 (bgB t a is.toArray) (bgB u b js.toArray) (bgB o g ks.toArray) px py pz fun h' z m n c d e _ hk => wpAny_pyIter_zip z ?_
  have J2 : Inv X pins σ H1 { s1 with heap := h' } := J.kept (t' := s1.toks) hk
  have sep : ZipSep3 (s1.heap.objs.size + 5) (s1.heap.objs.size + 3) (s1.heap.objs.size + 4) s1.heap.objs.size (s1.heap.objs.size + 1) (s1.heap.objs.size + 2) [s1.heap.objs.size, a] [s1.heap.objs.size + 1, b] [s1.heap.objs.size + 2, g] := zip_sep3 (fp1 := [a]) (fp2 := [b]) (fp3 := [g]) (fun e he => by rw [List.mem_singleton.mp he]; exact la) (fun e he => by rw [List.mem_singleton.mp he]; exact lb) (fun e he => by rw [List.mem_singleton.mp he]; exact lg)
  refine ⟨_, [s1.heap.objs.size + 5, s1.heap.objs.size + 3, s1.heap.objs.size + 4, s1.heap.objs.size, s1.heap.objs.size + 1, s1.heap.objs.size + 2], _, _, H1, rfl, J2, turn_zipC sep (Nat.ne_of_lt la) (Nat.ne_of_lt (Nat.lt_succ_of_lt lb)) (Nat.ne_of_lt (Nat.lt_succ_of_lt (Nat.lt_succ_of_lt lg))), ⟨z, m, ⟨_, _, _, n⟩, .new c, .new d, .new e⟩, fun e he => ?_, q⟩
  have le : s1.heap.objs.size ≤ e := by
    simp only [List.mem_cons, List.not_mem_nil, or_false] at he
    rcases he with rfl | rfl | rfl | rfl | rfl | rfl
    · exact Nat.le_add_right _ _
    · exact Nat.le_add_right _ _
    · exact Nat.le_add_right _ _
    · exact Nat.le_refl _
    · exact Nat.le_add_right _ _
    · exact Nat.le_add_right _ _
  exact J.fpOk le (J.hok.fresh le)
section
variable {K : PySem.W.Frag} {E : XK} {t u o : Bool} {a b g : Addr} {xs ys zs : List V}
theorem walk_zipC {n : Nat} (hn : n = min xs.length (min ys.length zs.length)) : Walk (ItzC t u o K a b g) n (fun H => SqB t K H a xs ∧ SqB u K H b ys ∧ SqB o K H g zs) (fun i H v H' => ∃ (p : Addr) (x y r : V) (ob : Obj), v = .ref p ∧ H p = none ∧ ob.dict = none ∧ H' = upd H p (.frz ob (.tup [x, y, r])) ∧ xs[i]? = some x ∧ ys[i]? = some y ∧ zs[i]? = some r) := by
  subst hn
  refine ⟨fun i H hi q => ?_, fun H q => ⟨xs, ys, zs, q.1, q.2.1, q.2.2, by omega, by omega, by omega, by omega⟩, fun i H v H' _ q y => ?_⟩
  · have k1 : i < xs.length := by omega
    have k2 : i < ys.length := by omega
    have k3 : i < zs.length := by omega
    exact ⟨xs, ys, zs, xs[i], ys[i], zs[i], q.1, q.2.1, q.2.2, List.getElem?_eq_getElem k1, List.getElem?_eq_getElem k2, List.getElem?_eq_getElem k3⟩
  · obtain ⟨T, x, y', r, ob, g1, g2, g0, g3, g4, g5, g6⟩ := y
    exact ⟨T, x, y', r, ob, g1, g2, g0, g3, g4 _ q.1, g5 _ q.2.1, g6 _ q.2.2⟩
def tripUp : List PyData → List PyData → List PyData → List PyData
  | x :: a, y :: b, z :: c => .tuple [x, y, z] :: tripUp a b c
  | _, _, _ => []
theorem trip_len : ∀ a b c : List PyData, (tripUp a b c).length = min a.length (min b.length c.length)
  | [], _, _ => by simp [tripUp]
  | _ :: _, [], _ => by simp [tripUp]
  | _ :: _, _ :: _, [] => by simp [tripUp]
  | _ :: a, _ :: b, _ :: c => by simp only [tripUp, List.length_cons, trip_len a b c]; omega
theorem trip_get : ∀ {a b c : List PyData} {i : Nat} {d : PyData}, (tripUp a b c)[i]? = some d → ∃ x y z, a[i]? = some x ∧ b[i]? = some y ∧ c[i]? = some z ∧ d = .tuple [x, y, z]
  | [], _, _, i, d, h => by simp [tripUp] at h
  | _ :: _, [], _, i, d, h => by simp [tripUp] at h
  | _ :: _, _ :: _, [], i, d, h => by simp [tripUp] at h
  | x :: a, y :: b, z :: c, 0, d, h => by
    simp only [tripUp, List.getElem?_cons_zero, Option.some.injEq] at h
    exact ⟨x, y, z, rfl, rfl, rfl, h.symm⟩
  | x :: a, y :: b, z :: c, i + 1, d, h => by
    simp only [tripUp, List.getElem?_cons_succ] at h
    exact trip_get (a := a) (b := b) (c := c) (i := i) h
def zip3M (as : List PyData) : Option (List PyData) :=
  match as with
  | [x, y, z] => (seqD x).bind fun ds => (seqD y).bind fun es => (seqD z).map fun gs => tripUp ds es gs
  | _ => none
theorem OkI.zipC {t : TA} {fa : M (List R)} (o : OkA K E t fa) : OkI K E (iZipC K t) (argI zip3M fa) := by
  refine ⟨?_⟩
  intro B σ H env l rs rp h R post
  refine o.seq rp h post.exn fun a e v H1 h1 r1 f1 q1 => ?_
  obtain ⟨ds, h2, h3⟩ := lift_step h1
  obtain ⟨out, h4, h5⟩ := lift_some h3
  subst h5
  have da := dds_ok q1 h2
  unfold zip3M at h4
  split at h4
  · obtain ⟨es, e1, e2⟩ := Option.bind_eq_some_iff.mp h4
    obtain ⟨fs, e5, e6⟩ := Option.bind_eq_some_iff.mp e2
    obtain ⟨gs, e3, e4⟩ := Option.map_eq_some_iff.mp e6
    subst e4
    cases da with
    | cons d1 t1 =>
      cases t1 with
      | cons d2 t2 =>
        cases t2 with
        | cons d3 t3 =>
          cases t3
          obtain ⟨k1, p, ws, rfl, qa, ha⟩ := da_sq d1 e1
          obtain ⟨k2, p', ws', rfl, qb, hb⟩ := da_sq d2 e5
          obtain ⟨k3, p'', ws'', rfl, qc, hc⟩ := da_sq d3 e3
          refine ⟨k1, k2, k3, p, p', p'', ws, ws', ws'', rfl, qa.same (off_sub _ _), qb.same (off_sub _ _), qc.same (off_sub _ _), post _ H1 _ _ r1 f1 (walk_zipC (by rw [trip_len, daAll_len ha, daAll_len hb, daAll_len hc])) (fun H2 f => ⟨(qa.same f.keep).same (off_sub _ _), (qb.same f.keep).same (off_sub _ _), (qc.same f.keep).same (off_sub _ _)⟩) ?_⟩
          rintro i x H2 H3 d S fr ⟨T, u, w, r, ob, rfl, hT, od, g3, g4, g5, g6⟩ hd hs hS
          obtain ⟨x1, y1, z1, j1, j2, j3, rfl⟩ := trip_get hd
          obtain ⟨u', m1, m2⟩ := daAll_get ha j1
          obtain ⟨w', m3, m4⟩ := daAll_get hb j2
          obtain ⟨r', m5, m6⟩ := daAll_get hc j3
          cases m1.symm.trans g4
          cases m3.symm.trans g5
          cases m5.symm.trans g6
          subst g3
          exact ⟨same_new hT _, (new_dp hS hT (.cons (m2.walk fr hs) (.cons (m4.walk fr hs) (.cons (m6.walk fr hs) .nil)))).2 ob od⟩
  · cases h4
/-- a statement that the data never come to -/
def stuckS {α : Type} : M α := fun _ => none
theorem OkS.stuck {E : XK} {bx : Nat} : OkS K E bx tNever stuckS := ⟨fun _ h => by cases h⟩
end
section
variable {X : Cx} {K : PySem.W.Frag} (hK : X.K = K)
include hK
theorem k_zipC {e1 e2 e3 : Expr} {ta : TA} {p0 p1 p2 : Pos} {tgs : List Expr} {kk : Nat} (gl : Gl X "zip") (un : X.mg "zip" = none) (ha : PA X [e1, e2, e3] ta)
    (st : starEach [e1, e2, e3] X.env = (false, eval e1 X.env) :: starEach [e2, e3] X.env := by rfl) (pl : (backTo p1 (starEach [e2, e3] X.env)).any (·.1) = false := by rfl) :
    PI X (.Tuple tgs kk p2) (.Call (.Name "zip" p0) [e1, e2, e3] [] p1) (iZipC K ta) := by subst hK; exact pi_zipC gl un ha st pl
end
end Ov
set_option Elab.async false
set_option linter.all false
set_option maxRecDepth 100000
set_option maxHeartbeats 4000000
namespace Ov
open PySem L2
/-! the plain functions, evaluated: every word applied to the slots -/
def cont {α β : Type} (o : Option (Rs α)) (f : α → M β) : Option (Rs β) :=
  match o with
  | none => none
  | some (.ok a e) => f a e
  | some (.ex C g d) => some (.ex C g d)
section
variable {α β : Type} {env e : En}
theorem v_bind (x : M α) (f : α → M β) : M.bind x f env = cont (x env) f := rfl
theorem v_ok (a : α) (f : α → M β) : cont (some (.ok a e)) f = f a e := rfl
theorem v_none (f : α → M β) : cont none f = none := rfl
theorem v_pure (a : α) : M.pure a env = some (.ok a env) := rfl
theorem v_lift (a : α) : lift (some a) env = some (.ok a env) := rfl
theorem v_liftN : lift (none : Option α) env = none := rfl
theorem v_con (d : PyData) : con d env = some (.ok (.dat d) env) := rfl
def gk (o : Option (Option Wv)) (i : Nat) : Option R :=
  match o with
  | some (some (.dat d)) => some (.dat d)
  | some (some (.own _)) => some (.slot i)
  | some (some (.exc C f d)) => some (.exc C f d)
  | some (some (.dct _)) => some (.slot i)
  | some (some (.lin _ _ _)) => some (.slot i)
  | some (some (.dci _)) => some (.slot i)
  | some (some (.dtk _)) => some (.slot i)
  | some (some (.dts _)) => some (.slot i)
  | some (some (.pin _ d)) => some (.dat d)
  | _ => none
theorem v_get (i : Nat) : get i env = lift (gk env[i]? i) env := by
  unfold get gk
  cases env[i]? with
  | none => rfl
  | some o => cases o with
    | none => rfl
    | some w => cases w <;> rfl
theorem v_gkd (d : PyData) (i : Nat) : gk (some (some (.dat d))) i = some (.dat d) := rfl
theorem v_gko (xs : List It1) (i : Nat) : gk (some (some (.own xs))) i = some (.slot i) := rfl
theorem v_gkc (xs : List Int) (i : Nat) : gk (some (some (.dct xs))) i = some (.slot i) := rfl
theorem v_vwd (d : PyData) : vw (.dat d) env = some (.ok d env) := rfl
def ok1 (o : Option (Option Wv)) : Option (List PyData) :=
  match o with
  | some (some (.own xs)) => itds xs
  | _ => none
theorem v_vws (i : Nat) : vw (.slot i) env = lift ((ok1 env[i]?).map .list) env := by
  unfold vw ok1 lift
  simp only
  cases env[i]? with
  | none => rfl
  | some o => cases o with
    | none => rfl
    | some w =>
      cases w with
      | own xs => simp only; cases itds xs <;> rfl
      | dat _ => rfl
      | exc _ _ _ => rfl
      | dct _ => rfl
      | lin _ _ _ => rfl
      | dci _ => rfl
      | dtk _ => rfl
      | dts _ => rfl
      | pin _ _ => rfl
      | dtn _ => rfl
      | dtd _ => rfl
      | nd _ => rfl
      | ndd _ => rfl
      | lkd _ => rfl
theorem v_ok1 (ds : List PyData) : ok1 (some (some (.own (dats ds)))) = some ds := itds_dats ds
theorem v_ownD (i : Nat) : ownD i env = lift (ok1 env[i]?) env := by
  unfold ownD ok1 lift
  cases env[i]? with
  | none => rfl
  | some o => cases o with
    | none => rfl
    | some w =>
      cases w with
      | own xs => simp only
      | dat _ => rfl
      | exc _ _ _ => rfl
      | dct _ => rfl
      | lin _ _ _ => rfl
      | dci _ => rfl
      | dtk _ => rfl
      | dts _ => rfl
      | pin _ _ => rfl
      | dtn _ => rfl
      | dtd _ => rfl
      | nd _ => rfl
      | ndd _ => rfl
      | lkd _ => rfl
def dk1 (o : Option (Option Wv)) : Option (List Int) :=
  match o with
  | some (some (.dct xs)) => some xs
  | _ => none
theorem v_dctD (i : Nat) : dctD i env = lift (dk1 env[i]?) env := by
  unfold dctD dk1 lift
  cases env[i]? with
  | none => rfl
  | some o => cases o with
    | none => rfl
    | some w => cases w <;> rfl
theorem v_dk1 (ks : List Int) : dk1 (some (some (.dct ks))) = some ks := rfl
theorem v_setOwn (i : Nat) (ds : List PyData) : setOwn i ds env = some (.ok () (env.set i (some (.own (dats ds))))) := rfl
theorem v_putM (i : Nat) (w : Wv) (h : i < env.length) : putM i w env = some (.ok () (env.set i (some w))) := if_pos h
theorem v_op2 (fo : PyData → PyData → Option PyData) (fa fb : M R) : op2 fo fa fb env = cont (fa env) fun a => M.bind fb fun b => M.bind (vw a) fun x => M.bind (vw b) fun y => M.bind (lift (fo x y)) fun d => M.pure (.dat d) := rfl
theorem v_op1 (fo : PyData → Option PyData) (fa : M R) : op1 fo fa env = cont (fa env) fun a => M.bind (vw a) fun x => M.bind (lift (fo x)) fun d => M.pure (.dat d) := rfl
theorem v_anil : anil env = some (.ok [] env) := rfl
theorem v_acons (fa : M R) (fr : M (List R)) : acons fa fr env = cont (fa env) fun a => M.bind fr fun r => M.pure (a :: r) := rfl
theorem v_vws0 : vws [] env = some (.ok [] env) := rfl
theorem v_vwsC (r : R) (rs : List R) : vws (r :: rs) env = cont (vw r env) fun d => M.bind (vws rs) fun ds => M.pure (d :: ds) := rfl
theorem v_cb (fo : List PyData → Option PyData) (fa : M (List R)) : cb fo fa env = cont (fa env) fun a => M.bind (vws a) fun ds => M.bind (lift (fo ds)) fun d => M.pure (.dat d) := rfl
theorem v_tupD (fa : M (List R)) : tupD fa env = cont (fa env) fun a => M.bind (lift (dds a)) fun ds => M.bind (lift (sz ds.length)) fun _ => M.pure (.dat (.tuple ds)) := rfl
theorem v_lstD (fa : M (List R)) : lstD fa env = cont (fa env) fun a => M.bind (lift (dds a)) fun ds => M.bind (lift (sz ds.length)) fun _ => M.pure (.dat (.list ds)) := rfl
theorem v_lstW (fa : M (List R)) : lstW fa env = cont (fa env) fun a => M.bind (lift (dds a)) fun ds => M.bind (lift (sz ds.length)) fun _ => M.pure (.own (dats ds)) := rfl
theorem v_listW (fa : M (List R)) : listW fa env = cont (fa env) fun a => M.bind (vws a) fun ds => M.bind (lift (match ds with | [a] => seqD a | _ => none)) fun es => M.pure (.own (dats es)) := rfl
theorem v_dds0 : dds [] = some [] := rfl
theorem v_ddsC (d : PyData) (r : List R) : dds (.dat d :: r) = (dds r).map (d :: ·) := rfl
def asB : PyData → Option Bool
  | .bool b => some b
  | _ => none
theorem v_asB (b : Bool) : asB (.bool b) = some b := rfl
theorem v_tb1 (fa : M R) : tb1 fa env = cont (fa env) fun a => M.bind (vw a) fun d => lift (asB d) := by
  unfold tb1
  rw [v_bind]
  congr 1
  funext a
  congr 1
  funext d
  cases d <;> rfl
theorem v_andT (fa fb : M Bool) : andT fa fb env = cont (fa env) fun a => if a = true then fb else M.pure false := rfl
theorem v_orT (fa fb : M Bool) : orT fa fb env = cont (fa env) fun a => if a = true then M.pure true else fb := rfl
theorem v_notT (fa : M Bool) : notT fa env = cont (fa env) fun a => M.pure (!a) := rfl
theorem v_andV (fa fb : M R) : andV fa fb env = cont (tb1 fa env) fun a => if a = true then fb else M.pure (ofB false) := rfl
theorem v_orV (fa fb : M R) : orV fa fb env = cont (tb1 fa env) fun a => if a = true then M.pure (ofB true) else fb := rfl
theorem v_notV (fa : M R) : notV fa env = cont (tb1 fa env) fun a => M.pure (ofB !a) := rfl
theorem v_ofB (b : Bool) : ofB b = .dat (.bool b) := rfl
theorem v_ifE (ft : M Bool) (fa fb : M R) : ifE ft fa fb env = cont (ft env) fun c => if c = true then fa else fb := rfl
theorem v_pl (f : M R) : pl f env = cont (f env) fun r => lift (toW r) := rfl
theorem v_toW (d : PyData) : toW (.dat d) = some (.dat d) := rfl
theorem v_fz (f : M Wv) : fz f env = cont (f env) fun w => lift (ofW w) := rfl
theorem v_ofWd (d : PyData) : ofW (.dat d) = some (.dat d) := rfl
theorem itD_dats (ds : List PyData) : (dats ds).map itD = ds := by
  unfold dats
  rw [List.map_map]
  exact List.map_id ds
theorem v_ofWo (ds : List PyData) : ofW (.own (dats ds)) = some (.dat (.list ds)) := by
  show some (R.dat (.list ((dats ds).map itD))) = _
  rw [itD_dats]
theorem v_nxt : nxt env = some (.ok .nx env) := rfl
theorem v_thenS (f g : M Fl) : thenS f g env = cont (f env) fun fl => match fl with | .nx => g | o => M.pure o := rfl
theorem v_exprS (f : M R) : exprS f env = cont (f env) fun _ => M.pure .nx := rfl
theorem v_retS (f : M Wv) : retS f env = cont (f env) fun w => M.pure (.rt w) := rfl
theorem v_retN : retN env = some (.ok (.rt (.dat .none)) env) := rfl
theorem v_ifS (c : M Bool) (f g : M Fl) : ifS c f g env = cont (c env) fun b => if b = true then f else g := rfl
theorem v_setS (i : Nat) (f : M Wv) : setS i f env = cont (f env) fun w => M.bind (putM i w) fun _ => M.pure .nx := rfl
theorem v_parS (i j : Nat) (f g : M Wv) : parS i j f g env = cont (f env) fun v => M.bind g fun w => M.bind (putM i v) fun _ => M.bind (putM j w) fun _ => M.pure .nx := rfl
theorem v_setIx (i : Nat) (fe fk : M R) : setIx i fe fk env = cont (fe env) fun r => M.bind (lift (asD r)) fun d => M.bind (ownD i) fun _ => M.bind fk fun k => M.bind (lift (asI k)) fun k => M.bind (ownD i) fun ds => M.bind (lift (ixN ds.length k)) fun j => M.bind (setOwn i (ds.set j d)) fun _ => M.pure .nx := rfl
theorem v_asD (d : PyData) : asD (.dat d) = some d := rfl
theorem v_asI (i : Int) : asI (.dat (.int i)) = some i := rfl
theorem v_mthE (i : Nat) (fo : List PyData → List PyData → Option (List PyData × PyData)) (fa : M (List R)) : mthE i fo fa env = cont (ownD i env) fun _ => M.bind fa fun rs => M.bind (lift (dds rs)) fun as => M.bind (ownD i) fun ds => M.bind (lift (fo ds as)) fun r => M.bind (setOwn i r.1) fun _ => M.pure (.dat r.2) := rfl
theorem v_callA (F : List PyData → Option Wv) (fa : M (List R)) : callA F fa env = cont (fa env) fun rs => M.bind (lift (dds rs)) fun ds => lift (F ds) := rfl
theorem v_callB (i : Nat) (F : List PyData → List PyData → Option (Wv × List PyData)) (fa : M (List R)) : callB i F fa env = cont (ownD i env) fun _ => M.bind fa fun rs => M.bind (lift (dds rs)) fun ds => M.bind (ownD i) fun bs => M.bind (lift (F bs ds)) fun r => M.bind (setOwn i r.2) fun _ => M.pure r.1 := rfl
theorem v_moveS (i : Nat) (xs : List It1) (h : env[i]? = some (some (.own xs))) : moveS i env = some (.ok (.rt (.own xs)) (env.set i none)) := by
  unfold moveS
  rw [h]
theorem v_forS (fi : M (List PyData)) (p : PyData → En → Option En) (body : M Fl) : forS fi p body env = cont (fi env) fun ds => forM p body ds := rfl
theorem v_argI (fo : List PyData → Option (List PyData)) (fa : M (List R)) : argI fo fa env = cont (fa env) fun rs => M.bind (lift (dds rs)) fun ds => lift (fo ds) := rfl
theorem v_seqI (f : M R) : seqI f env = cont (f env) fun r => M.bind (lift (asD r)) fun d => lift (seqD d) := rfl
theorem v_slD (fa : M R) (fl fh : M (Option Int)) : slD fa fl fh env = cont (fa env) fun a => M.bind fl fun lo => M.bind fh fun hi => M.bind (vw a) fun x => M.bind (lift (cutD x lo hi)) fun d => M.pure (.dat d) := rfl
theorem v_poN : poN env = some (.ok none env) := rfl
theorem v_poS (fa : M R) : poS fa env = cont (fa env) fun a => M.bind (lift (asI a)) fun i => M.pure (some i) := rfl
theorem v_isiE (T : String) (fa : M R) : isiE T fa env = cont (fa env) fun r => M.bind (vw r) fun d => M.bind (lift (kitD T d)) fun b => M.pure (ofB b) := rfl
theorem v_isiE2 (A B : String) (fa : M R) : isiE2 A B fa env = cont (fa env) fun r => M.bind (vw r) fun d => M.bind (lift (kitD A d)) fun a => M.bind (lift (kitD B d)) fun b => M.pure (ofB (a || b)) := rfl
theorem v_isNE (n : Bool) (fa : M R) : isNE n fa env = cont (fa env) fun r => M.bind (lift (isNR r)) fun b => M.pure (ofB (n ^^ b)) := rfl
theorem v_dnew : dnew env = some (.ok (.dct []) env) := rfl
theorem v_dinT (n : Bool) (i : Nat) (fk : M R) : dinT n i fk env = cont (fk env) fun r => M.bind (lift (asI r)) fun k => M.bind (dctD i) fun ks => M.pure (n ^^ decide (k ∈ ks)) := rfl
theorem v_dputS (i : Nat) (fk : M R) : dputS i fk env = cont (dctD i env) fun _ => M.bind fk fun r => M.bind (lift (asI r)) fun k => M.bind (dctD i) fun ks => M.bind (lift (chk (decide (ks.length < 1000)))) fun _ => M.bind (putM i (.dct (putT ks k))) fun _ => M.pure .nx := rfl
theorem v_sortDct (i : Nat) : sortDct i env = cont (dctD i env) fun ks => M.bind (lift (chk (decide (ks.length < 64)))) fun _ => M.pure (.dat (.list ((sortI ks).map .int))) := rfl
theorem v_rgE (fr : M (Int × Int)) : rgE fr env = cont (fr env) fun r => M.bind (lift (chk (decide (-(2 ^ 62) ≤ r.1 ∧ r.1 < 2 ^ 62 ∧ -(2 ^ 62) ≤ r.2 ∧ r.2 < 2 ^ 62 ∧ (r.2 - r.1).toNat ≤ 1000000)))) fun _ => M.pure (.dat (.tuple ((rngL r.1 r.2).map .int))) := rfl
theorem v_rg2 (fa fb : M R) : rg2 fa fb env = cont (fa env) fun a => M.bind fb fun b => M.bind (lift (asI a)) fun i => M.bind (lift (asI b)) fun j => M.pure (i, j) := rfl
theorem v_unS (p : PyData → En → Option En) (f : M R) : unS p f env = cont (f env) fun r => M.bind (lift (asD r)) fun d => M.bind (liftE (p d)) fun _ => M.pure .nx := rfl
theorem v_frz (i : Nat) (ds : List PyData) (h : env[i]? = some (some (.own (dats ds)))) : frzM i env = some (.ok () (env.set i (some (.dat (.list ds))))) := by
  unfold frzM
  rw [h]
  simp only
  rw [itD_dats]
theorem v_catW (fa fb : M R) : catW fa fb env = cont (fa env) fun a => M.bind fb fun b => M.bind (vw a) fun x => M.bind (vw b) fun y => M.bind (lift (catD x y)) fun d => M.bind (lift (match d with | .list ds => some ds | _ => none)) fun ds => M.pure (.own (dats ds)) := rfl
theorem v_chainE (fo fo' : PyData → PyData → Option PyData) (fa fb fc : M R) : chainE fo fo' fa fb fc env = cont (fa env) fun a => M.bind fb fun b => M.bind (vw a) fun x => M.bind (vw b) fun y => M.bind (lift (fo x y)) fun d => M.bind (lift (asB d)) fun k => if k = true then M.bind fc fun c => M.bind (vw b) fun y' => M.bind (vw c) fun z => M.bind (lift (fo' y' z)) fun d' => M.pure (.dat d') else M.pure (ofB false) := by
  unfold chainE
  have : (fun (b : R) (d : PyData) => (match d with | .bool k => if k = true then M.bind fc fun c => M.bind (vw b) fun y' => M.bind (vw c) fun z => M.bind (lift (fo' y' z)) fun d' => M.pure (.dat d') else M.pure (ofB false) | _ => fun _ => none : M R)) = fun b d => M.bind (lift (asB d)) fun k => if k = true then M.bind fc fun c => M.bind (vw b) fun y' => M.bind (vw c) fun z => M.bind (lift (fo' y' z)) fun d' => M.pure (.dat d') else M.pure (ofB false) := by
    funext b d
    cases d <;> rfl
  have h2 : ∀ b, (fun (d : PyData) => (match d with | .bool k => if k = true then M.bind fc fun c => M.bind (vw b) fun y' => M.bind (vw c) fun z => M.bind (lift (fo' y' z)) fun d' => M.pure (.dat d') else M.pure (ofB false) | _ => fun _ => none : M R)) = fun d => M.bind (lift (asB d)) fun k => if k = true then M.bind fc fun c => M.bind (vw b) fun y' => M.bind (vw c) fun z => M.bind (lift (fo' y' z)) fun d' => M.pure (.dat d') else M.pure (ofB false) := fun b => congrFun this b
  show M.bind _ _ env = _
  rw [v_bind]
  congr 1
  funext a
  congr 1
  funext b
  congr 1
  funext x
  congr 1
  funext y
  congr 1
  exact h2 b
/-! operators on numbers -/
theorem v_add (i j : Int) : addD (.int i) (.int j) = some (.int (i + j)) := rfl
theorem v_sub (i j : Int) : subD (.int i) (.int j) = some (.int (i - j)) := rfl
theorem v_mul (i j : Int) (h : pMul i j = true) : mulD (.int i) (.int j) = some (.int (i * j)) := if_pos h
theorem v_div (i j : Int) (h : pDiv i j = true) : divD (.int i) (.int j) = some (.int (i / j)) := if_pos h
theorem v_mod (i j : Int) (h : pMod i j = true) : modD (.int i) (.int j) = some (.int (i % j)) := if_pos h
theorem v_pow (i j : Int) (h : pPow i j = true) : powD (.int i) (.int j) = some (.int (i ^ j.toNat)) := if_pos h
theorem v_lt (i j : Int) : ltD (.int i) (.int j) = some (.bool (decide (i < j))) := rfl
theorem v_le (i j : Int) : leD (.int i) (.int j) = some (.bool (decide (i ≤ j))) := rfl
theorem v_gt (i j : Int) : gtD (.int i) (.int j) = some (.bool (decide (j < i))) := rfl
theorem v_ge (i j : Int) : geD (.int i) (.int j) = some (.bool (decide (j ≤ i))) := rfl
theorem v_eqI (n : Bool) (i j : Int) : eqA n (.int i) (.int j) = some (.bool (n ^^ decide (i = j))) := rfl
theorem v_eqB (n : Bool) (i j : Bool) : eqA n (.bool i) (.bool j) = some (.bool (n ^^ decide (i = j))) := rfl
theorem v_eqS (n : Bool) (i j : Str) : eqA n (.str i) (.str j) = some (.bool (n ^^ decide (i = j))) := rfl
theorem v_ixL (ds : List PyData) (i : Int) : ixD (.list ds) (.int i) = atI ds i := rfl
theorem v_ixT (ds : List PyData) (i : Int) : ixD (.tuple ds) (.int i) = atI ds i := rfl
theorem v_lenL (ds : List PyData) : lenD [.list ds] = some (.int ds.length) := rfl
theorem v_lenT (ds : List PyData) : lenD [.tuple ds] = some (.int ds.length) := rfl
theorem v_abs (i : Int) : absD [.int i] = some (.int (if i < 0 then -i else i)) := rfl
theorem v_intI (i : Int) : intD [.int i] = some (.int i) := rfl
theorem v_intB (k : Bool) : intD [.bool k] = some (.int (if k then 1 else 0)) := rfl
theorem v_min (i j : Int) : minD [.int i, .int j] = some (.int (if j < i then j else i)) := rfl
theorem v_max (i j : Int) : maxD [.int i, .int j] = some (.int (if j > i then j else i)) := rfl
theorem v_sz (n : Nat) (h : n ≤ 1000000) : sz n = some () := if_pos h
theorem v_chk : chk true = some () := rfl
theorem v_app (ds : List PyData) (a : PyData) (h : ds.length + 1 ≤ 1000000) : appD ds [a] = some (ds ++ [a], .none) := by
  show (sz (ds.length + 1)).map _ = _
  rw [v_sz _ h]
  rfl
end
theorem v_cat (xs ys : List PyData) (h : xs.length + ys.length ≤ 1000000) : catD (.list xs) (.list ys) = some (.list (xs ++ ys)) := by
  show (sz _).map _ = _
  rw [v_sz _ h]
  rfl
theorem v_catT (xs ys : List PyData) (h : xs.length + ys.length ≤ 1000000) : catT (.tuple xs) (.tuple ys) = some (.tuple (xs ++ ys)) := by
  show (sz _).map _ = _
  rw [v_sz _ h]
  rfl
theorem then_nx {f g : M Fl} {env e : En} (h : f env = some (.ok .nx e)) : thenS f g env = g e := by
  rw [v_thenS, h]
  rfl
theorem then_rt {f g : M Fl} {env e : En} {w : Wv} (h : f env = some (.ok (.rt w) e)) : thenS f g env = some (.ok (.rt w) e) := by
  rw [v_thenS, h]
  rfl
/-- a function's run, by its body's -/
theorem runA_eq {np n : Nat} {fb : M Fl} {ds : List PyData} {w : Wv} (hl : ds.length = np) (h : ∃ e, fb (env0 ds (n - ds.length)) = some (.ok (.rt w) e)) : runA np n fb ds = some w := by
  obtain ⟨e, h⟩ := h
  unfold runA
  rw [if_pos hl, h]
theorem runB_eq {np n : Nat} {fb : M Fl} {bs ds bs' : List PyData} {w : Wv} (hl : ds.length + 1 = np) (h : ∃ e, fb (some (.own (dats bs)) :: env0 ds (n - (ds.length + 1))) = some (.ok (.rt w) (some (.own (dats bs')) :: e))) : runB np n fb bs ds = some (w, bs') := by
  obtain ⟨e, h⟩ := h
  unfold runB
  rw [if_pos hl, h]
  show (itds (dats bs')).map _ = _
  rw [itds_dats]
  rfl
end Ov
set_option Elab.async false
set_option linter.all false
set_option maxRecDepth 100000
set_option maxHeartbeats 4000000
namespace Ov
open PySem L2
/-! loops and comprehensions, a turn at a time -/
section
variable {env e e2 : En}
theorem while_go {c : M Bool} {b : M Fl} {k : Nat} (h1 : c env = some (.ok true e)) (h2 : b e = some (.ok .nx e2)) : whileM c b (k + 1) env = whileM c b k e2 := by
  simp only [whileM, h1, h2, if_true]
theorem while_end {c : M Bool} {b : M Fl} {k : Nat} (h1 : c env = some (.ok false e)) : whileM c b (k + 1) env = some (.ok .nx e) := by
  simp only [whileM, h1, Bool.false_eq_true, if_false]
theorem for_nil {p : PyData → En → Option En} {b : M Fl} : forM p b [] env = some (.ok .nx env) := rfl
theorem for_go {p : PyData → En → Option En} {b : M Fl} {d : PyData} {ds : List PyData} (h1 : p d env = some e) (h2 : b e = some (.ok .nx e2)) : forM p b (d :: ds) env = forM p b ds e2 := by
  simp only [forM, h1, h2]
theorem for_rt {p : PyData → En → Option En} {b : M Fl} {d : PyData} {ds : List PyData} {w : Wv} (h1 : p d env = some e) (h2 : b e = some (.ok (.rt w) e2)) : forM p b (d :: ds) env = some (.ok (.rt w) e2) := by
  simp only [forM, h1, h2]
theorem comp_yes {p : PyData → En → Option En} {ft : M Bool} {fe : M R} {vs : List Nat} {d y : PyData} {ds acc : List PyData} {e3 : En} (h1 : p d env = some e) (h2 : ft e = some (.ok true e2)) (h3 : fe e2 = some (.ok (.dat y) e3)) (h4 : freeB e3 vs = true) (h5 : acc.length < 1000000) :
    compM p ft fe vs (d :: ds) acc env = compM p ft fe vs ds (acc ++ [y]) (wipeE e3 vs) := by
  simp only [compM, h1, h2, h3, h4, h5, if_true, true_and, and_self]
theorem comp_no {p : PyData → En → Option En} {ft : M Bool} {fe : M R} {vs : List Nat} {d : PyData} {ds acc : List PyData} (h1 : p d env = some e) (h2 : ft e = some (.ok false e2)) (h4 : freeB e2 vs = true) :
    compM p ft fe vs (d :: ds) acc env = compM p ft fe vs ds acc (wipeE e2 vs) := by
  simp only [compM, h1, h2, h4, if_true, Bool.false_eq_true, if_false]
/-- nothing changes but the list -/
theorem comp_all {p : PyData → En → Option En} {ft : M Bool} {fe : M R} {vs : List Nat} (g : PyData → PyData) (t : PyData → Bool) : ∀ (ds acc : List PyData), acc.length + ds.length < 1000000 →
    (∀ d ∈ ds, ∃ e, p d env = some e ∧ ft e = some (.ok (t d) e) ∧ (t d = true → fe e = some (.ok (.dat (g d)) e)) ∧ freeB e vs = true ∧ wipeE e vs = env) → compM p ft fe vs ds acc env = some (.ok (acc ++ (ds.filter t).map g) env)
  | [], acc, _, _ => by simp [compM, M.pure]
  | d :: ds, acc, hl, h => by
    obtain ⟨e, h1, h2, h3, h4, h5⟩ := h d (List.mem_cons_self ..)
    rw [List.length_cons] at hl
    cases q : t d with
    | true =>
      rw [q] at h2
      rw [comp_yes h1 h2 (h3 q) h4 (by omega), h5, comp_all g t ds (acc ++ [g d]) (by rw [List.length_append]; show acc.length + 1 + _ < _; omega) fun x hx => h x (List.mem_cons_of_mem _ hx)]
      simp [q]
    | false =>
      rw [q] at h2
      rw [comp_no h1 h2 h4, h5, comp_all g t ds acc (by omega) fun x hx => h x (List.mem_cons_of_mem _ hx)]
      simp [q]
theorem comp_map {p : PyData → En → Option En} {ft : M Bool} {fe : M R} {vs : List Nat} (g : PyData → PyData) (ds acc : List PyData) (hl : acc.length + ds.length < 1000000)
    (h : ∀ d ∈ ds, ∃ e, p d env = some e ∧ ft e = some (.ok true e) ∧ fe e = some (.ok (.dat (g d)) e) ∧ freeB e vs = true ∧ wipeE e vs = env) : compM p ft fe vs ds acc env = some (.ok (acc ++ ds.map g) env) := by
  have := comp_all (env := env) (p := p) (ft := ft) (fe := fe) (vs := vs) g (fun _ => true) ds acc hl fun d hd => by
    obtain ⟨e, h1, h2, h3, h4, h5⟩ := h d hd
    exact ⟨e, h1, h2, fun _ => h3, h4, h5⟩
  rw [List.filter_eq_self.mpr fun _ _ => rfl] at this
  exact this
theorem lc_eq {fi : M (List PyData)} {p : PyData → En → Option En} {ft : M Bool} {fe : M R} {vs : List Nat} {ds out : List PyData} {e3 : En} (h1 : fi env = some (.ok ds e)) (h2 : freeB e vs = true) (h3 : wipeE e vs = e2) (h4 : compM p ft fe vs ds [] e2 = some (.ok out e3)) :
    lcW fi p ft fe vs env = some (.ok (.own (dats out)) e3) := by
  show cont (fi env) _ = _
  rw [h1]
  show (if freeB e vs = true then (M.bind (compM p ft fe vs ds []) fun out => M.pure (Wv.own (dats out))) (wipeE e vs) else none) = _
  rw [if_pos h2, h3]
  show cont (compM p ft fe vs ds [] e2) _ = _
  rw [h4]
  rfl
end
theorem free_le (ks : List Int) (a M : Int) (hM : (ks.length : Int) < M) : ∃ m : Nat, m ≤ ks.length ∧ (a + m) % M + 1 ∉ ks := by
  refine Classical.byContradiction fun no => ?_
  have all : ∀ m : Nat, m ≤ ks.length → (a + m) % M + 1 ∈ ks := fun m hm => Classical.byContradiction fun h => no ⟨m, hm, h⟩
  have nd : ((List.range (ks.length + 1)).map fun m : Nat => (a + m) % M + 1).Nodup := by
    refine List.pairwise_map.mpr ?_
    refine List.Pairwise.imp_of_mem ?_ List.pairwise_lt_range
    intro i j hi hj hij e
    have hj' := List.mem_range.mp hj
    exact emod_ne (a := a) (M := M) (by omega) hij (by omega)
  have h := sub_len _ ks nd fun x hx => by
    obtain ⟨m, hm, rfl⟩ := List.mem_map.mp hx
    exact all m (by have := List.mem_range.mp hm; omega)
  rw [List.length_map, List.length_range] at h
  omega
/-- the first such step -/
theorem free_first (ks : List Int) (a M : Int) (hM : (ks.length : Int) < M) : ∃ m : Nat, m ≤ ks.length ∧ (a + m) % M + 1 ∉ ks ∧ ∀ j : Nat, j < m → (a + j) % M + 1 ∈ ks := by
  obtain ⟨m, hm, h⟩ := free_le ks a M hM
  have key : ∀ n : Nat, n ≤ ks.length → (a + n) % M + 1 ∉ ks → ∃ m : Nat, m ≤ ks.length ∧ (a + m) % M + 1 ∉ ks ∧ ∀ j : Nat, j < m → (a + j) % M + 1 ∈ ks := by
    intro n
    induction n using Nat.strongRecOn with
    | _ n ih =>
      intro hn h
      by_cases q : ∃ j, j < n ∧ (a + (j : Nat)) % M + 1 ∉ ks
      · obtain ⟨j, hj, hq⟩ := q
        exact ih j hj (by omega) hq
      · exact ⟨n, hn, h, fun j hj => Classical.byContradiction fun z => q ⟨j, hj, z⟩⟩
  exact key m hm h
theorem shp_list (ns : List Int) : shp (.list (ns.map .int)) = true := sh_ints ns
theorem shp_tup (ns : List Int) : shp (.tuple (ns.map .int)) = true := sh_intsT ns
theorem shp_int (i : Int) : shp (.int i) = true := by simp [shp, SeqAt.shaped, PyData.canLay0, PyData.depth]
end Ov
set_option Elab.async false
set_option linter.all false
set_option maxRecDepth 100000
set_option maxHeartbeats 4000000
namespace Ov
open PySem L2
/-! a comprehension of two clauses, the second one over a range -/
section
variable {K : PySem.W.Frag} {E : XK}
def PostJ (K : PySem.W.Frag) (E : XK) (B : Addr → Prop) (σ : St) (H : Hp) (l : List Addr) (rs : Rs (List PyData)) (R : It → Hp → Prop) : Prop :=
  match rs with
  | .ok ds env' => ∀ J H' Y, Rep K B σ H' env' l → Fr l H H' → Walk J ds.length (fun _ => True) Y → (∀ i x H2 H3 d, Y i H2 x H3 → ds[i]? = some d → H3 = H2 ∧ ∃ k : Int, x = .int k ∧ d = .int k) → R J H'
  | .ex C f d => Exn K E B H l C f d
theorem PostJ.exn {B : Addr → Prop} {σ : St} {H : Hp} {l : List Addr} {rs : Rs (List PyData)} {R : It → Hp → Prop} (h : PostJ K E B σ H l rs R) : ∀ C f d, rs = .ex C f d → Exn K E B H l C f d := fun C f d e => by subst e; exact h
/-! what it does -/
end
end Ov
set_option Elab.async false
set_option linter.all false
set_option maxRecDepth 100000
set_option maxHeartbeats 4000000
namespace Ov
open PySem L2
/-! x op= e of numbers; two items of a list change places -/
section
variable {K : PySem.W.Frag} {E : XK} {bx : Nat}
def augS (i : Nat) (fo : PyData → PyData → Option PyData) (fe : M R) : M Fl :=
  M.bind (get i) fun a => M.bind (lift (asI a)) fun x => M.bind fe fun b => M.bind (lift (asI b)) fun y => M.bind (lift (fo (.int x) (.int y))) fun d => M.bind (putM i (.dat d)) fun _ => M.pure .nx
theorem OkS.aug {i : Nat} {te : TE} {ti : TIp} {fo : PyData → PyData → Option PyData} {fe : M R} (hb : ∀ z : Fin bx, i ≠ z.1) (ht : ∀ (x y : Int) (d : PyData), fo (.int x) (.int y) = some d → ∃ z : Int, d = .int z ∧ ∀ (H : Hp) (Q : VK), Q (.int z) H → ti (.int x) (.int y) H Q) (oe : OkE K E te fe) :
    OkS K E bx (tAug i te ti) (augS i fo fe) := by
  refine ⟨?_⟩
  intro B σ H env l rs rp h D post
  show tVar i σ H (fun x H0 => te σ H0 fun y H1 => ti x y H1 fun z H2 => D.nx (σ.set i (some z)) H2)
  refine (OkE.var i).seq rp h post.exn fun a e v H1 h1 r1 f1 q1 => ?_
  obtain ⟨x, h2, h3⟩ := lift_step h1
  rw [asI_some h2] at q1
  cases q1
  refine oe.seq r1 h3 (exn_later post.exn f1) fun b e2 v2 H2 h4 r2 f2 q2 => ?_
  obtain ⟨y, h5, h6⟩ := lift_step h4
  rw [asI_some h5] at q2
  cases q2
  obtain ⟨d, h7, h8⟩ := lift_step h6
  obtain ⟨z, rfl, hz⟩ := ht x y d h7
  obtain ⟨hi, h9⟩ := putM_step h8
  cases h9
  obtain ⟨l', r', m1, m2⟩ := r2.putD hi (.int z)
  exact hz H2 _ (post _ H2 l' r' ⟨f1.trans f2, fun b z => .inl (m1 b z)⟩ fun z => List.getElem?_set_ne (hb z))
def ipM : TIp := fun x y H Q => ∃ i j, x = .int i ∧ y = .int j ∧ CMul i j ∧ Q (.int (i * j)) H
theorem ip_mul {X : Cx} : PIp X .Mult ipM := by
  intro pins s σ H x y v u Q I r1 r2 h
  obtain ⟨i, j, e1, e2, c, q⟩ := h
  subst e1; subst e2
  obtain ⟨t, rfl⟩ := r1
  obtain ⟨t', rfl⟩ := r2
  exact PySem.P.imul_int ⟨.int _, H, I.tok _, ⟨_, rfl⟩, q⟩ c.ok
theorem v_mulD (x y : Int) (h : pMul x y = true) : mulD (.int x) (.int y) = some (.int (x * y)) := by
  show (if pMul x y = true then some (PyData.int (x * y)) else none) = _
  rw [if_pos h]
theorem aug_mul (x y : Int) (d : PyData) (h : mulD (.int x) (.int y) = some d) : ∃ z : Int, d = .int z ∧ ∀ (H : Hp) (Q : VK), Q (.int z) H → ipM (.int x) (.int y) H Q := by
  have h' : (if pMul x y = true then some (PyData.int (x * y)) else none) = some d := h
  split at h'
  · rename_i c
    cases h'
    exact ⟨_, rfl, fun H Q q => ⟨x, y, rfl, rfl, (Bool.or_eq_true_iff.mp c).imp of_decide_eq_true of_decide_eq_true, q⟩⟩
  · cases h'
end
end Ov
set_option Elab.async false
set_option linter.all false
set_option maxRecDepth 100000
set_option maxHeartbeats 4000000
set_option Elab.async false
set_option linter.all false
set_option maxRecDepth 100000
set_option maxHeartbeats 4000000
namespace Ov
open PySem L2
/-! what pieces that change nothing give, piece by piece -/
def Gv (f : M R) (env : En) (d : PyData) : Prop := f env = some (.ok (.dat d) env)
section
variable {env : En} {f g h : M R} {a b c d : PyData} {F : List PyData → Option Wv} {t u : M Bool} {x y : Bool} {s s2 : M Fl} {i : Nat}
theorem get_ok (e : env[i]? = some (some (.dat d))) : Gv (get i) env d := by
  unfold Gv
  simp [v_bind, v_ok, v_none, v_pure, v_lift, v_liftN, v_con, v_get, v_gkd, v_gko, v_gkc, v_vwd, v_vws, v_ok1, v_ownD, v_dctD, v_dk1, v_setOwn, v_putM, v_op2, v_op1, v_anil, v_acons, v_vws0, v_vwsC, v_cb, v_tupD, v_lstD, v_lstW, v_listW, v_dds0, v_ddsC, v_asB, v_tb1, v_andT, v_orT, v_notT, v_andV, v_orV, v_notV, v_ofB, v_ifE, v_pl, v_toW, v_fz, v_ofWd, v_ofWo, v_nxt, v_thenS, v_exprS, v_retS, v_retN, v_ifS, v_setS, v_parS, v_setIx, v_asD, v_asI, v_mthE, v_callA, v_callB, v_forS, v_argI, v_seqI, v_slD, v_poN, v_poS, v_isiE, v_isiE2, v_isNE, v_dnew, v_dinT, v_dputS, v_sortDct, v_rgE, v_rg2, v_unS, v_catW, v_chainE, v_add, v_sub, v_lt, v_le, v_gt, v_ge, v_eqI, v_eqB, v_eqS, v_ixL, v_ixT, v_lenL, v_lenT, v_abs, v_intI, v_intB, v_min, v_max, v_chk, e]
theorem con_ok : Gv (con d) env d := rfl
theorem op2_ok {fo : PyData → PyData → Option PyData} (h1 : Gv f env a) (h2 : Gv g env b) (h3 : fo a b = some c) : Gv (op2 fo f g) env c := by
  unfold Gv at *
  simp [v_bind, v_ok, v_none, v_pure, v_lift, v_liftN, v_con, v_get, v_gkd, v_gko, v_gkc, v_vwd, v_vws, v_ok1, v_ownD, v_dctD, v_dk1, v_setOwn, v_putM, v_op2, v_op1, v_anil, v_acons, v_vws0, v_vwsC, v_cb, v_tupD, v_lstD, v_lstW, v_listW, v_dds0, v_ddsC, v_asB, v_tb1, v_andT, v_orT, v_notT, v_andV, v_orV, v_notV, v_ofB, v_ifE, v_pl, v_toW, v_fz, v_ofWd, v_ofWo, v_nxt, v_thenS, v_exprS, v_retS, v_retN, v_ifS, v_setS, v_parS, v_setIx, v_asD, v_asI, v_mthE, v_callA, v_callB, v_forS, v_argI, v_seqI, v_slD, v_poN, v_poS, v_isiE, v_isiE2, v_isNE, v_dnew, v_dinT, v_dputS, v_sortDct, v_rgE, v_rg2, v_unS, v_catW, v_chainE, v_add, v_sub, v_lt, v_le, v_gt, v_ge, v_eqI, v_eqB, v_eqS, v_ixL, v_ixT, v_lenL, v_lenT, v_abs, v_intI, v_intB, v_min, v_max, v_chk, h1, h2, h3]
theorem call1 (h1 : Gv f env a) (e : F [a] = some (.dat c)) : Gv (fz (callA F (acons f anil))) env c := by
  unfold Gv at *
  simp [v_bind, v_ok, v_none, v_pure, v_lift, v_liftN, v_con, v_get, v_gkd, v_gko, v_gkc, v_vwd, v_vws, v_ok1, v_ownD, v_dctD, v_dk1, v_setOwn, v_putM, v_op2, v_op1, v_anil, v_acons, v_vws0, v_vwsC, v_cb, v_tupD, v_lstD, v_lstW, v_listW, v_dds0, v_ddsC, v_asB, v_tb1, v_andT, v_orT, v_notT, v_andV, v_orV, v_notV, v_ofB, v_ifE, v_pl, v_toW, v_fz, v_ofWd, v_ofWo, v_nxt, v_thenS, v_exprS, v_retS, v_retN, v_ifS, v_setS, v_parS, v_setIx, v_asD, v_asI, v_mthE, v_callA, v_callB, v_forS, v_argI, v_seqI, v_slD, v_poN, v_poS, v_isiE, v_isiE2, v_isNE, v_dnew, v_dinT, v_dputS, v_sortDct, v_rgE, v_rg2, v_unS, v_catW, v_chainE, v_add, v_sub, v_lt, v_le, v_gt, v_ge, v_eqI, v_eqB, v_eqS, v_ixL, v_ixT, v_lenL, v_lenT, v_abs, v_intI, v_intB, v_min, v_max, v_chk, h1, e]
/-! tests -/
/-! statements -/
theorem ret_ok (e : Gv f env d) : retS (pl f) env = some (.ok (.rt (.dat d)) env) := by
  unfold Gv at *
  simp [v_bind, v_ok, v_none, v_pure, v_lift, v_liftN, v_con, v_get, v_gkd, v_gko, v_gkc, v_vwd, v_vws, v_ok1, v_ownD, v_dctD, v_dk1, v_setOwn, v_putM, v_op2, v_op1, v_anil, v_acons, v_vws0, v_vwsC, v_cb, v_tupD, v_lstD, v_lstW, v_listW, v_dds0, v_ddsC, v_asB, v_tb1, v_andT, v_orT, v_notT, v_andV, v_orV, v_notV, v_ofB, v_ifE, v_pl, v_toW, v_fz, v_ofWd, v_ofWo, v_nxt, v_thenS, v_exprS, v_retS, v_retN, v_ifS, v_setS, v_parS, v_setIx, v_asD, v_asI, v_mthE, v_callA, v_callB, v_forS, v_argI, v_seqI, v_slD, v_poN, v_poS, v_isiE, v_isiE2, v_isNE, v_dnew, v_dinT, v_dputS, v_sortDct, v_rgE, v_rg2, v_unS, v_catW, v_chainE, v_add, v_sub, v_lt, v_le, v_gt, v_ge, v_eqI, v_eqB, v_eqS, v_ixL, v_ixT, v_lenL, v_lenT, v_abs, v_intI, v_intB, v_min, v_max, v_chk, e]
theorem set_ok (e : Gv f env d) (hi : i < env.length) : setS i (pl f) env = some (.ok .nx (env.set i (some (.dat d)))) := by
  unfold Gv at *
  rw [v_setS, v_pl, e, v_ok, v_toW, v_lift, v_ok, v_bind, v_putM _ _ hi, v_ok, v_pure]
theorem un_ok {p : PyData → En → Option En} {e3 : En} (e : Gv f env d) (hp : p d env = some e3) : unS p f env = some (.ok .nx e3) := by
  unfold Gv at e
  rw [v_unS, e, v_ok]
  show cont ((p d env).map fun e => Rs.ok () e) _ = _
  rw [hp]
  rfl
theorem seq_ok {ds : List PyData} (e : Gv f env d) (hs : seqD d = some ds) : seqI f env = some (.ok ds env) := by
  unfold Gv at e
  simp [v_bind, v_ok, v_none, v_pure, v_lift, v_liftN, v_con, v_get, v_gkd, v_gko, v_gkc, v_vwd, v_vws, v_ok1, v_ownD, v_dctD, v_dk1, v_setOwn, v_putM, v_op2, v_op1, v_anil, v_acons, v_vws0, v_vwsC, v_cb, v_tupD, v_lstD, v_lstW, v_listW, v_dds0, v_ddsC, v_asB, v_tb1, v_andT, v_orT, v_notT, v_andV, v_orV, v_notV, v_ofB, v_ifE, v_pl, v_toW, v_fz, v_ofWd, v_ofWo, v_nxt, v_thenS, v_exprS, v_retS, v_retN, v_ifS, v_setS, v_parS, v_setIx, v_asD, v_asI, v_mthE, v_callA, v_callB, v_forS, v_argI, v_seqI, v_slD, v_poN, v_poS, v_isiE, v_isiE2, v_isNE, v_dnew, v_dinT, v_dputS, v_sortDct, v_rgE, v_rg2, v_unS, v_catW, v_chainE, v_add, v_sub, v_lt, v_le, v_gt, v_ge, v_eqI, v_eqB, v_eqS, v_ixL, v_ixT, v_lenL, v_lenT, v_abs, v_intI, v_intB, v_min, v_max, v_chk, e, hs]
theorem for_ok {e : En} {fi : M (List PyData)} {p : PyData → En → Option En} {l : List PyData} {r : Option (Rs Fl)} (e1 : fi env = some (.ok l e)) (h2 : forM p s l e = r) : forS fi p s env = r := by
  rw [v_forS, e1, v_ok]
  exact h2
theorem aug_ok {fo : PyData → PyData → Option PyData} {p q : Int} (e : env[i]? = some (some (.dat (.int p)))) (h1 : Gv f env (.int q)) (h2 : fo (.int p) (.int q) = some d) (hi : i < env.length) : augS i fo f env = some (.ok .nx (env.set i (some (.dat d)))) := by
  have g1 := get_ok e
  unfold Gv at g1 h1
  show cont (get i env) _ = _
  rw [g1, v_ok, v_bind, v_asI, v_lift, v_ok, v_bind, h1, v_ok, v_bind, v_asI, v_lift, v_ok, v_bind, h2, v_lift, v_ok, v_bind, v_putM _ _ hi, v_ok, v_pure]
end
end Ov
set_option Elab.async false
set_option linter.all false
set_option maxRecDepth 100000
set_option maxHeartbeats 4000000
namespace Ov
open PySem L2
/-! errors: raised, handed on, caught and kept -/
section
variable {K : PySem.W.Frag} {E : XK} {bx : Nat}
/-! try: x = ..; except (A, B, ..) as error: caught = error -/
def noOwn (env : En) : Bool := env.all fun s => !isOwn (some s)
theorem rpe_nil {H G : Hp} : ∀ {σ : St} {env : En} {l : List Addr}, RpE K H G σ env l → noOwn env = true → l = []
  | [], [], l, h, _ => h
  | s :: σ, e :: env, l, ⟨a, b, z, h1, h2⟩, hn => by
    have hn : (!isOwn (some e) && env.all fun s => !isOwn (some s)) = true := by rw [← hn]; rfl
    obtain ⟨n1, n2⟩ := (Bool.and_eq_true _ _).mp hn
    have hb := rpe_nil h2 n2
    subst hb
    have ha : a = [] := by
      cases e with
      | none => exact h1
      | some w =>
        obtain ⟨v, _, h1⟩ := h1
        cases w with
        | dat d => exact h1.1
        | own xs => cases n1
        | exc C f d => exact h1.1
        | dct _ => cases n1
        | lin _ _ _ => cases n1
        | dci ks => cases n1
        | dtk ks => cases n1
        | dts ks => cases n1
        | pin _ _ => exact h1.1
        | dtn _ => cases n1
        | dtd _ => cases n1
        | nd _ => exact h1.1
        | ndd _ => exact h1.1
        | lkd _ => exact h1.1
    rw [z, ha]
    rfl
def isEmp : Option (Option Wv) → Bool
  | some none => true
  | _ => false
theorem isEmp_ok {x : Option (Option Wv)} (h : isEmp x = true) : x = some none := by
  cases x with
  | none => cases h
  | some y => cases y with
    | none => rfl
    | some _ => cases h
def keepS (i j m : Nat) (cs : List Addr) (f : M Wv) : M Fl := fun env =>
  match f env with
  | some (.ok w e) => (M.bind (putM i w) fun _ => M.pure Fl.nx) e
  | some (.ex C fl d) => if C ∈ cs ∧ noOwn env = true ∧ m < env.length ∧ j < env.length ∧ j ≠ m ∧ isEmp env[j]? = true then some (.ok .nx (env.set m (some (.exc C fl d)))) else none
  | none => none
/-- as OkW, at given slots -/
structure OkWat (K : PySem.W.Frag) (E : XK) (σ : St) (t : TE) (f : M Wv) : Prop where
  run : ∀ {B : Addr → Prop} {H : Hp} {env : En} {l : List Addr} {rs : Rs Wv}, Rep K B σ H env l → f env = some rs → ∀ {Q : VK}, PostW K E B σ H l rs Q → t σ H Q
theorem OkS.keep {i j m : Nat} {cs : List Addr} {te : WX → TE} {tt : Value → Value → Bool} {f : M Wv} (o : ∀ (W : WX) (σ : St), OkWat K (fun cls d H' => W cls d σ H') σ (te W) f)
    (hc : ∀ C ∈ cs, ∃ k, Cl K C k) (hx : ∀ C ∈ cs, ∀ c ∈ cs.map Value.ref, PySem.W.exmOne K (.ref C) c = some (tt (.ref C) c)) (ht : ∀ C ∈ cs, (cs.map Value.ref).any (tt (.ref C)) = true) :
    OkS K E 0 (fun D σ H => tAsg (te (wKeep tt K (cs.map Value.ref) j (fun _ _ _ => tAsg (tVar j) (gName m)) D)) (gName i) D σ H) (keepS i j m cs f) := by
  refine ⟨?_⟩
  intro B σ H env l rs rp h D post
  unfold keepS at h
  cases hf : f env with
  | none => rw [hf] at h; cases h
  | some z =>
    rw [hf] at h
    cases z with
    | ok w e =>
      refine (o _ _).run rp hf fun v H' lw r1 f1 q1 nd fr => ?_
      obtain ⟨hi, h2⟩ := putM_step h
      cases h2
      obtain ⟨l', r', mm⟩ := r1.put hi q1 nd fun b z => ⟨fun y => rp.fresh (fr b z) (.inr y), fun y => rp.fresh (fr b z) (.inl y)⟩
      exact post _ H' l' r' ⟨f1, fun b z => (mm b z).imp id (fr b)⟩ fun z => z.elim0
    | ex C fl d =>
      simp only at h
      split at h
      case isFalse => cases h
      rename_i hh
      obtain ⟨hC, hn, hm, hj, jm, ej⟩ := hh
      cases h
      have l0 := rpe_nil rp.rp hn
      subst l0
      obtain ⟨k, cl⟩ := hc C hC
      have sl : σ.length = env.length := rp.len
      have tail : ∀ (od : Option Addr) (H' : Hp) (v : V), Fr [] H H' → (∀ a, H' a = none → CauF K (off B (upd H' a (exg a C od))) a C fl v) → (fl ≠ "" → Da K (off B H') v d) → wKeep tt K (cs.map Value.ref) j (fun _ _ _ => tAsg (tVar j) (gName m)) D (.ref C) od σ H' := by
        intro od H' v f1 ca dv
        have s1 : Same H H' := fun b o e => f1 b o (fun z => by cases z) e
        refine ⟨C, rfl, hx C hC, ht C hC, fun a na => ?_⟩
        have sj : (σ.set j (some (.ref a)))[j]? = some (some (.ref a)) := by rw [List.getElem?_set_self (by omega)]
        refine ⟨.ref a, sj, ?_⟩
        have s2 : Same H' (upd H' a (exg a C od)) := same_new na _
        have r2 : Rep K B σ (upd H' a (exg a C od)) env [] := (rp.same s1).same s2
        show D.nx ((((σ.set j (some (.ref a))).set m (some (.ref a))).set j none)) (upd H' a (exg a C od))
        refine post _ _ [] ?_ (Fr2.of (fun b o n e => s2 _ _ (s1 _ _ e))) fun z => z.elim0
        have sub : Same (off B H') (off (un (un B []) []) (upd H' a (exg a C od))) := by
          rw [un_nil, un_nil]
          exact off_mono (fun b z n => absurd z n) fun b o n e => s2 _ _ e
        have r3 : Rep K (un B []) σ (upd H' a (exg a C od)) env [] := by rw [un_nil]; exact r2
        obtain ⟨l', r4, mm⟩ := r3.put (i := m) (v := .ref a) (w := .exc C fl d) hm ⟨rfl, a, v, rfl, by rw [un_nil, un_nil]; exact ca a na, fun z => Da.same sub d (dv z)⟩ List.nodup_nil fun b z => by cases z
        have e' : l' = [] := by
          cases l' with
          | nil => rfl
          | cons b _ => rcases mm b (List.mem_cons_self ..) with z | z <;> cases z
        subst e'
        refine ⟨r4.rp.any (by simp) fun p w hp => ?_, r4.nd, r4.out, r4.tb⟩
        by_cases pj : p = j
        · subst pj
          rw [List.getElem?_set_ne (fun z => jm z.symm), isEmp_ok ej] at hp
          cases hp
        · rw [List.getElem?_set_ne (fun z => pj z.symm)]
          by_cases pm : p = m
          · subst pm
            rw [List.getElem?_set_self (by rw [List.length_set]; omega), List.getElem?_set_self (by omega)]
          · rw [List.getElem?_set_ne (fun z => pm z.symm), List.getElem?_set_ne (fun z => pj z.symm), List.getElem?_set_ne (fun z => pm z.symm)]
      refine (o _ _).run rp hf ⟨fun hne dx H' v f1 nB hd dv => tail (some dx) H' v f1 (fun a na => .inl ⟨hne, k, dx, cl, ?_, ?_⟩) fun _ => dv, fun he H' f1 => tail none H' .non f1 (fun a na => .inr ⟨he, k, cl, ?_⟩) fun z => absurd he z⟩
      · exact (off_ne fun z => ((rp.same fun b o e => f1 b o (fun z => by cases z) e).fresh na) (.inl z)).trans upd_same
      · exact (off_ne nB).trans ((upd_ne fun z => by rw [z, na] at hd; cases hd).trans hd)
      · exact (off_ne fun z => ((rp.same fun b o e => f1 b o (fun z => by cases z) e).fresh na) (.inl z)).trans upd_same
def tE : Value → Value → Bool
  | .ref a, .ref b => decide (a = b)
  | _, _ => false
end
end Ov
set_option Elab.async false
set_option linter.all false
set_option maxRecDepth 100000
set_option maxHeartbeats 4000000
set_option Elab.async false
set_option linter.all false
set_option maxRecDepth 100000
set_option maxHeartbeats 4000000
set_option Elab.async false
set_option linter.all false
set_option maxRecDepth 100000
set_option maxHeartbeats 4000000
namespace Ov
open PySem L2
/-! several values at once, some of them lists of their own -/
inductive RvAll (K : PySem.W.Frag) (H G : Hp) : List V → List Wv → List Addr → Prop
  | nil : RvAll K H G [] [] []
  | cons {v : V} {w : Wv} {vs : List V} {ws : List Wv} {a b : List Addr} : RpW K H G v w a → RvAll K H G vs ws b → RvAll K H G (v :: vs) (w :: ws) (a ++ b)
section
variable {K : PySem.W.Frag} {E : XK} {bx : Nat}
theorem RvAll.mv {H H' G G' : Hp} (s : Same G G') : ∀ {vs : List V} {ws : List Wv} {l : List Addr}, RvAll K H G vs ws l → (∀ q ∈ l, H' q = H q) → RvAll K H' G' vs ws l
  | _, _, _, .nil, _ => .nil
  | _, _, _, .cons q r, k => .cons (q.mv s fun c z => k c (List.mem_append_left _ z)) (RvAll.mv s r fun c z => k c (List.mem_append_right _ z))
theorem RvAll.trk {H G : Hp} : ∀ {vs : List V} {ws : List Wv} {l : List Addr}, RvAll K H G vs ws l → ∀ q ∈ l, ∃ o, H q = some o ∧ NT o
  | _, _, _, .nil, q, z => by cases z
  | _, _, _, .cons h r, q, z => (List.mem_append.mp z).elim (fun z => RpW.trk h q z) fun z => RvAll.trk r q z
theorem RvAll.len {H G : Hp} : ∀ {vs : List V} {ws : List Wv} {l : List Addr}, RvAll K H G vs ws l → vs.length = ws.length
  | _, _, _, .nil => rfl
  | _, _, _, .cons _ r => by rw [List.length_cons, List.length_cons, RvAll.len r]
def PostV (K : PySem.W.Frag) (E : XK) (B : Addr → Prop) (σ : St) (H : Hp) (l : List Addr) (rs : Rs (List Wv)) (Q : List V → Hp → Prop) : Prop :=
  match rs with
  | .ok ws env' => ∀ vs H' lw, Rep K (un B lw) σ H' env' l → Fr l H H' → RvAll K H' (off (un (un B lw) l) H') vs ws lw → lw.Nodup → (∀ b ∈ lw, H b = none) → Q vs H'
  | .ex C f d => Exn K E B H l C f d
structure OkV (K : PySem.W.Frag) (E : XK) (t : TA) (f : M (List Wv)) : Prop where
  run : ∀ {B : Addr → Prop} {σ : St} {H : Hp} {env : En} {l : List Addr} {rs : Rs (List Wv)}, Rep K B σ H env l → f env = some rs → ∀ {Q : List V → Hp → Prop}, PostV K E B σ H l rs Q → t σ H Q
theorem PostV.exn {B : Addr → Prop} {σ : St} {H : Hp} {l : List Addr} {rs : Rs (List Wv)} {Q : List V → Hp → Prop} (h : PostV K E B σ H l rs Q) : ∀ C f d, rs = .ex C f d → Exn K E B H l C f d := fun C f d e => by subst e; exact h
theorem OkV.seq {α : Type} {ta : TA} {fa : M (List Wv)} {g : List Wv → M α} (oa : OkV K E ta fa) {B : Addr → Prop} {σ : St} {H : Hp} {env : En} {l : List Addr} {rs : Rs α} (r : Rep K B σ H env l) (h : (M.bind fa g) env = some rs) {Q : List V → Hp → Prop}
    (hx : ∀ C f d, rs = .ex C f d → Exn K E B H l C f d) (hq : ∀ a e v H' lw, g a e = some rs → Rep K (un B lw) σ H' e l → Fr l H H' → RvAll K H' (off (un (un B lw) l) H') v a lw → lw.Nodup → (∀ b ∈ lw, H b = none) → Q v H') : ta σ H Q := by
  rcases bind_some h with ⟨a, e, h1, h2⟩ | ⟨C, f, d, h1, h2⟩
  · exact oa.run r h1 (fun v H' lw r' fr q n1 n2 => hq a e v H' lw h2 r' fr q n1 n2)
  · exact oa.run r h1 (hx C f d h2)
def wnil : M (List Wv) := M.pure []
def wcons (f : M Wv) (g : M (List Wv)) : M (List Wv) := M.bind f fun a => M.bind g fun as => M.pure (a :: as)
theorem OkV.nil : OkV K E tNil wnil := by
  refine ⟨?_⟩
  intro B σ H env l rs rp h Q post
  cases h
  exact post [] H [] (by rw [un_nil]; exact rp) (Fr.refl _ _) .nil List.nodup_nil fun b z => by cases z
theorem OkV.cons {ta : TE} {tr : TA} {fa : M Wv} {fr : M (List Wv)} (oa : OkW K E ta fa) (or : OkV K E tr fr) : OkV K E (tCons ta tr) (wcons fa fr) := by
  refine ⟨?_⟩
  intro B σ H env l rs rp h Q post
  refine oa.seq rp h post.exn fun w1 e1 v1 H1 l1 h1 r1 f1 q1 nd1 fr1 => ?_
  have n1 : ∀ b ∈ l1, ¬ un B l b := fun b z => rp.fresh (fr1 b z)
  have ex1 : ∀ C f d, rs = .ex C f d → Exn K E (un B l1) H1 l C f d := fun C f d e => by
    have := (post.exn C f d e).later f1
    exact this.wide
  refine or.seq r1 h1 ex1 fun ws e2 vs H2 l2 h2 r2 f2 q2 nd2 fr2 => ?_
  cases h2
  have n2 : ∀ b ∈ l2, ¬ un (un B l1) l b := fun b z => r1.fresh (fr2 b z)
  refine post (v1 :: vs) H2 (l1 ++ l2) (by rw [← un_app]; exact r2) (f1.trans f2) (.cons ?_ (by rw [← un_app]; exact q2)) ?_ fun b z => ?_
  · rw [← un_app]
    refine q1.mv (off_mono (fun b z n => ?_) fun b o n e => f2 b o (fun z => n (.inr z)) e) fun b z => ?_
    · rcases z with (z | z) | z
      · exact absurd (.inl z) n
      · exact fr2 b z
      · exact absurd (.inr z) n
    · obtain ⟨o, e, _⟩ := q1.trk b z
      rw [e]
      exact f2 b o (fun y => n1 b z (.inr y)) e
  · exact List.nodup_append.mpr ⟨nd1, nd2, fun x hx y hy e => n2 y hy (.inl (.inr (e ▸ hx)))⟩
  · rcases List.mem_append.mp z with z | z
    · exact fr1 b z
    · cases q : H b with
      | none => rfl
      | some o =>
        have := f1 b o (fun y => n2 b z (.inr y)) q
        rw [fr2 b z] at this
        cases this
end
end Ov
set_option Elab.async false
set_option linter.all false
set_option maxRecDepth 100000
set_option maxHeartbeats 4000000
namespace L2
open PySem PySem.Spec PyProof.Rows
end L2
set_option Elab.async false
set_option linter.all false
set_option maxRecDepth 100000
set_option maxHeartbeats 4000000
set_option Elab.async false
set_option linter.all false
set_option maxRecDepth 100000
set_option maxHeartbeats 4000000
set_option Elab.async false
set_option linter.all false
set_option maxRecDepth 100000
set_option maxHeartbeats 4000000
namespace Ov
open PySem L2
/-! what each piece does, as equations to be put together by a tool -/
section
variable {α : Type} {env e e1 e2 e3 : En} {f g h : M R} {r s q : R} {rs : List R} {fa fr : M (List R)} {a b c d : PyData} {ds : List PyData} {F : List PyData → Option Wv} {t u : M Bool} {x y : Bool} {st su : M Fl} {i j : Nat} {W W2 : M Wv} {w w2 : Wv} {X : Option (Rs Fl)}
theorem get_x (h : env[i]? = some (some (.dat d))) : get i env = some (.ok (.dat d) env) := by rw [v_get, h]; rfl
theorem con_x : con d env = some (.ok (.dat d) env) := rfl
theorem vwd_x : vw (.dat d) env = some (.ok d env) := rfl
theorem op2_x {fo : PyData → PyData → Option PyData} (h1 : f env = some (.ok r e1)) (h2 : g e1 = some (.ok s e2)) (v1 : vw r e2 = some (.ok a e2)) (v2 : vw s e2 = some (.ok b e2)) (h3 : fo a b = some c) : op2 fo f g env = some (.ok (.dat c) e2) := by
  rw [v_op2, h1, v_ok, v_bind, h2, v_ok, v_bind, v1, v_ok, v_bind, v2, v_ok, v_bind, h3]
  rfl
theorem op1_x {fo : PyData → Option PyData} (h1 : f env = some (.ok r e1)) (v1 : vw r e1 = some (.ok a e1)) (h3 : fo a = some c) : op1 fo f env = some (.ok (.dat c) e1) := by
  rw [v_op1, h1, v_ok, v_bind, v1, v_ok, v_bind, h3]
  rfl
theorem anil_x : anil env = some (.ok [] env) := rfl
theorem acons_x (h1 : f env = some (.ok r e1)) (h2 : fr e1 = some (.ok rs e2)) : acons f fr env = some (.ok (r :: rs) e2) := by
  rw [v_acons, h1, v_ok, v_bind, h2]
  rfl
theorem vw0_x : vws [] env = some (.ok [] env) := rfl
theorem vwC_x (h1 : vw r env = some (.ok d env)) (h2 : vws rs env = some (.ok ds env)) : vws (r :: rs) env = some (.ok (d :: ds) env) := by
  rw [v_vwsC, h1, v_ok, v_bind, h2]
  rfl
theorem cb_x {fo : List PyData → Option PyData} (h1 : fa env = some (.ok rs e1)) (v : vws rs e1 = some (.ok ds e1)) (h : fo ds = some d) : cb fo fa env = some (.ok (.dat d) e1) := by
  rw [v_cb, h1, v_ok, v_bind, v, v_ok, v_bind, h]
  rfl
theorem tup_x (h1 : fa env = some (.ok rs e1)) (h2 : dds rs = some ds) (h3 : ds.length ≤ 1000000) : tupD fa env = some (.ok (.dat (.tuple ds)) e1) := by
  rw [v_tupD, h1, v_ok, v_bind, h2, v_lift, v_ok, v_bind, v_sz _ h3]
  rfl
theorem lst_x (h1 : fa env = some (.ok rs e1)) (h2 : dds rs = some ds) (h3 : ds.length ≤ 1000000) : lstD fa env = some (.ok (.dat (.list ds)) e1) := by
  rw [v_lstD, h1, v_ok, v_bind, h2, v_lift, v_ok, v_bind, v_sz _ h3]
  rfl
theorem lstW_x (h1 : fa env = some (.ok rs e1)) (h2 : dds rs = some ds) (h3 : ds.length ≤ 1000000) : lstW fa env = some (.ok (.own (dats ds)) e1) := by
  rw [v_lstW, h1, v_ok, v_bind, h2, v_lift, v_ok, v_bind, v_sz _ h3]
  rfl
theorem callA_x (h1 : fa env = some (.ok rs e1)) (h2 : dds rs = some ds) (h3 : F ds = some w) : callA F fa env = some (.ok w e1) := by
  rw [v_callA, h1, v_ok, v_bind, h2, v_lift, v_ok, h3]
  rfl
theorem ownD_x (h : env[i]? = some (some (.own (dats ds)))) : ownD i env = some (.ok ds env) := by
  rw [v_ownD, h]
  show lift (itds (dats ds)) env = _
  rw [itds_dats]
  rfl
theorem callB_x {FB : List PyData → List PyData → Option (Wv × List PyData)} {b0 bs bs' : List PyData} (h0 : env[i]? = some (some (.own (dats b0)))) (h1 : fa env = some (.ok rs e1)) (h2 : dds rs = some ds) (hb : e1[i]? = some (some (.own (dats bs)))) (h3 : FB bs ds = some (w, bs')) : callB i FB fa env = some (.ok w (e1.set i (some (.own (dats bs'))))) := by
  rw [v_callB, ownD_x h0, v_ok, v_bind, h1, v_ok, v_bind, h2, v_lift, v_ok, v_bind, ownD_x hb, v_ok, v_bind, h3]
  rfl
theorem fz_x (h : W env = some (.ok w e)) (hw : ofW w = some r) : fz W env = some (.ok r e) := by
  rw [v_fz, h, v_ok, hw]
  rfl
theorem pl_x (h : f env = some (.ok r e)) (hw : toW r = some w) : pl f env = some (.ok w e) := by
  rw [v_pl, h, v_ok, hw]
  rfl
theorem tb_x (h : f env = some (.ok r e)) (v : vw r e = some (.ok (.bool x) e)) : tb1 f env = some (.ok x e) := by
  rw [v_tb1, h, v_ok, v_bind, v]
  rfl
theorem andT_t (h : t env = some (.ok true e1)) (h2 : u e1 = some (.ok x e2)) : andT t u env = some (.ok x e2) := by rw [v_andT, h, v_ok, if_pos rfl, h2]
theorem andT_f (h : t env = some (.ok false e1)) : andT t u env = some (.ok false e1) := by rw [v_andT, h]; rfl
theorem orT_f (h : t env = some (.ok false e1)) (h2 : u e1 = some (.ok x e2)) : orT t u env = some (.ok x e2) := by rw [v_orT, h, v_ok, if_neg (by decide), h2]
theorem notT_x (h : t env = some (.ok x e1)) : notT t env = some (.ok (!x) e1) := by rw [v_notT, h]; rfl
theorem poN_x : poN env = some (.ok none env) := rfl
theorem poS_x {k : Int} (h : f env = some (.ok (.dat (.int k)) e)) : poS f env = some (.ok (some k) e) := by rw [v_poS, h]; rfl
theorem sl_x {fl fh : M (Option Int)} {lo hi : Option Int} (h1 : f env = some (.ok r e1)) (h2 : fl e1 = some (.ok lo e2)) (h3 : fh e2 = some (.ok hi e3)) (v : vw r e3 = some (.ok a e3)) (h4 : cutD a lo hi = some c) : slD f fl fh env = some (.ok (.dat c) e3) := by
  rw [v_slD, h1, v_ok, v_bind, h2, v_ok, v_bind, h3, v_ok, v_bind, v, v_ok, v_bind, h4]
  rfl
theorem isN_x {n : Bool} (h : f env = some (.ok r e)) (hb : isNR r = some x) : isNE n f env = some (.ok (.dat (.bool (n ^^ x))) e) := by
  rw [v_isNE, h, v_ok, v_bind, hb]
  rfl
theorem mth_x {fo : List PyData → List PyData → Option (List PyData × PyData)} {b0 bs : List PyData} {z : List PyData × PyData} (h0 : env[i]? = some (some (.own (dats b0)))) (h1 : fa env = some (.ok rs e1)) (h2 : dds rs = some ds) (hb : e1[i]? = some (some (.own (dats bs)))) (h3 : fo bs ds = some z) : mthE i fo fa env = some (.ok (.dat z.2) (e1.set i (some (.own (dats z.1))))) := by
  rw [v_mthE, ownD_x h0, v_ok, v_bind, h1, v_ok, v_bind, h2, v_lift, v_ok, v_bind, ownD_x hb, v_ok, v_bind, h3]
  rfl
theorem then_x (h1 : st env = some (.ok .nx e)) (h2 : su e = X) : thenS st su env = X := (then_nx h1).trans h2
theorem expr_x (h : f env = some (.ok r e)) : exprS f env = some (.ok .nx e) := by rw [v_exprS, h]; rfl
theorem ret_x (h : W env = some (.ok w e)) : retS W env = some (.ok (.rt w) e) := by rw [v_retS, h]; rfl
theorem ifS_t (h : t env = some (.ok true e)) (h2 : st e = X) : ifS t st su env = X := by rw [v_ifS, h, v_ok, if_pos rfl, h2]
theorem ifS_f (h : t env = some (.ok false e)) (h2 : su e = X) : ifS t st su env = X := by rw [v_ifS, h, v_ok, if_neg (by decide), h2]
theorem nxt_x : nxt env = some (.ok .nx env) := rfl
theorem set_x (h : W env = some (.ok w e)) (hi : i < e.length) : setS i W env = some (.ok .nx (e.set i (some w))) := by
  rw [v_setS, h, v_ok, v_bind, v_putM _ _ hi]
  rfl
theorem par_x (h : W env = some (.ok w e)) (h2 : W2 e = some (.ok w2 e2)) (hi : i < e2.length) (hj : j < e2.length) : parS i j W W2 env = some (.ok .nx ((e2.set i (some w)).set j (some w2))) := by
  rw [v_parS, h, v_ok, v_bind, h2, v_ok, v_bind, v_putM _ _ hi, v_ok, v_bind, v_putM _ _ (by rw [List.length_set]; exact hj)]
  rfl
theorem un_x {p : PyData → En → Option En} (h : f env = some (.ok (.dat d) e1)) (hp : p d e1 = some e2) : unS p f env = some (.ok .nx e2) := by
  rw [v_unS, h, v_ok]
  show cont ((p d e1).map fun e => Rs.ok () e) _ = _
  rw [hp]
  rfl
theorem for_x {fi : M (List PyData)} {p : PyData → En → Option En} (h : fi env = some (.ok ds e)) (h2 : forM p st ds e = X) : forS fi p st env = X := by
  rw [v_forS, h, v_ok]
  exact h2
theorem seq_x (h : f env = some (.ok (.dat d) e)) (hs : seqD d = some ds) : seqI f env = some (.ok ds e) := by
  rw [v_seqI, h, v_ok, v_bind, v_asD, v_lift, v_ok, hs]
  rfl
theorem argI_x {fo : List PyData → Option (List PyData)} {es : List PyData} (h : fa env = some (.ok rs e)) (h2 : dds rs = some ds) (h3 : fo ds = some es) : argI fo fa env = some (.ok es e) := by
  rw [v_argI, h, v_ok, v_bind, h2, v_lift, v_ok, h3]
  rfl
theorem frz_x (h : env[i]? = some (some (.own (dats ds)))) (h2 : st (env.set i (some (.dat (.list ds)))) = X) : (M.bind (frzM i) fun _ => st) env = X := by
  rw [v_bind, v_frz i ds h, v_ok, h2]
theorem min_x (k l : Int) : minD [.int k, .int l] = some (.int (min k l)) := by rw [v_min]; congr 2; split <;> omega
theorem lenLm_x {β : Type} (l : List β) (z : β → PyData) : lenD [.list (l.map z)] = some (.int (l.length : Nat)) := by rw [v_lenL, List.length_map]
theorem lenTm_x {β : Type} (l : List β) (z : β → PyData) : lenD [.tuple (l.map z)] = some (.int (l.length : Nat)) := by rw [v_lenT, List.length_map]
theorem addI_x (k l : Int) : addD (.int k) (.int l) = some (.int (k + l)) := rfl
theorem ltI_x (k l : Int) : ltD (.int k) (.int l) = some (.bool (decide (k < l))) := rfl
theorem leI_x (k l : Int) : leD (.int k) (.int l) = some (.bool (decide (k ≤ l))) := rfl
end
/-- a comprehension over pictures, each element by what it gives -/
theorem comp_x {β : Type} {env : En} {p : PyData → En → Option En} {ft : M Bool} {fe : M R} {vs : List Nat} {z : β → PyData} (g : β → PyData) (t : β → Bool) : ∀ (l : List β) (acc : List PyData), acc.length + l.length < 1000000 →
    (∀ x ∈ l, ∃ e, p (z x) env = some e ∧ ft e = some (.ok (t x) e) ∧ (t x = true → fe e = some (.ok (.dat (g x)) e)) ∧ freeB e vs = true ∧ wipeE e vs = env) → compM p ft fe vs (l.map z) acc env = some (.ok (acc ++ (l.filter t).map g) env)
  | [], acc, _, _ => by simp [compM, M.pure]
  | x :: l, acc, hl, h => by
    obtain ⟨e, h1, h2, h3, h4, h5⟩ := h x (List.mem_cons_self ..)
    rw [List.length_cons] at hl
    rw [List.map_cons]
    cases q : t x with
    | true =>
      rw [q] at h2
      rw [comp_yes h1 h2 (h3 q) h4 (by omega), h5, comp_x g t l (acc ++ [g x]) (by rw [List.length_append]; show acc.length + 1 + _ < _; omega) fun y hy => h y (List.mem_cons_of_mem _ hy)]
      simp [q]
    | false =>
      rw [q] at h2
      rw [comp_no h1 h2 h4, h5, comp_x g t l acc (by omega) fun y hy => h y (List.mem_cons_of_mem _ hy)]
      simp [q]
theorem compM_x {β : Type} {env : En} {p : PyData → En → Option En} {ft : M Bool} {fe : M R} {vs : List Nat} {z : β → PyData} (g : β → PyData) (l : List β) (hl : l.length < 1000000)
    (h : ∀ x ∈ l, ∃ e, p (z x) env = some e ∧ ft e = some (.ok true e) ∧ fe e = some (.ok (.dat (g x)) e) ∧ freeB e vs = true ∧ wipeE e vs = env) : compM p ft fe vs (l.map z) [] env = some (.ok (l.map g) env) := by
  have := comp_x (env := env) (p := p) (ft := ft) (fe := fe) (vs := vs) (z := z) g (fun _ => true) l [] (by show 0 + _ < _; omega) fun x hx => by
    obtain ⟨e, h1, h2, h3, h4, h5⟩ := h x hx
    exact ⟨e, h1, h2, fun _ => h3, h4, h5⟩
  rw [List.filter_eq_self.mpr fun _ _ => rfl, List.nil_append] at this
  exact this
end Ov
set_option Elab.async false
set_option linter.all false
set_option maxRecDepth 100000
set_option maxHeartbeats 4000000
namespace Ov
open PySem L2
/-! general facts for the values of defs -/
def nI (i : Nat) : PyData := .int (i : Int)
/-! ranges -/
theorem rng_int (a b : Nat) : (rngL (a : Int) (b : Int)).map PyData.int = (List.range' a (b - a)).map nI := by
  unfold rngL nI
  rw [List.map_map, List.range'_eq_map_range, List.map_map, show ((b : Int) - (a : Int)).toNat = b - a by omega]
  refine List.map_congr_left fun k _ => ?_
  show PyData.int ((a : Int) + (k : Int)) = .int ((a + k : Nat) : Int)
  rw [Int.natCast_add]
theorem rng1N {n : Nat} (h : n ≤ 1000000) : rngD [.int (n : Int)] = some ((List.range' 0 n).map nI) := by
  have g : -(2 ^ 62) ≤ (n : Int) ∧ (n : Int) < 2 ^ 62 := ⟨by omega, by omega⟩
  have := rng_int 0 n
  rw [Nat.sub_zero] at this
  rw [← this]
  show rngD [.int (n : Int)] = some ((rngL 0 (n : Int)).map .int)
  generalize (n : Int) = N at g ⊢
  exact if_pos g
theorem rng2N {a b : Nat} (h : a ≤ 1000000) (h2 : b ≤ 1000000) : rngD2 [.int (a : Int), .int (b : Int)] = some ((List.range' a (b - a)).map nI) := by
  have g : -(2 ^ 62) ≤ (a : Int) ∧ (a : Int) < 2 ^ 62 ∧ -(2 ^ 62) ≤ (b : Int) ∧ (b : Int) < 2 ^ 62 := ⟨by omega, by omega, by omega, by omega⟩
  rw [← rng_int]
  generalize (a : Int) = A at g ⊢
  generalize (b : Int) = N at g ⊢
  exact if_pos g
/-! shapes -/
def Sh (k : Nat) (d : PyData) : Prop := PyData.canLay0 d = true ∧ PyData.depth d ≤ k
theorem Sh.shp {k : Nat} {d : PyData} (h : Sh k d) (hk : k ≤ 64) : shp d = true := by
  unfold Ov.shp SeqAt.shaped
  rw [h.1, decide_eq_true (show PyData.depth d ≤ 64 from Nat.le_trans h.2 hk)]
  rfl
theorem Sh.int (i : Int) {k : Nat} : Sh (k + 1) (.int i) := ⟨rfl, by show 0 ≤ _; omega⟩
theorem Sh.none {k : Nat} : Sh (k + 1) .none := ⟨rfl, by show 0 ≤ _; omega⟩
theorem Sh.bool (b : Bool) {k : Nat} : Sh (k + 1) (.bool b) := ⟨rfl, by show 0 ≤ _; omega⟩
theorem sh_all : ∀ {k : Nat} {l : List PyData}, (∀ x ∈ l, Sh k x) → PyData.canLayAll0 l = true ∧ PyData.depthAll l ≤ k
  | k, [], _ => ⟨rfl, Nat.zero_le _⟩
  | k, x :: l, h => by
    have h1 := h x (List.mem_cons_self ..)
    have h2 := sh_all fun y hy => h y (List.mem_cons_of_mem _ hy)
    constructor
    · show (PyData.canLay0 x && PyData.canLayAll0 l) = true
      rw [h1.1, h2.1]
      rfl
    · show max (PyData.depth x) (PyData.depthAll l) ≤ k
      have := h1.2
      have := h2.2
      omega
theorem Sh.lst {k : Nat} {l : List PyData} (h : ∀ x ∈ l, Sh k x) : Sh (k + 1) (.list l) := ⟨(sh_all h).1, by show PyData.depthAll l + 1 ≤ k + 1; have := (sh_all h).2; omega⟩
theorem Sh.tup {k : Nat} {l : List PyData} (h : ∀ x ∈ l, Sh k x) : Sh (k + 1) (.tuple l) := ⟨(sh_all h).1, by show PyData.depthAll l + 1 ≤ k + 1; have := (sh_all h).2; omega⟩
theorem Sh.mono {k m : Nat} {d : PyData} (h : Sh k d) (e : k ≤ m) : Sh m d := ⟨h.1, Nat.le_trans h.2 e⟩
theorem Sh.ints (l : List Int) {k : Nat} : ∀ x ∈ l.map PyData.int, Sh (k + 1) x := fun x hx => by
  obtain ⟨i, _, rfl⟩ := List.mem_map.mp hx
  exact .int i
theorem eq_yes {n : Bool} {d : PyData} (h : shp d = true) : eqvD n d d = some (.bool (!n)) := by
  unfold eqvD
  have h' : (d.canLay0 && decide (d.depth ≤ 64)) = true := h
  rw [h, PySem.SeqAt.eqv_refl d ((Bool.and_eq_true _ _).mp h').1]
  cases n <;> rfl
/-! data without bools: equal by == only if the same -/
mutual
def noB : PyData → Bool
  | .none => true
  | .int _ => true
  | .str _ => true
  | .list l => noBs l
  | .tuple l => noBs l
  | _ => false
def noBs : List PyData → Bool
  | [] => true
  | x :: l => noB x && noBs l
end
mutual
theorem eqv_noB : ∀ {a b : PyData}, noB a = true → noB b = true → PyData.eqv a b = true → a = b
  | .none, b, _, h, e => by cases b <;> simp_all [PyData.eqv, noB]
  | .int i, b, _, h, e => by cases b <;> simp_all [PyData.eqv, noB]
  | .str s, b, _, h, e => by cases b <;> simp_all [PyData.eqv, noB]
  | .list l, b, ha, h, e => by
    cases b with
    | list m => exact congrArg PyData.list (eqvs_noB (a := l) (b := m) (by simpa [noB] using ha) (by simpa [noB] using h) (by simpa [PyData.eqv] using e))
    | _ => simp_all [PyData.eqv, noB]
  | .tuple l, b, ha, h, e => by
    cases b with
    | tuple m => exact congrArg PyData.tuple (eqvs_noB (a := l) (b := m) (by simpa [noB] using ha) (by simpa [noB] using h) (by simpa [PyData.eqv] using e))
    | _ => simp_all [PyData.eqv, noB]
  | .bool _, b, ha, h, e => by simp [noB] at ha
  | .dict _, b, ha, h, e => by simp [noB] at ha
theorem eqvs_noB : ∀ {a b : List PyData}, noBs a = true → noBs b = true → PyData.eqvAll a b = true → a = b
  | [], b, _, _, e => by cases b <;> simp_all [PyData.eqvAll]
  | x :: l, b, ha, hb, e => by
    cases b with
    | nil => simp [PyData.eqvAll] at e
    | cons y m =>
      simp only [noBs, Bool.and_eq_true] at ha hb
      simp only [PyData.eqvAll, Bool.and_eq_true] at e
      rw [eqv_noB ha.1 hb.1 e.1, eqvs_noB ha.2 hb.2 e.2]
end
theorem eq_no {n : Bool} {a b : PyData} (ha : shp a = true) (hb : shp b = true) (na : noB a = true) (nb : noB b = true) (h : a ≠ b) : eqvD n a b = some (.bool n) := by
  unfold eqvD
  rw [ha, hb]
  have : PyData.eqv a b = false := Bool.eq_false_iff.mpr fun z => h (eqv_noB na nb z)
  rw [this]
  cases n <;> rfl
theorem noBs_ints : ∀ l : List Int, noBs (l.map .int) = true
  | [] => rfl
  | x :: l => by rw [List.map_cons, noBs, noB, noBs_ints l]; rfl
/-! items and parts of pictures -/
theorem ixT_map {β : Type} {z : β → PyData} {l : List β} {k : Nat} {x : β} (h : l[k]? = some x) : ixD (.tuple (l.map z)) (.int (k : Int)) = some (z x) := by
  have hk := (List.getElem?_eq_some_iff.mp h).1
  show (L2.ixN (l.map z).length (k : Int)).bind (fun j => (l.map z)[j]?) = _
  unfold L2.ixN
  rw [if_pos (by omega), if_pos (by rw [List.length_map]; omega)]
  show (l.map z)[(k : Int).toNat]? = _
  rw [Int.toNat_natCast, List.getElem?_map, h]
  rfl
theorem atI_neg1 {β : Type} {z : β → PyData} {l : List β} {x : β} (h : l.getLast? = some x) : ixD (.tuple (l.map z)) (.int (-1)) = some (z x) := by
  have hl : l.length ≠ 0 := fun e => by rw [List.length_eq_zero_iff.mp e] at h; cases h
  show (L2.ixN (l.map z).length (-1)).bind (fun j => (l.map z)[j]?) = _
  unfold L2.ixN
  rw [if_neg (by omega), if_pos (by rw [List.length_map]; omega)]
  show (l.map z)[(-1 + ((l.map z).length : Int)).toNat]? = _
  rw [List.length_map, show (-1 + (l.length : Int)).toNat = l.length - 1 by omega, List.getElem?_map, ← List.getLast?_eq_getElem?, h]
  rfl
theorem ixL_map {β : Type} {z : β → PyData} {l : List β} {k : Nat} {x : β} (h : l[k]? = some x) : ixD (.list (l.map z)) (.int (k : Int)) = some (z x) := ixT_map h
theorem cutT_from {β : Type} {z : β → PyData} {l : List β} {k : Nat} : cutD (.tuple (l.map z)) (some (k : Int)) none = some (.tuple ((l.drop k).map z)) := by
  show some (PyData.tuple (cutL _ _ _)) = _
  unfold cutL
  rw [HT.sIx_nat, HT.sIx_none, List.length_map, List.map_drop]
  congr 2
  by_cases h : k ≤ l.length
  · rw [Nat.min_eq_left h, List.take_of_length_le (by rw [List.length_drop, List.length_map]; omega)]
  · rw [Nat.min_eq_right (by omega), Nat.sub_self, List.take_zero, List.drop_eq_nil_of_le (by rw [List.length_map]; omega)]
theorem cutT_to {β : Type} {z : β → PyData} {l : List β} {k : Nat} : cutD (.tuple (l.map z)) none (some (k : Int)) = some (.tuple ((l.take k).map z)) := by
  show some (PyData.tuple (cutL _ _ _)) = _
  unfold cutL
  rw [HT.sIx_nat, HT.sIx_none, List.length_map, List.map_take, List.drop_zero, Nat.sub_zero]
  congr 2
  by_cases h : k ≤ l.length
  · rw [Nat.min_eq_left h]
  · rw [Nat.min_eq_right (by omega), List.take_of_length_le (by rw [List.length_map]; omega), List.take_of_length_le (by rw [List.length_map]; omega)]
end Ov
set_option Elab.async false
set_option linter.all false
set_option maxRecDepth 100000
set_option maxHeartbeats 4000000
namespace Ov
section
open PySem PySem.Spec PyProof.Rows L2
/-! sorted of pairs of numbers, whatever they stand in -/
def PrsV (K : PySem.W.Frag) (H : Hp) (xs : List V) (ps : List (Int × Int)) : Prop := xs.length = ps.length ∧ ∀ (i : Nat) (x : V) (p : Int × Int), xs[i]? = some x → ps[i]? = some p → ∃ t, x = .ref t ∧ TP H t [.int p.1, .int p.2]
end
open PySem L2
/-! the same over data -/
section
variable {K : PySem.W.Frag} {E : XK}
theorem PrsV.same {H H' : Hp} (s : Same H H') {xs : List V} {ps : List (Int × Int)} (h : PrsV K H xs ps) : PrsV K H' xs ps :=
  ⟨h.1, fun i x p hx hp => by obtain ⟨t, e, q⟩ := h.2 i x p hx hp; exact ⟨t, e, q.same s⟩⟩
/-! [..] * n -/
end
end Ov
set_option Elab.async false
set_option linter.all false
set_option maxRecDepth 100000
set_option maxHeartbeats 4000000
namespace Ov
open PySem L2
section
variable {K : PySem.W.Frag} {E : XK}
/-- what a law's script is, and that its answer is True -/
def spT (K : PySem.W.Frag) : Sp := fun vs H Q _ => ∃ (a : Addr) (ns : List Int), vs = [.ref a] ∧ SqL K H a (ns.map V.int) ∧ ∀ v H', v = V.bl true → Q v H'
theorem spT_of {F : List PyData → Option Wv} (h : ∀ ns : List Int, F [.list (ns.map .int)] = some (.dat (.bool true))) {vs : List V} {H : Hp} {Q : VK} {E : XK} (z : spT K vs H Q E) : spA K F vs H Q E := by
  obtain ⟨a, ns, rfl, s, q⟩ := z
  refine ⟨fun _ => False, [.list (ns.map .int)], .dat (.bool true), .cons (.lst (rd_same (fun b o e => (off_ne (fun z => z)).trans e) s) (da_ints _)) .nil, fun _ z => z.elim, h ns, fun v H' lw _ r nd no => ?_⟩
  obtain ⟨_, d⟩ := r
  cases d
  exact q _ _ rfl
end
end Ov
set_option Elab.async false
set_option linter.all false
set_option maxRecDepth 100000
set_option maxHeartbeats 4000000
set_option Elab.async false
set_option linter.all false
set_option maxRecDepth 100000
set_option maxHeartbeats 4000000
namespace Ov
open PySem L2
/-! a def that may raise beside its reading in which nothing is raised -/
theorem FnG.imp {P : Program} {w : World} {K : PySem.W.Frag} {mg : Str → Option Value} {base : Heap} {k : Nat} {f : Addr} {fd : FuncData} {ps : List Str} {sp sp' : Sp} (F : FnG P w K mg base k f fd ps sp) (h : ∀ vs H Q E, sp' vs H Q E → sp vs H Q E) : FnG P w K mg base k f fd ps sp' :=
  ⟨fun q => F.count (h _ _ _ _ q), fun hg hr he hb hv hs => F.go hg hr he hb hv (h _ _ _ _ hs)⟩
/-! the one reading goes as far as the other -/
def Le {α : Type} (x y : M α) : Prop := ∀ env v, x env = some v → y env = some v
section
variable {α β : Type} {env e e1 e2 : En} {C : Addr} {fl : Str} {d : PyData}
theorem Le.refl (x : M α) : Le x x := fun _ _ h => h
/-! an error on its way -/
theorem bind_go {x : M α} {f : α → M β} {a : α} {v : Option (Rs β)} (h : x env = some (.ok a e)) (g : f a e = v) : M.bind x f env = v := by
  unfold M.bind
  rw [h]
  exact g
end
end Ov
set_option Elab.async false
set_option linter.all false
set_option maxRecDepth 100000
set_option maxHeartbeats 4000000
namespace Ov
open PySem L2
/-! what is shown, by its size -/
def FL (L dep : Nat) (d : PyData) : Prop := d.hasDict = false ∧ d.depth ≤ dep ∧ d.showable = true ∧ d.shown.length ≤ L
theorem FL.int {i : Int} (h : -(10 ^ 30) ≤ i ∧ i ≤ 10 ^ 30) : FL 2000 1 (.int i) := leaf_fits (m := 0) (by decide) (show -(10 ^ 30 + ((0 : Nat) : Int)) ≤ i ∧ i ≤ 10 ^ 30 + ((0 : Nat) : Int) from ⟨by omega, by omega⟩)
theorem FL.none : FL 2000 1 .none := leaf_fits (m := 0) (by decide) trivial
theorem FL.mono {L L' dep dep' : Nat} {d : PyData} (h : FL L dep d) (e : L ≤ L') (e' : dep ≤ dep') : FL L' dep' d := ⟨h.1, Nat.le_trans h.2.1 e', h.2.2.1, Nat.le_trans h.2.2.2 e⟩
theorem FL.ints {l : List Int} (h : ∀ x ∈ l, -(10 ^ 30) ≤ x ∧ x ≤ 10 ^ 30) : ∀ e ∈ l.map PyData.int, FL 2000 1 e := fun e he => by
  obtain ⟨i, hi, rfl⟩ := List.mem_map.mp he
  exact .int (h i hi)
/-! which class an error is of -/
/-! loops that end in an error -/
end Ov
set_option Elab.async false
set_option linter.all false
set_option maxRecDepth 100000
set_option maxHeartbeats 4000000
namespace Ov
open PySem L2
/-- x in numbers -/
theorem inF_ints (n : Bool) (h : Int) (ms : List Int) {d : PyData} (hd : seqD d = some (ms.map .int)) : inF n (.int h) d = some (.bool (n ^^ decide (h ∈ ms))) := by
  have at_ : (ms.map PyData.int).all atomD = true := List.all_eq_true.mpr fun d hd => by
    obtain ⟨i, _, rfl⟩ := List.mem_map.mp hd
    rfl
  have an : ((ms.map PyData.int).any fun z => PyData.eqv z (.int h)) = decide (h ∈ ms) := by
    rw [Bool.eq_iff_iff, List.any_eq_true, decide_eq_true_iff]
    constructor
    · rintro ⟨x, hx, e⟩
      obtain ⟨i, hi, rfl⟩ := List.mem_map.mp hx
      have : i = h := by simpa [PyData.eqv] using e
      exact this ▸ hi
    · exact fun hm => ⟨.int h, List.mem_map.mpr ⟨h, hm, rfl⟩, by simp [PyData.eqv]⟩
  unfold inF
  rw [hd]
  simp only
  rw [at_, an]
  rfl
end Ov
set_option Elab.async false
set_option linter.all false
set_option maxRecDepth 100000
set_option maxHeartbeats 4000000
namespace Ov
open PySem L2
/-! lists of own lists -/
section
variable {K : PySem.W.Frag} {E : XK}
/-! own lists lent to a call that gives back something plain -/
/-! x[k].append(v) -/
theorem Rp1s.focus : ∀ {H G : Hp} {vs : List V} {xs : List It1} {l : List Addr} {k : Nat} {x : It1}, Rp1s K H G vs xs l → xs[k]? = some x → ∃ v a lx ly, vs[k]? = some v ∧ l = lx ++ (a ++ ly) ∧ Rp1 K H G v x a ∧
    ∀ {H' G' : Hp} {x' : It1} {a' : List Addr}, Same G G' → (∀ q ∈ lx, H' q = H q) → (∀ q ∈ ly, H' q = H q) → Rp1 K H' G' v x' a' → Rp1s K H' G' vs (xs.set k x') (lx ++ (a' ++ ly))
  | H, G, [], [], l, k, x, h, q => by simp at q
  | H, G, v :: vs, x :: xs, l, 0, _, ⟨a, b, z, h1, h2⟩, q => by
    cases q
    exact ⟨v, a, [], b, rfl, z, h1, fun {H' G' x' a'} sg kx ky h' => ⟨a', b, rfl, h', h2.mv sg ky⟩⟩
  | H, G, v :: vs, x :: xs, l, k + 1, x0, ⟨a, b, z, h1, h2⟩, q => by
    obtain ⟨v0, a0, lx, ly, q1, q2, q3, q4⟩ := Rp1s.focus (k := k) (x := x0) h2 q
    refine ⟨v0, a0, a ++ lx, ly, q1, by rw [z, q2, List.append_assoc], q3, fun {H' G' x' a'} sg kx ky h' => ?_⟩
    refine ⟨a, lx ++ (a' ++ ly), by rw [List.append_assoc], h1.mv sg fun q y => kx q (List.mem_append_left _ y), q4 sg (fun q y => kx q (List.mem_append_right _ y)) ky h'⟩
end
end Ov
set_option Elab.async false
set_option linter.all false
set_option maxRecDepth 100000
set_option maxHeartbeats 4000000
set_option Elab.async false
set_option linter.all false
set_option maxRecDepth 100000
set_option maxHeartbeats 4000000
set_option Elab.async false
set_option linter.all false
set_option maxRecDepth 100000
set_option maxHeartbeats 4000000
set_option Elab.async false
set_option linter.all false
set_option maxRecDepth 100000
set_option maxHeartbeats 4000000
namespace Ov
open PySem L2
section
variable {K : PySem.W.Frag} {E : XK} {bx : Nat}
theorem OkWat.seq {α : Type} {σ : St} {ta : TE} {fa : M Wv} {g : Wv → M α} (oa : OkWat K E σ ta fa) {B : Addr → Prop} {H : Hp} {env : En} {l : List Addr} {rs : Rs α} (r : Rep K B σ H env l) (h : (M.bind fa g) env = some rs) {Q : VK}
    (hx : ∀ C f d, rs = .ex C f d → Exn K E B H l C f d) (hq : ∀ a e v H' lw, g a e = some rs → Rep K (un B lw) σ H' e l → Fr l H H' → RpW K H' (off (un (un B lw) l) H') v a lw → lw.Nodup → (∀ b ∈ lw, H b = none) → Q v H') : ta σ H Q := by
  rcases bind_some h with ⟨a, e, h1, h2⟩ | ⟨C, f, d, h1, h2⟩
  · exact oa.run r h1 (fun v H' lw r' fr q n1 n2 => hq a e v H' lw h2 r' fr q n1 n2)
  · exact oa.run r h1 (hx C f d h2)
end
end Ov
set_option Elab.async false
set_option linter.all false
set_option maxRecDepth 100000
set_option maxHeartbeats 4000000
set_option Elab.async false
set_option linter.all false
set_option maxRecDepth 100000
set_option maxHeartbeats 4000000
set_option Elab.async false
set_option linter.all false
set_option maxRecDepth 100000
set_option maxHeartbeats 4000000
namespace Ov
open PySem L2 PySem.Spec PyProof.Rows
/-! dict(zip(a, b)), each of them a list or a tuple -/
theorem SeB.ob {t : Bool} {h : Heap} {l : Addr} {its : Array Value} (x : SeB t h l its) : ∃ o, h.get? l = some o := by
  cases t with
  | true => obtain ⟨o, e, _⟩ := x; exact ⟨o, e⟩
  | false => obtain ⟨o, e, _⟩ := x; exact ⟨o, e⟩
theorem SeB.up {t : Bool} {h h' : Heap} {l : Addr} {its : Array Value} (x : SeB t h l its) (f : ∀ o, h.get? l = some o → h'.get? l = some o) : SeB t h' l its := by
  cases t with
  | true => obtain ⟨o, e, r⟩ := x; exact ⟨o, f _ e, r⟩
  | false => obtain ⟨o, e, r⟩ := x; exact ⟨o, f _ e, r⟩
/-! as data -/
end Ov
set_option Elab.async false
set_option linter.all false
set_option maxRecDepth 100000
set_option maxHeartbeats 4000000
set_option Elab.async false
set_option linter.all false
set_option maxRecDepth 100000
set_option maxHeartbeats 4000000
namespace Ov
open PySem L2
/-! equations of the pieces of Q48 -/
theorem catTi {z : Int → PyData} (a b : List Int) (h : a.length + b.length ≤ 1000000) : catT (.tuple (a.map z)) (.tuple (b.map z)) = some (.tuple ((a ++ b).map z)) := by
  rw [v_catT _ _ (by rw [List.length_map, List.length_map]; exact h), List.map_append]
end Ov
set_option Elab.async false
set_option linter.all false
set_option maxRecDepth 100000
set_option maxHeartbeats 4000000
namespace Ov
section
open PySem PySem.Spec PySem.Calls PyProof.Rows L2
/-! sorted of tuples of numbers: all of them with items, or all without -/
section
variable {prog : Program} {w : World} {A : Around} {E : Value → Shared → Prop} {s : Shared} {Q : Bool → Shared → Prop} {b : Bool}
theorem lex_any : ∀ {xs ys : List Value} {ns ms : List Int} (i : Nat), IntsAre xs ns → IntsAre ys ms → ∀ {fin : Bool}, fin = decide (ns.length < ms.length) → Q (HT.lexLt ns ms) s → PySem.W.KatLex prog w A b fin Q (xs.zip ys) i s
  | _, _, _, _, i, .nil, .nil, fin, hf, h => by
    rw [HT.lexLt_nil_nil] at h
    rw [hf]
    exact PySem.W.kat_nil h
  | _, _, _, _, i, .nil, .cons c u hy, fin, hf, h => by
    rw [HT.lexLt_nil_cons] at h
    have : fin = true := by rw [hf]; exact decide_eq_true (by simp)
    rw [this]
    exact PySem.W.kat_nil h
  | _, _, _, _, i, .cons a t hx, .nil, fin, hf, h => by
    rw [HT.lexLt_cons_nil] at h
    have : fin = false := by rw [hf]; exact decide_eq_false (by simp)
    rw [this]
    exact PySem.W.kat_nil h
  | _, _, _, _, i, @IntsAre.cons p t xs ns hx, @IntsAre.cons q u ys ms hy, fin, hf, h => by
    show PySem.W.KatLex prog w A b fin Q ((Value.int p t, Value.int q u) :: xs.zip ys) i s
    rw [HT.lexLt_cons] at h
    refine PySem.W.kat_cons (wpAny_eqBool_int ?_)
    by_cases e : p = q
    · subst e
      rw [beq_self_eq_true]
      rw [if_pos rfl] at h
      exact PySem.W.kat_yes (lex_any (i + 1) hx hy (by rw [hf, List.length_cons, List.length_cons]; exact decide_eq_decide.mpr (by omega)) h)
    · have e' : (p == q) = false := by simpa using e
      rw [if_neg e] at h
      rw [e']
      exact PySem.W.kat_no (TS.oneLt_ints _ h)
theorem tups_cmp1 {vs : List Value} {k : Value → List Int} (hp : ∀ v ∈ vs, TS.TupInts s.heap v (k v)) : SrtO.Cmp prog w A s (tuples' true) (fun p => p.1 ∈ vs) (SrtO.lt2 fun v u => HT.lexLt (k v) (k u)) := by
  intro p q hm hm'
  have h1 := hp _ hm
  have h2 := hp _ hm'
  show wpAny (model prog w) A (keyLt' (tuples' true) p.1 q.1) (fun r s' => s' = s ∧ r = HT.lexLt (k p.1) (k q.1)) (fun _ _ => False) s
  generalize k p.1 = ns at h1 ⊢
  generalize k q.1 = ms at h2 ⊢
  obtain ⟨a, xs, e, ⟨o, ho, hc, n, hd⟩, i⟩ := h1
  obtain ⟨a', ys, e', ⟨o', ho', hc', n', hd'⟩, i'⟩ := h2
  rw [e, e']
  refine PySem.W.kat_lt ho hd ho' hd' (lex_any 0 i i' ?_ ⟨rfl, rfl⟩)
  have l1 := i.length
  have l2 := i'.length
  rw [Array.length_toList] at l1 l2
  rw [l1, l2]
theorem call_ltT {a c : Addr} {xs ys : Array Value} {ns ms : List Int} {P : Value → Shared → Prop} {E : Value → Shared → Prop} (ha : IsTup s.heap a xs) (hb : IsTup s.heap c ys) (ia : IntsAre xs.toList ns) (ib : IntsAre ys.toList ms) (h : P (.bool (HT.lexLt ns ms)) s) :
    wpAny (model prog w) A (call (.builtin "tuple.__lt__") [.ref a, .ref c]) P E s := by
  obtain ⟨⟨cls, dd, data, sl⟩, ho, hc, n, hd⟩ := id ha
  obtain ⟨⟨cls2, dd2, data2, sl2⟩, ho2, hc2, n2, hd2⟩ := id hb
  simp only at hc hd hc2 hd2
  subst hc hd hc2 hd2
  refine wpAny_call (codeAny_call_builtin PySem.F.slot_tuple_lt.plain PySem.F.entry_tuple_lt (PySem.F.slot_tuple_lt.check _ _ _ _ _ _ _ _ ⟨_, ho, rfl⟩ (PySem.F.args_tuple_lt_2 _ _) (wpAny_mono (HT.tuple_lt_ints a c xs ys n n2 dd dd2 sl sl2 ns ms ia ib prog w _ (wants P E) s ⟨ho, ho2, h⟩) (fun fin s' q => ?_) fun _ _ z => z)))
  cases fin with
  | done f => exact q
  | again c => exact q
theorem tups_cmp0 {vs : List Value} {k : Value → List Int} (hu : A.units < cLine) (hp : ∀ v ∈ vs, TS.TupInts s.heap v (k v)) : SrtO.Cmp prog w A s oneType' (fun p => p.1 ∈ vs) (SrtO.lt2 fun v u => HT.lexLt (k v) (k u)) := by
  intro p q hm hm'
  have h1 := hp _ hm
  have h2 := hp _ hm'
  show wpAny (model prog w) A (keyLt' oneType' p.1 q.1) (fun r s' => s' = s ∧ r = HT.lexLt (k p.1) (k q.1)) (fun _ _ => False) s
  generalize k p.1 = ns at h1 ⊢
  generalize k q.1 = ms at h2 ⊢
  obtain ⟨a, xs, e, ha, i⟩ := h1
  obtain ⟨a', ys, e', hb, i'⟩ := h2
  rw [e, e', keyLt'_oneType, oneLt'_eq]
  simp only [if_true]
  refine wpAny_bind (wpAny_cRoomFor hu ?_)
  obtain ⟨o, ho, hc, n, hd⟩ := id ha
  refine wpAny_bind (wpAny_callSpecialIfBound?_slot ⟨_, ho, hc⟩ PySem.F.slot_tuple_lt (call_ltT ha hb i i' ?_))
  exact wpAny_truthy_bool ⟨rfl, rfl⟩
theorem firsts_any {h : Heap} {k : Value → List Int} : ∀ vs : List Value, (∀ v ∈ vs, TS.TupInts h v (k v) ∧ k v ≠ []) → ∃ fs, PySem.W.KatTups h vs fs ∧ fs.length = vs.length ∧ ∀ f, f ∈ fs → ∃ n t, f = Value.int n t
  | [], _ => ⟨[], PySem.W.KatTups.nil, rfl, fun f hf => by simp at hf⟩
  | v :: vs, x => by
    obtain ⟨fs, g, hl, hi⟩ := firsts_any vs fun u hu => x u (List.mem_cons_of_mem _ hu)
    obtain ⟨⟨a, xs, rfl, ⟨o, ho, hc, n, hdt⟩, i⟩, hn⟩ := x v (List.mem_cons_self ..)
    obtain ⟨y, ys, e⟩ : ∃ y ys, xs.toList = y :: ys := by
      cases q : xs.toList with
      | nil =>
        rw [q] at i
        have l := i.length
        rw [List.length_nil] at l
        exact absurd (List.length_eq_zero_iff.mp l.symm) hn
      | cons y ys => exact ⟨y, ys, rfl⟩
    obtain ⟨m, t, hy⟩ := i.all y (by rw [e]; exact List.mem_cons_self ..)
    refine ⟨y :: fs, PySem.W.KatTups.cons ho hc hdt ?_ g, by simp [hl], ?_⟩
    · have z := congrArg (fun l : List Value => l[0]?) e
      simpa using z
    · intro f hf
      rcases List.mem_cons.mp hf with rfl | hf
      · exact ⟨m, t, hy⟩
      · exact hi f hf
theorem keep_tup {h h' : Heap} {a : Addr} {v : Value} {ns : List Int} (ha : ∀ o, h.get? a = some o → o.cls ≠ .type "tuple") (keep : ∀ b o, b ≠ a → h.get? b = some o → h'.get? b = some o) (x : TS.TupInts h v ns) : TS.TupInts h' v ns :=
  x.keeps fun b o e c => keep b o (fun z => by subst z; exact ha o e c) e
theorem tups_sort1 {a : Addr} {vs : List Value} {k : Value → List Int} (h0 : 0 < vs.length) (hp : ∀ v ∈ vs, TS.TupInts s.heap v (k v) ∧ k v ≠ []) (ha : ∀ o, s.heap.get? a = some o → o.cls ≠ .type "tuple") :
    SrtO.SortableO prog w A s a vs fun v u => HT.lexLt (k v) (k u) := by
  intro h' keep
  have hp' : ∀ v ∈ vs, TS.TupInts h' v (k v) ∧ k v ≠ [] := fun v hm => ⟨keep_tup ha keep (hp v hm).1, (hp v hm).2⟩
  obtain ⟨fs, h1, h2, h3⟩ := firsts_any vs hp'
  refine ⟨tuples' true, fun Q E hq => ?_, tups_cmp1 (s := { s with heap := h' }) fun v hm => (hp' v hm).1⟩
  refine PySem.W.kat_kind (T := .type "int") h1 (by omega) (fun f hm => ?_) (by rfl) ?_
  · obtain ⟨x, t, rfl⟩ := h3 f hm
    exact PySem.W.Looks.now
  · have e : (Value.type "int" != Value.type "tuple") = true := by first | decide +kernel | rfl | decide
    rw [e]
    exact hq
theorem kind0 {M : Model} {vs : List Value} {Q : SortKind → Shared → Prop} (h2 : 2 ≤ vs.length) (hp : ∀ v ∈ vs, TS.TupInts s.heap v []) (h : Q oneType' s) : wpAny M A (keyKind' vs.toArray) Q E s := by
  have hT : ∀ v ∈ vs, PySem.W.Looks M s.heap (typeOf v) (Value.type "tuple") := fun v hv => by
    obtain ⟨a, xs, rfl, ⟨o, ho, hc, n, hdt⟩, i⟩ := hp v hv
    have : PySem.W.Looks M s.heap (typeOf (.ref a)) o.cls := (PySem.W.Looks.ld ho).andThen .now
    rwa [hc] at this
  obtain ⟨v₁, v₂, rest, rfl⟩ : ∃ v₁ v₂ rest, vs = v₁ :: v₂ :: rest := by
    match vs, h2 with
    | [], h2 => simp at h2
    | [_], h2 => simp at h2
    | v₁ :: v₂ :: rest, _ => exact ⟨v₁, v₂, rest, rfl⟩
  have hT2 : (Value.type "tuple" == Value.type "tuple") = true := by first | rfl | decide +kernel
  have hT1 : ¬ (Value.type "tuple" != Value.type "tuple") = true := by first | decide +kernel | decide
  rw [keyKind'_eq, List.mapM_toArray, map_eq_pure_bind]
  refine wpAny_bind (wpAny_bind (PySem.W.kas_mapM (r := none) _ (fun v hv Q' hq => ?_) (wpAny_pure ?_)))
  · rw [PySem.W.kas_first_eq]
    refine wpAny_bind ((hT v hv).here ?_)
    rw [if_neg hT1]
    obtain ⟨a, xs, rfl, ⟨o, ho, hc, n, hdt⟩, i⟩ := hp v hv
    refine wpAny_bind (listItems_at ho hdt (wpAny_pure ?_))
    have l : xs.size = 0 := by
      have := i.length
      rw [Array.length_toList] at this
      exact this
    have : xs[0]? = none := Array.getElem?_eq_none (by omega)
    rw [this]
    exact hq
  · rw [if_neg (by simp), if_neg (by simp)]
    rw [oneTypeOnly'_eq, List.mapM_toArray, map_eq_pure_bind]
    refine wpAny_bind (wpAny_bind (wpAny_bind (PySem.W.kas_mapM (r := Value.type "tuple") _ (fun v hv Q' hq => (hT v hv).here hq) (wpAny_pure ?_))))
    have hall : ((List.map (fun _ => Value.type "tuple") (v₁ :: v₂ :: rest)).toArray.all fun x => x == Value.type "tuple") = true := by
      simp only [List.all_toArray, List.all_map, List.all_eq_true]
      intro _ _
      exact hT2
    have h0 : (List.map (fun _ => Value.type "tuple") (v₁ :: v₂ :: rest)).toArray[0]? = some (Value.type "tuple") := by simp
    rw [h0]
    simp only [hall, if_true]
    exact wpAny_pure (wpAny_pure h)
theorem tups_sort0 {a : Addr} {vs : List Value} {k : Value → List Int} (hu : A.units < cLine) (h2 : 2 ≤ vs.length) (hp : ∀ v ∈ vs, TS.TupInts s.heap v (k v) ∧ k v = []) (ha : ∀ o, s.heap.get? a = some o → o.cls ≠ .type "tuple") :
    SrtO.SortableO prog w A s a vs fun v u => HT.lexLt (k v) (k u) := by
  intro h' keep
  have hp' : ∀ v ∈ vs, TS.TupInts h' v (k v) := fun v hm => keep_tup ha keep (hp v hm).1
  exact ⟨oneType', fun Q E hq => kind0 (s := { s with heap := h' }) h2 (fun v hm => by have := hp' v hm; rwa [(hp v hm).2] at this) hq, tups_cmp0 (s := { s with heap := h' }) hu hp'⟩
/-- sorted(l) -/
theorem sorted_tupsA {l : Addr} {vs : List Value} {k : Value → List Int} {Q : Value → Shared → Prop} (hu : A.units + 2 < cLine) (hl : s.heap.IsList l vs.toArray) (hz : vs.length ≤ sizeLine) (hp : ∀ v ∈ vs, TS.TupInts s.heap v (k v)) (hd : (∀ v ∈ vs, k v ≠ []) ∨ ∀ v ∈ vs, k v = [])
    (h : ∀ (h' : Heap) (d : Addr) (out : List Value), SrtO.Srtd (fun v u => HT.lexLt (k v) (k u)) out → SrtO.Stb (fun v u => HT.lexLt (k v) (k u)) out vs → (∀ b o, s.heap.get? b = some o → h'.get? b = some o) → s.heap.objs.size ≤ d → (∃ n, h'.get? d = some (seqObj "list" out.toArray n)) → Q (.ref d) { s with heap := h' }) :
    wpAny (model prog w) A (call (.builtin "sorted") [.ref l]) Q E s := by
  refine SrtO.sorted_ord (NtL.swo_lexL k) hl hz (fun h2 h₁ a ha kk => ?_) fun out hs hb => ?_
  · have hp' : ∀ v ∈ vs, TS.TupInts h₁ v (k v) := fun v hm => (hp v hm).keeps fun b o e _ => (kk b o e).2
    have hc : ∀ o, h₁.get? a = some o → o.cls ≠ .type "tuple" := fun o e => by
      have e' : some o = some (seqObj "list" vs.toArray 0) := e.symm.trans ha
      cases e'
      intro c
      exact absurd (Value.type.inj c) (by decide)
    rcases hd with hd | hd
    · exact tups_sort1 (s := { s with heap := h₁ }) (by omega) (fun v hm => ⟨hp' v hm, hd v hm⟩) hc
    · exact tups_sort0 (s := { s with heap := h₁ }) (by show A.units + 1 + 1 < cLine; omega) h2 (fun v hm => ⟨hp' v hm, hd v hm⟩) hc
  · exact h _ _ out hs hb (fun b o e => sortedAll_old e) (Nat.le_succ _) (sortedAll_at s.heap vs out.toArray)
end
/-- sorted(xs), xs a list of tuples of numbers -/
def NsV (K : PySem.W.Frag) (H : Hp) (xs : List V) (nss : List (List Int)) : Prop := xs.length = nss.length ∧ ∀ (i : Nat) (x : V) (ns : List Int), xs[i]? = some x → nss[i]? = some ns → ∃ t, x = .ref t ∧ TP H t (ns.map V.int)
def rSortTT (K : PySem.W.Frag) : List V → Hp → VK → Prop := fun vs H Q => ∃ (a : Addr) (xs : List V) (nss : List (List Int)), vs = [V.ref a] ∧ SqL K H a xs ∧ NsV K H xs nss ∧ ((∀ ns ∈ nss, ns ≠ []) ∨ ∀ ns ∈ nss, ns = []) ∧
  ∀ (ys : List V) (mss : List (List Int)) (p : Addr), mss.Perm nss → mss.Pairwise (fun a b => HT.lexLt b a = false) → NsV K H ys mss → H p = none → Q (.ref p) (upd H p (.lst ys))
theorem cr_sortTT {X : Cx} (hu : X.A.units + 64 < cLine) : CallR X (.builtin "sorted") (rSortTT X.K) := by
  intro pins s σ H vs us Q I r h
  obtain ⟨a, xs, nss, rfl, hs, ⟨hlen, hx⟩, hd, q⟩ := h
  obtain ⟨its, rv, hl, hz⟩ := I.list hs
  obtain ⟨u, rfl, ru⟩ := vals1 r
  obtain rfl : u = Value.ref a := ru
  have hx' : ∀ x ∈ xs, ∃ t, x = V.ref t := fun x m => by
    obtain ⟨i, hi, e⟩ := List.getElem_of_mem m
    obtain ⟨t, ht, _⟩ := hx i x (nss[i]'(by omega)) (by rw [← e]; exact List.getElem?_eq_getElem hi) (List.getElem?_eq_getElem (by omega))
    exact ⟨t, ht⟩
  obtain ⟨e1, e2⟩ := refs_back rv hx'
  have li : its.length = nss.length := by rw [← hlen, e1, List.length_map]
  have pr : ∀ (i : Nat) (v : Value) (ns : List Int), its[i]? = some v → nss[i]? = some ns → TS.TupInts s.heap v ns ∧ ∃ t, v = .ref t ∧ TP H t (ns.map V.int) := fun i v ns h1 h2 => by
    obtain ⟨t, rfl⟩ := e2 v (List.mem_of_getElem? h1)
    obtain ⟨t', e, ht⟩ := hx i (.ref t) ns (by rw [e1, List.getElem?_map, h1]; rfl) h2
    cases e
    exact ⟨tupI_raw I ht.sq, t, rfl, ht⟩
  have hk : its.map (TS.intsOf s.heap) = nss := by
    apply List.ext_getElem?
    intro i
    rw [List.getElem?_map]
    cases h1 : its[i]? with
    | none =>
      have : its.length ≤ i := List.getElem?_eq_none_iff.mp h1
      rw [List.getElem?_eq_none (by omega)]
      rfl
    | some v =>
      have lt : i < its.length := (List.getElem?_eq_some_iff.mp h1).1
      have h2 : nss[i]? = some (nss[i]'(by omega)) := List.getElem?_eq_getElem (by omega)
      rw [h2]
      show some (TS.intsOf s.heap v) = _
      rw [(pr i v _ h1 h2).1.ints]
  have mem : ∀ v ∈ its, TS.intsOf s.heap v ∈ nss ∧ TS.TupInts s.heap v (TS.intsOf s.heap v) ∧ ∃ t, v = .ref t ∧ TP H t ((TS.intsOf s.heap v).map V.int) := fun v hv => by
    obtain ⟨i, hi, e⟩ := List.getElem_of_mem hv
    have h2 : nss[i]? = some (nss[i]'(by omega)) := List.getElem?_eq_getElem (by omega)
    obtain ⟨k1, k3⟩ := pr i v _ (by rw [← e]; exact List.getElem?_eq_getElem hi) h2
    rw [k1.ints]
    exact ⟨List.getElem_mem _, k1, k3⟩
  refine sorted_tupsA (k := TS.intsOf s.heap) (by omega) hl.isList (by rw [← rv.length]; exact hz) (fun v hv => (mem v hv).2.1) (hd.imp (fun z v hv => z _ (mem v hv).1) fun z v hv => z _ (mem v hv).1) fun h' d out h1 h2 kp hdd hn => ?_
  have h3 : ∀ u ∈ out, ∃ a, u = Value.ref a := fun u hu => e2 u (h2.perm.mem_iff.mp hu)
  obtain ⟨n, hn⟩ := hn
  have lo : out.length = its.length := h2.perm.length_eq
  refine ⟨.ref d, upd H d (.lst (out.map backV)), I.laid (t' := s.toks) kp hdd ⟨?_, out, n, vals_back h3, hn⟩, rfl, q _ (out.map (TS.intsOf s.heap)) d ?_ ?_ ⟨by rw [List.length_map, List.length_map], fun i y z hy hz => ?_⟩ (I.hok.fresh hdd)⟩
  · rw [List.length_map, lo, ← rv.length]
    exact hz
  · rw [← hk]
    exact h2.perm.map _
  · exact List.pairwise_map.mpr (List.Pairwise.imp (fun z => z) h1)
  · rw [List.getElem?_map] at hy hz
    obtain ⟨u, hu, rfl⟩ := Option.map_eq_some_iff.mp hy
    obtain ⟨u', hu', rfl⟩ := Option.map_eq_some_iff.mp hz
    rw [hu] at hu'
    cases hu'
    obtain ⟨_, _, t, e, k3⟩ := mem u (h2.perm.mem_iff.mp (List.mem_of_getElem? hu))
    refine ⟨t, ?_, k3⟩
    rw [e]
    rfl
end
open PySem L2
/-! the same over data -/
def inL : List PyData → Option (List Int)
  | [] => some []
  | .int i :: r => (inL r).map (i :: ·)
  | _ :: _ => none
theorem inL_map : ∀ ns : List Int, inL (ns.map .int) = some ns
  | [] => rfl
  | n :: r => by show (inL (r.map .int)).map (n :: ·) = _; rw [inL_map r]; rfl
theorem inL_some : ∀ {ds : List PyData} {ns : List Int}, inL ds = some ns → ds = ns.map .int
  | [], ns, h => by cases h; rfl
  | d :: r, ns, h => by
    unfold inL at h
    split at h
    · rename_i heq; cases heq
    · rename_i i r' heq
      cases heq
      obtain ⟨z, h1, h2⟩ := Option.map_eq_some_iff.mp h
      subst h2
      rw [List.map_cons, ← inL_some h1]
    · cases h
def nssD : List PyData → Option (List (List Int))
  | [] => some []
  | .tuple ds :: r => (inL ds).bind fun ns => (nssD r).map (ns :: ·)
  | _ :: _ => none
def tnD (ns : List Int) : PyData := .tuple (ns.map .int)
theorem nssD_map : ∀ nss : List (List Int), nssD (nss.map tnD) = some nss
  | [] => rfl
  | ns :: r => by
    show (inL (ns.map .int)).bind (fun ns => (nssD (r.map tnD)).map (ns :: ·)) = _
    rw [inL_map, nssD_map r]
    rfl
theorem nssD_some : ∀ {ds : List PyData} {nss : List (List Int)}, nssD ds = some nss → ds = nss.map tnD
  | [], nss, h => by cases h; rfl
  | d :: r, nss, h => by
    unfold nssD at h
    split at h
    · rename_i heq; cases heq
    · rename_i ds r' heq
      cases heq
      obtain ⟨ns, h1, h2⟩ := Option.bind_eq_some_iff.mp h
      obtain ⟨z, h3, h4⟩ := Option.map_eq_some_iff.mp h2
      subst h4
      rw [List.map_cons, ← nssD_some h3, inL_some h1]
      rfl
    · cases h
def leLb (a b : List Int) : Bool := !HT.lexLt b a
def sortL (nss : List (List Int)) : List (List Int) := nss.mergeSort leLb
theorem sortL_perm (nss : List (List Int)) : (sortL nss).Perm nss := List.mergeSort_perm ..
theorem lex_tot : ∀ a b : List Int, HT.lexLt a b = false → HT.lexLt b a = false → a = b
  | [], [], _, _ => rfl
  | [], y :: b, h, _ => by rw [HT.lexLt_nil_cons] at h; cases h
  | x :: a, [], _, h => by rw [HT.lexLt_nil_cons] at h; cases h
  | x :: a, y :: b, h1, h2 => by
    rw [HT.lexLt_cons] at h1 h2
    by_cases e : x = y
    · rw [if_pos e] at h1
      rw [if_pos e.symm] at h2
      rw [e, lex_tot a b h1 h2]
    · rw [if_neg e] at h1
      rw [if_neg (Ne.symm e)] at h2
      have := of_decide_eq_false h1
      have := of_decide_eq_false h2
      omega
theorem sortL_pw (nss : List (List Int)) : (sortL nss).Pairwise fun a b => HT.lexLt b a = false := by
  have := List.pairwise_mergeSort (le := leLb) (fun a b c h1 h2 => by
    unfold leLb at *
    have h1' : HT.lexLt b a = false := by simpa using h1
    have h2' : HT.lexLt c b = false := by simpa using h2
    simpa using NtL.lex_tr a b c h1' h2') (fun a b => by
    unfold leLb
    rcases hq : HT.lexLt b a with _ | _
    · rfl
    · have := NtL.lex_asym _ _ hq
      rw [this]
      rfl) nss
  exact this.imp fun h => by unfold leLb at h; simpa using h
theorem sortL_uniq {a b : List (List Int)} (p : a.Perm b) (ha : a.Pairwise fun a b => HT.lexLt b a = false) (hb : b.Pairwise fun a b => HT.lexLt b a = false) : a = b := p.eq_of_pairwise (fun x y _ _ h1 h2 => lex_tot x y h2 h1) ha hb
def alike (nss : List (List Int)) : Bool := nss.all (fun ns => !ns.isEmpty) || nss.all fun ns => ns.isEmpty
theorem alike_or {nss : List (List Int)} (h : alike nss = true) : (∀ ns ∈ nss, ns ≠ []) ∨ ∀ ns ∈ nss, ns = [] := by
  unfold alike at h
  rcases (Bool.or_eq_true _ _).mp h with h | h
  · exact .inl fun ns hn z => by
      have := List.all_eq_true.mp h ns hn
      rw [z] at this
      cases this
  · exact .inr fun ns hn => List.isEmpty_iff.mp (List.all_eq_true.mp h ns hn)
def sortTD (as : List PyData) : Option PyData :=
  match as with
  | [.list ds] => (nssD ds).bind fun nss => if alike nss = true then some (.list ((sortL nss).map tnD)) else none
  | _ => none
section
variable {K : PySem.W.Frag} {E : XK}
theorem da_nums : ∀ {H : Hp} {xs : List V} {ns : List Int}, DaAll K H xs (ns.map .int) → xs = ns.map V.int
  | H, _, [], .nil => rfl
  | H, _, n :: ns, .cons h t => by
    cases h
    rw [List.map_cons, ← da_nums t]
theorem nums_da {H : Hp} : ∀ ns : List Int, DaAll K H (ns.map V.int) (ns.map .int)
  | [] => .nil
  | n :: ns => .cons (.int _) (nums_da ns)
theorem da_nss {H : Hp} {xs : List V} {nss : List (List Int)} (h : DaAll K H xs (nss.map tnD)) : NsV K H xs nss := by
  refine ⟨by rw [daAll_len h, List.length_map], fun i x p hx hp => ?_⟩
  obtain ⟨x', hx', d⟩ := daAll_get h (i := i) (d := tnD p) (by rw [List.getElem?_map, hp]; rfl)
  rw [hx] at hx'
  cases hx'
  cases d with
  | tup q t =>
    rw [da_nums t] at q
    exact ⟨_, rfl, q⟩
theorem nsV_da {H : Hp} : ∀ {xs : List V} {nss : List (List Int)}, NsV K H xs nss → DaAll K H xs (nss.map tnD)
  | [], [], _ => .nil
  | [], _ :: _, h => by have := h.1; simp at this
  | _ :: _, [], h => by have := h.1; simp at this
  | x :: xs, p :: ps, h => by
    obtain ⟨t, rfl, q⟩ := h.2 0 x p rfl rfl
    exact .cons (.tup q (nums_da p)) (nsV_da ⟨by have := h.1; simpa using this, fun i y z hy hz => h.2 (i + 1) y z (by simpa using hy) (by simpa using hz)⟩)
theorem NsV.same {H H' : Hp} (s : Same H H') {xs : List V} {nss : List (List Int)} (h : NsV K H xs nss) : NsV K H' xs nss :=
  ⟨h.1, fun i x p hx hp => by obtain ⟨t, e, q⟩ := h.2 i x p hx hp; exact ⟨t, e, q.same s⟩⟩
theorem ok_sortT : CbOk K (rSortTT K) sortTD := by
  intro S H xs as d hS w e Q q
  unfold sortTD at e
  split at e
  · rename_i ds
    obtain ⟨nss, e1, e2⟩ := Option.bind_eq_some_iff.mp e
    split at e2
    · rename_i al
      cases e2
      obtain ⟨x, rfl, wx⟩ := vwAll1 w
      obtain ⟨p, vs, rfl, h2, h3⟩ := vw_list wx
      have e3 := nssD_some e1
      subst e3
      have pv := da_nss h3
      refine ⟨p, vs, nss, rfl, h2, pv.same (off_sub _ _), alike_or al, fun ys qs r pm pw py hr => ?_⟩
      have : qs = sortL nss := sortL_uniq (pm.trans (sortL_perm nss).symm) pw (sortL_pw nss)
      subst this
      refine q _ _ (same_new hr _) ?_
      refine (new_dp hS hr (nsV_da ⟨py.1, fun i y z hy hz => ?_⟩)).1
      obtain ⟨t, e, k⟩ := py.2 i y z hy hz
      exact ⟨t, e, off_P hS k⟩
    · cases e2
  · cases e
end
section
variable {X : Cx} {K : PySem.W.Frag} (hK : X.K = K)
include hK
theorem k_sortTT (hu : X.A.units + 64 < cLine) : CallR X (.builtin "sorted") (rSortTT K) := by subst hK; exact cr_sortTT hu
end
theorem sortTm_x' {nss : List (List Int)} (h : alike nss = true) : sortTD [.list (nss.map tnD)] = some (.list ((sortL nss).map tnD)) := by
  unfold sortTD
  simp only
  rw [nssD_map]
  show (if alike nss = true then _ else none) = _
  rw [if_pos h]
end Ov
set_option Elab.async false
set_option linter.all false
set_option maxRecDepth 100000
set_option maxHeartbeats 4000000
set_option Elab.async false
set_option linter.all false
set_option maxRecDepth 100000
set_option maxHeartbeats 4000000
set_option Elab.async false
set_option linter.all false
set_option maxRecDepth 100000
set_option maxHeartbeats 4000000
namespace Ov
section
open PySem PySem.Spec L2
variable {K : PySem.W.Frag} {E : XK}
/-! x[k].append(y), k and y numbers in slots -/
theorem Rep.int {B : Addr → Prop} {σ : St} {H : Hp} {env : En} {l : List Addr} {j : Nat} {k : Int} (r : Rep K B σ H env l) (h : env[j]? = some (some (.dat (.int k)))) : σ[j]? = some (some (.int k)) := by
  obtain ⟨s, a, lx, ly, q1, q2, ⟨v, q3, q4⟩, _⟩ := r.rp.focus h
  subst q3
  have := q4.2
  cases this
  exact q1
/-! [[] for x in ..] -/
end
end Ov
set_option Elab.async false
set_option linter.all false
set_option maxRecDepth 100000
set_option maxHeartbeats 4000000
set_option Elab.async false
set_option linter.all false
set_option maxRecDepth 100000
set_option maxHeartbeats 4000000
set_option Elab.async false
set_option linter.all false
set_option maxRecDepth 100000
set_option maxHeartbeats 4000000
namespace L2
open PySem PySem.Spec PyProof.Rows
/-- the dict at p in H -/
def HN (H : Hp) (p : Addr) (kvs : List (NestedKey × Int)) : Prop := ∃ o xs, H p = some (objO p o) ∧ NOb p o xs ∧ NX H xs kvs ∧ (kvs.map (·.1)).Nodup
/-- what may come in its place -/
def HNput (H : Hp) (p : Addr) (kvs : List (NestedKey × Int)) (Q : Hp → Prop) : Prop := ∀ o xs, NOb p o xs → NX H xs kvs → (kvs.map (·.1)).Nodup → Q (upd H p (objO p o))
theorem objO_ne {p : Addr} {o : Obj} {xs : List V} : some (objO p o) ≠ some (.tup xs) := fun z => by
  have z' : some (HO.ext _) = some (HO.tup xs) := z
  cases z'
def tDNewN : TE := fun _ H Q => ∀ p o, H p = none → NOb p o [] → Q (.ref p) (upd H p (objO p o))
def tDispN (tk tv : TE) : TE := fun σ H Q => ∀ p, H p = none → tPairs [(tk, tv)] σ (upd H p (.dT [])) fun ps H2 => H2 p = some (.dT []) ∧ ∃ (b : Addr) (k : NestedKey) (i : Int), ps = [(.ref b, .int i)] ∧ Nk H2 (.ref b) k ∧ k.depth ≤ 8 ∧ HNput H2 p [(k, i)] (Q (.ref p))
def sDPutN (td ty tv : TE) : TS := fun D σ H => tv σ H fun v H1 => td σ H1 fun x H2 => ty σ H2 fun y H3 => ∃ p b kvs k i, x = .ref p ∧ y = .ref b ∧ v = .int i ∧ HN H3 p kvs ∧ Nk H3 (.ref b) k ∧ k.depth ≤ 8 ∧ kvs.length < 100000 ∧ HNput H3 p (putN kvs k i) (D.nx σ)
def tDGetN (td ty : TE) : TE := fun σ H Q => td σ H fun x H1 => ty σ H1 fun y H2 => ∃ p b kvs k i, x = .ref p ∧ y = .ref b ∧ HN H2 p kvs ∧ Nk H2 (.ref b) k ∧ k.depth ≤ 8 ∧ lookN kvs k = some i ∧ Q (.int i) H2
section
variable {X : Cx} {pos pos' tpos apos cpos : Pos} {td ty tv tx tk : TE} {o i e f k v value : Expr}
theorem hn_dict {pins : List (Addr × Obj)} {σ : St} {H : Hp} {s : Shared} {p : Addr} {kvs : List (NestedKey × Int)} (I : Inv X pins σ H s) (h : HN H p kvs) : ∃ xs, s.heap.DictOfH (nestedKind X.prog X.w) p xs ∧ NX H xs kvs ∧ (p == sysModules) = false := by
  obtain ⟨o, xs, e, x, r, nd⟩ := h
  exact ⟨xs, n_dict I.hok e x r nd, r, x.1⟩
theorem nk_is {pins : List (Addr × Obj)} {σ : St} {H : Hp} {s : Shared} {b : Addr} {k : NestedKey} (I : Inv X pins σ H s) (h : Nk H (.ref b) k) (d : k.depth ≤ 8) : (nestedKind X.prog X.w).is s.heap k b := ⟨Nk.is I.hok k h rfl, d⟩
theorem pe_dnewN : PE X (.Dict [] [] pos) tDNewN := ⟨fun pins s σ H Q I h =>
  wpAny_Dict_empty ⟨.ref s.heap.objs.size, _, I.laid (a := s.heap.objs.size) (o := objO s.heap.objs.size { cls := .type "dict", data := .dict #[] }) (t' := s.toks) (fun _ _ q => Heap.get?_push_of_some _ q) (Nat.le_refl _) (objO_ok (Heap.get?_push_size _ rfl)), rfl,
    h _ _ (I.hok.fresh (Nat.le_refl _)) ⟨beq_eq_false_iff_ne.mpr (Ne.symm (Nat.ne_of_lt I.big)), ⟨rfl, rfl, rfl⟩, #[], 0, rfl, fun _ => rfl⟩⟩⟩
theorem pe_dgetN (hu : X.A.units + 65 < cLine) (ho : PE X o td) (hi : PE X i ty) (hs : NoSl i) : PE X (.Subscript o i pos) (tDGetN td ty) := by
  refine ⟨fun pins s σ H Q I h => ?_⟩
  refine subD_of PySem.F.slot_dict_getitem.lookup hs (thn (ho.run pins s σ H _ I h) fun u s1 ⟨x, H1, I1, rx, q1⟩ => thn (hi.run pins s1 σ H1 _ I1 q1) fun iv s2 ⟨y, H2, I2, ry, p, b, kvs, k, j, ex, ey, hn, nk, dk, lk, q2⟩ => ?_)
  subst ex ey
  obtain rfl : u = Value.ref p := rx
  obtain rfl : iv = Value.ref b := ry
  obtain ⟨xs, dd, r, sm⟩ := hn_dict I2 hn
  refine ⟨dd.typeIs, ?_⟩
  rcases r.look k with ⟨e1, _⟩ | ⟨v', b', t, e1, e2⟩
  · rw [e1] at lk; cases lk
  · rw [e1] at lk
    cases lk
    refine wpAny_getItem_heap (knd := nestedKind X.prog X.w) (show X.A.in1.units + 8 < cLine by simp [Around.in1]; omega) (nk_is I2 nk dk) dd e2 ?_
    exact ⟨V.int j, H2, I2.tok _, ⟨t, rfl⟩, q2⟩
theorem hn_put {pins : List (Addr × Obj)} {σ : St} {H : Hp} {s : Shared} {p : Addr} {h' : Heap} {tk : Nat} {kvs : List (NestedKey × Int)} {xs : List NE} {Q : Hp → Prop} (I : Inv X pins σ H s) (mu : Mut (H p)) (nt : ∀ ys, H p ≠ some (.tup ys)) (sm : (p == sysModules) = false) (dd : h'.DictOfH (nestedKind X.prog X.w) p xs) (hs : Heap.SameBut p s.heap h') (r : NX H xs kvs) (nd : (kvs.map (·.1)).Nodup)
    (q : HNput H p kvs Q) : ∃ H', Inv X pins σ H' { s with heap := h', toks := tk } ∧ Q H' := by
  obtain ⟨o, g, x⟩ := n_back sm dd r
  exact ⟨_, d_write (ob := objO p o) I mu hs ⟨o, g⟩ (objO_ok g), q o xs x r nd⟩
theorem ps_dputN (hu : X.A.units + 65 < cLine) (ho : PE X o td) (hi : PE X i ty) (hv : PE X value tv) (hs : swapsWith value (some (.Subscript o i pos')) pos.line X.env = pure false) :
    PS X (.Assign [.Subscript o i pos'] value pos) (sDPutN td ty tv) := by
  refine ⟨fun pins s σ H D I h => ?_⟩
  refine wpAny_Assign_Subscript (thn (hv.run pins s σ H _ I h) fun r s1 ⟨v, H1, I1, rv, q1⟩ => thn (ho.run pins s1 σ H1 _ I1 q1) fun u s2 ⟨x, H2, I2, rx, q2⟩ => thn (hi.run pins s2 σ H2 _ I2 q2) fun iv s3 ⟨y, H3, I3, ry, p, b, kvs, k, j, ex, ey, ev, hn, nk, dk, hl, q3⟩ => ?_) hs
  subst ex ey ev
  obtain rfl : u = Value.ref p := rx
  obtain rfl : iv = Value.ref b := ry
  obtain ⟨t, rfl⟩ := (show ∃ t, r = Value.int j t from rv)
  obtain ⟨oo, xs, eH, x, rr, nd⟩ := hn
  have dd := n_dict I3.hok eH x rr nd
  refine wpAny_setItem_heap (knd := nestedKind X.prog X.w) (show X.A.in1.units + 8 < cLine by simp [Around.in1]; omega) (nk_is I3 nk dk) dd (fun h' dd' hs' => ?_) (by rw [rr.len, sizeLine_eq]; omega)
  obtain ⟨H', I', q'⟩ := hn_put (tk := s3.toks + (nestedKind X.prog X.w).draws k) I3 (by rw [eH]; exact True.intro) (fun ys => by rw [eH]; exact objO_ne) x.1 dd' hs' (rr.put dk nk) (putN_nodup nd) q3
  exact ⟨σ, H', I', q'⟩
theorem pe_dispN (hu : X.A.units + 65 < cLine) (hk : PE X k tk) (hv : PE X v tv) : PE X (.Dict [some k] [v] pos) (tDispN tk tv) := by
  refine ⟨fun pins s σ H Q I q => ?_⟩
  have hn := I.hok.fresh (Nat.le_refl s.heap.objs.size)
  have I1 := I.laid (a := s.heap.objs.size) (o := .dT []) (h' := s.heap.push { cls := .type "dict", data := .dict #[] }) (t' := s.toks) (fun _ _ q => Heap.get?_push_of_some _ q) (Nat.le_refl _) (dt_empty s.heap I.big)
  have sm : (s.heap.objs.size == sysModules) = false := beq_eq_false_iff_ne.mpr (Ne.symm (Nat.ne_of_lt I.big))
  have lp := pairTrees_length [some k] [v] X.env pos rfl rfl
  rw [arm_eval_Dict, zip_pairTrees [some k] [v] X.env pos rfl rfl, dictDisplay_pairs (pairTrees [some k] [v] X.env pos) (fun e => by rw [e] at lp; cases lp) (by rw [lp]; show 1 < 17; decide)]
  refine wpAny_bind (wpAny_standAt (wpAny_bind (wpAny_subDictH (knd := nestedKind X.prog X.w) (Q := fun d s' => wpAny (model X.prog X.w) X.A (pure (Value.ref d)) (EP X pins σ Q) X.xe s') (show X.A.units + 8 < cLine by omega) (by rw [lp]; show 1 ≤ 15; decide) ?_)))
  refine thn ((pps_cons (pos := pos) hk hv pps_nil).run pins _ σ _ _ I1 (q _ hn)) fun ws s2 ⟨ps, H2, I2, rel, e, b, ks, y, ep, nk, dk, q2⟩ => ?_
  subst ep
  cases rel with
  | @cons _ ub _ us r0 rt =>
    cases rt
    obtain ⟨u1, u2⟩ := ub
    obtain ⟨r1, r2⟩ := r0
    cases (show u1 = Value.ref b from r1)
    obtain ⟨t, e2⟩ := (show ∃ t, u2 = Value.int y t from r2)
    subst e2
    obtain ⟨z, hd, xs0, r3, dd⟩ := dt_of I2.hok e
    cases r3
    have dd0 : s2.heap.DictOfH (nestedKind X.prog X.w) s.heap.objs.size [] := by
      obtain ⟨o, es, ep, hq, h2, h3, h4, _, _⟩ := dd
      exact ⟨o, es, ep, hq, h2, h3, h4, fun x hx => (by cases hx), List.nodup_nil⟩
    refine ⟨[(ks, b, Value.int y t)], ⟨rfl, rfl, nk_is I2 nk dk, trivial⟩, dd0, fun h' tk dd' hs => wpAny_pure ?_⟩
    obtain ⟨H', I', q'⟩ := hn_put (tk := tk) (kvs := [(ks, y)]) (xs := [(ks, b, Value.int y t)]) I2 (by rw [e]; exact True.intro) (fun ys => by rw [e]; intro z; cases z) sm dd' hs ⟨⟨rfl, dk, nk, t, rfl⟩, trivial⟩ (List.nodup_cons.mpr ⟨by simp, List.nodup_nil⟩) q2
    exact ⟨.ref s.heap.objs.size, H', I', rfl, q'⟩
end
end L2
set_option Elab.async false
set_option linter.all false
set_option maxRecDepth 100000
set_option maxHeartbeats 4000000
namespace L2
open PySem PySem.Spec PyProof.Rows
section
variable {P : Program} {w : World} {K : PySem.W.Frag} {p : Addr} {o : Obj} {es : Array DictEntry} {ep : Nat} {xs : List NE} {kvs : List (NestedKey × Int)}
theorem nob_at {H : Hp} {i : Nat} {kv : NestedKey × Int} (hx : NOb p o xs) (hod : o.data = .dict es ep) (r : NX H xs kvs) (h : kvs[i]? = some kv) (w : World) : ∃ (b : Addr) (t : Tok) (hi : i < es.size), es[i].key = .ref b ∧ es[i].val = Value.int kv.2 t ∧ Nk H (.ref b) kv.1 := by
  obtain ⟨_, _, es', ep', h1, h2⟩ := hx
  rw [hod] at h1
  cases h1
  obtain ⟨b, t, e1, e2⟩ := r.get h
  have e3 : es.toList[i]? = some (⟨kv.1.hash w, .ref b, Value.int kv.2 t⟩ : DictEntry) := by rw [h2 w, List.getElem?_map, e1]; rfl
  have hi : i < es.size := by
    have := (List.getElem?_eq_some_iff.mp e3).1
    simpa using this
  have e4 : es[i] = (⟨kv.1.hash w, .ref b, Value.int kv.2 t⟩ : DictEntry) := by
    have := (List.getElem?_eq_some_iff.mp e3).2
    simpa using this
  exact ⟨b, t, hi, by rw [e4], by rw [e4], e2⟩
theorem nob_len {H : Hp} (hx : NOb p o xs) (hod : o.data = .dict es ep) (r : NX H xs kvs) (w : World) : es.size = kvs.length := by
  obtain ⟨_, _, es', ep', h1, h2⟩ := hx
  rw [hod] at h1
  cases h1
  rw [← Array.length_toList, h2 w, List.length_map, r.len]
end
end L2
set_option Elab.async false
set_option linter.all false
set_option maxRecDepth 100000
set_option maxHeartbeats 4000000
namespace L2
open PySem PySem.Spec PyProof.Rows
/-! sorted(d.items()), d a dict of numbers with numbers as values -/
end L2
set_option Elab.async false
set_option linter.all false
set_option maxRecDepth 100000
set_option maxHeartbeats 4000000
namespace L2
open PySem PySem.Spec PyProof.Rows
end L2
set_option Elab.async false
set_option linter.all false
set_option maxRecDepth 100000
set_option maxHeartbeats 4000000
namespace L2
open PySem PySem.Spec PyProof.Rows
/-! min of a list of pairs of numbers; the greatest value of a dict of tuples -/
end L2
set_option Elab.async false
set_option linter.all false
set_option maxRecDepth 100000
set_option maxHeartbeats 4000000
namespace L2
open PySem PySem.Spec PyProof.Rows
end L2
set_option Elab.async false
set_option linter.all false
set_option maxRecDepth 100000
set_option maxHeartbeats 4000000
namespace Ov
open PySem L2
section
variable {K : PySem.W.Frag} {E : XK} {bx : Nat}
/-! dicts of tuples of numbers whose values are numbers -/
def lookK : List (List Int × Int) → List Int → Option Int
  | [], _ => none
  | (j, v) :: r, k => if j = k then some v else lookK r k
def putKI (kvs : List (List Int × Int)) (k : List Int) (v : Int) : List (List Int × Int) := if (kvs.any fun kv => decide (kv.1 = k)) = true then kvs.map (fun kv => if kv.1 = k then (kv.1, v) else kv) else kvs ++ [(k, v)]
/-! the slot -/
end
end Ov
set_option Elab.async false
set_option linter.all false
set_option maxRecDepth 100000
set_option maxHeartbeats 4000000
namespace Ov
open PySem L2
section
variable {K : PySem.W.Frag} {E : XK} {bx : Nat}
theorem Rep.updB {B : Addr → Prop} {σ : St} {H : Hp} {env : En} {l : List Addr} {p : Addr} {o : HO} (r : Rep K B σ H env l) (hp : B p) (n : NT o) : Rep K B σ (upd H p o) env l := by
  refine ⟨r.rp.mv ?_ fun q z => upd_ne fun e => r.out q z (by rw [e]; exact hp), r.nd, r.out, fun b z => ?_⟩
  · exact off_mono (fun b z n => absurd z n) fun b o n e => by rw [upd_ne (fun z => n (.inl (by rw [z]; exact hp)))]; exact e
  · by_cases e : b = p
    · subst e; exact ⟨_, upd_same, n⟩
    · rw [upd_ne e]; exact r.tb b z
/-! a dict as data -/
end
end Ov
set_option Elab.async false
set_option linter.all false
set_option maxRecDepth 100000
set_option maxHeartbeats 4000000
set_option Elab.async false
set_option linter.all false
set_option maxRecDepth 100000
set_option maxHeartbeats 4000000
namespace Ov
open PySem L2
section
variable {K : PySem.W.Frag} {E : XK} {bx : Nat}
/-- return a if c else b, by two returns -/
theorem OkS.retIf {tc : TT} {ta tb : TE} {fc : M Bool} {fa fb : M Fl} (oc : OkT K E tc fc) (oa : OkS K E bx (tRet ta) fa) (ob : OkS K E bx (tRet tb) fb) : OkS K E bx (tRet (tIf tc ta tb)) (ifS fc fa fb) := by
  exact (OkS.ife oc oa ob : OkS K E bx (tIfS tc (tRet ta) (tRet tb)) (ifS fc fa fb))
end
end Ov
set_option Elab.async false
set_option linter.all false
set_option maxRecDepth 100000
set_option maxHeartbeats 4000000
set_option Elab.async false
set_option linter.all false
set_option maxRecDepth 100000
set_option maxHeartbeats 4000000
set_option Elab.async false
set_option linter.all false
set_option maxRecDepth 100000
set_option maxHeartbeats 4000000
set_option Elab.async false
set_option linter.all false
set_option maxRecDepth 100000
set_option maxHeartbeats 4000000
set_option Elab.async false
set_option linter.all false
set_option maxRecDepth 100000
set_option maxHeartbeats 4000000
set_option Elab.async false
set_option linter.all false
set_option maxRecDepth 100000
set_option maxHeartbeats 4000000
set_option Elab.async false
set_option linter.all false
set_option maxRecDepth 100000
set_option maxHeartbeats 4000000
set_option Elab.async false
set_option linter.all false
set_option maxRecDepth 100000
set_option maxHeartbeats 4000000
set_option Elab.async false
set_option linter.all false
set_option maxRecDepth 100000
set_option maxHeartbeats 4000000
set_option Elab.async false
set_option linter.all false
set_option maxRecDepth 100000
set_option maxHeartbeats 4000000
set_option Elab.async false
set_option linter.all false
set_option maxRecDepth 100000
set_option maxHeartbeats 4000000
namespace L2
open PySem PySem.Spec PyProof.Rows
/-! more of dicts with nested keys: their values in order, a walk over the keys, len; sets out of lists of numbers -/
section
variable {X : Cx} {o : Expr} {p pos apos mpos : Pos} {td : TE}
/-- len -/
def rLenN : List V → Hp → VK → Prop := fun xs H Q => ∃ (p : Addr) (kvs : List (NestedKey × Int)), xs = [.ref p] ∧ HN H p kvs ∧ kvs.length < 1000000 ∧ Q (.int ((kvs.length : Nat) : Int)) H
theorem cr_lenN : CallR X (.builtin "len") rLenN := by
  intro pins s σ H xs us Q I r h
  obtain ⟨p, kvs, rfl, hp, hl, q⟩ := h
  rw [Vals.ref1 r]
  obtain ⟨xs, dd, rr, sm⟩ := hn_dict I hp
  refine call_len_dictH (knd := nestedKind X.prog X.w) sm dd (by rw [rr.len]; omega) ?_
  exact ⟨.int _, H, I.tok _, ⟨_, by rw [rr.len]⟩, q⟩
/-! a set out of a list of numbers -/
end
end L2
set_option Elab.async false
set_option linter.all false
set_option maxRecDepth 100000
set_option maxHeartbeats 4000000
set_option Elab.async false
set_option linter.all false
set_option maxRecDepth 100000
set_option maxHeartbeats 4000000
set_option Elab.async false
set_option linter.all false
set_option maxRecDepth 100000
set_option maxHeartbeats 4000000
set_option Elab.async false
set_option linter.all false
set_option maxRecDepth 100000
set_option maxHeartbeats 4000000
namespace Ov
open PySem L2
/-! the same over data, each once, ascending -/
theorem lex_tr {a b c : List Int} (h1 : HT.lexLt a b = true) (h2 : HT.lexLt b c = true) : HT.lexLt a c = true := by
  cases h : HT.lexLt a c with
  | true => rfl
  | false =>
    -- c is not above a: then b, above a, is above c
    have := NtL.lex_tr c a b h (by
      have := NtL.lex_asym _ _ h1
      exact this)
    rw [h2] at this
    cases this
end Ov
set_option Elab.async false
set_option linter.all false
set_option maxRecDepth 100000
set_option maxHeartbeats 4000000
set_option Elab.async false
set_option linter.all false
set_option maxRecDepth 100000
set_option maxHeartbeats 4000000
set_option Elab.async false
set_option linter.all false
set_option maxRecDepth 100000
set_option maxHeartbeats 4000000
namespace Ov
open PySem L2
/-! the same over data -/
def kys (kvs : List (List Int × Int)) : List (List Int) := kvs.map fun kv => kv.1
end Ov
set_option Elab.async false
set_option linter.all false
set_option maxRecDepth 100000
set_option maxHeartbeats 4000000
set_option Elab.async false
set_option linter.all false
set_option maxRecDepth 100000
set_option maxHeartbeats 4000000
set_option Elab.async false
set_option linter.all false
set_option maxRecDepth 100000
set_option maxHeartbeats 4000000
namespace Ov
open PySem L2
/-! dicts whose keys are tuples of numbers and of such tuples -/
mutual
def nkD : PyData → Option NestedKey
  | .int i => some (.num i)
  | .tuple ds => (nkDs ds).map .tup
  | _ => none
def nkDs : List PyData → Option (List NestedKey)
  | [] => some []
  | d :: ds => (nkD d).bind fun k => (nkDs ds).map (k :: ·)
end
def asNK : R → Option NestedKey
  | .dat (.tuple ds) => (nkDs ds).bind fun ks => if (NestedKey.tup ks).depth ≤ 8 then some (.tup ks) else none
  | _ => none
section
variable {K : PySem.W.Frag} {E : XK} {bx : Nat}
mutual
theorem da_nk {H : Hp} : ∀ (d : PyData) {v : V} {k : NestedKey}, Da K H v d → nkD d = some k → Nk H v k
  | .int i, _, _, h, e => by cases h; cases e; exact .int i
  | .tuple ds, _, _, h, e => by
    obtain ⟨ks, e1, rfl⟩ := Option.map_eq_some_iff.mp (show (nkDs ds).map NestedKey.tup = _ from e)
    cases h with
    | tup t q => exact .tup t (da_nks ds q e1)
  | .none, _, _, _, e => by cases e
  | .bool _, _, _, _, e => by cases e
  | .str _, _, _, _, e => by cases e
  | .list _, _, _, _, e => by cases e
  | .dict _, _, _, _, e => by cases e
theorem da_nks {H : Hp} : ∀ (ds : List PyData) {vs : List V} {ks : List NestedKey}, DaAll K H vs ds → nkDs ds = some ks → NkAll H vs ks
  | [], _, _, h, e => by cases h; cases e; exact .nil
  | d :: ds, _, _, h, e => by
    obtain ⟨k, e1, e2⟩ := Option.bind_eq_some_iff.mp (show ((nkD d).bind fun k => (nkDs ds).map (k :: ·)) = _ from e)
    obtain ⟨ks, e3, rfl⟩ := Option.map_eq_some_iff.mp e2
    cases h with
    | cons a t => exact .cons (da_nk d a e1) (da_nks ds t e3)
end
theorem key_nk {G : Hp} {σ : St} {v : V} {a : R} {k : NestedKey} (q : RpR K G σ v a) (h : asNK a = some k) : ∃ b, v = .ref b ∧ Nk G (.ref b) k ∧ k.depth ≤ 8 := by
  unfold asNK at h
  split at h
  · rename_i ds
    obtain ⟨ks, e1, e2⟩ := Option.bind_eq_some_iff.mp h
    split at e2
    · rename_i c
      cases e2
      cases (show Da K G v (.tuple ds) from q) with
      | tup t d => exact ⟨_, rfl, .tup t (da_nks ds d e1), c⟩
    · cases e2
  · cases h
theorem off_tupH {S : Addr → Prop} {H : Hp} (hS : ∀ b, S b → ∃ o, H b = some o ∧ NT o) : ∀ b xs, TP H b xs → TP (off S H) b xs := fun b xs e => off_P hS e
theorem tup_off {S : Addr → Prop} {H : Hp} : ∀ b xs, TP (off S H) b xs → TP H b xs := fun b xs e => e.off
/-! the slot -/
def dtnD (i : Nat) : M (List (NestedKey × Int)) := fun env =>
  match env[i]? with
  | some (some (.dtn ks)) => some (.ok ks env)
  | _ => none
theorem dtnD_step {α : Type} {i : Nat} {g : List (NestedKey × Int) → M α} {env : En} {rs : Rs α} (h : (M.bind (dtnD i) g) env = some rs) : ∃ ks, env[i]? = some (some (.dtn ks)) ∧ g ks env = some rs := by
  have key : ∀ z, dtnD i env = some z → ∃ ks, env[i]? = some (some (.dtn ks)) ∧ z = .ok ks env := fun z hz => by
    unfold dtnD at hz
    split at hz
    · rename_i ks hx
      cases hz
      exact ⟨ks, hx, rfl⟩
    · cases hz
  rcases bind_some h with ⟨a, e, h1, h2⟩ | ⟨C, f, d, h1, h2⟩
  · obtain ⟨ds, e1, e2⟩ := key _ h1
    cases e2
    exact ⟨_, e1, h2⟩
  · obtain ⟨ds, e1, e2⟩ := key _ h1
    cases e2
theorem Rep.dgetN {B : Addr → Prop} {σ : St} {H : Hp} {env : En} {l : List Addr} {i : Nat} {ks : List (NestedKey × Int)} (r : Rep K B σ H env l) (hx : env[i]? = some (some (.dtn ks))) :
    ∃ p, σ[i]? = some (some (.ref p)) ∧ HN H p ks ∧ p ∈ l ∧ ∀ ks' o xs, NOb p o xs → NX H xs ks' → (ks'.map (·.1)).Nodup → Rep K B σ (upd H p (objO p o)) (env.set i (some (.dtn ks'))) l := by
  obtain ⟨s, a, lx, ly, q1, q2, ⟨v, rfl, p, o, xs, rfl, rfl, q6, q7, q8, q9⟩, q5⟩ := r.rp.focus hx
  have hp : p ∈ l := by rw [q2]; exact List.mem_append_right _ (List.mem_append_left _ (List.mem_cons_self ..))
  refine ⟨p, q1, ⟨o, xs, q6, q7, q8.keep fun b ys e => tup_off b ys e, q9⟩, hp, fun ks' o' xs' x' r' nd' => ?_⟩
  have nd := r.nd
  rw [q2] at nd
  obtain ⟨n1, n2, n3⟩ := List.nodup_append.mp nd
  obtain ⟨n4, n5, n6⟩ := List.nodup_append.mp n2
  have sub : Same (off (un B l) H) (off (un B l) (upd H p (objO p o'))) := off_mono (fun b z n => absurd z n) fun b o n e => by rw [upd_ne (fun z => n (.inr (by rw [z]; exact hp)))]; exact e
  have rk : NX (off (un B l) (upd H p (objO p o'))) xs' ks' := r'.keep fun b ys e => (off_tupH r.tl b ys e).same sub
  refine ⟨?_, r.nd, r.out, fun b z => ?_⟩
  · have := q5 (H' := upd H p (objO p o')) (s' := some (.ref p)) (e' := some (.dtn ks')) (a' := [p]) sub
      (fun q z => upd_ne fun e => n3 q z p (List.mem_append_left _ (List.mem_cons_self ..)) e) (fun q z => upd_ne fun e => n6 p (List.mem_cons_self ..) q z e.symm) ⟨_, rfl, p, o', xs', rfl, rfl, upd_same, x', rk, nd'⟩
    rw [set_same q1] at this
    rw [q2] at this ⊢
    exact this
  · obtain ⟨o, e, n⟩ := r.tb b z
    exact ⟨o, by rw [upd_ne (fun y => r.out p hp (by rw [← y]; exact z))]; exact e, n⟩
/-- found[k] = v -/
def dputN (i : Nat) (fk fv : M R) : M Fl := M.bind fv fun r0 => M.bind (lift (asI r0)) fun v => M.bind (dtnD i) fun _ => M.bind fk fun r => M.bind (lift (asNK r)) fun k => M.bind (dtnD i) fun ks => M.bind (lift (chk (decide (ks.length < 100000)))) fun _ => M.bind (putM i (.dtn (putN ks k v))) fun _ => M.pure .nx
theorem OkS.dputN {i : Nat} {tk tv : TE} {fk fv : M R} (o : OkE K E tk fk) (ov : OkE K E tv fv) : OkS K E bx (sDPutN (tVar i) tk tv) (Ov.dputN i fk fv) := by
  refine ⟨?_⟩
  intro B σ H env l rs rp h D post
  refine ov.seq rp h post.exn fun a0 e0 v0 H0 h0 r0 f0 q0 => ?_
  obtain ⟨v, g2, h0⟩ := lift_step h0
  rw [asI_some g2] at q0
  cases q0
  obtain ⟨ks0, hx0, h0⟩ := dtnD_step h0
  obtain ⟨p, s1, s2, s3, _⟩ := r0.dgetN hx0
  refine ⟨.ref p, s1, ?_⟩
  refine o.seq r0 h0 (exn_later post.exn f0) fun a e v' H1 h1 r1 f1 q1 => ?_
  obtain ⟨k, h2, h3⟩ := lift_step h1
  obtain ⟨ks, hx, h4⟩ := dtnD_step h3
  obtain ⟨u, h4a, h4⟩ := lift_step h4
  have hn := of_decide_eq_true (chk_ok h4a)
  obtain ⟨_, h5⟩ := putM_step h4
  cases h5
  obtain ⟨b, rfl, hb, hd⟩ := key_nk q1 h2
  obtain ⟨p', t1, t2, t3, t4⟩ := r1.dgetN hx
  rw [s1] at t1
  cases t1
  refine ⟨p, b, ks, k, v, rfl, rfl, rfl, t2, Nk.keep tup_off k hb, hd, hn, fun o' xs' x' r' nd' => ?_⟩
  exact post σ _ l (t4 _ _ _ x' r' nd') (Fr2.of ((f0.trans f1).trans (fr_upd t3))) fun _ => rfl
theorem un_tup {B : Addr → Prop} {l : List Addr} {p : Addr} {H : Hp} {o : Obj} (hB : ∀ b, un B l b → ∃ o, H b = some o ∧ NT o) (hp : ∀ ys, ¬ TP H p ys) : ∀ b ys, TP H b ys → TP (off (un (un B [p]) l) (upd H p (objO p o))) b ys := fun b ys e => by
  have nb : b ≠ p := fun z => hp ys (by rw [← z]; exact e)
  obtain ⟨o9, e, d9⟩ := e
  refine ⟨o9, ?_, d9⟩
  rw [off_ne (fun z => ?_), upd_ne nb]
  · exact e
  · rcases z with (z | z) | z
    · obtain ⟨o, e1, n⟩ := hB b (.inl z); rw [e] at e1; cases e1; exact n
    · exact nb (List.mem_singleton.mp z)
    · obtain ⟨o, e1, n⟩ := hB b (.inr z); rw [e] at e1; cases e1; exact n
/-- {k: v}, k nested -/
def dispN (fk fv : M R) : M Wv := fun env =>
  match fk env with
  | some (.ok r e) =>
    match fv e with
    | some (.ok s e2) =>
      match asNK r, asI s with
      | some k, some v => some (.ok (.dtn [(k, v)]) e2)
      | _, _ => none
    | _ => none
  | _ => none
theorem OkW.dispN {tk tv : TE} {fk fv : M R} (o : OkE K E tk fk) (ov : OkE K E tv fv) : OkW K E (tDispN tk tv) (Ov.dispN fk fv) := by
  refine ⟨?_⟩
  intro B σ H env l rs rp h Q post p hp
  unfold Ov.dispN at h
  split at h
  case h_2 => cases h
  rename_i r e h1
  split at h
  case h_2 => cases h
  rename_i s e2 h2
  split at h
  case h_2 => cases h
  rename_i k v hk hv
  cases h
  have r0 : Rep K (un B [p]) σ (upd H p (.dT [])) env l := rp.grow (same_new hp _) (fun _ z => .inl z) (fun b z => z.imp id fun z => by rw [List.mem_singleton.mp z]; exact hp) fun b z => by
    by_cases e : b = p
    · subst e; exact ⟨_, upd_same, trivial⟩
    · rw [upd_ne e]; exact rp.tb b (z.resolve_right fun z => e (List.mem_singleton.mp z))
  have pl : p ∉ l := fun z => rp.fresh hp (.inr z)
  refine o.run r0 h1 fun v1 H1 r1 f1 q1 => ?_
  obtain ⟨b, rfl, hb, hd⟩ := key_nk q1 hk
  refine ov.run r1 h2 fun v2 H2 r2 f2 q2 => ?_
  rw [asI_some hv] at q2
  cases q2
  have g1 : H1 p = some (.dT []) := f1 p _ pl upd_same
  have g2 : H2 p = some (.dT []) := f2 p _ pl g1
  have hb2 : Nk H2 (.ref b) k := Nk.keep (fun c ys ec => by
    obtain ⟨o9, ec, d9⟩ := ec
    obtain ⟨nc, ec⟩ := off_at ec
    exact ⟨o9, f2 c _ (fun z => nc (.inr z)) ec, d9⟩) k hb
  refine ⟨g2, b, k, _, rfl, hb2, hd, fun o' xs' x' r' nd' => ?_⟩
  refine post _ _ [p] (r2.updB (.inr (List.mem_cons_self ..)) trivial) (fun c oc nc ec => ?_) ⟨p, o', xs', rfl, rfl, upd_same, x', ?_, nd'⟩ (List.nodup_cons.mpr ⟨by simp, List.nodup_nil⟩) fun c z => by rw [List.mem_singleton.mp z]; exact hp
  · have np : c ≠ p := fun z => by rw [z, hp] at ec; cases ec
    rw [upd_ne np]
    exact f2 c _ nc (f1 c _ nc (by rw [upd_ne np]; exact ec))
  · refine r'.keep (un_tup (fun c z => r2.tl c (z.imp .inl id)) fun ys => ?_)
    rintro ⟨_, z, _⟩
    rw [g2] at z
    cases z
end
end Ov
set_option Elab.async false
set_option linter.all false
set_option maxRecDepth 100000
set_option maxHeartbeats 4000000
namespace Ov
open PySem L2
section
variable {K : PySem.W.Frag} {E : XK} {bx : Nat}
/-- return found -/
def moveN (i : Nat) : M Fl := fun env =>
  match env[i]? with
  | some (some (.dtn xs)) => some (.ok (.rt (.dtn xs)) (env.set i none))
  | _ => none
theorem OkS.moveN (i : Nat) : OkS K E bx (tRet (tVar i)) (Ov.moveN i) := by
  refine ⟨?_⟩
  intro B σ H env l rs rp h D post
  unfold Ov.moveN at h
  split at h
  · rename_i xs hx
    cases h
    obtain ⟨s, a, lx, ly, q1, q2, ⟨v, q3, q4⟩, q5⟩ := rp.rp.focus hx
    subst q3
    have ev : un (un B a) (lx ++ ([] ++ ly)) = un B l := by
      rw [un_app, q2]
      funext b
      refine propext ⟨fun z => z.imp id fun z => ?_, fun z => z.imp id fun z => ?_⟩
      · rcases List.mem_append.mp z with z | z
        · exact List.mem_append_right _ (List.mem_append_left _ z)
        · rcases List.mem_append.mp z with z | z
          · exact List.mem_append_left _ z
          · exact List.mem_append_right _ (List.mem_append_right _ (by simpa using z))
      · rcases List.mem_append.mp z with z | z
        · exact List.mem_append_right _ (List.mem_append_left _ z)
        · rcases List.mem_append.mp z with z | z
          · exact List.mem_append_left _ z
          · exact List.mem_append_right _ (List.mem_append_right _ (by simpa using z))
    have nd := rp.nd
    rw [q2] at nd
    obtain ⟨n1, n2, n3⟩ := List.nodup_append.mp nd
    obtain ⟨n4, n5, n6⟩ := List.nodup_append.mp n2
    have e : σ.set i (some v) = σ := by
      apply List.ext_getElem?
      intro j
      by_cases z : i = j
      · subst z; rw [List.getElem?_set_self (List.getElem?_eq_some_iff.mp q1).1, q1]
      · rw [List.getElem?_set_ne z]
    have r' : Rep K (un B a) σ H (env.set i none) (lx ++ ([] ++ ly)) := by
      refine ⟨?_, ?_, ?_, ?_⟩
      · rw [ev]
        have := q5 (H' := H) (G' := off (un B l) H) (s' := some v) (e' := none) (a' := []) (fun _ _ z => z) (fun _ _ => rfl) (fun _ _ => rfl) rfl
        rw [e] at this
        exact this
      · rw [List.nil_append]
        exact List.nodup_append.mpr ⟨n1, n5, fun x hx y hy => n3 x hx y (List.mem_append_right _ hy)⟩
      · intro b z y
        rw [List.nil_append] at z
        rcases y with y | y
        · refine rp.out b ?_ y
          rw [q2]
          exact (List.mem_append.mp z).elim (List.mem_append_left _) fun z => List.mem_append_right _ (List.mem_append_right _ z)
        · rcases List.mem_append.mp z with z | z
          · exact n3 b z b (List.mem_append_left _ y) rfl
          · exact n6 b y b z rfl
      · intro b z
        refine rp.tl b (z.imp id fun z => ?_)
        rw [q2]
        exact List.mem_append_right _ (List.mem_append_left _ z)
    refine ⟨v, q1, post v σ H (lx ++ ([] ++ ly)) a r' ⟨Fr.refl _ _, fun b z => .inl ?_⟩ (fun _ => rfl) (by rw [ev]; exact q4) n4 fun b z => ⟨fun y => ?_, fun y => ?_⟩⟩
    · rw [q2]
      rcases List.mem_append.mp z with z | z
      · rw [List.nil_append] at z
        exact (List.mem_append.mp z).elim (List.mem_append_left _) fun z => List.mem_append_right _ (List.mem_append_right _ z)
      · exact List.mem_append_right _ (List.mem_append_left _ z)
    · rw [List.nil_append] at y
      rcases List.mem_append.mp y with y | y
      · exact n3 b y b (List.mem_append_left _ z) rfl
      · exact n6 b z b y rfl
    · exact rp.out b (by rw [q2]; exact List.mem_append_right _ (List.mem_append_left _ z)) y
  · cases h
/-! reading -/
/-! defs whose one parameter is such a dict -/
end
end Ov
set_option Elab.async false
set_option linter.all false
set_option maxRecDepth 100000
set_option maxHeartbeats 4000000
set_option Elab.async false
set_option linter.all false
set_option maxRecDepth 100000
set_option maxHeartbeats 4000000
namespace Ov
open PySem L2
/-! dicts of nested keys: len, the values in order, a walk over the keys, another name; sorted(set(numbers)); l.count(number) -/
section
variable {K : PySem.W.Frag} {E : XK} {bx : Nat}
/-- len(found) -/
def lenNd (i : Nat) : M R := M.bind (dtnD i) fun f => M.bind (lift (chk (decide (f.length < 1000000)))) fun _ => M.pure (.dat (.int ((f.length : Nat) : Int)))
theorem OkE.lenNd {i : Nat} : OkE K E (tCB rLenN (tCons (tVar i) tNil)) (Ov.lenNd i) := by
  refine ⟨?_⟩
  intro B σ H env l rs rp h Q post
  obtain ⟨ks, hx, h1⟩ := dtnD_step h
  obtain ⟨u, h2, h3⟩ := lift_step h1
  cases h3
  obtain ⟨p, s1, s2, _⟩ := rp.dgetN hx
  exact ⟨.ref p, s1, p, ks, rfl, s2, of_decide_eq_true (chk_ok h2), post _ H rp (Fr.refl _ _) (.int _)⟩
/-! another name for it -/
/-! another name for it -/
/-! sorted(set(xs)) -/
/-! sorted(pairs) as a list of its own -/
/-! l.count(k) -/
end
end Ov
set_option Elab.async false
set_option linter.all false
set_option maxRecDepth 100000
set_option maxHeartbeats 4000000
namespace L2
open PySem PySem.Spec PyProof.Rows
/-! the sum of a tuple of numbers -/
end L2
set_option Elab.async false
set_option linter.all false
set_option maxRecDepth 100000
set_option maxHeartbeats 4000000
namespace Ov
open PySem L2
/-! equations of the nested dicts -/
theorem putM_x {env : En} {i : Nat} {w : Wv} (hi : i < env.length) : putM i w env = some (.ok () (env.set i (some w))) := by unfold putM; first | rfl | rw [if_pos hi] | simp [hi]
theorem dtnD_x {env : En} {i : Nat} {kvs : List (NestedKey × Int)} (h : env[i]? = some (some (.dtn kvs))) : dtnD i env = some (.ok kvs env) := by unfold dtnD; rw [h]
theorem dputN_x {env : En} {i : Nat} {fk fv : M R} {kvs : List (NestedKey × Int)} {r : R} {k : NestedKey} {v : Int} (hv : fv env = some (.ok (.dat (.int v)) env)) (h : env[i]? = some (some (.dtn kvs))) (hk : fk env = some (.ok r env)) (ha : asNK r = some k) (hl : kvs.length < 100000) : dputN i fk fv env = some (.ok .nx (env.set i (some (.dtn (putN kvs k v))))) :=
  bind_go hv (bind_go (a := v) (e := env) rfl (bind_go (dtnD_x h) (bind_go hk (bind_go (a := k) (e := env) (by rw [ha]; rfl) (bind_go (dtnD_x h) (bind_go (a := ()) (e := env) (by rw [decide_eq_true hl]; rfl) (bind_go (putM_x (List.getElem?_eq_some_iff.mp h).1) rfl)))))))
theorem lenNd_x {env : En} {i : Nat} {kvs : List (NestedKey × Int)} (h : env[i]? = some (some (.dtn kvs))) (hl : kvs.length < 1000000) : lenNd i env = some (.ok (.dat (.int ((kvs.length : Nat) : Int))) env) :=
  bind_go (dtnD_x h) (bind_go (a := ()) (e := env) (by rw [decide_eq_true hl]; rfl) rfl)
end Ov
set_option Elab.async false
set_option linter.all false
set_option maxRecDepth 100000
set_option maxHeartbeats 4000000
namespace L2
open PySem PySem.Spec PyProof.Rows
/-! e.index(x): e a list of numbers, or a tuple of numbers whose object has no dict of its own; x is in it -/
end L2
set_option Elab.async false
set_option linter.all false
set_option maxRecDepth 100000
set_option maxHeartbeats 4000000
set_option Elab.async false
set_option linter.all false
set_option maxRecDepth 100000
set_option maxHeartbeats 4000000
namespace L2
open PySem PySem.Spec PyProof.Rows
/-! k in d, k not in d: d a dict of nested keys -/
def tDInX (n : Bool) (ty td : TE) : TE := fun σ H Q => ty σ H fun y H1 => td σ H1 fun x H2 => ∃ p b kvs k, x = .ref p ∧ y = .ref b ∧ HN H2 p kvs ∧ Nk H2 (.ref b) k ∧ k.depth ≤ 8 ∧ Q (.bl (n ^^ (lookN kvs k).isSome)) H2
section
variable {X : Cx} {td ty : TE} {o i : Expr}
theorem at_some {H : Hp} {xs : List NE} {kvs : List (NestedKey × Int)} (r : NX H xs kvs) (k : NestedKey) : (atKey xs k).isSome = (lookN kvs k).isSome := by
  rcases r.look k with ⟨e1, e2⟩ | ⟨v, b, t, e1, e2⟩
  · rw [e1, e2]; rfl
  · rw [e1, e2]; rfl
theorem pc_dninX (hu : X.A.units + 65 < cLine) (hi : PE X i ty) (ho : PE X o td) : PC X .NotIn i o (tDInX true ty td) := by
  refine ⟨fun pins s σ H Q I h => ?_⟩
  refine thn (hi.run pins s σ H _ I h) fun iv s1 ⟨y, H1, I1, ry, q1⟩ => thn (ho.run pins s1 σ H1 _ I1 q1) fun u s2 ⟨x, H2, I2, rx, p, b, kvs, k, ex, ey, hn, nk, dk, q2⟩ => ?_
  subst ex ey
  obtain rfl : u = Value.ref p := rx
  obtain rfl : iv = Value.ref b := ry
  obtain ⟨xs, dd, r, sm⟩ := hn_dict I2 hn
  refine wpAny_notIn_heap (knd := nestedKind X.prog X.w) (show X.A.in1.units + 8 < cLine by simp [Around.in1]; omega) (nk_is I2 nk dk) sm dd ?_
  rw [at_some r k]
  rw [Bool.true_xor] at q2
  exact ⟨.bl _, H2, I2.tok _, rfl, q2⟩
end
end L2
namespace Ov
open PySem L2
/-- a tuple of numbers as a key -/
def nkT (ns : List Int) : NestedKey := .tup (ns.map .num)
section
open PySem PySem.Spec PySem.Calls PyProof.Rows L2
theorem nk_nums {H : Hp} : ∀ {ns : List Int} {xs : List V}, NkAll H xs (ns.map NestedKey.num) → xs = ns.map V.int
  | [], xs, h => by cases h; rfl
  | n :: r, xs, h => by
    cases h with
    | cons a t =>
      cases a
      rw [nk_nums t]
      rfl
theorem nk_tp {H : Hp} {b : Addr} {ns : List Int} (h : Nk H (.ref b) (nkT ns)) : TP H b (ns.map V.int) := by
  unfold nkT at h
  cases h with
  | tup e t =>
    rw [nk_nums t] at e
    exact e
/-- sorted(d), d a dict whose keys are tuples of numbers -/
def rSortKN (K : PySem.W.Frag) : List V → Hp → VK → Prop := fun vs H Q => ∃ (a : Addr) (kvs : List (NestedKey × Int)) (nss : List (List Int)), vs = [V.ref a] ∧ HN H a kvs ∧ kvs.map (·.1) = nss.map nkT ∧ kvs.length ≤ 1000000 ∧ ((∀ ns ∈ nss, ns ≠ []) ∨ ∀ ns ∈ nss, ns = []) ∧
  ∀ (ys : List V) (mss : List (List Int)) (p : Addr), mss.Perm nss → mss.Pairwise (fun a b => HT.lexLt b a = false) → NsV K H ys mss → H p = none → Q (.ref p) (upd H p (.lst ys))
theorem cr_sortKN {X : Cx} (hc : X.calm = true) (hu : X.A.units + 64 < cLine) : CallR X (.builtin "sorted") (rSortKN X.K) := by
  intro pins s σ H xs us Q I r h
  obtain ⟨d, kvs, nss, rfl, hnn, hks, hsz0, hal, q⟩ := h
  obtain ⟨u, rfl, rx⟩ := r.one
  cases rx
  obtain ⟨o, xsn, hd, no, rr, _⟩ := hnn
  have ho : s.heap.get? d = some o := objO_get I.hok hd
  obtain ⟨hs, hx, es, ep, hdt, _⟩ := id no
  have l1 : es.size = kvs.length := nob_len no hdt rr X.w
  have l3 : kvs.length = nss.length := by
    have := congrArg List.length hks
    simpa using this
  have hzz : kvs.length ≤ sizeLine := by rw [sizeLine_eq]; omega
  refine call_function_entry kind_sorted plain_sorted entry_sorted (args_sorted1 _) ?_
  unfold Builtin.«sorted»
  refine wpAny_bind (m := checkCount "sorted" 1 1 _) (wpAny_pure ?_)
  refine wpAny_bind (PySem.W.kdu_collect (A := X.A.in1) (kdl_raw hs hx hdt) (I.ok.hd hc) ho (by omega) fun h' tk acc' kp it => ?_)
  have I1 : Inv X pins σ H { s with heap := h', toks := tk } := I.kept kp
  let vs := acc'.toList
  have lv : vs.length = nss.length := by
    show acc'.toList.length = _
    rw [Array.length_toList, it.1]
    omega
  have prr : ∀ (i : Nat) (v : Value) (ns : List Int), vs[i]? = some v → nss[i]? = some ns → TS.TupInts h' v ns ∧ ∃ t, v = .ref t ∧ TP H t (ns.map V.int) := fun i v ns h1 h2 => by
    obtain ⟨en, he, rfl⟩ := it.2 i v (by rw [← Array.getElem?_toList]; exact h1)
    have hj : i < kvs.length := by rw [← l1]; exact (Array.getElem?_eq_some_iff.mp he).1
    obtain ⟨b, t, hi, k1, _, nk⟩ := nob_at no hdt rr (List.getElem?_eq_getElem hj) X.w
    have e3 : en = es[i] := Option.some.inj (he.symm.trans (Array.getElem?_eq_getElem hi))
    have h4 : (kvs.map (·.1))[i]? = some (nkT ns) := by rw [hks, List.getElem?_map, h2]; rfl
    rw [List.getElem?_map, List.getElem?_eq_getElem hj] at h4
    have h5 : kvs[i].1 = nkT ns := Option.some.inj h4
    rw [h5] at nk
    have tp := nk_tp nk
    rw [e3, k1]
    exact ⟨tupI_raw I1 tp.sq, _, rfl, tp⟩
  have hk : vs.map (TS.intsOf h') = nss := by
    apply List.ext_getElem?
    intro i
    rw [List.getElem?_map]
    cases h1 : vs[i]? with
    | none =>
      have : vs.length ≤ i := List.getElem?_eq_none_iff.mp h1
      rw [List.getElem?_eq_none (by omega)]
      rfl
    | some v =>
      have lt : i < vs.length := (List.getElem?_eq_some_iff.mp h1).1
      have h2 : nss[i]? = some (nss[i]'(by omega)) := List.getElem?_eq_getElem (by omega)
      rw [h2]
      show some (TS.intsOf h' v) = _
      rw [(prr i v _ h1 h2).1.ints]
  have mem : ∀ v ∈ vs, TS.intsOf h' v ∈ nss ∧ TS.TupInts h' v (TS.intsOf h' v) ∧ ∃ t, v = .ref t ∧ TP H t ((TS.intsOf h' v).map V.int) := fun v hv => by
    obtain ⟨i, hi, e⟩ := List.getElem_of_mem hv
    have h2 : nss[i]? = some (nss[i]'(by omega)) := List.getElem?_eq_getElem (by omega)
    obtain ⟨k1, k3⟩ := prr i v _ (by rw [← e]; exact List.getElem?_eq_getElem hi) h2
    rw [k1.ints]
    exact ⟨List.getElem_mem _, k1, k3⟩
  have hza : vs.length ≤ sizeLine := by omega
  refine wpAny_bind (wpAny_newList ?_ hza)
  have hoL : (h'.push (seqObj "list" vs.toArray 0)).get? h'.objs.size = some (seqObj "list" vs.toArray 0) := Heap.get?_push_size _ rfl
  show wpAny _ _ _ _ _ { s with heap := h'.push (seqObj "list" vs.toArray 0), toks := tk }
  refine wpAny_bind (wpAny_holding (wpAny_call_entry slot_list_sort ⟨_, hoL, rfl⟩ entry_list_sort
    (SrtO.list_sort_ord (s := { s with heap := h'.push (seqObj "list" vs.toArray 0), toks := tk }) (NtL.swo_lexL (TS.intsOf h')) hoL hza (fun h2 => ?_) fun out g1 g2 => ⟨_, rfl, ?_⟩) (args_list_sort _)))
  · have hp' : ∀ v ∈ vs, TS.TupInts (h'.push (seqObj "list" vs.toArray 0)) v (TS.intsOf h' v) := fun v hm => (mem v hm).2.1.keeps fun b o e _ => Heap.get?_push_of_some _ e
    have hcl : ∀ o, (h'.push (seqObj "list" vs.toArray 0)).get? h'.objs.size = some o → o.cls ≠ .type "tuple" := fun o e => by
      have e' : some o = some (seqObj "list" vs.toArray 0) := e.symm.trans hoL
      cases e'
      intro c
      exact absurd (Value.type.inj c) (by decide)
    rcases hal with hd | hd
    · exact tups_sort1 (s := { s with heap := h'.push (seqObj "list" vs.toArray 0), toks := tk }) (by omega) (fun v hm => ⟨hp' v hm, hd _ (mem v hm).1⟩) hcl
    · exact tups_sort0 (s := { s with heap := h'.push (seqObj "list" vs.toArray 0), toks := tk }) (by show X.A.units + 1 + 1 < cLine; omega) h2 (fun v hm => ⟨hp' v hm, hd _ (mem v hm).1⟩) hcl
  · obtain ⟨e', he'⟩ := sortedHeap_at (vs := vs) (out := out.toArray) hoL
    have h3 : ∀ u ∈ out, ∃ a, u = Value.ref a := fun u hu => by
      obtain ⟨_, _, t, e, _⟩ := mem u (g2.perm.mem_iff.mp hu)
      exact ⟨t, e⟩
    have lo : out.length = vs.length := g2.perm.length_eq
    refine wpAny_pure ⟨_, rfl, .ref h'.objs.size, upd H h'.objs.size (.lst (out.map backV)), I1.laid (t' := tk) (fun b u e => ?_) (Nat.le_refl _)
      (show ObjOk X.prog X.w _ _ _ (.lst (out.map backV)) from ⟨by rw [List.length_map, lo]; exact hza, out, e', vals_back h3, he'⟩), rfl, q _ (out.map (TS.intsOf h')) h'.objs.size ?_ ?_ ⟨by rw [List.length_map, List.length_map], fun i y w hy hw => ?_⟩ (I1.hok.fresh (Nat.le_refl _))⟩
    · have hb : b < h'.objs.size := Heap.lt_size e
      rw [sortedHeap_old (Nat.ne_of_lt hb) (by rw [size_push']; exact Nat.lt_succ_of_lt hb)]
      exact Heap.get?_push_of_some _ e
    · rw [← hk]
      exact g2.perm.map _
    · exact List.pairwise_map.mpr (List.Pairwise.imp (fun z => z) g1)
    · rw [List.getElem?_map] at hy hw
      obtain ⟨u, hu, rfl⟩ := Option.map_eq_some_iff.mp hy
      obtain ⟨u', hu', rfl⟩ := Option.map_eq_some_iff.mp hw
      rw [hu] at hu'
      cases hu'
      obtain ⟨_, _, t, e, k3⟩ := mem u (g2.perm.mem_iff.mp (List.mem_of_getElem? hu))
      refine ⟨t, ?_, k3⟩
      rw [e]
      rfl
end
end Ov
set_option Elab.async false
set_option linter.all false
set_option maxRecDepth 100000
set_option maxHeartbeats 4000000
namespace L2
open PySem PySem.Spec PyProof.Rows
/-! the rules of such dicts -/
def HD (H : Hp) (p : Addr) (kvs : List (NestedKey × V)) : Prop := ∃ o xs, H p = some (objO p o) ∧ NOb p o xs ∧ DX H xs kvs ∧ (kvs.map (·.1)).Nodup
def HDput (H : Hp) (p : Addr) (kvs : List (NestedKey × V)) (Q : Hp → Prop) : Prop := ∀ o xs, NOb p o xs → DX H xs kvs → (kvs.map (·.1)).Nodup → Q (upd H p (objO p o))
def sDPutX (td ty tv : TE) : TS := fun D σ H => tv σ H fun v H1 => td σ H1 fun x H2 => ty σ H2 fun y H3 => ∃ p b kvs k, x = .ref p ∧ y = .ref b ∧ HD H3 p kvs ∧ Nk H3 (.ref b) k ∧ k.depth ≤ 8 ∧ kvs.length < 100000 ∧ HDput H3 p (putG kvs k v) (D.nx σ)
def tDGet2X (td ty tx : TE) : TE := fun σ H Q => td σ H fun x H1 => ∃ p kvs0, x = .ref p ∧ HD H1 p kvs0 ∧ ty σ H1 fun y H2 => tx σ H2 fun z H3 => ∃ b k kvs, y = .ref b ∧ HD H3 p kvs ∧ Nk H3 (.ref b) k ∧ k.depth ≤ 8 ∧ Q ((lookG kvs k).getD z) H3
section
variable {X : Cx} {pos pos' tpos apos cpos : Pos} {td ty tv tx tk : TE} {o i e f k v value : Expr}
theorem hd_dict {pins : List (Addr × Obj)} {σ : St} {H : Hp} {s : Shared} {p : Addr} {kvs : List (NestedKey × V)} (I : Inv X pins σ H s) (h : HD H p kvs) : ∃ xs, s.heap.DictOfH (nestedKind X.prog X.w) p xs ∧ DX H xs kvs ∧ (p == sysModules) = false := by
  obtain ⟨o, xs, e, x, r, nd⟩ := h
  exact ⟨xs, d_dictX I.hok e x r nd, r, x.1⟩
theorem pe_dget2X (hu : X.A.units + 65 < cLine) (ho : PE X o td) (he : PE X e ty) (hf : PE X f tx) (m : M2 X o "get" apos e f cpos) : PE X (.Call (.Attribute o "get" apos) [e, f] [] cpos) (tDGet2X td ty tx) := by
  refine ⟨fun pins s σ H Q I h => ?_⟩
  refine wpAny_Call_method m.base m.few m.line PySem.F.plainAttrs_dict PySem.F.slot_dict_get PySem.F.type_dict_get (thn (ho.run pins s σ H _ I h) fun u s1 ⟨x, H1, I1, rx, p, kvs, ex, hn, q1⟩ => ?_)
  subst ex
  obtain rfl : u = Value.ref p := rx
  obtain ⟨xs, dd, r, sm⟩ := hd_dict I1 hn
  refine ⟨dd.typeIs, fun b q => ?_, ?_⟩
  · cases q
    obtain ⟨ob, _, _, h1, h2, _⟩ := dd
    exact ⟨ob, h1, h2.2.1⟩
  rw [m.trees]
  refine Calls.callWith_builtin rfl (Calls.evalArgs_plain (Calls.spliced_cons (thn (he.run pins s1 σ H1 _ I1 q1) fun iv s2 ⟨y, H2, I2, ry, q2⟩ =>
    Calls.spliced_cons (thn (hf.run pins s2 σ H2 _ I2 q2) fun fv s3 ⟨z, H3, I3, rz, b, k, kvs3, ey, hn3, nk, dk, q3⟩ => Calls.spliced_nil ?_))))
  subst ey
  obtain rfl : iv = Value.ref b := ry
  obtain ⟨xs3, dd3, r3, sm3⟩ := hd_dict I3 hn3
  refine call_meetsIn PySem.F.slot_dict_get dd3.typeIs PySem.F.entry_dict_get (PySem.F.args_dict_get_3 _ _ _) (meetsH_dict_get_default (nestedKind X.prog X.w) p b sm3 fv) ⟨(show X.A.in1.units + 8 < cLine by simp [Around.in1]; omega), k, xs3, nk_is I3 nk dk, dd3, ?_⟩
  refine ⟨_, H3, I3.tok _, ?_, q3⟩
  rcases r3.look k with ⟨e1, e2⟩ | ⟨v', b', t, e1, e2, e3⟩
  · rw [e1, e2]
    exact rz
  · rw [e1, e2]
    exact e3
theorem hd_put {pins : List (Addr × Obj)} {σ : St} {H : Hp} {s : Shared} {p : Addr} {h' : Heap} {tk : Nat} {kvs : List (NestedKey × V)} {xs : List NE} {Q : Hp → Prop} (I : Inv X pins σ H s) (mu : Mut (H p)) (nt : ∀ ys, H p ≠ some (.tup ys)) (sm : (p == sysModules) = false) (dd : h'.DictOfH (nestedKind X.prog X.w) p xs) (hs : Heap.SameBut p s.heap h') (r : DX H xs kvs) (nd : (kvs.map (·.1)).Nodup)
    (q : HDput H p kvs Q) : ∃ H', Inv X pins σ H' { s with heap := h', toks := tk } ∧ Q H' := by
  obtain ⟨o, g, x⟩ := d_backX sm dd r
  exact ⟨_, d_write (ob := objO p o) I mu hs ⟨o, g⟩ (objO_ok g), q o xs x r nd⟩
theorem ps_dputX (hu : X.A.units + 65 < cLine) (ho : PE X o td) (hi : PE X i ty) (hv : PE X value tv) (hs : swapsWith value (some (.Subscript o i pos')) pos.line X.env = pure false) :
    PS X (.Assign [.Subscript o i pos'] value pos) (sDPutX td ty tv) := by
  refine ⟨fun pins s σ H D I h => ?_⟩
  refine wpAny_Assign_Subscript (thn (hv.run pins s σ H _ I h) fun r s1 ⟨v, H1, I1, rv, q1⟩ => thn (ho.run pins s1 σ H1 _ I1 q1) fun u s2 ⟨x, H2, I2, rx, q2⟩ => thn (hi.run pins s2 σ H2 _ I2 q2) fun iv s3 ⟨y, H3, I3, ry, p, b, kvs, k, ex, ey, hn, nk, dk, hl, q3⟩ => ?_) hs
  subst ex ey
  obtain rfl : u = Value.ref p := rx
  obtain rfl : iv = Value.ref b := ry
  obtain ⟨oo, xs, eH, x, rr, nd⟩ := hn
  have dd := d_dictX I3.hok eH x rr nd
  refine wpAny_setItem_heap (knd := nestedKind X.prog X.w) (show X.A.in1.units + 8 < cLine by simp [Around.in1]; omega) (nk_is I3 nk dk) dd (fun h' dd' hs' => ?_) (by rw [rr.len, sizeLine_eq]; omega)
  obtain ⟨H', I', q'⟩ := hd_put (tk := s3.toks + (nestedKind X.prog X.w).draws k) I3 (by rw [eH]; exact True.intro) (fun ys => by rw [eH]; exact objO_ne) x.1 dd' hs' (rr.put rv dk nk) (putG_nodup nd) q3
  exact ⟨σ, H', I', q'⟩
/-! walks -/
theorem nob_atX {p : Addr} {o : Obj} {es : Array DictEntry} {ep : Nat} {xs : List NE} {kvs : List (NestedKey × V)} {H : Hp} {i : Nat} {kv : NestedKey × V} (hx : NOb p o xs) (hod : o.data = .dict es ep) (r : DX H xs kvs) (h : kvs[i]? = some kv) (w : World) : ∃ (b : Addr) (u : Value) (hi : i < es.size), es[i].key = .ref b ∧ es[i].val = u ∧ RelV kv.2 u ∧ Nk H (.ref b) kv.1 := by
  obtain ⟨_, _, es', ep', h1, h2⟩ := hx
  rw [hod] at h1
  cases h1
  obtain ⟨b, t, e1, e2, e5⟩ := r.get h
  have e3 : es.toList[i]? = some (⟨kv.1.hash w, .ref b, t⟩ : DictEntry) := by rw [h2 w, List.getElem?_map, e1]; rfl
  have hi : i < es.size := by
    have := (List.getElem?_eq_some_iff.mp e3).1
    simpa using this
  have e4 : es[i] = (⟨kv.1.hash w, .ref b, t⟩ : DictEntry) := by
    have := (List.getElem?_eq_some_iff.mp e3).2
    simpa using this
  exact ⟨b, t, hi, by rw [e4], by rw [e4], e5, e2⟩
theorem nob_lenX {p : Addr} {o : Obj} {es : Array DictEntry} {ep : Nat} {xs : List NE} {kvs : List (NestedKey × V)} {H : Hp} (hx : NOb p o xs) (hod : o.data = .dict es ep) (r : DX H xs kvs) (w : World) : es.size = kvs.length := by
  obtain ⟨_, _, es', ep', h1, h2⟩ := hx
  rw [hod] at h1
  cases h1
  rw [← Array.length_toList, h2 w, List.length_map, r.len]
/-- the walk over the values -/
def ItVx (p : Addr) (o : Obj) (xs : List NE) (kvs : List (NestedKey × V)) : It :=
  ⟨fun i H => (H p = some (objO p o) ∧ DX H xs kvs) ∧ i < kvs.length, fun i H x H' => H' = H ∧ ∃ kv, kvs[i]? = some kv ∧ x = kv.2, fun i H => (H p = some (objO p o) ∧ DX H xs kvs) ∧ kvs.length ≤ i⟩
def iValsX (td : TE) : TI := fun σ H R => td σ H fun x H1 => ∃ p o xs kvs, x = .ref p ∧ H1 p = some (objO p o) ∧ NOb p o xs ∧ DX H1 xs kvs ∧ (kvs.map (·.1)).Nodup ∧ R (ItVx p o xs kvs) H1
theorem turn_valsX {P : Program} {w : World} {K : PySem.W.Frag} {tg : Expr} {p : Addr} {o : Obj} {es : Array DictEntry} {ep : Nat} {xs : List NE} {kvs : List (NestedKey × V)} (it : Addr) (hx : NOb p o xs) (hod : o.data = .dict es ep) :
    Turn P w K tg (ItVx p o xs kvs) [it] it (fun i h => h.get? it = some (DVw.valOb p i es.size ep)) where
  mem := by simp
  obj := fun i h st b hb => by
    rw [show b = it by simpa using hb]
    exact ⟨_, st, fun v z => nomatch z⟩
  keep := fun i h h' st k => k it (by simp) _ st
  item := by
    intro X hP hw hK hc i pins s σ H E I hf st hg
    subst hP hw hK
    obtain ⟨⟨hd, r⟩, hi⟩ := hg
    obtain ⟨f0, f1, f2, f3, f4, f5⟩ := hf it (by simp)
    obtain ⟨b, u, hi2, k1, k2, ru, nk⟩ := nob_atX hx hod r (List.getElem?_eq_getElem hi) X.w
    refine DVw.val_item st (objO_get I.hok hd) hod rfl (Array.getElem?_eq_getElem hi2) fun h' e1 sb => ?_
    have I1 : Inv X pins σ H { s with heap := h' } := I.turned (t' := s.toks) (fun b ob hb e => (sb.2 b hb).trans e) f0 f1 f3 f4 f5
    rw [k2]
    exact ⟨_, rfl, go_of (s := { s with heap := h' }) e1 rfl rfl (by decide) ⟨_, H, I1, ru, ⟨rfl, _, List.getElem?_eq_getElem hi, rfl⟩, e1, fun b hb => (hf b hb).1⟩⟩
  done := by
    intro X hP hw hK hc i pins s σ H E I hf st hg
    subst hP hw hK
    obtain ⟨⟨hd, r⟩, hi⟩ := hg
    obtain ⟨f0, f1, f2, f3, f4, f5⟩ := hf it (by simp)
    have he : es[i]? = none := Array.getElem?_eq_none (by rw [nob_lenX hx hod r X.w]; exact hi)
    exact DVw.val_end (I.ok.hd hc) st (objO_get I.hok hd) hod rfl he fun h' eb => ⟨rfl, I.turned (t' := s.toks) (fun b ob hb e => eb b ob hb e) f0 f1 f3 f4 f5⟩
  self := fun A i s Q E st h => wpAny_pyIter_valiter (i := i) (n := es.size) (ep := ep) (d := p) ⟨_, st, rfl, rfl⟩ h
theorem pi_valsX {tg e : Expr} {td : TE} {apos cpos : Pos} (he : PE X e td) (hbase : attributeBase e "values" X.env (eval e X.env) = eval e X.env := by rfl) (hline : (apos.endLine == cpos.line) = true := by rfl) :
    PI X tg (.Call (.Attribute e "values" apos) [] [] cpos) (iValsX td) := by
  refine ⟨fun pins s σ H R I h => ?_⟩
  refine wpAny_Call_method (T := "dict") (id := "dict.values") hbase rfl hline F.plainAttrs_dict F.slot_dict_values F.type_dict_values (thn (he.run pins s σ H _ I h) fun u s1 ⟨x, H1, I1, rx, p, o, xs, kvs, ex, hd, hx, r, nd, q⟩ => ?_)
  subst ex
  obtain rfl : u = Value.ref p := rx
  have dd := d_dictX I1.hok hd hx r nd
  obtain ⟨hs, hex, es, ep, hod, hent⟩ := id hx
  refine ⟨dd.typeIs, fun b q => ?_, ?_⟩
  · cases q
    obtain ⟨ob, _, _, h1, h2, _⟩ := dd
    exact ⟨ob, h1, h2.2.1⟩
  have ho : s1.heap.get? p = some o := objO_get I1.hok hd
  have ho1 : (s1.heap.push (DSub.viewOb "dict_values" p)).get? p = some o := Heap.get?_push_of_some _ ho
  have I2 : Inv X pins σ H1 { s1 with heap := s1.heap.push (DSub.viewOb "dict_values" p) } := I1.kept (t' := s1.toks) fun b ob q => Heap.get?_push_of_some _ q
  have fin : wpAny (model X.prog X.w) X.A (pyIter (.ref s1.heap.objs.size)) (PIE X pins σ tg R) X.xe { s1 with heap := s1.heap.push (DSub.viewOb "dict_values" p) } :=
    DSub.iter_vals (a := p) (s := { s1 with heap := s1.heap.push (DSub.viewOb "dict_values" p) }) (Heap.get?_push_size _ rfl) ho1 hod (pi_one (tk := s1.toks) I2 _ (turn_valsX _ hx hod) (Heap.get?_push_size _ rfl) q)
  show wpAny _ _ (callWith cpos (.builtin "dict.values") [.ref p] [] []) _ X.xe s1
  refine Calls.callWith_builtin rfl (PySem.evalArgs_none ?_)
  refine call_meetsIn F.slot_dict_values ⟨o, ho, hex.1⟩ F.entry_dict_values (F.args_dict_values_1 _) (meets_dict_values_raw p hs) ⟨⟨es, ep, o, ho, hex, hod⟩, ?_⟩
  exact fin
end
end L2
set_option Elab.async false
set_option linter.all false
set_option maxRecDepth 100000
set_option maxHeartbeats 4000000
namespace Ov
open PySem L2
section
variable {K : PySem.W.Frag} {E : XK} {bx : Nat}
/-- k in found, found one's own dict of nested keys -/
def dinX (n : Bool) (i : Nat) (fk : M R) : M Bool := M.bind fk fun r => M.bind (lift (asNK r)) fun k => M.bind (dtnD i) fun ks => M.pure (n ^^ (lookN ks k).isSome)
theorem OkT.dinX {n : Bool} {i : Nat} {tk : TE} {fk : M R} (o : OkE K E tk fk) : OkT K E (tB (tDInX n tk (tVar i))) (Ov.dinX n i fk) := by
  refine ⟨?_⟩
  intro B σ H env l rs rp h Q post
  refine o.seq rp h post.exn fun a e v H1 h1 r1 f1 q1 => ?_
  obtain ⟨k, h2, h3⟩ := lift_step h1
  obtain ⟨ks, hx, h4⟩ := dtnD_step h3
  cases h4
  obtain ⟨b, rfl, hb, hd⟩ := key_nk q1 h2
  obtain ⟨p, s1, s2, s3, _⟩ := r1.dgetN hx
  exact ⟨.ref p, s1, p, b, ks, k, rfl, rfl, s2, Nk.keep tup_off k hb, hd, _, rfl, post H1 r1 f1⟩
/-- found[k], found one's own -/
def dgX (i : Nat) (fk : M R) : M R := M.bind (dtnD i) fun _ => M.bind fk fun r => M.bind (lift (asNK r)) fun k => M.bind (dtnD i) fun ks => M.bind (lift (lookN ks k)) fun v => M.pure (.dat (.int v))
theorem OkE.dgX {i : Nat} {tk : TE} {fk : M R} (o : OkE K E tk fk) : OkE K E (tDGetN (tVar i) tk) (Ov.dgX i fk) := by
  refine ⟨?_⟩
  intro B σ H env l rs rp h Q post
  obtain ⟨ks0, hx0, h0⟩ := dtnD_step h
  obtain ⟨p, s1, s2, s3, _⟩ := rp.dgetN hx0
  refine ⟨.ref p, s1, ?_⟩
  refine o.seq rp h0 post.exn fun a e v' H1 h1 r1 f1 q1 => ?_
  obtain ⟨k, h2, h3⟩ := lift_step h1
  obtain ⟨ks, hx, h4⟩ := dtnD_step h3
  obtain ⟨v, h5, h6⟩ := lift_step h4
  cases h6
  obtain ⟨b, rfl, hb, hd⟩ := key_nk q1 h2
  obtain ⟨p', t1, t2, t3, t4⟩ := r1.dgetN hx
  rw [s1] at t1
  cases t1
  exact ⟨p, b, ks, k, v, rfl, rfl, t2, Nk.keep tup_off k hb, hd, h5, post _ H1 r1 f1 (.int v)⟩
/-! sorted(f(..)), where f gives a dict of its own whose keys are tuples of numbers -/
def nkI : List NestedKey → Option (List Int)
  | [] => some []
  | .num i :: r => (nkI r).map (i :: ·)
  | _ :: _ => none
theorem nkI_some : ∀ {ks : List NestedKey} {ns : List Int}, nkI ks = some ns → ks = ns.map .num
  | [], ns, h => by cases h; rfl
  | .num i :: r, ns, h => by
    obtain ⟨q, e1, rfl⟩ := Option.map_eq_some_iff.mp (show (nkI r).map (i :: ·) = some ns from h)
    rw [nkI_some e1]
    rfl
  | .tup _ :: _, _, h => by cases h
  | .none :: _, _, h => by cases h
  | .text _ :: _, _, h => by cases h
theorem nkI_map (ns : List Int) : nkI (ns.map NestedKey.num) = some ns := by
  induction ns with
  | nil => rfl
  | cons n r ih => show (nkI (r.map NestedKey.num)).map (n :: ·) = _; rw [ih]; rfl
def flatK : List (NestedKey × Int) → Option (List (List Int))
  | [] => some []
  | (.tup ks, _) :: r => (nkI ks).bind fun ns => (flatK r).map (ns :: ·)
  | _ :: _ => none
theorem flatK_some : ∀ {kvs : List (NestedKey × Int)} {nss : List (List Int)}, flatK kvs = some nss → kvs.map (·.1) = nss.map nkT
  | [], nss, h => by cases h; rfl
  | (.tup ks, v) :: r, nss, h => by
    obtain ⟨ns, e1, e2⟩ := Option.bind_eq_some_iff.mp (show (nkI ks).bind _ = some nss from h)
    obtain ⟨q, e3, rfl⟩ := Option.map_eq_some_iff.mp e2
    rw [List.map_cons, List.map_cons, flatK_some e3, nkI_some e1]
    rfl
  | (.num _, _) :: _, _, h => by cases h
  | (.none, _) :: _, _, h => by cases h
  | (.text _, _) :: _, _, h => by cases h
/-- a dict of tuples of numbers as one of nested keys -/
def nkv (f : List (List Int × Int)) : List (NestedKey × Int) := f.map fun kv => (nkT kv.1, kv.2)
theorem flatK_nkv (f : List (List Int × Int)) : flatK (nkv f) = some (f.map (·.1)) := by
  induction f with
  | nil => rfl
  | cons x r ih =>
    show (nkI (x.1.map NestedKey.num)).bind (fun ns => (flatK (nkv r)).map (ns :: ·)) = _
    rw [nkI_map, ih]
    rfl
def dtnW : Wv → Option (List (NestedKey × Int))
  | .dtn ks => some ks
  | _ => none
def sortKW (f : M Wv) : M R := M.bind f fun w => M.bind (lift (dtnW w)) fun ks => M.bind (lift (flatK ks)) fun nss => M.bind (lift (chk (alike nss && decide (ks.length ≤ 1000000)))) fun _ => M.pure (.dat (.list ((sortL nss).map tnD)))
theorem OkE.sortKW {t : TE} {f : M Wv} (o : OkW K E t f) : OkE K E (tCB (rSortKN K) (tCons t tNil)) (Ov.sortKW f) := by
  refine ⟨?_⟩
  intro B σ H env l rs rp h Q post
  refine o.seq rp h post.exn fun w e v H1 lw h1 r1 f1 q1 nd1 fr1 => ?_
  obtain ⟨ks, h2, h3⟩ := lift_step h1
  obtain ⟨nss, h4, h5⟩ := lift_step h3
  obtain ⟨u, h6, h7⟩ := lift_step h5
  cases h7
  have hc := chk_ok h6
  rw [Bool.and_eq_true] at hc
  obtain ⟨al, hl⟩ := hc
  have hl := of_decide_eq_true hl
  cases w with
  | dtn ks' =>
    cases h2
    obtain ⟨p, ob, xs, rfl, rfl, q3, q4, q5, q6⟩ := (show RpW K H1 (off (Ov.un (Ov.un B lw) l) H1) v (.dtn ks) lw from q1)
    refine ⟨p, ks, nss, rfl, ⟨ob, xs, q3, q4, q5.keep tup_off, q6⟩, flatK_some h4, hl, alike_or al, fun ys qs r pm pw py hr => ?_⟩
    have : qs = sortL nss := sortL_uniq (pm.trans (sortL_perm _).symm) pw (sortL_pw _)
    subst this
    have r2 : Rep K B σ H1 e l := r1.less fun _ z => .inl z
    refine post _ _ (r2.same (same_new hr _)) (f1.trans (Fr.of (same_new hr _))) (new_dp r2.tl hr (nsV_da ⟨py.1, fun i y z hy hz => ?_⟩)).1
    obtain ⟨t, e, k⟩ := py.2 i y z hy hz
    exact ⟨t, e, off_P r2.tl k⟩
  | _ => cases h2
end
section
variable {X : Cx} {K : PySem.W.Frag} (hK : X.K = K)
include hK
theorem k_sortKN (hc : X.calm = true) (hu : X.A.units + 64 < cLine) : CallR X (.builtin "sorted") (rSortKN K) := by subst hK; exact cr_sortKN hc hu
end
/-! as over dicts of tuples of numbers -/
theorem nkT_inj {a b : List Int} (h : nkT a = nkT b) : a = b := by
  have e := NestedKey.tup.inj h
  have := congrArg nkI e
  rw [nkI_map, nkI_map] at this
  exact Option.some.inj this
theorem lookN_nkv (f : List (List Int × Int)) (k : List Int) : lookN (nkv f) (nkT k) = lookK f k := by
  induction f with
  | nil => rfl
  | cons x r ih =>
    obtain ⟨j, v⟩ := x
    show (if nkT j = nkT k then some v else lookN (nkv r) (nkT k)) = if j = k then some v else lookK r k
    by_cases e : j = k
    · rw [if_pos e, if_pos (congrArg nkT e)]
    · rw [if_neg e, if_neg fun z => e (nkT_inj z), ih]
theorem look_any (f : List (List Int × Int)) (k : List Int) : (lookK f k).isSome = f.any fun kv => decide (kv.1 = k) := by
  induction f with
  | nil => rfl
  | cons x r ih =>
    obtain ⟨j, v⟩ := x
    show (if j = k then some v else lookK r k).isSome = (decide (j = k) || r.any _)
    by_cases e : j = k
    · rw [if_pos e, decide_eq_true e]; rfl
    · rw [if_neg e, decide_eq_false e, ih]; rfl
theorem putN_nkv (f : List (List Int × Int)) (k : List Int) (v : Int) : putN (nkv f) (nkT k) v = nkv (putKI f k v) := by
  unfold putN putKI
  rw [lookN_nkv, look_any]
  split
  · unfold nkv
    rw [List.map_map, List.map_map]
    refine List.map_congr_left fun x _ => ?_
    show (if nkT x.1 = nkT k then _ else _) = _
    by_cases e : x.1 = k
    · rw [if_pos (congrArg nkT e)]
      show _ = (nkT (if x.1 = k then (x.1, v) else x).1, (if x.1 = k then (x.1, v) else x).2)
      rw [if_pos e]
    · rw [if_neg (fun z => e (nkT_inj z))]
      show _ = (nkT (if x.1 = k then (x.1, v) else x).1, (if x.1 = k then (x.1, v) else x).2)
      rw [if_neg e]
  · unfold nkv
    rw [List.map_append]
    rfl
theorem nkv_len (f : List (List Int × Int)) : (nkv f).length = f.length := List.length_map ..
theorem asNK_tn {ns : List Int} : asNK (.dat (tnD ns)) = some (nkT ns) := by
  have h : nkDs (ns.map PyData.int) = some (ns.map NestedKey.num) := by
    induction ns with
    | nil => rfl
    | cons n r ih =>
      show (nkD (.int n)).bind (fun k => (nkDs (r.map PyData.int)).map (k :: ·)) = _
      rw [ih]
      rfl
  have d : (NestedKey.tup (ns.map NestedKey.num)).depth ≤ 8 := by
    have : ∀ l : List Int, NestedKey.depthAll (l.map NestedKey.num) ≤ 1 := fun l => by
      induction l with
      | nil => exact Nat.zero_le _
      | cons a r ih =>
        show max (NestedKey.num a).depth (NestedKey.depthAll (r.map NestedKey.num)) ≤ 1
        have : (NestedKey.num a).depth = 0 := rfl
        omega
    show NestedKey.depthAll (ns.map NestedKey.num) + 1 ≤ 8
    have := this ns
    omega
  show (nkDs (ns.map PyData.int)).bind _ = _
  rw [h]
  exact if_pos d
end Ov
set_option Elab.async false
set_option linter.all false
set_option maxRecDepth 100000
set_option maxHeartbeats 4000000
set_option Elab.async false
set_option linter.all false
set_option maxRecDepth 100000
set_option maxHeartbeats 4000000
namespace Ov
open PySem L2
/-! nested-key dicts of tuples of numbers: equations -/
theorem asNK_row (u : List Int) : asNK (.dat (.tuple (u.map .int))) = some (nkT u) := asNK_tn
theorem dinN_x {env : En} {n : Bool} {i : Nat} {fk : M R} {u : List Int} {f : List (List Int × Int)} (h : fk env = some (.ok (.dat (.tuple (u.map .int))) env)) (hx : env[i]? = some (some (.dtn (nkv f)))) : dinX n i fk env = some (.ok (n ^^ (lookK f u).isSome) env) := by
  rw [← lookN_nkv f u]
  exact bind_go h (bind_go (a := nkT u) (e := env) (by rw [asNK_row]; rfl) (bind_go (dtnD_x hx) rfl))
theorem dgetN_x {env : En} {i : Nat} {fk : M R} {u : List Int} {f : List (List Int × Int)} {d : Int} (h : fk env = some (.ok (.dat (.tuple (u.map .int))) env)) (hx : env[i]? = some (some (.dtn (nkv f)))) (hl : lookK f u = some d) : dgX i fk env = some (.ok (.dat (.int d)) env) :=
  bind_go (dtnD_x hx) (bind_go h (bind_go (a := nkT u) (e := env) (by rw [asNK_row]; rfl) (bind_go (dtnD_x hx) (bind_go (a := d) (e := env) (by rw [lookN_nkv, hl]; rfl) rfl))))
theorem dputNV_x {env : En} {i : Nat} {fk fv : M R} {u : List Int} {f : List (List Int × Int)} {d : Int} (hv : fv env = some (.ok (.dat (.int d)) env)) (h : fk env = some (.ok (.dat (.tuple (u.map .int))) env)) (hx : env[i]? = some (some (.dtn (nkv f)))) (hl : f.length < 100000) : dputN i fk fv env = some (.ok .nx (env.set i (some (.dtn (nkv (putKI f u d)))))) := by
  rw [← putN_nkv]
  exact dputN_x hv hx h (asNK_row u) (by rw [nkv_len]; exact hl)
theorem moveN_x {env : En} {i : Nat} {f : List (List Int × Int)} (hx : env[i]? = some (some (.dtn (nkv f)))) : moveN i env = some (.ok (.rt (.dtn (nkv f))) (env.set i none)) := by unfold moveN; rw [hx]
theorem dispN_x {env : En} {fk fv : M R} {u : List Int} {d : Int} (h : fk env = some (.ok (.dat (.tuple (u.map .int))) env)) (hv : fv env = some (.ok (.dat (.int d)) env)) : dispN fk fv env = some (.ok (.dtn (nkv [(u, d)])) env) := by
  unfold dispN
  rw [h]
  simp only [hv, asNK_row, v_asI]
  rfl
theorem lenNV_x {env : En} {i : Nat} {f : List (List Int × Int)} (h : env[i]? = some (some (.dtn (nkv f)))) (hl : f.length < 1000000) : lenNd i env = some (.ok (.dat (.int ((f.length : Nat) : Int))) env) := by
  have := lenNd_x h (by rw [nkv_len]; exact hl)
  rw [nkv_len] at this
  exact this
theorem sortKW_x {env e : En} {fw : M Wv} {f : List (List Int × Int)} (h : fw env = some (.ok (.dtn (nkv f)) e)) (ha : alike (f.map (·.1)) = true) (hl : f.length ≤ 1000000) : sortKW fw env = some (.ok (.dat (.list ((sortL (f.map (·.1))).map tnD))) e) :=
  bind_go h (bind_go (a := nkv f) (e := e) rfl (bind_go (a := f.map (·.1)) (e := e) (by rw [flatK_nkv]; rfl) (bind_go (a := ()) (e := e) (by
    rw [ha, nkv_len, decide_eq_true hl]; rfl) rfl)))
end Ov
set_option Elab.async false
set_option linter.all false
set_option maxRecDepth 100000
set_option maxHeartbeats 4000000
set_option Elab.async false
set_option linter.all false
set_option maxRecDepth 100000
set_option maxHeartbeats 4000000
set_option Elab.async false
set_option linter.all false
set_option maxRecDepth 100000
set_option maxHeartbeats 4000000
set_option Elab.async false
set_option linter.all false
set_option maxRecDepth 100000
set_option maxHeartbeats 4000000
set_option Elab.async false
set_option linter.all false
set_option maxRecDepth 100000
set_option maxHeartbeats 4000000
namespace Ov
open PySem L2
/-! objects of class Line: their two lists -/
def adr : Bool → Addr → Addr → Addr
  | false, a, _ => a
  | true, _, b => b
def ldt : Bool → List PyData → List PyData → List PyData
  | false, ss, _ => ss
  | true, _, es => es
def linW (C : Addr) : Bool → List PyData → List PyData → List PyData → Wv
  | false, ds, _, es => .lin C ds es
  | true, ds, ss, _ => .lin C ss ds
section
variable {K : PySem.W.Frag} {E : XK} {bx : Nat}
theorem Rep.lin {B : Addr → Prop} {σ : St} {H : Hp} {env : En} {l : List Addr} {i : Nat} {C : Addr} {ss es : List PyData} (z : Bool) (r : Rep K B σ H env l) (hx : env[i]? = some (some (.lin C ss es))) :
    ∃ p dx a b vs, σ[i]? = some (some (.ref p)) ∧ LinC K C ∧ H p = some (.ins C dx (linF a b)) ∧ ¬ un B l p ∧ adr z a b ∈ l ∧ H (adr z a b) = some (.lst vs) ∧ DaAll K (off (un B l) H) vs (ldt z ss es) ∧
      ∀ {vs' : List V} {ds' : List PyData}, DaAll K (off (un B l) H) vs' ds' → Rep K B σ (upd H (adr z a b) (.lst vs')) (env.set i (some (linW C z ds' ss es))) l := by
  obtain ⟨s, la, lx, ly, q1, q2, ⟨v, rfl, hc, p, dx, a, b, vs, ws, rfl, rfl, e3, e5, e6, e7, e8⟩, q5⟩ := r.rp.focus hx
  obtain ⟨np, e3'⟩ := off_at e3
  have nd := r.nd
  rw [q2] at nd
  have al : a ∈ l := by rw [q2]; simp
  have bl : b ∈ l := by rw [q2]; simp
  have ab : a ≠ b := by
    intro e
    subst e
    simp only [List.nodup_append, List.nodup_cons, List.mem_append, List.mem_cons, List.not_mem_nil, or_false] at nd
    grind
  have ax : ∀ q, q ∈ lx ∨ q ∈ ly → q ≠ a ∧ q ≠ b := by
    intro q hq
    simp only [List.nodup_append, List.nodup_cons, List.mem_append, List.mem_cons, List.not_mem_nil, or_false] at nd
    constructor
    · intro e
      subst e
      grind
    · intro e
      subst e
      grind
  have fin : ∀ (c : Addr) (hc : c ∈ l) (o : HO) {w' : Wv}, RpE K (upd H c o) (off (un B l) (upd H c o)) σ (env.set i (some w')) l → Rep K B σ (upd H c o) (env.set i (some w')) l := fun c hc o w' h => ⟨h, r.nd, r.out, fun q z => by
    obtain ⟨o', e, n⟩ := r.tb q z
    exact ⟨o', by rw [upd_ne (fun y => r.out c hc (by rw [← y]; exact z))]; exact e, n⟩⟩
  have sub : ∀ c ∈ l, ∀ o, Same (off (un B l) H) (off (un B l) (upd H c o)) := fun c hc o => off_mono (fun b z n => absurd z n) fun b u n e => by rw [upd_ne (fun y => n (.inr (by rw [y]; exact hc)))]; exact e
  cases z with
  | false =>
    refine ⟨p, dx, a, b, vs, q1, hc, e3', np, al, e5, e6, fun {vs' ds'} h' => fin a al _ ?_⟩
    have := q5 (H' := upd H a (.lst vs')) (G' := off (un B l) (upd H a (.lst vs'))) (s' := some (.ref p)) (e' := some (.lin C ds' es)) (a' := [a, b]) (sub a al _) (fun q z => upd_ne (ax q (.inl z)).1) (fun q z => upd_ne (ax q (.inr z)).1)
      ⟨_, rfl, hc, p, dx, a, b, vs', ws, rfl, rfl, sub a al _ _ _ e3, upd_same, DaAll.same (sub a al _) _ h', (upd_ne (Ne.symm ab)).trans e7, DaAll.same (sub a al _) _ e8⟩
    rw [set_same q1] at this
    rw [← q2] at this
    exact this
  | true =>
    refine ⟨p, dx, a, b, ws, q1, hc, e3', np, bl, e7, e8, fun {vs' ds'} h' => fin b bl _ ?_⟩
    have := q5 (H' := upd H b (.lst vs')) (G' := off (un B l) (upd H b (.lst vs'))) (s' := some (.ref p)) (e' := some (.lin C ss ds')) (a' := [a, b]) (sub b bl _) (fun q z => upd_ne (ax q (.inl z)).2) (fun q z => upd_ne (ax q (.inr z)).2)
      ⟨_, rfl, hc, p, dx, a, b, vs, vs', rfl, rfl, sub b bl _ _ _ e3, (upd_ne ab).trans e5, DaAll.same (sub b bl _) _ e6, upd_same, DaAll.same (sub b bl _) _ h'⟩
    rw [set_same q1] at this
    rw [← q2] at this
    exact this
end
/-! equations -/
end Ov
set_option Elab.async false
set_option linter.all false
set_option maxRecDepth 100000
set_option maxHeartbeats 4000000
set_option Elab.async false
set_option linter.all false
set_option maxRecDepth 100000
set_option maxHeartbeats 4000000
set_option Elab.async false
set_option linter.all false
set_option maxRecDepth 100000
set_option maxHeartbeats 4000000
set_option Elab.async false
set_option linter.all false
set_option maxRecDepth 100000
set_option maxHeartbeats 4000000
namespace L2
open PySem PySem.Calls Builtin
/-! len of an object whose class has __len__ -/
end L2
set_option Elab.async false
set_option linter.all false
set_option maxRecDepth 100000
set_option maxHeartbeats 4000000
set_option Elab.async false
set_option linter.all false
set_option maxRecDepth 100000
set_option maxHeartbeats 4000000
namespace Ov
open PySem PySem.Spec PyProof.Rows L2
/-! a def with defaults (they stand at dV); the length of what a method is handed -/
structure FunD (K : PySem.W.Frag) (x qual : Str) (st : Stmt) (f : Addr) (fd : FuncData) (dV : Value) : Prop where
  ex : ∃ (oc : Value) (od : Option Addr) (kV doc pm : Value) (an : Option Addr) (cdv ct : Value) (osl : Array (Option Value)),
    fd = PySem.W.fnOf x qual (defArgs st) (defBody st) (defScope st) dV kV doc pm an cdv ct ∧ K.lookup f = some ⟨oc, od, .func fd, osl⟩ ∧ PySem.W.codeIn K cdv qual = true
section
variable {P : Program} {w : World} {K : PySem.W.Frag} {mg : Str → Option Value} {base : Heap}
theorem FunD.ok {x qual : Str} {st : Stmt} {f : Addr} {fd : FuncData} {dV : Value} {N ps : List Str} {k : Nat} {sp : Sp} (F : FunD K x qual st f fd dV) (S : FnScope N ps (defScope st)) (len : ∀ vs H Q E, sp vs H Q E → vs.length = ps.length)
    (hb : ∀ (cd : Value) (A : Around) (outer : List Env) (s : Shared) (H : Hp) (vs : List V) (Q : VK) (E : XK), Room k (A.deeper (envOfC qual (defScope st) s.heap.objs.size f cd)) → sp vs H Q E →
      ∃ t, PSs (cxOf CX0 P w K mg base N qual (defScope st) f cd A outer s H E).nox (defBody st) t ∧ t { nx := fun _ H' => Q .non H', rt := Q } (start N vs) H) : FnOk P w K mg base CX0 (k + 1) f fd ps sp := by
  obtain ⟨_, _, _, _, _, _, cd, _, _, rfl, lk, hcd⟩ := F.ex
  refine fn_of lk hcd S len fun A outer s H vs Q E hr hsp => ?_
  obtain ⟨t, h, q⟩ := hb cd A outer s H vs Q E hr hsp
  exact ⟨t, h.nox, q⟩
theorem FunD.binds {x qual : Str} {st : Stmt} {f : Addr} {fd : FuncData} {dV : Value} {ps : List Str} (F : FunD K x qual st f fd dV)
    (h : ∀ (kV doc pm : Value) (an : Option Addr) (cdv ct : Value) (us : List Value), us.length = ps.length → bindArgs (PySem.W.fnOf x qual (defArgs st) (defBody st) (defScope st) dV kV doc pm an cdv ct) ⟨us, []⟩ = pure (ps.zip us)) : Binds K fd ps [] := by
  obtain ⟨_, _, kV, doc, pm, an, cdv, ct, _, rfl, _, _⟩ := F.ex
  exact .all (h kV doc pm an cdv ct)
end
end Ov
set_option Elab.async false
set_option linter.all false
set_option maxRecDepth 100000
set_option maxHeartbeats 4000000
namespace Ov
open PySem L2
/-! statements that may raise after a change: the error comes with the slots as they stand then -/
inductive Rz where
  | ok (fl : Fl) (env : En)
  | ex (C : Addr) (f : Str) (d : PyData) (env : En)
abbrev MZ := En → Option Rz
section
variable {K : PySem.W.Frag} {E : XK} {m : Nat}
def ExZ (K : PySem.W.Frag) (E : XK) (B : Addr → Prop) (C : Addr) (f : Str) (d : PyData) (l' : List Addr) (H' : Hp) : Prop :=
  (f ≠ "" → ∀ dx v, ¬ B dx → dx ∉ l' → H' dx = some (.xd [(f, v)]) → Da K (off (Ov.un B l') H') v d → E (.ref C) (some dx) H') ∧ (f = "" → E (.ref C) none H')
def PostZ (K : PySem.W.Frag) (E : XK) (m : Nat) (B : Addr → Prop) (σ : St) (H : Hp) (l : List Addr) (rs : Rz) (D : Ends) : Prop :=
  match rs with
  | .ok fl env' => PostS K E m B σ H l (.ok fl env') D
  | .ex C f d env' => ∀ σ' H' l', Rep K B σ' H' env' l' → Fr2 l H l' H' → (∀ z : Fin m, σ'[z.1]? = σ[z.1]?) → ExZ K E B C f d l' H'
structure OkZ (K : PySem.W.Frag) (E : XK) (m : Nat) (t : TS) (f : MZ) : Prop where
  run : ∀ {B : Addr → Prop} {σ : St} {H : Hp} {env : En} {l : List Addr} {rs : Rz}, Rep K B σ H env l → f env = some rs → ∀ {D : Ends}, PostZ K E m B σ H l rs D → t D σ H
theorem PostZ.later {B : Addr → Prop} {σ σ1 : St} {H H1 : Hp} {l l1 : List Addr} {rs : Rz} {D : Ends} (h : PostZ K E m B σ H l rs D) (s : Fr2 l H l1 H1) (e0 : ∀ z : Fin m, σ1[z.1]? = σ[z.1]?) : PostZ K E m B σ1 H1 l1 rs D := by
  cases rs with
  | ok fl env => exact PostS.later h s e0
  | ex C f d env => exact fun σ' H' l' r f' b => h σ' H' l' r (s.trans f') fun z => (b z).trans (e0 z)
def ofS (f : M Fl) : MZ := fun env => match f env with
  | some (.ok fl e) => some (.ok fl e)
  | _ => none
theorem OkZ.of {t : TS} {f : M Fl} (o : OkS K E m t f) : OkZ K E m t (ofS f) := by
  refine ⟨?_⟩
  intro B σ H env l rs rp h D post
  unfold ofS at h
  split at h
  · rename_i fl e hz
    cases h
    exact o.run rp hz post
  · cases h
end
end Ov
set_option Elab.async false
set_option linter.all false
set_option maxRecDepth 100000
set_option maxHeartbeats 4000000
namespace L2
open PySem PySem.Spec PyProof.Rows
end L2
namespace Ov
open PySem L2
/-! calls of methods that may raise after a change -/
section
variable {K : PySem.W.Frag} {E : XK}
/-- a value at given slots that may be an error, with the slots as they stand then -/
inductive Rw where
  | ok (w : PyData) (env : En)
  | ex (C : Addr) (f : Str) (d : PyData) (env : En)
abbrev MW := En → Option Rw
structure OkZat (K : PySem.W.Frag) (E : XK) (σ : St) (t : TE) (f : MW) : Prop where
  run : ∀ {B : Addr → Prop} {H : Hp} {env : En} {l : List Addr} {rs : Rw}, Rep K B σ H env l → f env = some rs → ∀ {Q : VK}, (∀ d e, rs = .ok d e → ∀ v H', Rep K B σ H' e l → Fr l H H' → Da K (off (Ov.un B l) H') v d → Q v H') →
    (∀ C f d e, rs = .ex C f d e → ∀ H', Rep K B σ H' e l → Fr l H H' → ExZ K E B C f d l H') → t σ H Q
end
end Ov
set_option Elab.async false
set_option linter.all false
set_option maxRecDepth 100000
set_option maxHeartbeats 4000000
namespace Ov
open PySem L2
/-! try: x = q.m(..); except (A, B, ..) as error: caught = error, where m may raise after it has changed q -/
section
variable {K : PySem.W.Frag} {E : XK} {m : Nat}
def keepZ (i j mm : Nat) (cs : List Addr) (f : MW) : M Fl := fun env =>
  match f env with
  | some (.ok d e) => (M.bind (putM i (.dat d)) fun _ => M.pure Fl.nx) e
  | some (.ex C fl d e) => if C ∈ cs ∧ mm < e.length ∧ j < e.length ∧ j ≠ mm ∧ isEmp e[j]? = true then some (.ok .nx (e.set mm (some (.exc C fl d)))) else none
  | none => none
theorem OkS.keepZ {i j mm : Nat} {cs : List Addr} {te : WX → TE} {f : MW} (hb : ∀ z : Fin m, i ≠ z.1 ∧ j ≠ z.1 ∧ mm ≠ z.1) (o : ∀ (W : WX) (σ : St), OkZat K (fun cls d H' => W cls d σ H') σ (te W) f) (hc : ∀ C ∈ cs, ∃ k, Cl K C k) :
    OkS K E m (fun D σ H => tAsg (te (wKeep tE K (cs.map Value.ref) j (fun _ _ _ => tAsg (tVar j) (gName mm)) D)) (gName i) D σ H) (Ov.keepZ i j mm cs f) := by
  have hx : ∀ C ∈ cs, ∀ c ∈ cs.map Value.ref, PySem.W.exmOne K (.ref C) c = some (tE (.ref C) c) := fun C hC c hcc => by
    obtain ⟨D, hD, rfl⟩ := List.mem_map.mp hcc
    obtain ⟨k, cl⟩ := hc C hC
    obtain ⟨k', cl'⟩ := hc D hD
    exact cl.exm cl'
  have ht : ∀ C ∈ cs, (cs.map Value.ref).any (tE (.ref C)) = true := fun C hC => List.any_eq_true.mpr ⟨.ref C, List.mem_map.mpr ⟨C, hC, rfl⟩, decide_eq_true rfl⟩
  refine ⟨?_⟩
  intro B σ H env l rs rp h D post
  unfold Ov.keepZ at h
  cases hf : f env with
  | none => rw [hf] at h; cases h
  | some z =>
    rw [hf] at h
    cases z with
    | ok d e =>
      refine (o _ _).run rp hf (fun d' e' ed v H' r1 f1 q1 => ?_) fun _ _ _ _ ed => by cases ed
      cases ed
      obtain ⟨hi, h2⟩ := putM_step h
      cases h2
      have r1' : Rep K (Ov.un B []) σ H' e l := by rw [un_nil]; exact r1
      obtain ⟨l', r', mm'⟩ := r1'.put (i := i) (v := v) (w := .dat d) hi ⟨rfl, by rw [un_nil]; exact q1⟩ List.nodup_nil fun b z => by cases z
      exact post _ H' l' r' ⟨f1, fun b z => .inl ((mm' b z).resolve_right fun y => by cases y)⟩ fun z => List.getElem?_set_ne (hb z).1
    | ex C fl d e =>
      simp only at h
      split at h
      case isFalse => cases h
      rename_i hh
      obtain ⟨hC, hm, hj, jm, ej⟩ := hh
      cases h
      obtain ⟨k, cl⟩ := hc C hC
      refine (o _ _).run rp hf (fun _ _ ed => by cases ed) fun C' f' d' e' ed H' r1 f1 => ?_
      cases ed
      have sl : σ.length = e.length := r1.len
      have tail : ∀ (od : Option Addr) (v : V), (∀ a, H' a = none → CauF K (off (Ov.un B l) (upd H' a (exg a C od))) a C fl v) → (fl ≠ "" → Da K (off (Ov.un B l) H') v d) → wKeep tE K (cs.map Value.ref) j (fun _ _ _ => tAsg (tVar j) (gName mm)) D (.ref C) od σ H' := by
        intro od v ca dv
        refine ⟨C, rfl, hx C hC, ht C hC, fun a na => ?_⟩
        have sj : (σ.set j (some (.ref a)))[j]? = some (some (.ref a)) := by rw [List.getElem?_set_self (by omega)]
        refine ⟨.ref a, sj, ?_⟩
        have s2 : Same H' (upd H' a (exg a C od)) := same_new na _
        have r2 : Rep K B σ (upd H' a (exg a C od)) e l := r1.same s2
        show D.nx ((((σ.set j (some (.ref a))).set mm (some (.ref a))).set j none)) (upd H' a (exg a C od))
        have r3 : Rep K (Ov.un B []) σ (upd H' a (exg a C od)) e l := by rw [un_nil]; exact r2
        have sub : Same (off (Ov.un B l) H') (off (Ov.un B l) (upd H' a (exg a C od))) := off_mono (fun b z n => absurd z n) fun b o n e => s2 _ _ e
        obtain ⟨l', r4, mm'⟩ := r3.put (i := mm) (v := .ref a) (w := .exc C fl d) hm ⟨rfl, a, v, rfl, by rw [un_nil]; exact ca a na, fun z => by rw [un_nil]; exact Da.same sub d (dv z)⟩ List.nodup_nil fun b z => by cases z
        refine post _ _ l' ⟨r4.rp.any (by simp) fun p w hp => ?_, r4.nd, r4.out, r4.tb⟩ ⟨f1.trans (Fr.of s2), fun b z => .inl ((mm' b z).resolve_right fun y => by cases y)⟩ fun z => ?_
        · by_cases pj : p = j
          · subst pj
            rw [List.getElem?_set_ne (fun z => jm z.symm), isEmp_ok ej] at hp
            cases hp
          · rw [List.getElem?_set_ne (fun z => pj z.symm)]
            by_cases pm : p = mm
            · subst pm
              rw [List.getElem?_set_self (by rw [List.length_set]; omega), List.getElem?_set_self (by omega)]
            · rw [List.getElem?_set_ne (fun z => pm z.symm), List.getElem?_set_ne (fun z => pj z.symm), List.getElem?_set_ne (fun z => pm z.symm)]
        · rw [List.getElem?_set_ne (hb z).2.1, List.getElem?_set_ne (hb z).2.2, List.getElem?_set_ne (hb z).2.1]
      refine ⟨fun hne dx v nB nl hd dv => tail (some dx) v (fun a na => .inl ⟨hne, k, dx, cl, ?_, ?_⟩) fun _ => dv, fun he => tail none .non (fun a na => .inr ⟨he, k, cl, ?_⟩) fun z => absurd he z⟩
      · exact (off_ne (r1.fresh na)).trans upd_same
      · exact (off_ne fun z => z.elim nB nl).trans ((upd_ne fun z => by rw [z, na] at hd; cases hd).trans hd)
      · exact (off_ne (r1.fresh na)).trans upd_same
end
end Ov
set_option Elab.async false
set_option linter.all false
set_option maxRecDepth 100000
set_option maxHeartbeats 4000000
namespace L2
open PySem PySem.Calls Builtin
/-! repr of an object whose class has __repr__ -/
end L2
set_option Elab.async false
set_option linter.all false
set_option maxRecDepth 100000
set_option maxHeartbeats 4000000
set_option Elab.async false
set_option linter.all false
set_option maxRecDepth 100000
set_option maxHeartbeats 4000000
set_option Elab.async false
set_option linter.all false
set_option maxRecDepth 100000
set_option maxHeartbeats 4000000
namespace Ov
open PySem L2
section
variable {K : PySem.W.Frag} {E : XK}
/-- a suite that is tried, its error kept -/
structure KZ (K : PySem.W.Frag) (E : XK) (m j mm : Nat) (cs : List Addr) (tb : WX → TS) (f : M Fl) : Prop where
  ok : OkS K E m (fun D σ H => tb (wKeep tE K (cs.map Value.ref) j (fun _ _ _ => tAsg (tVar j) (gName mm)) D) D σ H) f
theorem KZ.set {m i j mm : Nat} {cs : List Addr} {te : WX → TE} {f : MW} (hb : ∀ z : Fin m, i ≠ z.1 ∧ j ≠ z.1 ∧ mm ≠ z.1) (o : ∀ (W : WX) (σ : St), OkZat K (fun cls d H' => W cls d σ H') σ (te W) f) (hc : ∀ C ∈ cs, ∃ k, Cl K C k) : KZ K E m j mm cs (fun W => tAsg (te W) (gName i)) (keepZ i j mm cs f) := ⟨OkS.keepZ hb o hc⟩
end
/-! equations -/
end Ov
set_option Elab.async false
set_option linter.all false
set_option maxRecDepth 100000
set_option maxHeartbeats 4000000
set_option Elab.async false
set_option linter.all false
set_option maxRecDepth 100000
set_option maxHeartbeats 4000000
set_option Elab.async false
set_option linter.all false
set_option maxRecDepth 100000
set_option maxHeartbeats 4000000
set_option Elab.async false
set_option linter.all false
set_option maxRecDepth 100000
set_option maxHeartbeats 4000000
namespace L2
open PySem PySem.Spec PyProof.Rows
/-- keywords' values in another order -/
def permT (n : Nat) (π : List Nat) (tk : TA) : TA := fun σ H Q => tk σ H fun zs H2 => zs.length = n ∧ Q (π.map fun i => zs.getD i .non) H2
end L2
namespace Ov
open PySem L2
section
variable {K : PySem.W.Frag} {E : XK}
theorem rprs_len {G : Hp} {σ : St} : ∀ {vs : List V} {rs : List R}, RpRs K G σ vs rs → vs.length = rs.length
  | [], [], _ => rfl
  | _ :: _, _ :: _, h => by rw [List.length_cons, List.length_cons, rprs_len h.2]
  | [], _ :: _, h => h.elim
  | _ :: _, [], h => h.elim
theorem rprs_getD {G : Hp} {σ : St} : ∀ {vs : List V} {rs : List R}, RpRs K G σ vs rs → ∀ i, RpR K G σ (vs.getD i .non) (rs.getD i (.dat .none))
  | [], [], _, i => (show Da K G .non .none from .non)
  | v :: vs, r :: rs, h, 0 => h.1
  | v :: vs, r :: rs, h, i + 1 => by
    have := rprs_getD h.2 i
    simpa using this
  | [], _ :: _, h, _ => h.elim
  | _ :: _, [], h, _ => h.elim
theorem rprs_perm {G : Hp} {σ : St} {vs : List V} {rs : List R} (h : RpRs K G σ vs rs) : ∀ π : List Nat, RpRs K G σ (π.map fun i => vs.getD i .non) (π.map fun i => rs.getD i (.dat .none))
  | [] => trivial
  | i :: q => ⟨rprs_getD h i, rprs_perm h q⟩
def permF (n : Nat) (π : List Nat) (fa : M (List R)) : M (List R) := M.bind fa fun rs => M.bind (lift (chk (decide (rs.length = n)))) fun _ => M.pure (π.map fun i => rs.getD i (.dat .none))
theorem OkA.perm {n : Nat} {π : List Nat} {t : TA} {fa : M (List R)} (oa : OkA K E t fa) : OkA K E (permT n π t) (permF n π fa) := by
  refine ⟨?_⟩
  intro B σ H env l rs rp h Q post
  refine oa.seq rp h post.exn fun a e vs H1 h1 r1 f1 w1 => ?_
  obtain ⟨u, h2, h3⟩ := lift_step h1
  cases h3
  have hl : a.length = n := of_decide_eq_true (chk_ok h2)
  exact ⟨(rprs_len w1).trans hl, post _ H1 r1 f1 (rprs_perm w1 π)⟩
/-! isinstance(error, (own classes, built-in classes)) -/
/-! a method of a fresh object -/
/-! the suite of a try that is one call -/
end
end Ov
set_option Elab.async false
set_option linter.all false
set_option maxRecDepth 100000
set_option maxHeartbeats 4000000
namespace L2
open PySem PySem.Spec PyProof.Rows
/-! == and != of objects whose class has __eq__ -/
end L2
set_option Elab.async false
set_option linter.all false
set_option maxRecDepth 100000
set_option maxHeartbeats 4000000
set_option Elab.async false
set_option linter.all false
set_option maxRecDepth 100000
set_option maxHeartbeats 4000000
namespace Ov
open PySem L2
/-! dicts of nested keys whose values are data -/
section
variable {K : PySem.W.Frag} {E : XK} {bx : Nat}
theorem DVs.look {G : Hp} (k : NestedKey) : ∀ {us : List (NestedKey × V)} {ks : List (NestedKey × PyData)}, DVs K G us ks → (lookG us k = none ∧ lookG ks k = none) ∨ ∃ v d, lookG us k = some v ∧ lookG ks k = some d ∧ Da K G v d
  | [], [], _ => .inl ⟨rfl, rfl⟩
  | (j, v) :: us, (j', d) :: ks, ⟨⟨e1, e2⟩, r⟩ => by
    cases (show j = j' from e1)
    by_cases e : j = k
    · exact .inr ⟨v, d, if_pos e, if_pos e, e2⟩
    · rw [show lookG ((j, v) :: us) k = lookG us k from if_neg e, show lookG ((j, d) :: ks) k = lookG ks k from if_neg e]
      exact DVs.look k r
  | [], _ :: _, h => h.elim
  | _ :: _, [], h => h.elim
theorem DVs.app {G : Hp} : ∀ {us vs : List (NestedKey × V)} {ks js : List (NestedKey × PyData)}, DVs K G us ks → DVs K G vs js → DVs K G (us ++ vs) (ks ++ js)
  | [], _, [], _, _, h => h
  | _ :: _, _, _ :: _, _, ⟨a, r⟩, h => ⟨a, DVs.app r h⟩
  | [], _, _ :: _, _, h, _ => h.elim
  | _ :: _, _, [], _, h, _ => h.elim
theorem DVs.map {G : Hp} {k : NestedKey} {v : V} {d : PyData} (z : Da K G v d) : ∀ {us : List (NestedKey × V)} {ks : List (NestedKey × PyData)}, DVs K G us ks → DVs K G (us.map fun kv => if kv.1 = k then (kv.1, v) else kv) (ks.map fun kv => if kv.1 = k then (kv.1, d) else kv)
  | [], [], _ => trivial
  | (j, u) :: us, (j', d') :: ks, ⟨⟨e1, e2⟩, r⟩ => by
    cases (show j = j' from e1)
    refine ⟨?_, DVs.map z r⟩
    show (if j = k then (j, v) else (j, u)).1 = (if j = k then (j, d) else (j, d')).1 ∧ _
    by_cases e : j = k
    · simp only [if_pos e]; exact ⟨trivial, z⟩
    · simp only [if_neg e]; exact ⟨trivial, e2⟩
  | [], _ :: _, h => h.elim
  | _ :: _, [], h => h.elim
theorem DVs.put {G : Hp} {k : NestedKey} {v : V} {d : PyData} (z : Da K G v d) {us : List (NestedKey × V)} {ks : List (NestedKey × PyData)} (r : DVs K G us ks) : DVs K G (putG us k v) (putG ks k d) := by
  unfold putG
  rcases r.look k with ⟨e1, e2⟩ | ⟨v', d', e1, e2, _⟩
  · rw [e1, e2]; exact r.app ⟨⟨rfl, z⟩, trivial⟩
  · rw [e1, e2]; exact r.map z
theorem DVs.keys {G : Hp} : ∀ {us : List (NestedKey × V)} {ks : List (NestedKey × PyData)}, DVs K G us ks → us.map (·.1) = ks.map (·.1)
  | [], [], _ => rfl
  | _ :: _, kv :: _, ⟨⟨e, _⟩, r⟩ => by rw [List.map_cons, List.map_cons, e, DVs.keys r]
  | [], _ :: _, h => h.elim
  | _ :: _, [], h => h.elim
theorem DVs.len {G : Hp} {us : List (NestedKey × V)} {ks : List (NestedKey × PyData)} (h : DVs K G us ks) : us.length = ks.length := by
  have := congrArg List.length h.keys
  rwa [List.length_map, List.length_map] at this
theorem DVs.get {G : Hp} : ∀ {us : List (NestedKey × V)} {ks : List (NestedKey × PyData)} {i : Nat} {kv : NestedKey × V}, DVs K G us ks → us[i]? = some kv → ∃ d, ks[i]? = some (kv.1, d) ∧ Da K G kv.2 d
  | (j, u) :: us, (j', d') :: ks, 0, kv, ⟨⟨e1, e2⟩, _⟩, h => by
    cases h
    cases (show j = j' from e1)
    exact ⟨d', rfl, e2⟩
  | _ :: _, _ :: _, i + 1, kv, ⟨_, r⟩, h => DVs.get (i := i) r (by simpa using h)
  | [], [], _, _, _, h => by simp at h
  | [], _ :: _, _, _, h, _ => h.elim
  | _ :: _, [], _, _, h, _ => h.elim
theorem DVs.out {G : Hp} {k : NestedKey} : ∀ {us : List (NestedKey × V)} {ks : List (NestedKey × PyData)}, DVs K G us ks → DVs K G (outG us k) (outG ks k)
  | [], [], _ => trivial
  | (j, u) :: us, (j', d') :: ks, ⟨⟨e1, e2⟩, r⟩ => by
    cases (show j = j' from e1)
    have ih := DVs.out (k := k) r
    unfold outG at ih ⊢
    by_cases e : j = k
    · rw [List.filter_cons_of_neg (by simp [e]), List.filter_cons_of_neg (by simp [e])]
      exact ih
    · rw [List.filter_cons_of_pos (by simp [e]), List.filter_cons_of_pos (by simp [e])]
      exact ⟨⟨rfl, e2⟩, ih⟩
  | [], _ :: _, h => h.elim
  | _ :: _, [], h => h.elim
/-! the own slot -/
def dtdD (i : Nat) : M (List (NestedKey × PyData)) := fun env =>
  match env[i]? with
  | some (some (.dtd ks)) => some (.ok ks env)
  | _ => none
theorem dtdD_x {env : En} {i : Nat} {kvs : List (NestedKey × PyData)} (h : env[i]? = some (some (.dtd kvs))) : dtdD i env = some (.ok kvs env) := by unfold dtdD; rw [h]
theorem dtdD_step {α : Type} {i : Nat} {g : List (NestedKey × PyData) → M α} {env : En} {rs : Rs α} (h : (M.bind (dtdD i) g) env = some rs) : ∃ ks, env[i]? = some (some (.dtd ks)) ∧ g ks env = some rs := by
  have key : ∀ z, dtdD i env = some z → ∃ ks, env[i]? = some (some (.dtd ks)) ∧ z = .ok ks env := fun z hz => by
    unfold dtdD at hz
    split at hz
    · rename_i ks hx
      cases hz
      exact ⟨ks, hx, rfl⟩
    · cases hz
  rcases bind_some h with ⟨a, e, h1, h2⟩ | ⟨C, f, d, h1, h2⟩
  · obtain ⟨ds, e1, e2⟩ := key _ h1
    cases e2
    exact ⟨_, e1, h2⟩
  · obtain ⟨ds, e1, e2⟩ := key _ h1
    cases e2
theorem Rep.dgetY {B : Addr → Prop} {σ : St} {H : Hp} {env : En} {l : List Addr} {i : Nat} {ks : List (NestedKey × PyData)} (r : Rep K B σ H env l) (hx : env[i]? = some (some (.dtd ks))) :
    ∃ p us, σ[i]? = some (some (.ref p)) ∧ HD H p us ∧ DVs K (off (un B l) H) us ks ∧ p ∈ l ∧ ∀ us' ks' o xs, NOb p o xs → DX H xs us' → DVs K (off (un B l) H) us' ks' → (us'.map (·.1)).Nodup → Rep K B σ (upd H p (objO p o)) (env.set i (some (.dtd ks'))) l := by
  obtain ⟨s, a, lx, ly, q1, q2, ⟨v, rfl, p, o, xs, us, rfl, rfl, q6, q7, q8, q9, q10⟩, q5⟩ := r.rp.focus hx
  have hp : p ∈ l := by rw [q2]; exact List.mem_append_right _ (List.mem_append_left _ (List.mem_cons_self ..))
  refine ⟨p, us, q1, ⟨o, xs, q6, q7, q8.keep fun b ys e => tup_off b ys e, q10⟩, q9, hp, fun us' ks' o' xs' x' r' dv nd' => ?_⟩
  have nd := r.nd
  rw [q2] at nd
  obtain ⟨n1, n2, n3⟩ := List.nodup_append.mp nd
  obtain ⟨n4, n5, n6⟩ := List.nodup_append.mp n2
  have sub : Same (off (un B l) H) (off (un B l) (upd H p (objO p o'))) := off_mono (fun b z n => absurd z n) fun b o n e => by rw [upd_ne (fun z => n (.inr (by rw [z]; exact hp)))]; exact e
  have rk : DX (off (un B l) (upd H p (objO p o'))) xs' us' := r'.keep fun b ys e => (off_tupH r.tl b ys e).same sub
  refine ⟨?_, r.nd, r.out, fun b z => ?_⟩
  · have := q5 (H' := upd H p (objO p o')) (s' := some (.ref p)) (e' := some (.dtd ks')) (a' := [p]) sub
      (fun q z => upd_ne fun e => n3 q z p (List.mem_append_left _ (List.mem_cons_self ..)) e) (fun q z => upd_ne fun e => n6 p (List.mem_cons_self ..) q z e.symm) ⟨_, rfl, p, o', xs', us', rfl, rfl, upd_same, x', rk, dv.same sub, nd'⟩
    rw [set_same q1] at this
    rw [q2] at this ⊢
    exact this
  · obtain ⟨o, e, n⟩ := r.tb b z
    exact ⟨o, by rw [upd_ne (fun y => r.out p hp (by rw [← y]; exact z))]; exact e, n⟩
theorem da_fr {B : Addr → Prop} {l : List Addr} {H1 H2 : Hp} (f : Fr l H1 H2) {v : V} {d : PyData} (h : Da K (off (un B l) H1) v d) : Da K (off (un B l) H2) v d := Da.same f.keep d h
theorem nk_fr {B : Addr → Prop} {l : List Addr} {H1 H2 : Hp} (f : Fr l H1 H2) {k : NestedKey} {b : Addr} (h : Nk (off (un B l) H1) (.ref b) k) : Nk H2 (.ref b) k := Nk.keep (fun c ys ec => by
    obtain ⟨o9, ec, d9⟩ := ec
    obtain ⟨nc, ec⟩ := off_at ec
    exact ⟨o9, f c _ (fun z => nc (.inr z)) ec, d9⟩) k h
/-- found[k] = v -/
def dputY (i : Nat) (fk fv : M R) : M Fl := M.bind fv fun r0 => M.bind (lift (asD r0)) fun v => M.bind (dtdD i) fun _ => M.bind fk fun r => M.bind (lift (asNK r)) fun k => M.bind (dtdD i) fun ks => M.bind (lift (chk (decide (ks.length < 100000)))) fun _ => M.bind (putM i (.dtd (putG ks k v))) fun _ => M.pure .nx
theorem OkS.dputY {i : Nat} {tk tv : TE} {fk fv : M R} (o : OkE K E tk fk) (ov : OkE K E tv fv) : OkS K E bx (sDPutX (tVar i) tk tv) (Ov.dputY i fk fv) := by
  refine ⟨?_⟩
  intro B σ H env l rs rp h D post
  refine ov.seq rp h post.exn fun a0 e0 v0 H0 h0 r0 f0 q0 => ?_
  obtain ⟨v, g2, h0⟩ := lift_step h0
  rw [asD_some g2] at q0
  obtain ⟨ks0, hx0, h0⟩ := dtdD_step h0
  obtain ⟨p, us0, s1, s2, _, s3, _⟩ := r0.dgetY hx0
  refine ⟨.ref p, s1, ?_⟩
  refine o.seq r0 h0 (exn_later post.exn f0) fun a e v' H1 h1 r1 f1 q1 => ?_
  obtain ⟨k, h2, h3⟩ := lift_step h1
  obtain ⟨ks, hx, h4⟩ := dtdD_step h3
  obtain ⟨u, h4a, h4⟩ := lift_step h4
  have hn := of_decide_eq_true (chk_ok h4a)
  obtain ⟨_, h5⟩ := putM_step h4
  cases h5
  obtain ⟨b, rfl, hb, hd⟩ := key_nk q1 h2
  obtain ⟨p', us, t1, t2, tv, t3, t4⟩ := r1.dgetY hx
  rw [s1] at t1
  cases t1
  refine ⟨p, b, us, k, rfl, rfl, t2, Nk.keep tup_off k hb, hd, by rw [tv.len]; exact hn, fun o' xs' x' r' nd' => ?_⟩
  exact post σ _ l (t4 _ _ _ _ x' r' (tv.put (da_fr f1 q0)) nd') (Fr2.of ((f0.trans f1).trans (fr_upd t3))) fun _ => rfl
/-- found.get(k, d) -/
def dget2Y (i : Nat) (fk fv : M R) : M R := M.bind (dtdD i) fun _ => M.bind fk fun r => M.bind (lift (asNK r)) fun k => M.bind fv fun r0 => M.bind (lift (asD r0)) fun v => M.bind (dtdD i) fun ks => M.pure (.dat ((lookG ks k).getD v))
theorem OkE.dget2Y {i : Nat} {tk tv : TE} {fk fv : M R} (o : OkE K E tk fk) (ov : OkE K E tv fv) : OkE K E (tDGet2X (tVar i) tk tv) (Ov.dget2Y i fk fv) := by
  refine ⟨?_⟩
  intro B σ H env l rs rp h Q post
  obtain ⟨ks0, hx0, h0⟩ := dtdD_step h
  obtain ⟨p, us0, s1, s2, _, s3, _⟩ := rp.dgetY hx0
  refine ⟨.ref p, s1, p, us0, rfl, s2, ?_⟩
  refine o.seq rp h0 post.exn fun a e v' H1 h1 r1 f1 q1 => ?_
  obtain ⟨k, h2, h3⟩ := lift_step h1
  refine ov.seq r1 h3 (exn_later post.exn f1) fun a2 e2 v2 H2 h4 r2 f2 q2 => ?_
  obtain ⟨j, h5, h6⟩ := lift_step h4
  rw [asD_some h5] at q2
  obtain ⟨ks, hx, h7⟩ := dtdD_step h6
  cases h7
  obtain ⟨b, rfl, hb, hd⟩ := key_nk q1 h2
  obtain ⟨p', us, t1, t2, tv, t3, t4⟩ := r2.dgetY hx
  rw [s1] at t1
  cases t1
  refine ⟨b, k, us, rfl, t2, nk_fr f2 hb, hd, post _ H2 r2 (f1.trans f2) ?_⟩
  rcases tv.look k with ⟨e1, e2⟩ | ⟨v, d, e1, e2, e3⟩
  · rw [e1, e2]; exact q2
  · rw [e1, e2]; exact e3
/-- {} -/
def dnewY : M Wv := M.pure (.dtd [])
theorem OkW.dnewY : OkW K E tDNewN Ov.dnewY := by
  refine ⟨?_⟩
  intro B σ H env l rs rp h Q post p o hp x
  cases h
  have r0 : Rep K (un B [p]) σ (upd H p (objO p o)) env l := rp.grow (same_new hp _) (fun _ z => .inl z) (fun b z => z.imp id fun z => by rw [List.mem_singleton.mp z]; exact hp) fun b z => by
    by_cases e : b = p
    · subst e; exact ⟨_, upd_same, trivial⟩
    · rw [upd_ne e]; exact rp.tb b (z.resolve_right fun z => e (List.mem_singleton.mp z))
  exact post _ _ [p] r0 (fun c oc nc ec => by rw [upd_ne (fun z => by rw [z, hp] at ec; cases ec)]; exact ec) ⟨p, o, [], [], rfl, rfl, upd_same, x, trivial, trivial, List.nodup_nil⟩ (List.nodup_cons.mpr ⟨by simp, List.nodup_nil⟩) fun b z => by rw [List.mem_singleton.mp z]; exact hp
/-! read only -/
theorem Rep.toNdY {B : Addr → Prop} {σ : St} {H : Hp} {env : En} {l : List Addr} {i : Nat} {ks : List (NestedKey × PyData)} (r' : Rep K B σ H env l) (hx : env[i]? = some (some (.dtd ks))) : ∃ l', Rep K B σ H (env.set i (some (.ndd ks))) l' ∧ ∀ b ∈ l', b ∈ l := by
  obtain ⟨s, a, lx, ly, q1, q2, ⟨v, q3, p, ob, xs, us, e1, e2, e3, e4, e5, e6, e7⟩, q5⟩ := r'.rp.focus hx
  subst q3 e1 e2
  have nd := r'.nd
  rw [q2] at nd
  obtain ⟨n1, n2, n3⟩ := List.nodup_append.mp nd
  obtain ⟨n4, n5, n6⟩ := List.nodup_append.mp n2
  have lsub : ∀ b, b ∈ lx ++ ([] ++ ly) → b ∈ l := fun b z => by
    rw [q2]
    rw [List.nil_append] at z
    exact (List.mem_append.mp z).elim (List.mem_append_left _) fun z => List.mem_append_right _ (List.mem_append_right _ z)
  have hp : p ∈ l := by rw [q2]; exact List.mem_append_right _ (List.mem_append_left _ (List.mem_cons_self ..))
  have np : ¬ un B (lx ++ ([] ++ ly)) p := fun z => by
    rcases z with z | z
    · exact r'.out p hp z
    · rw [List.nil_append] at z
      rcases List.mem_append.mp z with z | z
      · exact n3 p z p (List.mem_append_left _ (List.mem_cons_self ..)) rfl
      · exact n6 p (List.mem_cons_self ..) p z rfl
  have sub : Same (off (un B l) H) (off (un B (lx ++ ([] ++ ly))) H) := off_mono (fun b z n => absurd (z.imp id (lsub b)) n) fun b o n e => e
  have ee : σ.set i (some (.ref p)) = σ := by
    apply List.ext_getElem?
    intro j
    by_cases z : i = j
    · subst z; rw [List.getElem?_set_self (List.getElem?_eq_some_iff.mp q1).1, q1]
    · rw [List.getElem?_set_ne z]
  refine ⟨lx ++ ([] ++ ly), ⟨?_, ?_, fun b z => r'.out b (lsub b z), r'.tb⟩, lsub⟩
  · have := q5 (H' := H) (G' := off (un B (lx ++ ([] ++ ly))) H) (s' := some (.ref p)) (e' := some (.ndd ks)) (a' := []) sub (fun _ _ => rfl) (fun _ _ => rfl) ⟨_, rfl, rfl, p, rfl, ob, xs, us, by rw [off_ne np]; exact e3, e4, e5.keep fun b ys z => z.same sub, e6.same sub, e7⟩
    rw [ee] at this
    exact this
  · rw [List.nil_append]
    exact List.nodup_append.mpr ⟨n1, n5, fun x hx y hy => n3 x hx y (List.mem_append_right _ hy)⟩
/-- the own dict of slot i is only read from here on, if it is one -/
def preY (i : Nat) (f : M Fl) : M Fl := fun env =>
  match env[i]? with
  | some (some (.dtd ks)) => f (env.set i (some (.ndd ks)))
  | some (some (.ndd _)) => f env
  | _ => none
theorem OkS.preY {i : Nat} {t : TS} {f : M Fl} (o : OkS K E bx t f) : OkS K E bx t (Ov.preY i f) := by
  refine ⟨?_⟩
  intro B σ H env l rs rp h D post
  unfold Ov.preY at h
  split at h
  · rename_i ks hx
    obtain ⟨l', r', sub⟩ := rp.toNdY hx
    exact o.run r' h (post.later ⟨Fr.refl _ _, fun b z => .inl (sub b z)⟩ fun _ => rfl)
  · exact o.run rp h post
  · cases h
theorem preY_x {env : En} {i : Nat} {f : M Fl} {ks : List (NestedKey × PyData)} (hx : env[i]? = some (some (.dtd ks))) : preY i f env = f (env.set i (some (.ndd ks))) := by unfold preY; rw [hx]
theorem preY_n {env : En} {i : Nat} {f : M Fl} {ks : List (NestedKey × PyData)} (hx : env[i]? = some (some (.ndd ks))) : preY i f env = f env := by unfold preY; rw [hx]
def nddD (i : Nat) : M (List (NestedKey × PyData)) := fun env =>
  match env[i]? with
  | some (some (.ndd ks)) => some (.ok ks env)
  | _ => none
theorem nddD_x {env : En} {i : Nat} {kvs : List (NestedKey × PyData)} (h : env[i]? = some (some (.ndd kvs))) : nddD i env = some (.ok kvs env) := by unfold nddD; rw [h]
theorem nddD_step {α : Type} {i : Nat} {g : List (NestedKey × PyData) → M α} {env : En} {rs : Rs α} (h : (M.bind (nddD i) g) env = some rs) : ∃ ks, env[i]? = some (some (.ndd ks)) ∧ g ks env = some rs := by
  have key : ∀ z, nddD i env = some z → ∃ ks, env[i]? = some (some (.ndd ks)) ∧ z = .ok ks env := fun z hz => by
    unfold nddD at hz
    split at hz
    · rename_i ks hx
      cases hz
      exact ⟨ks, hx, rfl⟩
    · cases hz
  rcases bind_some h with ⟨a, e, h1, h2⟩ | ⟨C, f, d, h1, h2⟩
  · obtain ⟨ds, e1, e2⟩ := key _ h1
    cases e2
    exact ⟨_, e1, h2⟩
  · obtain ⟨ds, e1, e2⟩ := key _ h1
    cases e2
theorem Rep.ndRY {B : Addr → Prop} {σ : St} {H : Hp} {env : En} {l : List Addr} {i : Nat} {ks : List (NestedKey × PyData)} (r : Rep K B σ H env l) (hx : env[i]? = some (some (.ndd ks))) : ∃ p, σ[i]? = some (some (.ref p)) ∧ NdD K (off (un B l) H) p ks := by
  obtain ⟨s, a, lx, ly, q1, q2, ⟨v, rfl, rfl, p, rfl, q6⟩, q5⟩ := r.rp.focus hx
  exact ⟨p, q1, q6⟩
/-- for x in d.values() -/
def valsY (i : Nat) : M (List PyData) := M.bind (nddD i) fun ks => M.pure (ks.map (·.2))
theorem valsY_x {env : En} {i : Nat} {kvs : List (NestedKey × PyData)} (h : env[i]? = some (some (.ndd kvs))) : valsY i env = some (.ok (kvs.map (·.2)) env) := bind_go (nddD_x h) rfl
theorem OkI.valsY {i : Nat} : OkI K E (iValsX (tVar i)) (Ov.valsY i) := by
  refine ⟨?_⟩
  intro B σ H env l rs rp h R post
  obtain ⟨ks, hx, h2⟩ := nddD_step h
  cases h2
  obtain ⟨p, s1, o, xs, us, q1, q2, q3, q5, q4⟩ := rp.ndRY hx
  obtain ⟨np, hp⟩ := off_at q1
  have q3' : DX H xs us := q3.keep tup_off
  refine ⟨.ref p, s1, p, o, xs, us, rfl, hp, q2, q3', q4, ?_⟩
  refine post _ H (fun H => H p = some (objO p o) ∧ DX H xs us) (fun i H x H' => H' = H ∧ ∃ kv, us[i]? = some kv ∧ x = kv.2) rp (Fr.refl _ _) ?_ (fun H2 f => ⟨f p _ (fun z => np (.inr z)) hp, q3.keep fun b ys e => ?_⟩) ?_
  · rw [List.length_map, ← q5.len]
    exact ⟨fun i H hi g => ⟨g, hi⟩, fun H g => ⟨g, Nat.le_refl _⟩, fun i H x H' _ _ y => y⟩
  · obtain ⟨o9, e, d9⟩ := e
    obtain ⟨nb, e⟩ := off_at e
    exact ⟨o9, f b _ (fun z => nb (.inr z)) e, d9⟩
  · rintro i' x H2 H3 d S fr ⟨rfl, kv, k1, rfl⟩ hd hs hS
    refine ⟨same_refl _, ?_⟩
    obtain ⟨d', k2, k3⟩ := q5.get k1
    rw [List.getElem?_map, k2] at hd
    cases hd
    exact Da.walk k3 fr hs
/-! what the readings do -/
theorem dputY_x {env e1 e2 : En} {i : Nat} {fk fv : M R} {kvs : List (NestedKey × PyData)} {r : R} {k : NestedKey} {v : PyData} (hv : fv env = some (.ok (.dat v) e1)) (h1 : e1[i]? = some (some (.dtd kvs))) (hk : fk e1 = some (.ok r e2)) (ha : asNK r = some k) (h2 : e2[i]? = some (some (.dtd kvs))) (hl : kvs.length < 100000) :
    dputY i fk fv env = some (.ok .nx (e2.set i (some (.dtd (putG kvs k v))))) :=
  bind_go hv (bind_go (a := v) (e := e1) rfl (bind_go (dtdD_x h1) (bind_go hk (bind_go (a := k) (e := e2) (by rw [ha]; rfl) (bind_go (dtdD_x h2) (bind_go (a := ()) (e := e2) (by rw [decide_eq_true hl]; rfl) (bind_go (putM_x (List.getElem?_eq_some_iff.mp h2).1) rfl)))))))
theorem dget2Y_x {env e1 e2 : En} {i : Nat} {fk fv : M R} {kvs : List (NestedKey × PyData)} {r : R} {k : NestedKey} {v : PyData} (h : env[i]? = some (some (.dtd kvs))) (hk : fk env = some (.ok r e1)) (ha : asNK r = some k) (hv : fv e1 = some (.ok (.dat v) e2)) (h2 : e2[i]? = some (some (.dtd kvs))) :
    dget2Y i fk fv env = some (.ok (.dat ((lookG kvs k).getD v)) e2) :=
  bind_go (dtdD_x h) (bind_go hk (bind_go (a := k) (e := e1) (by rw [ha]; rfl) (bind_go hv (bind_go (a := v) (e := e2) rfl (bind_go (dtdD_x h2) rfl)))))
end
end Ov
set_option Elab.async false
set_option linter.all false
set_option maxRecDepth 100000
set_option maxHeartbeats 4000000
namespace Ov
open PySem L2
section
variable {K : PySem.W.Frag} {E : XK} {bx : Nat}
/-- x.extend(w), w gives a list of its own -/
def extW (i : Nat) (fw : M Wv) : M R := M.bind (ownD i) fun _ => M.bind fw fun w => M.bind (lift (ok1 (some (some w)))) fun ds => M.bind (ownD i) fun xs => M.bind (lift (sz (xs.length + ds.length))) fun _ => M.bind (setOwn i (xs ++ ds)) fun _ => M.pure (.dat .none)
theorem OkE.extW {i : Nat} {t : TE} {fw : M Wv} (ow : OkW K E t fw) : OkE K E (tBM K "list" rExtend (tVar i) (tCons t tNil)) (Ov.extW i fw) := by
  refine ⟨?_⟩
  intro B σ H env l rs rp h Q post
  obtain ⟨xs0, hx0, h0⟩ := ownD_step h
  obtain ⟨p, vs0, s1, s2, s3, s4, _⟩ := rp.mut hx0
  refine ⟨.ref p, s1, .inl ⟨rfl, _, SqL.of s2⟩, ?_⟩
  refine ow.seq rp h0 post.exn fun w e v H1 lw h1 r1 f1 w1 nd1 fr1 => ?_
  obtain ⟨ds, h2, h3⟩ := lift_step h1
  obtain ⟨xs, hx, h4⟩ := ownD_step h3
  obtain ⟨u, h5, h6⟩ := lift_step h4
  have h7 := setOwn_step h6
  cases h7
  have ew : w = .own (dats ds) := by
    unfold ok1 at h2
    split at h2
    · rename_i xs hxs
      cases hxs
      rw [itds_eq h2]
    · cases h2
  subst ew
  obtain ⟨q, us, lb, rfl, rfl, g3, g4⟩ := w1
  obtain ⟨rfl, g5⟩ := rp1s_dats g4
  obtain ⟨p', vs1, t1, t2, t3, t4, up⟩ := r1.mut hx
  rw [s1] at t1
  cases t1
  refine ⟨p, q, vs1, us, rfl, rfl, t2, g3, ?_, ?_⟩
  · have := sz_ok h5
    rw [daAll_len t4, daAll_len g5]
    exact this
  exact post .non _ ((up (daAll_append t4 g5)).less fun _ z => .inl z) (f1.trans (fr_upd t3)) .non
theorem extW_x {env e : En} {i : Nat} {fw : M Wv} {as ds es : List PyData} (h : env[i]? = some (some (.own (dats as)))) (h1 : fw env = some (.ok (.own (dats ds)) e)) (hx : e[i]? = some (some (.own (dats es)))) (hl : es.length + ds.length ≤ 1000000) :
    extW i fw env = some (.ok (.dat .none) (e.set i (some (.own (dats (es ++ ds)))))) := by
  have o1 : ∀ {en : En} {zs : List PyData}, en[i]? = some (some (.own (dats zs))) → ownD i en = some (.ok zs en) := fun {en zs} hh => by
    rw [v_ownD, hh]
    show lift (itds (dats zs)) en = _
    rw [itds_dats]
    rfl
  refine bind_go (o1 h) (bind_go h1 (bind_go (a := ds) (e := e) ?_ (bind_go (o1 hx) (bind_go (a := ()) (e := e) ?_ (bind_go (a := ()) (e := e.set i (some (.own (dats (es ++ ds))))) ?_ rfl)))))
  · show lift (itds (dats ds)) e = _
    rw [itds_dats]
    rfl
  · unfold sz; rw [if_pos hl]; rfl
  · rfl
end
end Ov
set_option Elab.async false
set_option linter.all false
set_option maxRecDepth 100000
set_option maxHeartbeats 4000000
namespace Ov
open PySem L2
def top (i : Nat) : Stmt := PySem.Challenge.pw_overlooks_k60_whole_all_rows_of_few_peop.main.body.getD i (.Pass ⟨0, 0, 0, 0⟩)
abbrev S_code_of : Stmt := top 3
abbrev N_code_of : List Str := ["row", "height", "other"]
abbrev P_code_of : List Str := ["row", "height"]
theorem sc_code_of : FnScope N_code_of P_code_of (defScope S_code_of) := ⟨rfl, rfl, rfl, by decide +kernel, rfl, by decide +kernel, by decide +kernel⟩
abbrev S_codes : Stmt := top 4
abbrev N_codes : List Str := ["row", "height"]
abbrev P_codes : List Str := ["row"]
theorem sc_codes : FnScope N_codes P_codes (defScope S_codes) := ⟨rfl, rfl, rfl, by decide +kernel, rfl, by decide +kernel, by decide +kernel⟩
abbrev S_first_intervals : Stmt := top 6
abbrev N_first_intervals : List Str := ["many", "index"]
abbrev P_first_intervals : List Str := ["many"]
theorem sc_first_intervals : FnScope N_first_intervals P_first_intervals (defScope S_first_intervals) := ⟨rfl, rfl, rfl, by decide +kernel, rfl, by decide +kernel, by decide +kernel⟩
abbrev S_run_size : Stmt := top 7
abbrev N_run_size : List Str := ["interval", "first", "last"]
abbrev P_run_size : List Str := ["interval"]
theorem sc_run_size : FnScope N_run_size P_run_size (defScope S_run_size) := ⟨rfl, rfl, rfl, by decide +kernel, rfl, by decide +kernel, by decide +kernel⟩
abbrev S_run_index : Stmt := top 8
abbrev N_run_index : List Str := ["intervals", "code", "first", "last"]
abbrev P_run_index : List Str := ["intervals", "code"]
theorem sc_run_index : FnScope N_run_index P_run_index (defScope S_run_index) := ⟨rfl, rfl, rfl, by decide +kernel, rfl, by decide +kernel, by decide +kernel⟩
abbrev S_next_intervals : Stmt := top 9
abbrev N_next_intervals : List Str := ["intervals", "code", "at", "left", "right", "united", "above", "first", "last"]
abbrev P_next_intervals : List Str := ["intervals", "code"]
theorem sc_next_intervals : FnScope N_next_intervals P_next_intervals (defScope S_next_intervals) := ⟨rfl, rfl, rfl, by decide +kernel, rfl, by decide +kernel, by decide +kernel⟩
abbrev S_run_lists : Stmt := top 10
abbrev N_run_lists : List Str := ["row", "lists", "intervals", "code"]
abbrev P_run_lists : List Str := ["row"]
theorem sc_run_lists : FnScope N_run_lists P_run_lists (defScope S_run_lists) := ⟨rfl, rfl, rfl, by decide +kernel, rfl, by decide +kernel, by decide +kernel⟩
abbrev S_runs : Stmt := top 11
abbrev N_runs : List Str := ["row", "intervals", "code"]
abbrev P_runs : List Str := ["row"]
theorem sc_runs : FnScope N_runs P_runs (defScope S_runs) := ⟨rfl, rfl, rfl, by decide +kernel, rfl, by decide +kernel, by decide +kernel⟩
abbrev S_check_same_people : Stmt := top 13
abbrev N_check_same_people : List Str := ["one", "other"]
abbrev P_check_same_people : List Str := ["one", "other"]
theorem sc_check_same_people : FnScope N_check_same_people P_check_same_people (defScope S_check_same_people) := ⟨rfl, rfl, rfl, by decide +kernel, rfl, by decide +kernel, by decide +kernel⟩
abbrev S_leads : Stmt := top 14
abbrev N_leads : List Str := ["one", "other"]
abbrev P_leads : List Str := ["one", "other"]
theorem sc_leads : FnScope N_leads P_leads (defScope S_leads) := ⟨rfl, rfl, rfl, by decide +kernel, rfl, by decide +kernel, by decide +kernel⟩
abbrev S_bar : Stmt := top 15
abbrev N_bar : List Str := ["one", "other", "height", "here", "there"]
abbrev P_bar : List Str := ["one", "other"]
theorem sc_bar : FnScope N_bar P_bar (defScope S_bar) := ⟨rfl, rfl, rfl, by decide +kernel, rfl, by decide +kernel, by decide +kernel⟩
abbrev S_count_rows : Stmt := top 17
abbrev N_count_rows : List Str := ["row", "total", "interval"]
abbrev P_count_rows : List Str := ["row"]
theorem sc_count_rows : FnScope N_count_rows P_count_rows (defScope S_count_rows) := ⟨rfl, rfl, rfl, by decide +kernel, rfl, by decide +kernel, by decide +kernel⟩
abbrev S_cell_at : Stmt := top 19
abbrev N_cell_at : List Str := ["_law_script", "_law_k"]
abbrev P_cell_at : List Str := ["_law_script", "_law_k"]
theorem sc_cell_at : FnScope N_cell_at P_cell_at (defScope S_cell_at) := ⟨rfl, rfl, rfl, by decide +kernel, rfl, by decide +kernel, by decide +kernel⟩
abbrev S_box : Stmt := top 20
abbrev N_box : List Str := ["_law_script", "_law_k", "_law_core"]
abbrev P_box : List Str := ["_law_script", "_law_k"]
theorem sc_box : FnScope N_box P_box (defScope S_box) := ⟨rfl, rfl, rfl, by decide +kernel, rfl, by decide +kernel, by decide +kernel⟩
abbrev S_take : Stmt := top 21
abbrev N_take : List Str := ["_law_box_here", "_law_below", "_law_found", "_law_once", "_law_twice"]
abbrev P_take : List Str := ["_law_box_here", "_law_below"]
theorem sc_take : FnScope N_take P_take (defScope S_take) := ⟨rfl, rfl, rfl, by decide +kernel, rfl, by decide +kernel, by decide +kernel⟩
abbrev S_of : Stmt := top 22
abbrev N_of : List Str := ["_law_box_here", "_law_some"]
abbrev P_of : List Str := ["_law_box_here", "_law_some"]
theorem sc_of : FnScope N_of P_of (defScope S_of) := ⟨rfl, rfl, rfl, by decide +kernel, rfl, by decide +kernel, by decide +kernel⟩
abbrev S_souls : Stmt := top 23
abbrev N_souls : List Str := ["_law_box_here", "_law_count", "_law_found", "_law_top", "_law_k", "_law_soul"]
abbrev P_souls : List Str := ["_law_box_here", "_law_count"]
theorem sc_souls : FnScope N_souls P_souls (defScope S_souls) := ⟨rfl, rfl, rfl, by decide +kernel, rfl, by decide +kernel, by decide +kernel⟩
abbrev S_sees : Stmt := top 24
abbrev N_sees : List Str := ["_law_crowd", "_law_i", "_law_j", "_law_soul"]
abbrev P_sees : List Str := ["_law_crowd", "_law_i", "_law_j"]
theorem sc_sees : FnScope N_sees P_sees (defScope S_sees) := ⟨rfl, rfl, rfl, by decide +kernel, rfl, by decide +kernel, by decide +kernel⟩
abbrev S_swaps : Stmt := top 25
abbrev N_swaps : List Str := ["_law_crowd", "_law_found", "_law_i", "_law_j"]
abbrev P_swaps : List Str := ["_law_crowd"]
theorem sc_swaps : FnScope N_swaps P_swaps (defScope S_swaps) := ⟨rfl, rfl, rfl, by decide +kernel, rfl, by decide +kernel, by decide +kernel⟩
abbrev S_turned : Stmt := top 26
abbrev N_turned : List Str := ["_law_crowd", "_law_swap", "_law_i", "_law_j"]
abbrev P_turned : List Str := ["_law_crowd", "_law_swap"]
theorem sc_turned : FnScope N_turned P_turned (defScope S_turned) := ⟨rfl, rfl, rfl, by decide +kernel, rfl, by decide +kernel, by decide +kernel⟩
abbrev S_reached : Stmt := top 27
abbrev N_reached : List Str := ["_law_crowd", "_law_most", "_law_found", "_law_layer", "_law_later", "_law_here", "_law_swap", "_law_there"]
abbrev P_reached : List Str := ["_law_crowd", "_law_most"]
theorem sc_reached : FnScope N_reached P_reached (defScope S_reached) := ⟨rfl, rfl, rfl, by decide +kernel, rfl, by decide +kernel, by decide +kernel⟩
abbrev S_every : Stmt := top 28
abbrev N_every : List Str := ["_law_souls_here", "_law_found", "_law_turn", "_law_longer", "_law_some", "_law_soul"]
abbrev P_every : List Str := ["_law_souls_here"]
theorem sc_every : FnScope N_every P_every (defScope S_every) := ⟨rfl, rfl, rfl, by decide +kernel, rfl, by decide +kernel, by decide +kernel⟩
abbrev S_right : Stmt := top 29
abbrev N_right : List Str := ["_law_box_here", "_law_souls_here", "_law_left", "_law_kinds", "_law_crowd", "_law_key", "_law_some", "_law_lot", "_law_first", "_law_last", "_law_turn", "_law_there", "_law_same_so"]
abbrev P_right : List Str := ["_law_box_here"]
theorem sc_right : FnScope N_right P_right (defScope S_right) := ⟨rfl, rfl, rfl, by decide +kernel, rfl, by decide +kernel, by decide +kernel⟩
abbrev S_law : Stmt := top 30
abbrev N_law : List Str := ["_law_script", "_law_k", "_law_box_here", "_law_turn"]
abbrev P_law : List Str := ["_law_script"]
theorem sc_law : FnScope N_law P_law (defScope S_law) := ⟨rfl, rfl, rfl, by decide +kernel, rfl, by decide +kernel, by decide +kernel⟩
abbrev S_OtherPeople : Stmt := inClass (top 1) 0
abbrev P_OtherPeople : List Str := ["self"]
theorem sc_OtherPeople : FnScope P_OtherPeople P_OtherPeople (defScope S_OtherPeople) := ⟨rfl, rfl, rfl, by decide +kernel, rfl, by decide +kernel, by decide +kernel⟩
structure Ad where
  OtherPeople : Addr
structure Mks (P : Program) (w : World) (K : PySem.W.Frag) (mg : Str → Option Value) (base : Heap) (c : Ad) : Prop where
  OtherPeople : MkE0 P w K mg base c.OtherPeople 0 "OtherPeople"
section
variable {P : Program} {w : World} {K : PySem.W.Frag} {mg : Str → Option Value} {base : Heap} {f : Addr} {fd : FuncData} {C : Addr}
theorem iniOtherPeople (F : Fun K "__init__" "OtherPeople.__init__" S_OtherPeople f fd) : FnOk P w K mg base CX0 1 f fd P_OtherPeople spOth := by
  refine F.ok sc_OtherPeople (fun vs H Q E h => ?_) (fun cdv A outer s H vs Q E hr h => ?_)
  · obtain ⟨v, rfl, _⟩ := h
    rfl
  obtain ⟨v, rfl, q⟩ := h
  exact ⟨_, pss_one ps_pass, q⟩
end
def s_cell_at_0 : M Fl :=
    (ifS (tb1 (op2 ltD (get 1) (cb lenD (acons (get 0) anil)))) (retS (pl (op2 ixD (get 0) (get 1)))) nxt)
def s_cell_at_1 : M Fl :=
    (retS (pl (con (.int 0))))
def f_cell_at : M Fl :=
    (thenS s_cell_at_0 s_cell_at_1)
def F_cell_at : List PyData → Option Wv := runA 2 2 f_cell_at
section
variable {P : Program} {w : World} {K : PySem.W.Frag} {mg : Str → Option Value} {base : Heap} {f : Addr} {fd : FuncData}
theorem dk_cell_at (F : Fun K "_law_cell_at" "_law_cell_at" S_cell_at f fd)  (B : Blt mg) : FnOk P w K mg base CX0 1 f fd P_cell_at (spA K F_cell_at) := by
  refine F.ok sc_cell_at (fun vs H Q E h => lenA h) (fun cdv A outer s H vs Q E hr h => ⟨_, (Evl.pss_cut (ps_if (pt_cmpR op_lt (pv 1) (pe_callB (k_len (K := K) rfl) rfl B.len PySem.boot_len (pa_cons (pv 0) pa_nil)) (nomark _)) (pss_one (ps_ret (pe_ix (k_ix (K := K) rfl) (pv 0) (pv 1) (fun _ _ => rfl)))) pss_nil)
      (pss_one (ps_ret pe_int))), ?_⟩)
  exact finA (N := N_cell_at) (by unfold f_cell_at s_cell_at_1 s_cell_at_0; exact (OkS.cut (OkS.ife (OkT.test (OkE.op ok_lt (OkE.var 1) (OkE.cb ok_len (OkA.cons (OkE.var 0) OkA.nil)))) (OkS.ret (OkE.w (OkE.op ok_ix (OkE.var 0) (OkE.var 1)))) OkS.nil)
      (OkS.ret (OkE.w (OkE.con fun _ => .int _))))) h
end
def s_box_0 : M Fl :=
    (setS 2 (pl (fz (callA F_cell_at (acons (get 0) (acons (get 1) anil))))))
def s_box_1 : M Fl :=
    (retS (lstW (acons (op2 mulD (cb absD (acons (get 2) anil)) (cb intD (acons (op2 geD (cb absD (acons (get 2) anil)) (op2 powD (con (.int 10)) (con (.int 18)))) anil))) (acons (op2 addD (op2 addD (op2 modD (get 2) (con (.int 2305843009213693951))) (op2 mulD (con (.int 39373)) (get 1))) (con (.int 29))) (acons (con (.int 0)) anil)))))
def f_box : M Fl :=
    (thenS s_box_0 s_box_1)
def F_box : List PyData → Option Wv := runA 2 3 f_box
section
variable {P : Program} {w : World} {K : PySem.W.Frag} {mg : Str → Option Value} {base : Heap} {f : Addr} {fd : FuncData}
theorem dk_box (F : Fun K "_law_box" "_law_box" S_box f fd) {g_cell_at : Addr} {d_cell_at : FuncData} (G_cell_at : FnOk P w K mg base CX0 1 g_cell_at d_cell_at P_cell_at (spA K F_cell_at)) (b_cell_at : Binds K d_cell_at P_cell_at []) (k_cell_at : PySem.W.keepIn K (.ref g_cell_at) = true) (m_cell_at : mg "_law_cell_at" = some (.ref g_cell_at)) (B : Blt mg) : FnOk P w K mg base CX0 2 f fd P_box (spA K F_box) := by
  refine F.ok sc_box (fun vs H Q E h => lenA h) (fun cdv A outer s H vs Q E hr h => ⟨_, (Evl.pss_cut (ps_set (i := 2) sc_box.nd rfl (by first | exact Or.inl rfl | exact Or.inr rfl) (pe_call G_cell_at (hr.mono (by decide)) rfl m_cell_at k_cell_at b_cell_at .nil pass0 (pa_cons (pv 0) (pa_cons (pv 1) pa_nil))))
      (pss_one (ps_ret (pe_lst (pa_cons (pe_op op_mul (pe_callB call_abs rfl B.abs (by decide +kernel) (pa_cons (pv 2) pa_nil)) (pe_callTy call_int1 rfl B.int (by decide +kernel) (pa_cons (pe_cmpR op_ge (pe_callB call_abs rfl B.abs (by decide +kernel) (pa_cons (pv 2) pa_nil)) (pe_op op_pow pe_int pe_int) (nomark _)) pa_nil))) (pa_cons (pe_op op_add (pe_op op_add (pe_op op_mod (pv 2) pe_int) (pe_op op_mul pe_int (pv 1))) pe_int) (pa_cons pe_int pa_nil))))))), ?_⟩)
  exact finA (N := N_box) (by unfold f_box s_box_1 s_box_0; exact (OkS.cut (OkS.set (fun z => z.elim0) (OkE.w (OkW.e (OkW.call (OkA.cons (OkE.var 0) (OkA.cons (OkE.var 1) OkA.nil))))))
      (OkS.ret (OkW.lst (OkA.cons (OkE.op ok_mul (OkE.cb ok_abs (OkA.cons (OkE.var 2) OkA.nil)) (OkE.cb ok_int (OkA.cons (OkE.op ok_ge (OkE.cb ok_abs (OkA.cons (OkE.var 2) OkA.nil)) (OkE.op ok_pow (OkE.con fun _ => .int _) (OkE.con fun _ => .int _))) OkA.nil))) (OkA.cons (OkE.op ok_add (OkE.op ok_add (OkE.op ok_mod (OkE.var 2) (OkE.con fun _ => .int _)) (OkE.op ok_mul (OkE.con fun _ => .int _) (OkE.var 1))) (OkE.con fun _ => .int _)) (OkA.cons (OkE.con fun _ => .int _) OkA.nil))))))) h
end
def f_take (rec : List PyData → List PyData → Option (Wv × List PyData)) : M Fl :=
    (thenS (ifS (tb1 (op2 gtD (op2 ixD (get 0) (con (.int 0))) (con (.int 0)))) (thenS (setS 2 (pl (op2 modD (op2 ixD (get 0) (con (.int 0))) (get 1))))
    (thenS (setIx 0 (op2 divD (op2 ixD (get 0) (con (.int 0))) (get 1)) (con (.int 0)))
    (retS (pl (get 2))))) nxt)
    (thenS (ifS (tb1 (op2 gtD (get 1) (op2 powD (con (.int 10)) (con (.int 7))))) (retS (pl (op2 modD (op2 addD (fz (callB 0 rec (acons (op2 powD (con (.int 10)) (con (.int 7))) anil))) (op2 mulD (op2 powD (con (.int 10)) (con (.int 7))) (fz (callB 0 rec (acons (op2 addD (op2 divD (get 1) (op2 powD (con (.int 10)) (con (.int 7)))) (con (.int 1))) anil))))) (get 1)))) nxt)
    (thenS (setIx 0 (op2 addD (op2 ixD (get 0) (con (.int 2))) (con (.int 1))) (con (.int 2)))
    (thenS (setS 3 (pl (op2 modD (op2 mulD (op2 addD (op2 ixD (get 0) (con (.int 1))) (op2 mulD (con (.int 48271)) (op2 ixD (get 0) (con (.int 2))))) (op2 addD (con (.int 39373)) (op2 ixD (get 0) (con (.int 2))))) (con (.int 2147483647)))))
    (thenS (setS 4 (pl (op2 modD (op2 mulD (op2 addD (op2 addD (get 3) (op2 ixD (get 0) (con (.int 2)))) (op2 divD (op2 ixD (get 0) (con (.int 1))) (con (.int 1000003)))) (op2 addD (op2 modD (get 3) (con (.int 40009))) (con (.int 7)))) (con (.int 2147483629)))))
    (retS (pl (op2 modD (op2 divD (op2 modD (op2 addD (op2 mulD (get 4) (con (.int 48271))) (get 3)) (con (.int 2147483587))) (con (.int 64))) (get 1)))))))))
def F_take : Nat → List PyData → List PyData → Option (Wv × List PyData)
  | 0 => fun _ _ => none
  | n + 1 => runB 2 5 (f_take (F_take n))
section
variable {P : Program} {w : World} {K : PySem.W.Frag} {mg : Str → Option Value} {base : Heap} {f : Addr} {fd : FuncData}
theorem dk_take (F : Fun K "_law_take" "_law_take" S_take f fd)  (b : Binds K fd P_take []) (m : mg "_law_take" = some (.ref f)) (B : Blt mg) : ∀ n, FnOk P w K mg base CX0 (0 + n) f fd P_take (spB K (F_take n))
  | 0 => ⟨fun vs H Q E h => (vacB h).elim, fun A outer s H args us vs Q E hr he hb hv h => (vacB h).elim⟩
  | n + 1 => by
    have G := dk_take F  b m B n
    refine F.ok sc_take (fun vs H Q E h => lenB h) (fun cdv A outer s H vs Q E hr h => ⟨_, (Evl.pss_cut (ps_if (pt_cmpR op_gt (pe_ix (k_ix (K := K) rfl) (pv 0) pe_int (fun _ _ => rfl)) pe_int (nomark _)) (Evl.pss_cut (ps_set (i := 2) sc_take.nd rfl (by first | exact Or.inl rfl | exact Or.inr rfl) (pe_op op_mod (pe_ix (k_ix (K := K) rfl) (pv 0) pe_int (fun _ _ => rfl)) (pv 1)))
      (Evl.pss_cut (ps_asg (pe_op op_fdiv (pe_ix (k_ix (K := K) rfl) (pv 0) pe_int (fun _ _ => rfl)) (pv 1)) (pg_sub (pv 0) pe_int set_list))
      (pss_one (ps_ret (pv 2))))) pss_nil)
      (Evl.pss_cut (ps_if (pt_cmpR op_gt (pv 1) (pe_op op_pow pe_int pe_int) (nomark _)) (pss_one (ps_ret (pe_op op_mod (pe_op op_add (pe_call G hr rfl m F.kp b .nil pass0 (pa_cons (pv 0) (pa_cons (pe_op op_pow pe_int pe_int) pa_nil))) (pe_op op_mul (pe_op op_pow pe_int pe_int) (pe_call G hr rfl m F.kp b .nil pass0 (pa_cons (pv 0) (pa_cons (pe_op op_add (pe_op op_fdiv (pv 1) (pe_op op_pow pe_int pe_int)) pe_int) pa_nil))))) (pv 1)))) pss_nil)
      (Evl.pss_cut (ps_asg (pe_op op_add (pe_ix (k_ix (K := K) rfl) (pv 0) pe_int (fun _ _ => rfl)) pe_int) (pg_sub (pv 0) pe_int set_list))
      (Evl.pss_cut (ps_set (i := 3) sc_take.nd rfl (by first | exact Or.inl rfl | exact Or.inr rfl) (pe_op op_mod (pe_op op_mul (pe_op op_add (pe_ix (k_ix (K := K) rfl) (pv 0) pe_int (fun _ _ => rfl)) (pe_op op_mul pe_int (pe_ix (k_ix (K := K) rfl) (pv 0) pe_int (fun _ _ => rfl)))) (pe_op op_add pe_int (pe_ix (k_ix (K := K) rfl) (pv 0) pe_int (fun _ _ => rfl)))) pe_int))
      (Evl.pss_cut (ps_set (i := 4) sc_take.nd rfl (by first | exact Or.inl rfl | exact Or.inr rfl) (pe_op op_mod (pe_op op_mul (pe_op op_add (pe_op op_add (pv 3) (pe_ix (k_ix (K := K) rfl) (pv 0) pe_int (fun _ _ => rfl))) (pe_op op_fdiv (pe_ix (k_ix (K := K) rfl) (pv 0) pe_int (fun _ _ => rfl)) pe_int)) (pe_op op_add (pe_op op_mod (pv 3) pe_int) pe_int)) pe_int))
      (pss_one (ps_ret (pe_op op_mod (pe_op op_fdiv (pe_op op_mod (pe_op op_add (pe_op op_mul (pv 4) pe_int) (pv 3)) pe_int) pe_int) (pv 1))))))))), ?_⟩)
    exact finB (N := N_take) (by unfold f_take; exact (OkS.cut (OkS.ife (OkT.test (OkE.op ok_gt (OkE.op ok_ix (OkE.var 0) (OkE.con fun _ => .int _)) (OkE.con fun _ => .int _))) (OkS.cut (OkS.set (by decide) (OkE.w (OkE.op ok_mod (OkE.op ok_ix (OkE.var 0) (OkE.con fun _ => .int _)) (OkE.var 1))))
      (OkS.cut (OkS.setIx (OkE.op ok_div (OkE.op ok_ix (OkE.var 0) (OkE.con fun _ => .int _)) (OkE.var 1)) (OkE.con fun _ => .int _))
      (OkS.ret (OkE.w (OkE.var 2))))) OkS.nil)
      (OkS.cut (OkS.ife (OkT.test (OkE.op ok_gt (OkE.var 1) (OkE.op ok_pow (OkE.con fun _ => .int _) (OkE.con fun _ => .int _)))) (OkS.ret (OkE.w (OkE.op ok_mod (OkE.op ok_add (OkW.e (OkW.callB (OkA.cons (OkE.op ok_pow (OkE.con fun _ => .int _) (OkE.con fun _ => .int _)) OkA.nil))) (OkE.op ok_mul (OkE.op ok_pow (OkE.con fun _ => .int _) (OkE.con fun _ => .int _)) (OkW.e (OkW.callB (OkA.cons (OkE.op ok_add (OkE.op ok_div (OkE.var 1) (OkE.op ok_pow (OkE.con fun _ => .int _) (OkE.con fun _ => .int _))) (OkE.con fun _ => .int _)) OkA.nil))))) (OkE.var 1)))) OkS.nil)
      (OkS.cut (OkS.setIx (OkE.op ok_add (OkE.op ok_ix (OkE.var 0) (OkE.con fun _ => .int _)) (OkE.con fun _ => .int _)) (OkE.con fun _ => .int _))
      (OkS.cut (OkS.set (by decide) (OkE.w (OkE.op ok_mod (OkE.op ok_mul (OkE.op ok_add (OkE.op ok_ix (OkE.var 0) (OkE.con fun _ => .int _)) (OkE.op ok_mul (OkE.con fun _ => .int _) (OkE.op ok_ix (OkE.var 0) (OkE.con fun _ => .int _)))) (OkE.op ok_add (OkE.con fun _ => .int _) (OkE.op ok_ix (OkE.var 0) (OkE.con fun _ => .int _)))) (OkE.con fun _ => .int _))))
      (OkS.cut (OkS.set (by decide) (OkE.w (OkE.op ok_mod (OkE.op ok_mul (OkE.op ok_add (OkE.op ok_add (OkE.var 3) (OkE.op ok_ix (OkE.var 0) (OkE.con fun _ => .int _))) (OkE.op ok_div (OkE.op ok_ix (OkE.var 0) (OkE.con fun _ => .int _)) (OkE.con fun _ => .int _))) (OkE.op ok_add (OkE.op ok_mod (OkE.var 3) (OkE.con fun _ => .int _)) (OkE.con fun _ => .int _))) (OkE.con fun _ => .int _))))
      (OkS.ret (OkE.w (OkE.op ok_mod (OkE.op ok_div (OkE.op ok_mod (OkE.op ok_add (OkE.op ok_mul (OkE.var 4) (OkE.con fun _ => .int _)) (OkE.var 3)) (OkE.con fun _ => .int _)) (OkE.con fun _ => .int _)) (OkE.var 1)))))))))) h
end
def f_of : M Fl :=
    (retS (pl (op2 ixD (get 1) (fz (callB 0 (F_take 2) (acons (cb lenD (acons (get 1) anil)) anil))))))
def F_of : List PyData → List PyData → Option (Wv × List PyData) := runB 2 2 f_of
section
variable {P : Program} {w : World} {K : PySem.W.Frag} {mg : Str → Option Value} {base : Heap} {f : Addr} {fd : FuncData}
theorem dk_of (F : Fun K "_law_of" "_law_of" S_of f fd) {g_take : Addr} {d_take : FuncData} (G_take : FnOk P w K mg base CX0 2 g_take d_take P_take (spB K (F_take 2))) (b_take : Binds K d_take P_take []) (k_take : PySem.W.keepIn K (.ref g_take) = true) (m_take : mg "_law_take" = some (.ref g_take)) (B : Blt mg) : FnOk P w K mg base CX0 3 f fd P_of (spB K F_of) := by
  refine F.ok sc_of (fun vs H Q E h => lenB h) (fun cdv A outer s H vs Q E hr h => ⟨_, (pss_one (ps_ret (pe_ix (k_ix (K := K) rfl) (pv 1) (pe_call G_take (hr.mono (by decide)) rfl m_take k_take b_take .nil pass0 (pa_cons (pv 0) (pa_cons (pe_callB (k_len (K := K) rfl) rfl B.len PySem.boot_len (pa_cons (pv 1) pa_nil)) pa_nil))) (fun _ _ => rfl)))), ?_⟩)
  exact finB (N := N_of) (by unfold f_of; exact (OkS.ret (OkE.w (OkE.op ok_ix (OkE.var 1) (OkW.e (OkW.callB (OkA.cons (OkE.cb ok_len (OkA.cons (OkE.var 1) OkA.nil)) OkA.nil))))))) h
end
def s_souls_0 : M Fl :=
    (parS 2 3 dnew (pl (fz (callB 0 F_of (acons (lstD (acons (get 1) (acons (op2 addD (op2 mulD (con (.int 3)) (get 1)) (con (.int 1))) (acons (op2 powD (con (.int 10)) (con (.int 9))) anil)))) anil)))))
def b_souls_1 : M Fl :=
    (thenS (setS 5 (pl (op2 addD (con (.int 1)) (fz (callB 0 (F_take 2) (acons (cb maxD (acons (con (.int 1)) (acons (get 3) anil))) anil))))))
    (thenS (whileM (dinT false 2 (get 5)) (setS 5 (pl (op2 addD (op2 modD (get 5) (cb maxD (acons (get 3) (acons (get 1) anil)))) (con (.int 1))))) 100)
    (dputS 2 (get 5))))
def s_souls_1 : M Fl :=
    (forS (argI rngD (acons (get 1) anil)) (gN 4) b_souls_1)
def s_souls_2 : M Fl :=
    (retS (pl (sortDct 2)))
def f_souls : M Fl :=
    (thenS s_souls_0 (thenS s_souls_1 s_souls_2))
def F_souls : List PyData → List PyData → Option (Wv × List PyData) := runB 2 6 f_souls
section
variable {P : Program} {w : World} {K : PySem.W.Frag} {mg : Str → Option Value} {base : Heap} {f : Addr} {fd : FuncData}
theorem dk_souls (F : Fun K "_law_souls" "_law_souls" S_souls f fd) {g_take : Addr} {d_take : FuncData} (G_take : FnOk P w K mg base CX0 2 g_take d_take P_take (spB K (F_take 2))) (b_take : Binds K d_take P_take []) (k_take : PySem.W.keepIn K (.ref g_take) = true) (m_take : mg "_law_take" = some (.ref g_take)) {g_of : Addr} {d_of : FuncData} (G_of : FnOk P w K mg base CX0 3 g_of d_of P_of (spB K F_of)) (b_of : Binds K d_of P_of []) (k_of : PySem.W.keepIn K (.ref g_of) = true) (m_of : mg "_law_of" = some (.ref g_of)) (B : Blt mg) : FnOk P w K mg base CX0 4 f fd P_souls (spB K F_souls) := by
  refine F.ok sc_souls (fun vs H Q E h => lenB h) (fun cdv A outer s H vs Q E hr h => ⟨_, (Evl.pss_cut (ps_par (i := 2) (j := 3) rfl sc_souls.nd rfl rfl (by decide) rfl rfl (pa_cons pe_dnewK (pa_cons (pe_call G_of (hr.mono (by decide)) rfl m_of k_of b_of .nil pass0 (pa_cons (pv 0) (pa_cons (pe_lst (pa_cons (pv 1) (pa_cons (pe_op op_add (pe_op op_mul pe_int (pv 1)) pe_int) (pa_cons (pe_op op_pow pe_int pe_int) pa_nil)))) pa_nil))) pa_nil)) rfl)
      (Evl.pss_cut (ps_for PassesOwn.never rfl (pi_range1 rfl B.range (pa_cons (pv 1) pa_nil)) (pg_name (i := 4) sc_souls.nd rfl (by first | exact Or.inl rfl | exact Or.inr rfl))
      (Evl.pss_cut (ps_set (i := 5) sc_souls.nd rfl (by first | exact Or.inl rfl | exact Or.inr rfl) (pe_op op_add pe_int (pe_call G_take (hr.mono (by decide)) rfl m_take k_take b_take .nil pass0 (pa_cons (pv 0) (pa_cons (pe_callB (call_max2 rfl) rfl B.max (by decide +kernel) (pa_cons pe_int (pa_cons (pv 3) pa_nil))) pa_nil)))))
      (Evl.pss_cut (ps_while PassesOwn.never (pt_cmp (pc_din (hu_of hr) (pv 5) (pv 2)))
      (pss_one (ps_set (i := 5) sc_souls.nd rfl (by first | exact Or.inl rfl | exact Or.inr rfl) (pe_op op_add (pe_op op_mod (pv 5) (pe_callB (call_max2 rfl) rfl B.max (by decide +kernel) (pa_cons (pv 3) (pa_cons (pv 1) pa_nil)))) pe_int))))
      (pss_one (ps_dput (hu_of hr) (pv 2) (pv 5) pe_bl rfl)))))
      (pss_one (ps_ret (pe_callB (call_sortedDI rfl) rfl B.sorted (by decide +kernel) (pa_cons (pv 2) pa_nil)))))), ?_⟩)
  exact finB (N := N_souls) (by unfold f_souls s_souls_2 s_souls_1 b_souls_1 s_souls_0; exact (OkS.cut (OkS.par (by decide) OkW.dnew (OkE.w (OkW.e (OkW.callB (OkA.cons (OkE.lst (OkA.cons (OkE.var 1) (OkA.cons (OkE.op ok_add (OkE.op ok_mul (OkE.con fun _ => .int _) (OkE.var 1)) (OkE.con fun _ => .int _)) (OkA.cons (OkE.op ok_pow (OkE.con fun _ => .int _) (OkE.con fun _ => .int _)) OkA.nil)))) OkA.nil)))))
      (OkS.cut (OkS.for (OkI.range1 (OkA.cons (OkE.var 1) OkA.nil)) (OkG.name 4) (by decide) (OkS.cut (OkS.set (by decide) (OkE.w (OkE.op ok_add (OkE.con fun _ => .int _) (OkW.e (OkW.callB (OkA.cons (OkE.cb ok_max (OkA.cons (OkE.con fun _ => .int _) (OkA.cons (OkE.var 3) OkA.nil))) OkA.nil))))))
      (OkS.cut (OkS.while 100 (OkT.din (OkE.var 5)) (OkS.set (by decide) (OkE.w (OkE.op ok_add (OkE.op ok_mod (OkE.var 5) (OkE.cb ok_max (OkA.cons (OkE.var 3) (OkA.cons (OkE.var 1) OkA.nil)))) (OkE.con fun _ => .int _)))))
      (OkS.dput (OkE.var 5)))))
      (OkS.ret (OkE.w OkE.sortDct))))) h
end
def f_code_of : M Fl :=
    (retS (pl (rmE idxD (fz (lcW (seqI (get 0)) (gN 2) (tb1 (op2 geD (get 2) (get 1))) (get 2) [2])) (acons (get 1) anil))))
def F_code_of : List PyData → Option Wv := runA 2 3 f_code_of
section
variable {P : Program} {w : World} {K : PySem.W.Frag} {mg : Str → Option Value} {base : Heap} {f : Addr} {fd : FuncData}
theorem dk_code_of (F : Fun K "code_of" "code_of" S_code_of f fd)  (B : Blt mg) : FnOk P w K mg base CX0 1 f fd P_code_of (spA K F_code_of) := by
  refine F.ok sc_code_of (fun vs H Q E h => lenA h) (fun cdv A outer s H vs Q E hr h => ⟨_, (pss_one (ps_ret (k_bm (K := K) rfl PySem.F.plainAttrs_list PySem.F.slot_list_index PySem.F.type_list_index (k_index (K := K) rfl (units65 hr)) (pe_lc (own := [("other", 2)]) (g := (gName 2)) rfl sc_code_of.nd (k_seq (K := K) rfl (pv 0)) (blkOk_by (own := [("other", 2)]) (N := ["row", "height", "other"]) (sc := defScope S_code_of) (by decide +kernel)) (fun _ _ _ _ _ => by exact (pg_name (i := 2) sc_code_of.nd rfl (by first | exact Or.inl rfl | exact Or.inr rfl))) (fun _ _ _ _ _ => (pts_one (pt_cmpR op_ge (pv 2) (pv 1) (nomark _)))) (fun _ _ _ _ _ => (pv 2))) (pa_cons (pv 1) pa_nil)))), ?_⟩)
  exact finA (N := N_code_of) (by unfold f_code_of; exact (OkS.ret (OkE.w (OkE.rm ok_idx (OkW.e (OkW.lc (vs := [2]) (OkI.seq (OkE.var 0)) (OkG.name 2) (by decide) (OkT.test (OkE.op ok_ge (OkE.var 2) (OkE.var 1))) (OkE.var 2))) (OkA.cons (OkE.var 1) OkA.nil))))) h
end
def f_codes : M Fl :=
    (retS (pl (cb tupleD (acons (fz (lcW (seqI (cb sortD (acons (get 0) anil))) (gN 1) yesT (fz (callA F_code_of (acons (get 0) (acons (get 1) anil)))) [1])) anil))))
def F_codes : List PyData → Option Wv := runA 1 2 f_codes
section
variable {P : Program} {w : World} {K : PySem.W.Frag} {mg : Str → Option Value} {base : Heap} {f : Addr} {fd : FuncData}
theorem dk_codes (F : Fun K "codes" "codes" S_codes f fd) {g_code_of : Addr} {d_code_of : FuncData} (G_code_of : FnOk P w K mg base CX0 1 g_code_of d_code_of P_code_of (spA K F_code_of)) (b_code_of : Binds K d_code_of P_code_of []) (k_code_of : PySem.W.keepIn K (.ref g_code_of) = true) (m_code_of : mg "code_of" = some (.ref g_code_of)) (B : Blt mg) : FnOk P w K mg base CX0 2 f fd P_codes (spA K F_codes) := by
  refine F.ok sc_codes (fun vs H Q E h => lenA h) (fun cdv A outer s H vs Q E hr h => ⟨_, (pss_one (ps_ret (pe_callTy (k_tup (K := K) rfl) rfl B.tuple (by decide +kernel) (pa_cons (pe_lc (own := [("height", 1)]) (g := (gName 1)) rfl sc_codes.nd (k_seq (K := K) rfl (pe_callB (k_sorted (K := K) rfl) rfl B.sorted (by decide +kernel) (pa_cons (pv 0) pa_nil))) (blkOk_by (own := [("height", 1)]) (N := ["row", "height"]) (sc := defScope S_codes) (by decide +kernel)) (fun _ _ _ _ _ => by exact (pg_name (i := 1) sc_codes.nd rfl (by first | exact Or.inl rfl | exact Or.inr rfl))) (fun _ _ _ _ _ => pts_nil) (fun _ _ _ _ _ => (pe_call G_code_of (hr.mono (by decide)) rfl m_code_of k_code_of b_code_of .nil pass0 (pa_cons (pv 0) (pa_cons (pv 1) pa_nil))))) pa_nil)))), ?_⟩)
  exact finA (N := N_codes) (by unfold f_codes; exact (OkS.ret (OkE.w (OkE.cb ok_tuple (OkA.cons (OkW.e (OkW.lc (vs := [1]) (OkI.seq (OkE.cb ok_sort (OkA.cons (OkE.var 0) OkA.nil))) (OkG.name 1) (by decide) OkT.yes (OkW.e (OkW.call (OkA.cons (OkE.var 0) (OkA.cons (OkE.var 1) OkA.nil)))))) OkA.nil))))) h
end
def f_first_intervals : M Fl :=
    (retS (pl (fz (lcW (argI rngD (acons (get 0) anil)) (gN 1) yesT (tupD (acons (get 1) (acons (get 1) anil))) [1]))))
def F_first_intervals : List PyData → Option Wv := runA 1 2 f_first_intervals
section
variable {P : Program} {w : World} {K : PySem.W.Frag} {mg : Str → Option Value} {base : Heap} {f : Addr} {fd : FuncData}
theorem dk_first_intervals (F : Fun K "first_intervals" "first_intervals" S_first_intervals f fd)  (B : Blt mg) : FnOk P w K mg base CX0 1 f fd P_first_intervals (spA K F_first_intervals) := by
  refine F.ok sc_first_intervals (fun vs H Q E h => lenA h) (fun cdv A outer s H vs Q E hr h => ⟨_, (pss_one (ps_ret (pe_lc (own := [("index", 1)]) (g := (gName 1)) rfl sc_first_intervals.nd (pi_range1 rfl B.range (pa_cons (pv 0) pa_nil)) (blkOk_by (own := [("index", 1)]) (N := ["many", "index"]) (sc := defScope S_first_intervals) (by decide +kernel)) (fun _ _ _ _ _ => by exact (pg_name (i := 1) sc_first_intervals.nd rfl (by first | exact Or.inl rfl | exact Or.inr rfl))) (fun _ _ _ _ _ => pts_nil) (fun _ _ _ _ _ => (pe_tupB (pa_cons (pv 1) (pa_cons (pv 1) pa_nil))))))), ?_⟩)
  exact finA (N := N_first_intervals) (by unfold f_first_intervals; exact (OkS.ret (OkE.w (OkW.e (OkW.lc (vs := [1]) (OkI.range1 (OkA.cons (OkE.var 0) OkA.nil)) (OkG.name 1) (by decide) OkT.yes (OkE.tup (OkA.cons (OkE.var 1) (OkA.cons (OkE.var 1) OkA.nil)))))))) h
end
def s_run_size_0 : M Fl :=
    (unS (gT (gsC (gN 1) (gsC (gN 2) gsN))) (get 0))
def s_run_size_1 : M Fl :=
    (retS (pl (op2 addD (op2 subD (get 2) (get 1)) (con (.int 1)))))
def f_run_size : M Fl :=
    (thenS s_run_size_0 s_run_size_1)
def F_run_size : List PyData → Option Wv := runA 1 3 f_run_size
section
variable {P : Program} {w : World} {K : PySem.W.Frag} {mg : Str → Option Value} {base : Heap} {f : Addr} {fd : FuncData}
theorem dk_run_size (F : Fun K "run_size" "run_size" S_run_size f fd)  (B : Blt mg) : FnOk P w K mg base CX0 1 f fd P_run_size (spA K F_run_size) := by
  refine F.ok sc_run_size (fun vs H Q E h => lenA h) (fun cdv A outer s H vs Q E hr h => ⟨_, (Evl.pss_cut (ps_asg (pv 0) (pg_tup rfl (pgs_cons (pg_name (i := 1) sc_run_size.nd rfl (by first | exact Or.inl rfl | exact Or.inr rfl)) (pgs_cons (pg_name (i := 2) sc_run_size.nd rfl (by first | exact Or.inl rfl | exact Or.inr rfl)) pgs_nil))))
      (pss_one (ps_ret (pe_op op_add (pe_op op_sub (pv 2) (pv 1)) pe_int)))), ?_⟩)
  exact finA (N := N_run_size) (by unfold f_run_size s_run_size_1 s_run_size_0; exact (OkS.cut (OkS.unpack (OkG.tup (OkGs.cons (OkG.name 1) (OkGs.cons (OkG.name 2) OkGs.nil))) (fun z => z.elim0) (OkE.var 0))
      (OkS.ret (OkE.w (OkE.op ok_add (OkE.op ok_sub (OkE.var 2) (OkE.var 1)) (OkE.con fun _ => .int _)))))) h
end
def f_run_index : M Fl :=
    (retS (pl (cb lenD (acons (fz (lcW (seqI (get 0)) (gT (gsC (gN 2) (gsC (gN 3) gsN))) (tb1 (op2 ltD (get 3) (get 1))) (get 3) [2, 3])) anil))))
def F_run_index : List PyData → Option Wv := runA 2 4 f_run_index
section
variable {P : Program} {w : World} {K : PySem.W.Frag} {mg : Str → Option Value} {base : Heap} {f : Addr} {fd : FuncData}
theorem dk_run_index (F : Fun K "run_index" "run_index" S_run_index f fd)  (B : Blt mg) : FnOk P w K mg base CX0 1 f fd P_run_index (spA K F_run_index) := by
  refine F.ok sc_run_index (fun vs H Q E h => lenA h) (fun cdv A outer s H vs Q E hr h => ⟨_, (pss_one (ps_ret (pe_callB (k_len (K := K) rfl) rfl B.len PySem.boot_len (pa_cons (pe_lc (own := [("first", 2), ("last", 3)]) (g := (gTup K 2 (gCons (gName 2) (gCons (gName 3) gNil)))) rfl sc_run_index.nd (k_seq (K := K) rfl (pv 0)) (blkOk_by (own := [("first", 2), ("last", 3)]) (N := ["intervals", "code", "first", "last"]) (sc := defScope S_run_index) (by decide +kernel)) (fun _ _ _ _ _ => by exact (pg_tup rfl (pgs_cons (pg_name (i := 2) sc_run_index.nd rfl (by first | exact Or.inl rfl | exact Or.inr rfl)) (pgs_cons (pg_name (i := 3) sc_run_index.nd rfl (by first | exact Or.inl rfl | exact Or.inr rfl)) pgs_nil)))) (fun _ _ _ _ _ => (pts_one (pt_cmpR op_lt (pv 3) (pv 1) (nomark _)))) (fun _ _ _ _ _ => (pv 3))) pa_nil)))), ?_⟩)
  exact finA (N := N_run_index) (by unfold f_run_index; exact (OkS.ret (OkE.w (OkE.cb ok_len (OkA.cons (OkW.e (OkW.lc (vs := [2, 3]) (OkI.seq (OkE.var 0)) (OkG.tup (OkGs.cons (OkG.name 2) (OkGs.cons (OkG.name 3) OkGs.nil))) (by decide) (OkT.test (OkE.op ok_lt (OkE.var 3) (OkE.var 1))) (OkE.var 3))) OkA.nil))))) h
end
def s_next_intervals_0 : M Fl :=
    (setS 2 (pl (fz (callA F_run_index (acons (get 0) (acons (get 1) anil))))))
def s_next_intervals_1 : M Fl :=
    (setS 3 (pl (cb maxD (acons (op2 subD (get 2) (con (.int 1))) (acons (con (.int 0)) anil)))))
def s_next_intervals_2 : M Fl :=
    (setS 4 (pl (cb minD (acons (op2 addD (get 2) (con (.int 1))) (acons (op2 subD (cb lenD (acons (get 0) anil)) (con (.int 1))) anil)))))
def s_next_intervals_3 : M Fl :=
    (setS 5 (pl (tupD (acons (op2 ixD (op2 ixD (get 0) (get 3)) (con (.int 0))) (acons (op2 subD (op2 ixD (op2 ixD (get 0) (get 4)) (con (.int 1))) (con (.int 1))) anil)))))
def s_next_intervals_4 : M Fl :=
    (setS 6 (pl (fz (lcW (seqI (slD (get 0) (poS (op2 addD (get 4) (con (.int 1)))) poN)) (gT (gsC (gN 7) (gsC (gN 8) gsN))) yesT (tupD (acons (op2 subD (get 7) (con (.int 1))) (acons (op2 subD (get 8) (con (.int 1))) anil))) [7, 8]))))
def s_next_intervals_5 : M Fl :=
    (retS (pl (op2 catD (op2 catD (slD (get 0) poN (poS (get 3))) (lstD (acons (get 5) anil))) (get 6))))
def f_next_intervals : M Fl :=
    (thenS s_next_intervals_0 (thenS s_next_intervals_1 (thenS s_next_intervals_2 (thenS s_next_intervals_3 (thenS s_next_intervals_4 s_next_intervals_5)))))
def F_next_intervals : List PyData → Option Wv := runA 2 9 f_next_intervals
section
variable {P : Program} {w : World} {K : PySem.W.Frag} {mg : Str → Option Value} {base : Heap} {f : Addr} {fd : FuncData}
theorem dk_next_intervals (F : Fun K "next_intervals" "next_intervals" S_next_intervals f fd) {g_run_index : Addr} {d_run_index : FuncData} (G_run_index : FnOk P w K mg base CX0 1 g_run_index d_run_index P_run_index (spA K F_run_index)) (b_run_index : Binds K d_run_index P_run_index []) (k_run_index : PySem.W.keepIn K (.ref g_run_index) = true) (m_run_index : mg "run_index" = some (.ref g_run_index)) (B : Blt mg) : FnOk P w K mg base CX0 2 f fd P_next_intervals (spA K F_next_intervals) := by
  refine F.ok sc_next_intervals (fun vs H Q E h => lenA h) (fun cdv A outer s H vs Q E hr h => ⟨_, (Evl.pss_cut (ps_set (i := 2) sc_next_intervals.nd rfl (by first | exact Or.inl rfl | exact Or.inr rfl) (pe_call G_run_index (hr.mono (by decide)) rfl m_run_index k_run_index b_run_index .nil pass0 (pa_cons (pv 0) (pa_cons (pv 1) pa_nil))))
      (Evl.pss_cut (ps_set (i := 3) sc_next_intervals.nd rfl (by first | exact Or.inl rfl | exact Or.inr rfl) (pe_callB (call_max2 rfl) rfl B.max (by decide +kernel) (pa_cons (pe_op op_sub (pv 2) pe_int) (pa_cons pe_int pa_nil))))
      (Evl.pss_cut (ps_set (i := 4) sc_next_intervals.nd rfl (by first | exact Or.inl rfl | exact Or.inr rfl) (pe_callB (call_min2 rfl) rfl B.min (by decide +kernel) (pa_cons (pe_op op_add (pv 2) pe_int) (pa_cons (pe_op op_sub (pe_callB (k_len (K := K) rfl) rfl B.len PySem.boot_len (pa_cons (pv 0) pa_nil)) pe_int) pa_nil))))
      (Evl.pss_cut (ps_set (i := 5) sc_next_intervals.nd rfl (by first | exact Or.inl rfl | exact Or.inr rfl) (pe_tupB (pa_cons (pe_ix (k_ix (K := K) rfl) (pe_ix (k_ix (K := K) rfl) (pv 0) (pv 3) (fun _ _ => rfl)) pe_int (fun _ _ => rfl)) (pa_cons (pe_op op_sub (pe_ix (k_ix (K := K) rfl) (pe_ix (k_ix (K := K) rfl) (pv 0) (pv 4) (fun _ _ => rfl)) pe_int (fun _ _ => rfl)) pe_int) pa_nil))))
      (Evl.pss_cut (by first | exact (ps_setLc (i := 6) (own := [("first", 7), ("last", 8)]) (g := (gTup K 2 (gCons (gName 7) (gCons (gName 8) gNil)))) rfl sc_next_intervals.nd rfl rfl (sw_true rfl rfl rfl (by decide +kernel)) (k_seq (K := K) rfl (pe_slice (k_cut (K := K) rfl) (pv 0) (po_some (pe_op op_add (pv 4) pe_int)) po_none)) (blkOk_by (own := [("first", 7), ("last", 8)]) (N := ["intervals", "code", "at", "left", "right", "united", "above", "first", "last"]) (sc := defScope S_next_intervals) (by decide +kernel)) (fun _ _ _ _ _ => by exact (pg_tup rfl (pgs_cons (pg_name (i := 7) sc_next_intervals.nd rfl (by first | exact Or.inl rfl | exact Or.inr rfl)) (pgs_cons (pg_name (i := 8) sc_next_intervals.nd rfl (by first | exact Or.inl rfl | exact Or.inr rfl)) pgs_nil)))) (fun _ _ _ _ _ => pts_nil) (fun _ _ _ _ _ => (pe_tupB (pa_cons (pe_op op_sub (pv 7) pe_int) (pa_cons (pe_op op_sub (pv 8) pe_int) pa_nil))))) | exact (ps_set (i := 6) sc_next_intervals.nd rfl (by first | exact Or.inl rfl | exact Or.inr rfl) (pe_lc (own := [("first", 7), ("last", 8)]) (g := (gTup K 2 (gCons (gName 7) (gCons (gName 8) gNil)))) rfl sc_next_intervals.nd (k_seq (K := K) rfl (pe_slice (k_cut (K := K) rfl) (pv 0) (po_some (pe_op op_add (pv 4) pe_int)) po_none)) (blkOk_by (own := [("first", 7), ("last", 8)]) (N := ["intervals", "code", "at", "left", "right", "united", "above", "first", "last"]) (sc := defScope S_next_intervals) (by decide +kernel)) (fun _ _ _ _ _ => by exact (pg_tup rfl (pgs_cons (pg_name (i := 7) sc_next_intervals.nd rfl (by first | exact Or.inl rfl | exact Or.inr rfl)) (pgs_cons (pg_name (i := 8) sc_next_intervals.nd rfl (by first | exact Or.inl rfl | exact Or.inr rfl)) pgs_nil)))) (fun _ _ _ _ _ => pts_nil) (fun _ _ _ _ _ => (pe_tupB (pa_cons (pe_op op_sub (pv 7) pe_int) (pa_cons (pe_op op_sub (pv 8) pe_int) pa_nil)))))))
      (pss_one (ps_ret (pe_op op_catL (pe_op op_catL (pe_slice (k_cut (K := K) rfl) (pv 0) po_none (po_some (pv 3))) (pe_lst (pa_cons (pv 5) pa_nil))) (pv 6))))))))), ?_⟩)
  exact finA (N := N_next_intervals) (by unfold f_next_intervals s_next_intervals_5 s_next_intervals_4 s_next_intervals_3 s_next_intervals_2 s_next_intervals_1 s_next_intervals_0; exact (OkS.cut (OkS.set (fun z => z.elim0) (OkE.w (OkW.e (OkW.call (OkA.cons (OkE.var 0) (OkA.cons (OkE.var 1) OkA.nil))))))
      (OkS.cut (OkS.set (fun z => z.elim0) (OkE.w (OkE.cb ok_max (OkA.cons (OkE.op ok_sub (OkE.var 2) (OkE.con fun _ => .int _)) (OkA.cons (OkE.con fun _ => .int _) OkA.nil)))))
      (OkS.cut (OkS.set (fun z => z.elim0) (OkE.w (OkE.cb ok_min (OkA.cons (OkE.op ok_add (OkE.var 2) (OkE.con fun _ => .int _)) (OkA.cons (OkE.op ok_sub (OkE.cb ok_len (OkA.cons (OkE.var 0) OkA.nil)) (OkE.con fun _ => .int _)) OkA.nil)))))
      (OkS.cut (OkS.set (fun z => z.elim0) (OkE.w (OkE.tup (OkA.cons (OkE.op ok_ix (OkE.op ok_ix (OkE.var 0) (OkE.var 3)) (OkE.con fun _ => .int _)) (OkA.cons (OkE.op ok_sub (OkE.op ok_ix (OkE.op ok_ix (OkE.var 0) (OkE.var 4)) (OkE.con fun _ => .int _)) (OkE.con fun _ => .int _)) OkA.nil)))))
      (OkS.cut (OkS.set (fun z => z.elim0) (OkE.w (OkW.e (OkW.lc (vs := [7, 8]) (OkI.seq (OkE.sl (OkE.var 0) (OkP.some (OkE.op ok_add (OkE.var 4) (OkE.con fun _ => .int _))) OkP.none)) (OkG.tup (OkGs.cons (OkG.name 7) (OkGs.cons (OkG.name 8) OkGs.nil))) (by decide) OkT.yes (OkE.tup (OkA.cons (OkE.op ok_sub (OkE.var 7) (OkE.con fun _ => .int _)) (OkA.cons (OkE.op ok_sub (OkE.var 8) (OkE.con fun _ => .int _)) OkA.nil)))))))
      (OkS.ret (OkE.w (OkE.op ok_catL (OkE.op ok_catL (OkE.sl (OkE.var 0) OkP.none (OkP.some (OkE.var 3))) (OkE.lst (OkA.cons (OkE.var 5) OkA.nil))) (OkE.var 6)))))))))) h
end
def s_run_lists_0 : M Fl :=
    (setS 1 (lstW anil))
def s_run_lists_1 : M Fl :=
    (setS 2 (pl (fz (callA F_first_intervals (acons (cb lenD (acons (get 0) anil)) anil)))))
def b_run_lists_2 : M Fl :=
    (thenS (exprS (mthE 1 appD (acons (get 2) anil)))
    (setS 2 (pl (fz (callA F_next_intervals (acons (get 2) (acons (get 3) anil)))))))
def s_run_lists_2 : M Fl :=
    (forS (seqI (fz (callA F_codes (acons (get 0) anil)))) (gN 3) b_run_lists_2)
def s_run_lists_3 : M Fl :=
    (moveS 1)
def f_run_lists : M Fl :=
    (thenS s_run_lists_0 (thenS s_run_lists_1 (thenS s_run_lists_2 s_run_lists_3)))
def F_run_lists : List PyData → Option Wv := runA 1 4 f_run_lists
section
variable {P : Program} {w : World} {K : PySem.W.Frag} {mg : Str → Option Value} {base : Heap} {f : Addr} {fd : FuncData}
theorem dk_run_lists (F : Fun K "run_lists" "run_lists" S_run_lists f fd) {g_codes : Addr} {d_codes : FuncData} (G_codes : FnOk P w K mg base CX0 2 g_codes d_codes P_codes (spA K F_codes)) (b_codes : Binds K d_codes P_codes []) (k_codes : PySem.W.keepIn K (.ref g_codes) = true) (m_codes : mg "codes" = some (.ref g_codes)) {g_first_intervals : Addr} {d_first_intervals : FuncData} (G_first_intervals : FnOk P w K mg base CX0 1 g_first_intervals d_first_intervals P_first_intervals (spA K F_first_intervals)) (b_first_intervals : Binds K d_first_intervals P_first_intervals []) (k_first_intervals : PySem.W.keepIn K (.ref g_first_intervals) = true) (m_first_intervals : mg "first_intervals" = some (.ref g_first_intervals)) {g_next_intervals : Addr} {d_next_intervals : FuncData} (G_next_intervals : FnOk P w K mg base CX0 2 g_next_intervals d_next_intervals P_next_intervals (spA K F_next_intervals)) (b_next_intervals : Binds K d_next_intervals P_next_intervals []) (k_next_intervals : PySem.W.keepIn K (.ref g_next_intervals) = true) (m_next_intervals : mg "next_intervals" = some (.ref g_next_intervals)) (B : Blt mg) : FnOk P w K mg base CX0 3 f fd P_run_lists (spA K F_run_lists) := by
  refine F.ok sc_run_lists (fun vs H Q E h => lenA h) (fun cdv A outer s H vs Q E hr h => ⟨_, (Evl.pss_cut (ps_set (i := 1) sc_run_lists.nd rfl (by first | exact Or.inl rfl | exact Or.inr rfl) (pe_lst pa_nil))
      (Evl.pss_cut (ps_set (i := 2) sc_run_lists.nd rfl (by first | exact Or.inl rfl | exact Or.inr rfl) (pe_call G_first_intervals (hr.mono (by decide)) rfl m_first_intervals k_first_intervals b_first_intervals .nil pass0 (pa_cons (pe_callB (k_len (K := K) rfl) rfl B.len PySem.boot_len (pa_cons (pv 0) pa_nil)) pa_nil)))
      (Evl.pss_cut (ps_for PassesOwn.never rfl (k_seq (K := K) rfl (pe_call G_codes (hr.mono (by decide)) rfl m_codes k_codes b_codes .nil pass0 (pa_cons (pv 0) pa_nil))) (pg_name (i := 3) sc_run_lists.nd rfl (by first | exact Or.inl rfl | exact Or.inr rfl))
      (Evl.pss_cut (ps_expr (k_bm (K := K) rfl PySem.F.plainAttrs_list PySem.F.slot_list_append PySem.F.type_list_append mt_append (pv 1) (pa_cons (pv 2) pa_nil)))
      (pss_one (ps_set (i := 2) sc_run_lists.nd rfl (by first | exact Or.inl rfl | exact Or.inr rfl) (pe_call G_next_intervals (hr.mono (by decide)) rfl m_next_intervals k_next_intervals b_next_intervals .nil pass0 (pa_cons (pv 2) (pa_cons (pv 3) pa_nil)))))))
      (pss_one (ps_ret (pv 1)))))), ?_⟩)
  exact finA (N := N_run_lists) (by unfold f_run_lists s_run_lists_3 s_run_lists_2 b_run_lists_2 s_run_lists_1 s_run_lists_0; exact (OkS.cut (OkS.set (fun z => z.elim0) (OkW.lst OkA.nil))
      (OkS.cut (OkS.set (fun z => z.elim0) (OkE.w (OkW.e (OkW.call (OkA.cons (OkE.cb ok_len (OkA.cons (OkE.var 0) OkA.nil)) OkA.nil)))))
      (OkS.cut (OkS.for (OkI.seq (OkW.e (OkW.call (OkA.cons (OkE.var 0) OkA.nil)))) (OkG.name 3) (fun z => z.elim0) (OkS.cut (OkS.expr (OkE.mth ok_app (OkA.cons (OkE.var 2) OkA.nil)))
      (OkS.set (fun z => z.elim0) (OkE.w (OkW.e (OkW.call (OkA.cons (OkE.var 2) (OkA.cons (OkE.var 3) OkA.nil))))))))
      (OkS.move 1))))) h
end
def f_runs : M Fl :=
    (retS (pl (cb tupleD (acons (fz (lcW (argI zipM (acons (fz (callA F_run_lists (acons (get 0) anil))) (acons (fz (callA F_codes (acons (get 0) anil))) anil))) (gT (gsC (gN 1) (gsC (gN 2) gsN))) yesT (op2 ixD (get 1) (fz (callA F_run_index (acons (get 1) (acons (get 2) anil))))) [1, 2])) anil))))
def F_runs : List PyData → Option Wv := runA 1 3 f_runs
section
variable {P : Program} {w : World} {K : PySem.W.Frag} {mg : Str → Option Value} {base : Heap} {f : Addr} {fd : FuncData}
theorem dk_runs (F : Fun K "runs" "runs" S_runs f fd) {g_codes : Addr} {d_codes : FuncData} (G_codes : FnOk P w K mg base CX0 2 g_codes d_codes P_codes (spA K F_codes)) (b_codes : Binds K d_codes P_codes []) (k_codes : PySem.W.keepIn K (.ref g_codes) = true) (m_codes : mg "codes" = some (.ref g_codes)) {g_run_lists : Addr} {d_run_lists : FuncData} (G_run_lists : FnOk P w K mg base CX0 3 g_run_lists d_run_lists P_run_lists (spA K F_run_lists)) (b_run_lists : Binds K d_run_lists P_run_lists []) (k_run_lists : PySem.W.keepIn K (.ref g_run_lists) = true) (m_run_lists : mg "run_lists" = some (.ref g_run_lists)) {g_run_index : Addr} {d_run_index : FuncData} (G_run_index : FnOk P w K mg base CX0 1 g_run_index d_run_index P_run_index (spA K F_run_index)) (b_run_index : Binds K d_run_index P_run_index []) (k_run_index : PySem.W.keepIn K (.ref g_run_index) = true) (m_run_index : mg "run_index" = some (.ref g_run_index)) (B : Blt mg) : FnOk P w K mg base CX0 4 f fd P_runs (spA K F_runs) := by
  refine F.ok sc_runs (fun vs H Q E h => lenA h) (fun cdv A outer s H vs Q E hr h => ⟨_, (pss_one (ps_ret (pe_callTy (k_tup (K := K) rfl) rfl B.tuple (by decide +kernel) (pa_cons (pe_lc (own := [("intervals", 1), ("code", 2)]) (g := (gTup K 2 (gCons (gName 1) (gCons (gName 2) gNil)))) rfl sc_runs.nd (k_zipB (K := K) rfl rfl B.zip (pa_cons (pe_call G_run_lists (hr.mono (by decide)) rfl m_run_lists k_run_lists b_run_lists .nil pass0 (pa_cons (pv 0) pa_nil)) (pa_cons (pe_call G_codes (hr.mono (by decide)) rfl m_codes k_codes b_codes .nil pass0 (pa_cons (pv 0) pa_nil)) pa_nil))) (blkOk_by (own := [("intervals", 1), ("code", 2)]) (N := ["row", "intervals", "code"]) (sc := defScope S_runs) (by decide +kernel)) (fun _ _ _ _ _ => by exact (pg_tup rfl (pgs_cons (pg_name (i := 1) sc_runs.nd rfl (by first | exact Or.inl rfl | exact Or.inr rfl)) (pgs_cons (pg_name (i := 2) sc_runs.nd rfl (by first | exact Or.inl rfl | exact Or.inr rfl)) pgs_nil)))) (fun _ _ _ _ _ => pts_nil) (fun _ _ _ _ _ => (pe_ix (k_ix (K := K) rfl) (pv 1) (pe_call G_run_index (hr.mono (by decide)) rfl m_run_index k_run_index b_run_index .nil pass0 (pa_cons (pv 1) (pa_cons (pv 2) pa_nil))) (fun _ _ => rfl)))) pa_nil)))), ?_⟩)
  exact finA (N := N_runs) (by unfold f_runs; exact (OkS.ret (OkE.w (OkE.cb ok_tuple (OkA.cons (OkW.e (OkW.lc (vs := [1, 2]) (OkI.zipB (OkA.cons (OkW.e (OkW.call (OkA.cons (OkE.var 0) OkA.nil))) (OkA.cons (OkW.e (OkW.call (OkA.cons (OkE.var 0) OkA.nil))) OkA.nil))) (OkG.tup (OkGs.cons (OkG.name 1) (OkGs.cons (OkG.name 2) OkGs.nil))) (by decide) OkT.yes (OkE.op ok_ix (OkE.var 1) (OkW.e (OkW.call (OkA.cons (OkE.var 1) (OkA.cons (OkE.var 2) OkA.nil))))))) OkA.nil))))) h
end
def f_check_same_people : M Fl :=
    (ifS (tb1 (op2 (eqvD true) (cb sortD (acons (get 0) anil)) (cb sortD (acons (get 1) anil)))) stuckS nxt)
def F_check_same_people : List PyData → Option Wv := runA 2 2 f_check_same_people
section
variable {P : Program} {w : World} {K : PySem.W.Frag} {mg : Str → Option Value} {base : Heap} {f : Addr} {fd : FuncData}
theorem dk_check_same_people (F : Fun K "check_same_people" "check_same_people" S_check_same_people f fd)  (B : Blt mg) : FnOk P w K mg base CX0 1 f fd P_check_same_people (spA K F_check_same_people) := by
  refine F.ok sc_check_same_people (fun vs H Q E h => lenA h) (fun cdv A outer s H vs Q E hr h => ⟨_, (pss_one (ps_if (pt_cmpR (k_neD (K := K) rfl hr.units) (pe_callB (k_sorted (K := K) rfl) rfl B.sorted (by decide +kernel) (pa_cons (pv 0) pa_nil)) (pe_callB (k_sorted (K := K) rfl) rfl B.sorted (by decide +kernel) (pa_cons (pv 1) pa_nil)) (nomark _)) (pss_one ps_never) pss_nil)), ?_⟩)
  exact finA (N := N_check_same_people) (by unfold f_check_same_people; exact (OkS.ife (OkT.test (OkE.op ok_neD (OkE.cb ok_sort (OkA.cons (OkE.var 0) OkA.nil)) (OkE.cb ok_sort (OkA.cons (OkE.var 1) OkA.nil)))) OkS.stuck OkS.nil)) h
end
def s_bar_0 : M Fl :=
    (exprS (fz (callA F_check_same_people (acons (get 0) (acons (get 1) anil)))))
def b_bar_1 : M Fl :=
    (ifS (tb1 (op2 (eqvD true) (get 3) (get 4))) (retS (pl (get 2))) nxt)
def s_bar_1 : M Fl :=
    (forS (argI zip3M (acons (cb sortD (acons (get 0) anil)) (acons (fz (callA F_runs (acons (get 0) anil))) (acons (fz (callA F_runs (acons (get 1) anil))) anil)))) (gT (gsC (gN 2) (gsC (gN 3) (gsC (gN 4) gsN)))) b_bar_1)
def s_bar_2 : M Fl :=
    (retS (pl (con .none)))
def f_bar : M Fl :=
    (thenS s_bar_0 (thenS s_bar_1 s_bar_2))
def F_bar : List PyData → Option Wv := runA 2 5 f_bar
section
variable {P : Program} {w : World} {K : PySem.W.Frag} {mg : Str → Option Value} {base : Heap} {f : Addr} {fd : FuncData}
theorem dk_bar (F : Fun K "bar" "bar" S_bar f fd) {g_check_same_people : Addr} {d_check_same_people : FuncData} (G_check_same_people : FnOk P w K mg base CX0 1 g_check_same_people d_check_same_people P_check_same_people (spA K F_check_same_people)) (b_check_same_people : Binds K d_check_same_people P_check_same_people []) (k_check_same_people : PySem.W.keepIn K (.ref g_check_same_people) = true) (m_check_same_people : mg "check_same_people" = some (.ref g_check_same_people)) {g_runs : Addr} {d_runs : FuncData} (G_runs : FnOk P w K mg base CX0 4 g_runs d_runs P_runs (spA K F_runs)) (b_runs : Binds K d_runs P_runs []) (k_runs : PySem.W.keepIn K (.ref g_runs) = true) (m_runs : mg "runs" = some (.ref g_runs)) (B : Blt mg) : FnOk P w K mg base CX0 5 f fd P_bar (spA K F_bar) := by
  refine F.ok sc_bar (fun vs H Q E h => lenA h) (fun cdv A outer s H vs Q E hr h => ⟨_, (Evl.pss_cut (ps_expr (pe_call G_check_same_people (hr.mono (by decide)) rfl m_check_same_people k_check_same_people b_check_same_people .nil pass0 (pa_cons (pv 0) (pa_cons (pv 1) pa_nil))))
      (Evl.pss_cut (ps_for PassesOwn.never rfl (k_zipC (K := K) rfl rfl B.zip (pa_cons (pe_callB (k_sorted (K := K) rfl) rfl B.sorted (by decide +kernel) (pa_cons (pv 0) pa_nil)) (pa_cons (pe_call G_runs (hr.mono (by decide)) rfl m_runs k_runs b_runs .nil pass0 (pa_cons (pv 0) pa_nil)) (pa_cons (pe_call G_runs (hr.mono (by decide)) rfl m_runs k_runs b_runs .nil pass0 (pa_cons (pv 1) pa_nil)) pa_nil)))) (pg_tup rfl (pgs_cons (pg_name (i := 2) sc_bar.nd rfl (by first | exact Or.inl rfl | exact Or.inr rfl)) (pgs_cons (pg_name (i := 3) sc_bar.nd rfl (by first | exact Or.inl rfl | exact Or.inr rfl)) (pgs_cons (pg_name (i := 4) sc_bar.nd rfl (by first | exact Or.inl rfl | exact Or.inr rfl)) pgs_nil))))
      (pss_one (ps_if (pt_cmpR (k_neD (K := K) rfl hr.units) (pv 3) (pv 4) (nomark _)) (pss_one (ps_ret (pv 2))) pss_nil)))
      (pss_one (ps_ret pe_non)))), ?_⟩)
  exact finA (N := N_bar) (by unfold f_bar s_bar_2 s_bar_1 b_bar_1 s_bar_0; exact (OkS.cut (OkS.expr (OkW.e (OkW.call (OkA.cons (OkE.var 0) (OkA.cons (OkE.var 1) OkA.nil)))))
      (OkS.cut (OkS.for (OkI.zipC (OkA.cons (OkE.cb ok_sort (OkA.cons (OkE.var 0) OkA.nil)) (OkA.cons (OkW.e (OkW.call (OkA.cons (OkE.var 0) OkA.nil))) (OkA.cons (OkW.e (OkW.call (OkA.cons (OkE.var 1) OkA.nil))) OkA.nil)))) (OkG.tup (OkGs.cons (OkG.name 2) (OkGs.cons (OkG.name 3) (OkGs.cons (OkG.name 4) OkGs.nil)))) (fun z => z.elim0) (OkS.ife (OkT.test (OkE.op ok_neD (OkE.var 3) (OkE.var 4))) (OkS.ret (OkE.w (OkE.var 2))) OkS.nil))
      (OkS.ret (OkE.w (OkE.con fun _ => .non)))))) h
end
def f_leads : M Fl :=
    (retS (pl (isNE false (fz (callA F_bar (acons (get 0) (acons (get 1) anil)))))))
def F_leads : List PyData → Option Wv := runA 2 2 f_leads
section
variable {P : Program} {w : World} {K : PySem.W.Frag} {mg : Str → Option Value} {base : Heap} {f : Addr} {fd : FuncData}
theorem dk_leads (F : Fun K "leads" "leads" S_leads f fd) {g_bar : Addr} {d_bar : FuncData} (G_bar : FnOk P w K mg base CX0 5 g_bar d_bar P_bar (spA K F_bar)) (b_bar : Binds K d_bar P_bar []) (k_bar : PySem.W.keepIn K (.ref g_bar) = true) (m_bar : mg "bar" = some (.ref g_bar)) (B : Blt mg) : FnOk P w K mg base CX0 6 f fd P_leads (spA K F_leads) := by
  refine F.ok sc_leads (fun vs H Q E h => lenA h) (fun cdv A outer s H vs Q E hr h => ⟨_, (pss_one (ps_ret (pe_cmpR op_isN (pe_call G_bar (hr.mono (by decide)) rfl m_bar k_bar b_bar .nil pass0 (pa_cons (pv 0) (pa_cons (pv 1) pa_nil))) pe_non (nomark _)))), ?_⟩)
  exact finA (N := N_leads) (by unfold f_leads; exact (OkS.ret (OkE.w (OkE.isN (OkW.e (OkW.call (OkA.cons (OkE.var 0) (OkA.cons (OkE.var 1) OkA.nil)))))))) h
end
def s_count_rows_0 : M Fl :=
    (setS 1 (pl (con (.int 1))))
def b_count_rows_1 : M Fl :=
    (augS 1 mulD (fz (callA F_run_size (acons (get 2) anil))))
def s_count_rows_1 : M Fl :=
    (forS (seqI (fz (callA F_runs (acons (get 0) anil)))) (gN 2) b_count_rows_1)
def s_count_rows_2 : M Fl :=
    (retS (pl (get 1)))
def f_count_rows : M Fl :=
    (thenS s_count_rows_0 (thenS s_count_rows_1 s_count_rows_2))
def F_count_rows : List PyData → Option Wv := runA 1 3 f_count_rows
section
variable {P : Program} {w : World} {K : PySem.W.Frag} {mg : Str → Option Value} {base : Heap} {f : Addr} {fd : FuncData}
theorem dk_count_rows (F : Fun K "count_rows" "count_rows" S_count_rows f fd) {g_run_size : Addr} {d_run_size : FuncData} (G_run_size : FnOk P w K mg base CX0 1 g_run_size d_run_size P_run_size (spA K F_run_size)) (b_run_size : Binds K d_run_size P_run_size []) (k_run_size : PySem.W.keepIn K (.ref g_run_size) = true) (m_run_size : mg "run_size" = some (.ref g_run_size)) {g_runs : Addr} {d_runs : FuncData} (G_runs : FnOk P w K mg base CX0 4 g_runs d_runs P_runs (spA K F_runs)) (b_runs : Binds K d_runs P_runs []) (k_runs : PySem.W.keepIn K (.ref g_runs) = true) (m_runs : mg "runs" = some (.ref g_runs)) (B : Blt mg) : FnOk P w K mg base CX0 5 f fd P_count_rows (spA K F_count_rows) := by
  refine F.ok sc_count_rows (fun vs H Q E h => lenA h) (fun cdv A outer s H vs Q E hr h => ⟨_, (Evl.pss_cut (ps_set (i := 1) sc_count_rows.nd rfl (by first | exact Or.inl rfl | exact Or.inr rfl) pe_int)
      (Evl.pss_cut (ps_for PassesOwn.never rfl (k_seq (K := K) rfl (pe_call G_runs (hr.mono (by decide)) rfl m_runs k_runs b_runs .nil pass0 (pa_cons (pv 0) pa_nil))) (pg_name (i := 2) sc_count_rows.nd rfl (by first | exact Or.inl rfl | exact Or.inr rfl))
      (pss_one (ps_aug (i := 1) sc_count_rows.nd rfl (by first | exact Or.inl rfl | exact Or.inr rfl) (pe_call G_run_size (hr.mono (by decide)) rfl m_run_size k_run_size b_run_size .nil pass0 (pa_cons (pv 2) pa_nil)) ip_mul)))
      (pss_one (ps_ret (pv 1))))), ?_⟩)
  exact finA (N := N_count_rows) (by unfold f_count_rows s_count_rows_2 s_count_rows_1 b_count_rows_1 s_count_rows_0; exact (OkS.cut (OkS.set (fun z => z.elim0) (OkE.w (OkE.con fun _ => .int _)))
      (OkS.cut (OkS.for (OkI.seq (OkW.e (OkW.call (OkA.cons (OkE.var 0) OkA.nil)))) (OkG.name 2) (fun z => z.elim0) (OkS.aug (fun z => z.elim0) aug_mul (OkW.e (OkW.call (OkA.cons (OkE.var 2) OkA.nil)))))
      (OkS.ret (OkE.w (OkE.var 1)))))) h
end
def f_sees : M Fl :=
    (retS (pl (cb allD (acons (fz (lcW (seqI (slD (get 0) (poS (op2 addD (get 1) (con (.int 1)))) (poS (get 2)))) (gN 3) yesT (op2 ltD (get 3) (cb minD (acons (op2 ixD (get 0) (get 1)) (acons (op2 ixD (get 0) (get 2)) anil)))) [3])) anil))))
def F_sees : List PyData → Option Wv := runA 3 4 f_sees
section
variable {P : Program} {w : World} {K : PySem.W.Frag} {mg : Str → Option Value} {base : Heap} {f : Addr} {fd : FuncData}
theorem dk_sees (F : Fun K "_law_sees" "_law_sees" S_sees f fd)  (B : Blt mg) : FnOk P w K mg base CX0 1 f fd P_sees (spA K F_sees) := by
  refine F.ok sc_sees (fun vs H Q E h => lenA h) (fun cdv A outer s H vs Q E hr h => ⟨_, (pss_one (ps_ret (pe_callB (k_all (K := K) rfl rfl) rfl B.all (by decide +kernel) (pa_cons (pe_lc (own := [("_law_soul", 3)]) (g := (gName 3)) rfl sc_sees.nd (k_seq (K := K) rfl (pe_slice (k_cut (K := K) rfl) (pv 0) (po_some (pe_op op_add (pv 1) pe_int)) (po_some (pv 2)))) (blkOk_by (own := [("_law_soul", 3)]) (N := ["_law_crowd", "_law_i", "_law_j", "_law_soul"]) (sc := defScope S_sees) (by decide +kernel)) (fun _ _ _ _ _ => by exact (pg_name (i := 3) sc_sees.nd rfl (by first | exact Or.inl rfl | exact Or.inr rfl))) (fun _ _ _ _ _ => pts_nil) (fun _ _ _ _ _ => (pe_cmpR op_lt (pv 3) (pe_callB (call_min2 rfl) rfl B.min (by decide +kernel) (pa_cons (pe_ix (k_ix (K := K) rfl) (pv 0) (pv 1) (fun _ _ => rfl)) (pa_cons (pe_ix (k_ix (K := K) rfl) (pv 0) (pv 2) (fun _ _ => rfl)) pa_nil))) (nomark _)))) pa_nil)))), ?_⟩)
  exact finA (N := N_sees) (by unfold f_sees; exact (OkS.ret (OkE.w (OkE.cb ok_all (OkA.cons (OkW.e (OkW.lc (vs := [3]) (OkI.seq (OkE.sl (OkE.var 0) (OkP.some (OkE.op ok_add (OkE.var 1) (OkE.con fun _ => .int _))) (OkP.some (OkE.var 2)))) (OkG.name 3) (by decide) OkT.yes (OkE.op ok_lt (OkE.var 3) (OkE.cb ok_min (OkA.cons (OkE.op ok_ix (OkE.var 0) (OkE.var 1)) (OkA.cons (OkE.op ok_ix (OkE.var 0) (OkE.var 2)) OkA.nil)))))) OkA.nil))))) h
end
def s_swaps_0 : M Fl :=
    (setS 1 (pl (lstD anil)))
def b_swaps_1 : M Fl :=
    (setS 1 (pl (op2 catD (get 1) (fz (lcW (argI rngD2 (acons (op2 addD (get 2) (con (.int 2))) (acons (cb lenD (acons (get 0) anil)) anil))) (gN 3) (tb1 (fz (callA F_sees (acons (get 0) (acons (get 2) (acons (get 3) anil)))))) (tupD (acons (get 2) (acons (get 3) anil))) [3])))))
def s_swaps_1 : M Fl :=
    (forS (argI rngD (acons (cb lenD (acons (get 0) anil)) anil)) (gN 2) b_swaps_1)
def s_swaps_2 : M Fl :=
    (retS (pl (get 1)))
def f_swaps : M Fl :=
    (thenS s_swaps_0 (thenS s_swaps_1 s_swaps_2))
def F_swaps : List PyData → Option Wv := runA 1 4 f_swaps
section
variable {P : Program} {w : World} {K : PySem.W.Frag} {mg : Str → Option Value} {base : Heap} {f : Addr} {fd : FuncData}
theorem dk_swaps (F : Fun K "_law_swaps" "_law_swaps" S_swaps f fd) {g_sees : Addr} {d_sees : FuncData} (G_sees : FnOk P w K mg base CX0 1 g_sees d_sees P_sees (spA K F_sees)) (b_sees : Binds K d_sees P_sees []) (k_sees : PySem.W.keepIn K (.ref g_sees) = true) (m_sees : mg "_law_sees" = some (.ref g_sees)) (B : Blt mg) : FnOk P w K mg base CX0 2 f fd P_swaps (spA K F_swaps) := by
  refine F.ok sc_swaps (fun vs H Q E h => lenA h) (fun cdv A outer s H vs Q E hr h => ⟨_, (Evl.pss_cut (ps_set (i := 1) sc_swaps.nd rfl (by first | exact Or.inl rfl | exact Or.inr rfl) (pe_lst pa_nil))
      (Evl.pss_cut (ps_for PassesOwn.never rfl (pi_range1 rfl B.range (pa_cons (pe_callB (k_len (K := K) rfl) rfl B.len PySem.boot_len (pa_cons (pv 0) pa_nil)) pa_nil)) (pg_name (i := 2) sc_swaps.nd rfl (by first | exact Or.inl rfl | exact Or.inr rfl))
      (pss_one (ps_set (i := 1) sc_swaps.nd rfl (by first | exact Or.inl rfl | exact Or.inr rfl) (pe_op op_catL (pv 1) (pe_lc (own := [("_law_j", 3)]) (g := (gName 3)) rfl sc_swaps.nd (pi_range2 rfl B.range (pa_cons (pe_op op_add (pv 2) pe_int) (pa_cons (pe_callB (k_len (K := K) rfl) rfl B.len PySem.boot_len (pa_cons (pv 0) pa_nil)) pa_nil))) (blkOk_by (own := [("_law_j", 3)]) (N := ["_law_crowd", "_law_found", "_law_i", "_law_j"]) (sc := defScope S_swaps) (by decide +kernel)) (fun _ _ _ _ _ => by exact (pg_name (i := 3) sc_swaps.nd rfl (by first | exact Or.inl rfl | exact Or.inr rfl))) (fun _ _ _ _ _ => (pts_one (pt_val (pe_call G_sees (hr.mono (by decide)) rfl m_sees k_sees b_sees .nil pass0 (pa_cons (pv 0) (pa_cons (pv 2) (pa_cons (pv 3) pa_nil))))))) (fun _ _ _ _ _ => (pe_tupB (pa_cons (pv 2) (pa_cons (pv 3) pa_nil)))))))))
      (pss_one (ps_ret (pv 1))))), ?_⟩)
  exact finA (N := N_swaps) (by unfold f_swaps s_swaps_2 s_swaps_1 b_swaps_1 s_swaps_0; exact (OkS.cut (OkS.set (fun z => z.elim0) (OkE.w (OkE.lst OkA.nil)))
      (OkS.cut (OkS.for (OkI.range1 (OkA.cons (OkE.cb ok_len (OkA.cons (OkE.var 0) OkA.nil)) OkA.nil)) (OkG.name 2) (fun z => z.elim0) (OkS.set (fun z => z.elim0) (OkE.w (OkE.op ok_catL (OkE.var 1) (OkW.e (OkW.lc (vs := [3]) (OkI.range2 (OkA.cons (OkE.op ok_add (OkE.var 2) (OkE.con fun _ => .int _)) (OkA.cons (OkE.cb ok_len (OkA.cons (OkE.var 0) OkA.nil)) OkA.nil))) (OkG.name 3) (by decide) (OkT.val (OkW.e (OkW.call (OkA.cons (OkE.var 0) (OkA.cons (OkE.var 2) (OkA.cons (OkE.var 3) OkA.nil)))))) (OkE.tup (OkA.cons (OkE.var 2) (OkA.cons (OkE.var 3) OkA.nil)))))))))
      (OkS.ret (OkE.w (OkE.var 1)))))) h
end
def s_turned_0 : M Fl :=
    (unS (gT (gsC (gN 2) (gsC (gN 3) gsN))) (get 1))
def s_turned_1 : M Fl :=
    (retS (pl (op2 catT (op2 catT (op2 catT (op2 catT (slD (get 0) poN (poS (get 2))) (tupD (acons (op2 ixD (get 0) (get 3)) anil))) (slD (get 0) (poS (op2 addD (get 2) (con (.int 1)))) (poS (get 3)))) (tupD (acons (op2 ixD (get 0) (get 2)) anil))) (slD (get 0) (poS (op2 addD (get 3) (con (.int 1)))) poN))))
def f_turned : M Fl :=
    (thenS s_turned_0 s_turned_1)
def F_turned : List PyData → Option Wv := runA 2 4 f_turned
section
variable {P : Program} {w : World} {K : PySem.W.Frag} {mg : Str → Option Value} {base : Heap} {f : Addr} {fd : FuncData}
theorem dk_turned (F : Fun K "_law_turned" "_law_turned" S_turned f fd)  (B : Blt mg) : FnOk P w K mg base CX0 1 f fd P_turned (spA K F_turned) := by
  refine F.ok sc_turned (fun vs H Q E h => lenA h) (fun cdv A outer s H vs Q E hr h => ⟨_, (Evl.pss_cut (ps_asg (pv 1) (pg_tup rfl (pgs_cons (pg_name (i := 2) sc_turned.nd rfl (by first | exact Or.inl rfl | exact Or.inr rfl)) (pgs_cons (pg_name (i := 3) sc_turned.nd rfl (by first | exact Or.inl rfl | exact Or.inr rfl)) pgs_nil))))
      (pss_one (ps_ret (pe_op (k_catW (K := K) rfl) (pe_op (k_catW (K := K) rfl) (pe_op (k_catW (K := K) rfl) (pe_op (k_catW (K := K) rfl) (pe_slice (k_cut (K := K) rfl) (pv 0) po_none (po_some (pv 2))) (pe_tupB (pa_cons (pe_ix (k_ix (K := K) rfl) (pv 0) (pv 3) (fun _ _ => rfl)) pa_nil))) (pe_slice (k_cut (K := K) rfl) (pv 0) (po_some (pe_op op_add (pv 2) pe_int)) (po_some (pv 3)))) (pe_tupB (pa_cons (pe_ix (k_ix (K := K) rfl) (pv 0) (pv 2) (fun _ _ => rfl)) pa_nil))) (pe_slice (k_cut (K := K) rfl) (pv 0) (po_some (pe_op op_add (pv 3) pe_int)) po_none))))), ?_⟩)
  exact finA (N := N_turned) (by unfold f_turned s_turned_1 s_turned_0; exact (OkS.cut (OkS.unpack (OkG.tup (OkGs.cons (OkG.name 2) (OkGs.cons (OkG.name 3) OkGs.nil))) (fun z => z.elim0) (OkE.var 1))
      (OkS.ret (OkE.w (OkE.op ok_catT (OkE.op ok_catT (OkE.op ok_catT (OkE.op ok_catT (OkE.sl (OkE.var 0) OkP.none (OkP.some (OkE.var 2))) (OkE.tup (OkA.cons (OkE.op ok_ix (OkE.var 0) (OkE.var 3)) OkA.nil))) (OkE.sl (OkE.var 0) (OkP.some (OkE.op ok_add (OkE.var 2) (OkE.con fun _ => .int _))) (OkP.some (OkE.var 3)))) (OkE.tup (OkA.cons (OkE.op ok_ix (OkE.var 0) (OkE.var 2)) OkA.nil))) (OkE.sl (OkE.var 0) (OkP.some (OkE.op ok_add (OkE.var 3) (OkE.con fun _ => .int _))) OkP.none)))))) h
end
def s_reached_0 : M Fl :=
    (parS 2 3 (dispN (get 0) (con (.int 0))) (pl (lstD (acons (get 0) anil))))
def s_reached_1 : M Fl :=
    (whileM (andT (tb1 (op2 (eqvD true) (get 3) (lstD anil))) (tb1 (op2 leD (lenNd 2) (get 1)))) (thenS (setS 4 (lstW anil))
    (thenS (forS (seqI (get 3)) (gN 5) (forS (seqI (fz (callA F_swaps (acons (get 5) anil)))) (gN 6) (thenS (setS 7 (pl (fz (callA F_turned (acons (get 5) (acons (get 6) anil))))))
    (ifS (dinX true 2 (get 7)) (thenS (dputN 2 (get 7) (op2 addD (dgX 2 (get 5)) (con (.int 1))))
    (exprS (mthE 4 appD (acons (get 7) anil)))) nxt))))
    (M.bind (frzM 4) fun _ => (setS 3 (pl (get 4)))))) 3000)
def s_reached_2 : M Fl :=
    (ifS (tb1 (op2 leD (lenNd 2) (get 1))) (moveN 2) (retS (pl (con .none))))
def f_reached : M Fl :=
    (thenS s_reached_0 (thenS s_reached_1 s_reached_2))
def F_reached : List PyData → Option Wv := runA 2 8 f_reached
section
variable {P : Program} {w : World} {K : PySem.W.Frag} {mg : Str → Option Value} {base : Heap} {f : Addr} {fd : FuncData}
theorem dk_reached (F : Fun K "_law_reached" "_law_reached" S_reached f fd) {g_swaps : Addr} {d_swaps : FuncData} (G_swaps : FnOk P w K mg base CX0 2 g_swaps d_swaps P_swaps (spA K F_swaps)) (b_swaps : Binds K d_swaps P_swaps []) (k_swaps : PySem.W.keepIn K (.ref g_swaps) = true) (m_swaps : mg "_law_swaps" = some (.ref g_swaps)) {g_turned : Addr} {d_turned : FuncData} (G_turned : FnOk P w K mg base CX0 1 g_turned d_turned P_turned (spA K F_turned)) (b_turned : Binds K d_turned P_turned []) (k_turned : PySem.W.keepIn K (.ref g_turned) = true) (m_turned : mg "_law_turned" = some (.ref g_turned)) (B : Blt mg) : FnOk P w K mg base CX0 3 f fd P_reached (spA K F_reached) := by
  refine F.ok sc_reached (fun vs H Q E h => lenA h) (fun cdv A outer s H vs Q E hr h => ⟨_, (Evl.pss_cut (ps_par (i := 2) (j := 3) rfl sc_reached.nd rfl rfl (by decide) rfl rfl (pa_cons (pe_dispN (units65 hr) (pv 0) pe_int) (pa_cons (pe_lst (pa_cons (pv 0) pa_nil)) pa_nil)) rfl)
      (Evl.pss_cut (ps_while PassesOwn.never (PW.pt (pw_and (pt_cmpR (k_neD (K := K) rfl hr.units) (pv 3) (pe_lst pa_nil) (nomark _)) (pw_and1 (pt_cmpR op_le (pe_callB cr_lenN rfl B.len PySem.boot_len (pa_cons (pv 2) pa_nil)) (pv 1) (nomark _)))))
      (Evl.pss_cut (ps_set (i := 4) sc_reached.nd rfl (by first | exact Or.inl rfl | exact Or.inr rfl) (pe_lst pa_nil))
      (Evl.pss_cut (ps_for PassesOwn.never rfl (k_seq (K := K) rfl (pv 3)) (pg_name (i := 5) sc_reached.nd rfl (by first | exact Or.inl rfl | exact Or.inr rfl))
      (pss_one (ps_for PassesOwn.never rfl (k_seq (K := K) rfl (pe_call G_swaps (hr.mono (by decide)) rfl m_swaps k_swaps b_swaps .nil pass0 (pa_cons (pv 5) pa_nil))) (pg_name (i := 6) sc_reached.nd rfl (by first | exact Or.inl rfl | exact Or.inr rfl))
      (Evl.pss_cut (ps_set (i := 7) sc_reached.nd rfl (by first | exact Or.inl rfl | exact Or.inr rfl) (pe_call G_turned (hr.mono (by decide)) rfl m_turned k_turned b_turned .nil pass0 (pa_cons (pv 5) (pa_cons (pv 6) pa_nil))))
      (pss_one (ps_if (pt_cmp (pc_dninX (units65 hr) (pv 7) (pv 2))) (Evl.pss_cut (ps_dputN (units65 hr) (pv 2) (pv 7) (pe_op op_add (pe_dgetN (units65 hr) (pv 2) (pv 5) (fun _ _ => rfl)) pe_int) rfl)
      (pss_one (ps_expr (k_bm (K := K) rfl PySem.F.plainAttrs_list PySem.F.slot_list_append PySem.F.type_list_append mt_append (pv 4) (pa_cons (pv 7) pa_nil))))) pss_nil))))))
      (pss_one (ps_set (i := 3) sc_reached.nd rfl (by first | exact Or.inl rfl | exact Or.inr rfl) (pv 4))))))
      (pss_one (ps_ret (pe_ifExp (pt_cmpR op_le (pe_callB cr_lenN rfl B.len PySem.boot_len (pa_cons (pv 2) pa_nil)) (pv 1) (nomark _)) (pv 2) pe_non))))), ?_⟩)
  exact finA (N := N_reached) (by unfold f_reached s_reached_2 s_reached_1 s_reached_0; exact (OkS.cut (OkS.par (fun z => z.elim0) (OkW.dispN (OkE.var 0) (OkE.con fun _ => .int _)) (OkE.w (OkE.lst (OkA.cons (OkE.var 0) OkA.nil))))
      (OkS.cut (OkS.while 3000 (OkT.and (OkT.test (OkE.op ok_neD (OkE.var 3) (OkE.lst OkA.nil))) (OkT.test (OkE.op ok_le (OkE.lenNd (i := 2)) (OkE.var 1)))) (OkS.cut (OkS.set (fun z => z.elim0) (OkW.lst OkA.nil))
      (OkS.cut (OkS.for (OkI.seq (OkE.var 3)) (OkG.name 5) (fun z => z.elim0) (OkS.for (OkI.seq (OkW.e (OkW.call (OkA.cons (OkE.var 5) OkA.nil)))) (OkG.name 6) (fun z => z.elim0) (OkS.cut (OkS.set (fun z => z.elim0) (OkE.w (OkW.e (OkW.call (OkA.cons (OkE.var 5) (OkA.cons (OkE.var 6) OkA.nil))))))
      (OkS.ife (OkT.dinX (n := true) (i := 2) (OkE.var 7)) (OkS.cut (OkS.dputN (OkE.var 7) (OkE.op ok_add (OkE.dgX (i := 2) (OkE.var 5)) (OkE.con fun _ => .int _)))
      (OkS.expr (OkE.mth ok_app (OkA.cons (OkE.var 7) OkA.nil)))) OkS.nil))))
      (OkS.frz 4 (OkS.set (fun z => z.elim0) (OkE.w (OkE.var 4)))))))
      (OkS.retIf (OkT.test (OkE.op ok_le (OkE.lenNd (i := 2)) (OkE.var 1))) (OkS.moveN 2) (OkS.ret (OkE.w (OkE.con fun _ => .non))))))) h
end
def s_every_0 : M Fl :=
    (setS 1 (pl (lstD (acons (tupD anil) anil))))
def b_every_1 : M Fl :=
    (thenS (setS 3 (lstW anil))
    (thenS (forS (seqI (get 1)) (gN 4) (exprS (extW 3 (lcW (seqI (get 0)) (gN 5) (tb1 (op2 (inF true) (get 5) (get 4))) (op2 catT (get 4) (tupD (acons (get 5) anil))) [5]))))
    (M.bind (frzM 3) fun _ => (setS 1 (pl (get 3))))))
def s_every_1 : M Fl :=
    (forS (seqI (get 0)) (gN 2) b_every_1)
def s_every_2 : M Fl :=
    (retS (pl (get 1)))
def f_every : M Fl :=
    (thenS s_every_0 (thenS s_every_1 s_every_2))
def F_every : List PyData → Option Wv := runA 1 6 f_every
section
variable {P : Program} {w : World} {K : PySem.W.Frag} {mg : Str → Option Value} {base : Heap} {f : Addr} {fd : FuncData}
theorem dk_every (F : Fun K "_law_every" "_law_every" S_every f fd)  (B : Blt mg) : FnOk P w K mg base CX0 1 f fd P_every (spA K F_every) := by
  refine F.ok sc_every (fun vs H Q E h => lenA h) (fun cdv A outer s H vs Q E hr h => ⟨_, (Evl.pss_cut (ps_set (i := 1) sc_every.nd rfl (by first | exact Or.inl rfl | exact Or.inr rfl) (pe_lst (pa_cons (pe_tupB pa_nil) pa_nil)))
      (Evl.pss_cut (ps_for PassesOwn.never rfl (k_seq (K := K) rfl (pv 0)) (pg_name (i := 2) sc_every.nd rfl (by first | exact Or.inl rfl | exact Or.inr rfl))
      (Evl.pss_cut (ps_set (i := 3) sc_every.nd rfl (by first | exact Or.inl rfl | exact Or.inr rfl) (pe_lst pa_nil))
      (Evl.pss_cut (ps_for PassesOwn.never rfl (k_seq (K := K) rfl (pv 1)) (pg_name (i := 4) sc_every.nd rfl (by first | exact Or.inl rfl | exact Or.inr rfl))
      (pss_one (ps_expr (k_bm (K := K) rfl PySem.F.plainAttrs_list PySem.F.slot_list_extend PySem.F.type_list_extend mt_extend (pv 3) (pa_cons (pe_lc (own := [("_law_soul", 5)]) (g := (gName 5)) rfl sc_every.nd (k_seq (K := K) rfl (pv 0)) (blkOk_by (own := [("_law_soul", 5)]) (N := ["_law_souls_here", "_law_found", "_law_turn", "_law_longer", "_law_some", "_law_soul"]) (sc := defScope S_every) (by decide +kernel)) (fun _ _ _ _ _ => by exact (pg_name (i := 5) sc_every.nd rfl (by first | exact Or.inl rfl | exact Or.inr rfl))) (fun _ _ _ _ _ => (pts_one (pt_cmpR (k_notin (K := K) rfl) (pv 5) (pv 4) (by rfl)))) (fun _ _ _ _ _ => (pe_op (k_catW (K := K) rfl) (pv 4) (pe_tupB (pa_cons (pv 5) pa_nil))))) pa_nil)))))
      (pss_one (ps_set (i := 1) sc_every.nd rfl (by first | exact Or.inl rfl | exact Or.inr rfl) (pv 3))))))
      (pss_one (ps_ret (pv 1))))), ?_⟩)
  exact finA (N := N_every) (by unfold f_every s_every_2 s_every_1 b_every_1 s_every_0; exact (OkS.cut (OkS.set (fun z => z.elim0) (OkE.w (OkE.lst (OkA.cons (OkE.tup OkA.nil) OkA.nil))))
      (OkS.cut (OkS.for (OkI.seq (OkE.var 0)) (OkG.name 2) (fun z => z.elim0) (OkS.cut (OkS.set (fun z => z.elim0) (OkW.lst OkA.nil))
      (OkS.cut (OkS.for (OkI.seq (OkE.var 1)) (OkG.name 4) (fun z => z.elim0) (OkS.expr (OkE.extW (i := 3) (OkW.lc (vs := [5]) (OkI.seq (OkE.var 0)) (OkG.name 5) (by decide) (OkT.test (OkE.op ok_inF (OkE.var 5) (OkE.var 4))) (OkE.op ok_catT (OkE.var 4) (OkE.tup (OkA.cons (OkE.var 5) OkA.nil)))))))
      (OkS.frz 3 (OkS.set (fun z => z.elim0) (OkE.w (OkE.var 3)))))))
      (OkS.ret (OkE.w (OkE.var 1)))))) h
end
def s_right_0 : M Fl :=
    (setS 1 (pl (fz (callB 0 F_souls (acons (fz (callB 0 (F_take 2) (acons (con (.int 6)) anil))) anil)))))
def s_right_1 : M Fl :=
    (parS 2 3 (pl (fz (callA F_every (acons (get 1) anil)))) dnewY)
def b_right_2 : M Fl :=
    (thenS (setS 5 (pl (fz (callA F_runs (acons (get 4) anil)))))
    (dputY 3 (get 5) (op2 catD (dget2Y 3 (get 5) (lstD anil)) (lstD (acons (get 4) anil)))))
def s_right_2 : M Fl :=
    (forS (seqI (get 2)) (gN 4) b_right_2)
def b_right_3 : M Fl :=
    (thenS (setS 7 (pl (sortKW (callA F_reached (acons (op2 ixD (get 6) (con (.int 0))) (acons (con (.int 120)) anil))))))
    (thenS (ifS (orT (tb1 (op2 (eqvD true) (cb sortTD (acons (get 6) anil)) (get 7))) (tb1 (op2 (eqA true) (fz (callA F_count_rows (acons (op2 ixD (get 6) (op1 negD (con (.int 1)))) anil))) (cb lenD (acons (get 7) anil))))) (retS (pl (con (.bool false)))) nxt)
    (thenS (parS 8 9 (pl (op2 ixD (get 6) (con (.int 0)))) (pl (fz (callB 0 F_of (acons (get 6) anil)))))
    (ifS (orT (tb1 (isNE true (fz (callA F_bar (acons (get 8) (acons (get 9) anil)))))) (notT (tb1 (fz (callA F_leads (acons (get 9) (acons (get 8) anil))))))) (retS (pl (con (.bool false)))) nxt))))
def s_right_3 : M Fl :=
    (preY 3 (forS (valsY 3) (gN 6) b_right_3))
def b_right_4 : M Fl :=
    (thenS (parS 4 11 (pl (fz (callB 0 F_of (acons (get 2) anil)))) (pl (fz (callB 0 F_of (acons (get 2) anil)))))
    (thenS (setS 12 (pl (op2 (eqvD false) (fz (callA F_runs (acons (get 4) anil))) (fz (callA F_runs (acons (get 11) anil))))))
    (ifS (orT (tb1 (op2 (eqA true) (fz (callA F_leads (acons (get 4) (acons (get 11) anil)))) (get 12))) (tb1 (op2 (eqA true) (isNE false (fz (callA F_bar (acons (get 4) (acons (get 11) anil))))) (get 12)))) (retS (pl (con (.bool false)))) nxt)))
def s_right_4 : M Fl :=
    (forS (argI rngD (acons (con (.int 6)) anil)) (gN 10) b_right_4)
def s_right_5 : M Fl :=
    (preY 3 (retS (pl (op2 (eqA false) (cb sumD (acons (fz (lcW (valsY 3) (gN 6) yesT (fz (callA F_count_rows (acons (op2 ixD (get 6) (con (.int 0))) anil))) [6])) anil)) (cb lenD (acons (get 2) anil))))))
def f_right : M Fl :=
    (thenS s_right_0 (thenS s_right_1 (thenS s_right_2 (thenS s_right_3 (thenS s_right_4 s_right_5)))))
def F_right : List PyData → List PyData → Option (Wv × List PyData) := runB 1 13 f_right
section
variable {P : Program} {w : World} {K : PySem.W.Frag} {mg : Str → Option Value} {base : Heap} {f : Addr} {fd : FuncData}
theorem dk_right (F : Fun K "_law_right" "_law_right" S_right f fd) {g_souls : Addr} {d_souls : FuncData} (G_souls : FnOk P w K mg base CX0 4 g_souls d_souls P_souls (spB K F_souls)) (b_souls : Binds K d_souls P_souls []) (k_souls : PySem.W.keepIn K (.ref g_souls) = true) (m_souls : mg "_law_souls" = some (.ref g_souls)) {g_take : Addr} {d_take : FuncData} (G_take : FnOk P w K mg base CX0 2 g_take d_take P_take (spB K (F_take 2))) (b_take : Binds K d_take P_take []) (k_take : PySem.W.keepIn K (.ref g_take) = true) (m_take : mg "_law_take" = some (.ref g_take)) {g_every : Addr} {d_every : FuncData} (G_every : FnOk P w K mg base CX0 1 g_every d_every P_every (spA K F_every)) (b_every : Binds K d_every P_every []) (k_every : PySem.W.keepIn K (.ref g_every) = true) (m_every : mg "_law_every" = some (.ref g_every)) {g_runs : Addr} {d_runs : FuncData} (G_runs : FnOk P w K mg base CX0 4 g_runs d_runs P_runs (spA K F_runs)) (b_runs : Binds K d_runs P_runs []) (k_runs : PySem.W.keepIn K (.ref g_runs) = true) (m_runs : mg "runs" = some (.ref g_runs)) {g_reached : Addr} {d_reached : FuncData} (G_reached : FnOk P w K mg base CX0 3 g_reached d_reached P_reached (spA K F_reached)) (b_reached : Binds K d_reached P_reached []) (k_reached : PySem.W.keepIn K (.ref g_reached) = true) (m_reached : mg "_law_reached" = some (.ref g_reached)) {g_count_rows : Addr} {d_count_rows : FuncData} (G_count_rows : FnOk P w K mg base CX0 5 g_count_rows d_count_rows P_count_rows (spA K F_count_rows)) (b_count_rows : Binds K d_count_rows P_count_rows []) (k_count_rows : PySem.W.keepIn K (.ref g_count_rows) = true) (m_count_rows : mg "count_rows" = some (.ref g_count_rows)) {g_of : Addr} {d_of : FuncData} (G_of : FnOk P w K mg base CX0 3 g_of d_of P_of (spB K F_of)) (b_of : Binds K d_of P_of []) (k_of : PySem.W.keepIn K (.ref g_of) = true) (m_of : mg "_law_of" = some (.ref g_of)) {g_bar : Addr} {d_bar : FuncData} (G_bar : FnOk P w K mg base CX0 5 g_bar d_bar P_bar (spA K F_bar)) (b_bar : Binds K d_bar P_bar []) (k_bar : PySem.W.keepIn K (.ref g_bar) = true) (m_bar : mg "bar" = some (.ref g_bar)) {g_leads : Addr} {d_leads : FuncData} (G_leads : FnOk P w K mg base CX0 6 g_leads d_leads P_leads (spA K F_leads)) (b_leads : Binds K d_leads P_leads []) (k_leads : PySem.W.keepIn K (.ref g_leads) = true) (m_leads : mg "leads" = some (.ref g_leads)) (B : Blt mg) : FnOk P w K mg base CX0 7 f fd P_right (spB K F_right) := by
  refine F.ok sc_right (fun vs H Q E h => lenB h) (fun cdv A outer s H vs Q E hr h => ⟨_, (Evl.pss_cut (ps_set (i := 1) sc_right.nd rfl (by first | exact Or.inl rfl | exact Or.inr rfl) (pe_call G_souls (hr.mono (by decide)) rfl m_souls k_souls b_souls .nil pass0 (pa_cons (pv 0) (pa_cons (pe_call G_take (hr.mono (by decide)) rfl m_take k_take b_take .nil pass0 (pa_cons (pv 0) (pa_cons pe_int pa_nil))) pa_nil))))
      (Evl.pss_cut (ps_par (i := 2) (j := 3) rfl sc_right.nd rfl rfl (by decide) rfl rfl (pa_cons (pe_call G_every (hr.mono (by decide)) rfl m_every k_every b_every .nil pass0 (pa_cons (pv 1) pa_nil)) (pa_cons pe_dnewN pa_nil)) rfl)
      (Evl.pss_cut (ps_for PassesOwn.never rfl (k_seq (K := K) rfl (pv 2)) (pg_name (i := 4) sc_right.nd rfl (by first | exact Or.inl rfl | exact Or.inr rfl))
      (Evl.pss_cut (ps_set (i := 5) sc_right.nd rfl (by first | exact Or.inl rfl | exact Or.inr rfl) (pe_call G_runs (hr.mono (by decide)) rfl m_runs k_runs b_runs .nil pass0 (pa_cons (pv 4) pa_nil)))
      (pss_one (ps_dputX (units65 hr) (pv 3) (pv 5) (pe_op op_catL (pe_dget2X (units65 hr) (pv 3) (pv 5) (pe_lst pa_nil) ⟨rfl, rfl, rfl, rfl⟩) (pe_lst (pa_cons (pv 4) pa_nil))) rfl))))
      (Evl.pss_cut (ps_for PassesOwn.never rfl (pi_valsX (pv 3)) (pg_name (i := 6) sc_right.nd rfl (by first | exact Or.inl rfl | exact Or.inr rfl))
      (Evl.pss_cut (ps_set (i := 7) sc_right.nd rfl (by first | exact Or.inl rfl | exact Or.inr rfl) (pe_callB (k_sortKN (K := K) rfl rfl hr.units) rfl B.sorted (by decide +kernel) (pa_cons (pe_call G_reached (hr.mono (by decide)) rfl m_reached k_reached b_reached .nil pass0 (pa_cons (pe_ix (k_ix (K := K) rfl) (pv 6) pe_int (fun _ _ => rfl)) (pa_cons pe_int pa_nil))) pa_nil)))
      (Evl.pss_cut (ps_if (PW.pt (pw_or (pt_cmpR (k_neD (K := K) rfl hr.units) (pe_callB (k_sortTT (K := K) rfl hr.units) rfl B.sorted (by decide +kernel) (pa_cons (pv 6) pa_nil)) (pv 7) (nomark _)) (pw_or1 (pt_cmpR op_ne (pe_call G_count_rows (hr.mono (by decide)) rfl m_count_rows k_count_rows b_count_rows .nil pass0 (pa_cons (pe_ix (k_ix (K := K) rfl) (pv 6) (pe_un un_neg pe_int) (fun _ _ => rfl)) pa_nil)) (pe_callB (k_len (K := K) rfl) rfl B.len PySem.boot_len (pa_cons (pv 7) pa_nil)) (nomark _))))) (pss_one (ps_ret pe_bl)) pss_nil)
      (Evl.pss_cut (ps_par (i := 8) (j := 9) rfl sc_right.nd rfl rfl (by decide) rfl rfl (pa_cons (pe_ix (k_ix (K := K) rfl) (pv 6) pe_int (fun _ _ => rfl)) (pa_cons (pe_call G_of (hr.mono (by decide)) rfl m_of k_of b_of .nil pass0 (pa_cons (pv 0) (pa_cons (pv 6) pa_nil))) pa_nil)) rfl)
      (pss_one (ps_if (PW.pt (pw_or (pt_cmpR op_notN (pe_call G_bar (hr.mono (by decide)) rfl m_bar k_bar b_bar .nil pass0 (pa_cons (pv 8) (pa_cons (pv 9) pa_nil))) pe_non (nomark _)) (pw_or1 (pt_not (pt_val (pe_call G_leads (hr.mono (by decide)) rfl m_leads k_leads b_leads .nil pass0 (pa_cons (pv 9) (pa_cons (pv 8) pa_nil)))))))) (pss_one (ps_ret pe_bl)) pss_nil))))))
      (Evl.pss_cut (ps_for PassesOwn.never rfl (pi_range1 rfl B.range (pa_cons pe_int pa_nil)) (pg_name (i := 10) sc_right.nd rfl (by first | exact Or.inl rfl | exact Or.inr rfl))
      (Evl.pss_cut (ps_par (i := 4) (j := 11) rfl sc_right.nd rfl rfl (by decide) rfl rfl (pa_cons (pe_call G_of (hr.mono (by decide)) rfl m_of k_of b_of .nil pass0 (pa_cons (pv 0) (pa_cons (pv 2) pa_nil))) (pa_cons (pe_call G_of (hr.mono (by decide)) rfl m_of k_of b_of .nil pass0 (pa_cons (pv 0) (pa_cons (pv 2) pa_nil))) pa_nil)) rfl)
      (Evl.pss_cut (ps_set (i := 12) sc_right.nd rfl (by first | exact Or.inl rfl | exact Or.inr rfl) (pe_cmpR (k_eqD (K := K) rfl hr.units) (pe_call G_runs (hr.mono (by decide)) rfl m_runs k_runs b_runs .nil pass0 (pa_cons (pv 4) pa_nil)) (pe_call G_runs (hr.mono (by decide)) rfl m_runs k_runs b_runs .nil pass0 (pa_cons (pv 11) pa_nil)) (nomark _)))
      (pss_one (ps_if (PW.pt (pw_or (pt_cmpR op_ne (pe_call G_leads (hr.mono (by decide)) rfl m_leads k_leads b_leads .nil pass0 (pa_cons (pv 4) (pa_cons (pv 11) pa_nil))) (pv 12) (nomark _)) (pw_or1 (pt_cmpR op_ne (pe_cmpR op_isN (pe_call G_bar (hr.mono (by decide)) rfl m_bar k_bar b_bar .nil pass0 (pa_cons (pv 4) (pa_cons (pv 11) pa_nil))) pe_non (nomark _)) (pv 12) (nomark _))))) (pss_one (ps_ret pe_bl)) pss_nil)))))
      (pss_one (ps_ret (pe_cmpR op_eq (pe_callB (k_sum (K := K) rfl rfl) rfl B.sum (by decide +kernel) (pa_cons (pe_lc (own := [("_law_some", 6)]) (g := (gName 6)) rfl sc_right.nd (pi_valsX (pv 3)) (blkOk_by (own := [("_law_some", 6)]) (N := ["_law_box_here", "_law_souls_here", "_law_left", "_law_kinds", "_law_crowd", "_law_key", "_law_some", "_law_lot", "_law_first", "_law_last", "_law_turn", "_law_there", "_law_same_so"]) (sc := defScope S_right) (by decide +kernel)) (fun _ _ _ _ _ => by exact (pg_name (i := 6) sc_right.nd rfl (by first | exact Or.inl rfl | exact Or.inr rfl))) (fun _ _ _ _ _ => pts_nil) (fun _ _ _ _ _ => (pe_call G_count_rows (hr.mono (by decide)) rfl m_count_rows k_count_rows b_count_rows .nil pass0 (pa_cons (pe_ix (k_ix (K := K) rfl) (pv 6) pe_int (fun _ _ => rfl)) pa_nil)))) pa_nil)) (pe_callB (k_len (K := K) rfl) rfl B.len PySem.boot_len (pa_cons (pv 2) pa_nil)) (nomark _))))))))), ?_⟩)
  exact finB (N := N_right) (by unfold f_right s_right_5 s_right_4 b_right_4 s_right_3 b_right_3 s_right_2 b_right_2 s_right_1 s_right_0; exact (OkS.cut (OkS.set (by decide) (OkE.w (OkW.e (OkW.callB (OkA.cons (OkW.e (OkW.callB (OkA.cons (OkE.con fun _ => .int _) OkA.nil))) OkA.nil)))))
      (OkS.cut (OkS.par (by decide) (OkE.w (OkW.e (OkW.call (OkA.cons (OkE.var 1) OkA.nil)))) OkW.dnewY)
      (OkS.cut (OkS.for (OkI.seq (OkE.var 2)) (OkG.name 4) (by decide) (OkS.cut (OkS.set (by decide) (OkE.w (OkW.e (OkW.call (OkA.cons (OkE.var 4) OkA.nil)))))
      (OkS.dputY (OkE.var 5) (OkE.op ok_catL (OkE.dget2Y (i := 3) (OkE.var 5) (OkE.lst OkA.nil)) (OkE.lst (OkA.cons (OkE.var 4) OkA.nil))))))
      (OkS.cut (OkS.preY (i := 3) (OkS.for (OkI.valsY (i := 3)) (OkG.name 6) (by decide) (OkS.cut (OkS.set (by decide) (OkE.w (OkE.sortKW (OkW.call (OkA.cons (OkE.op ok_ix (OkE.var 6) (OkE.con fun _ => .int _)) (OkA.cons (OkE.con fun _ => .int _) OkA.nil))))))
      (OkS.cut (OkS.ife (OkT.or (OkT.test (OkE.op ok_neD (OkE.cb ok_sortT (OkA.cons (OkE.var 6) OkA.nil)) (OkE.var 7))) (OkT.test (OkE.op ok_ne (OkW.e (OkW.call (OkA.cons (OkE.op ok_ix (OkE.var 6) (OkE.un ok_neg (OkE.con fun _ => .int _))) OkA.nil))) (OkE.cb ok_len (OkA.cons (OkE.var 7) OkA.nil))))) (OkS.ret (OkE.w (OkE.con fun _ => .bl _))) OkS.nil)
      (OkS.cut (OkS.par (by decide) (OkE.w (OkE.op ok_ix (OkE.var 6) (OkE.con fun _ => .int _))) (OkE.w (OkW.e (OkW.callB (OkA.cons (OkE.var 6) OkA.nil)))))
      (OkS.ife (OkT.or (OkT.test (OkE.notN (OkW.e (OkW.call (OkA.cons (OkE.var 8) (OkA.cons (OkE.var 9) OkA.nil)))))) (OkT.not (OkT.val (OkW.e (OkW.call (OkA.cons (OkE.var 9) (OkA.cons (OkE.var 8) OkA.nil))))))) (OkS.ret (OkE.w (OkE.con fun _ => .bl _))) OkS.nil))))))
      (OkS.cut (OkS.for (OkI.range1 (OkA.cons (OkE.con fun _ => .int _) OkA.nil)) (OkG.name 10) (by decide) (OkS.cut (OkS.par (by decide) (OkE.w (OkW.e (OkW.callB (OkA.cons (OkE.var 2) OkA.nil)))) (OkE.w (OkW.e (OkW.callB (OkA.cons (OkE.var 2) OkA.nil)))))
      (OkS.cut (OkS.set (by decide) (OkE.w (OkE.op ok_eqD (OkW.e (OkW.call (OkA.cons (OkE.var 4) OkA.nil))) (OkW.e (OkW.call (OkA.cons (OkE.var 11) OkA.nil))))))
      (OkS.ife (OkT.or (OkT.test (OkE.op ok_ne (OkW.e (OkW.call (OkA.cons (OkE.var 4) (OkA.cons (OkE.var 11) OkA.nil)))) (OkE.var 12))) (OkT.test (OkE.op ok_ne (OkE.isN (OkW.e (OkW.call (OkA.cons (OkE.var 4) (OkA.cons (OkE.var 11) OkA.nil))))) (OkE.var 12)))) (OkS.ret (OkE.w (OkE.con fun _ => .bl _))) OkS.nil))))
      (OkS.preY (i := 3) (OkS.ret (OkE.w (OkE.op ok_eq (OkE.cb ok_sum (OkA.cons (OkW.e (OkW.lc (vs := [6]) (OkI.valsY (i := 3)) (OkG.name 6) (by decide) OkT.yes (OkW.e (OkW.call (OkA.cons (OkE.op ok_ix (OkE.var 6) (OkE.con fun _ => .int _)) OkA.nil))))) OkA.nil)) (OkE.cb ok_len (OkA.cons (OkE.var 2) OkA.nil)))))))))))) h
end
def b_law_0 : M Fl :=
    (thenS (setS 2 (callA F_box (acons (get 0) (acons (get 1) anil))))
    (ifS (notT (tb1 (cb allD (acons (fz (lcW (argI rngD (acons (con (.int 1)) anil)) (gN 3) yesT (fz (callB 2 F_right anil)) [3])) anil)))) (retS (pl (con (.bool false)))) nxt))
def s_law_0 : M Fl :=
    (forS (argI rngD (acons (con (.int 2)) anil)) (gN 1) b_law_0)
def s_law_1 : M Fl :=
    (retS (pl (con (.bool true))))
def f_law : M Fl :=
    (thenS s_law_0 s_law_1)
def F_law : List PyData → Option Wv := runA 1 4 f_law
section
variable {P : Program} {w : World} {K : PySem.W.Frag} {mg : Str → Option Value} {base : Heap} {f : Addr} {fd : FuncData}
theorem dk_law (F : Fun K "law" "law" S_law f fd) {g_box : Addr} {d_box : FuncData} (G_box : FnOk P w K mg base CX0 2 g_box d_box P_box (spA K F_box)) (b_box : Binds K d_box P_box []) (k_box : PySem.W.keepIn K (.ref g_box) = true) (m_box : mg "_law_box" = some (.ref g_box)) {g_right : Addr} {d_right : FuncData} (G_right : FnOk P w K mg base CX0 7 g_right d_right P_right (spB K F_right)) (b_right : Binds K d_right P_right []) (k_right : PySem.W.keepIn K (.ref g_right) = true) (m_right : mg "_law_right" = some (.ref g_right)) (B : Blt mg) : FnG P w K mg base 8 f fd P_law (spA K F_law) := by
  refine Ov.Fun.okG F sc_law (fun vs H Q E h => lenA h) (fun cdv A outer s H vs Q E hG hr h => ⟨_, (Evl.pss_cut (ps_for PassesOwn.never rfl (pi_range1 rfl B.range (pa_cons pe_int pa_nil)) (pg_name (i := 1) sc_law.nd rfl (by first | exact Or.inl rfl | exact Or.inr rfl))
      (Evl.pss_cut (ps_set (i := 2) sc_law.nd rfl (by first | exact Or.inl rfl | exact Or.inr rfl) (pe_call G_box (hr.mono (by decide)) rfl m_box k_box b_box .nil pass0 (pa_cons (pv 0) (pa_cons (pv 1) pa_nil))))
      (pss_one (ps_if (pt_not (pt_val (pe_callB (k_all (K := K) rfl rfl) rfl B.all (by decide +kernel) (pa_cons (pe_lc (own := [("_law_turn", 3)]) (g := (gName 3)) rfl sc_law.nd (pi_range1 rfl B.range (pa_cons pe_int pa_nil)) (blkOk_by (own := [("_law_turn", 3)]) (N := ["_law_script", "_law_k", "_law_box_here", "_law_turn"]) (sc := defScope S_law) (by decide +kernel)) (fun _ _ _ _ _ => by exact (pg_name (i := 3) sc_law.nd rfl (by first | exact Or.inl rfl | exact Or.inr rfl))) (fun _ _ _ _ _ => pts_nil) (fun _ _ _ _ _ => (pe_call G_right (hr.mono (by decide)) rfl m_right k_right b_right .nil pass0 (pa_cons (pv 2) pa_nil)))) pa_nil)))) (pss_one (ps_ret pe_bl)) pss_nil))))
      (pss_one (ps_ret pe_bl))), ?_⟩)
  exact finA (N := N_law) (by unfold f_law s_law_1 s_law_0 b_law_0; exact (OkS.cut (OkS.for (OkI.range1 (OkA.cons (OkE.con fun _ => .int _) OkA.nil)) (OkG.name 1) (fun z => z.elim0) (OkS.cut (OkS.set (fun z => z.elim0) (OkW.call (OkA.cons (OkE.var 0) (OkA.cons (OkE.var 1) OkA.nil))))
      (OkS.ife (OkT.not (OkT.val (OkE.cb ok_all (OkA.cons (OkW.e (OkW.lc (vs := [3]) (OkI.range1 (OkA.cons (OkE.con fun _ => .int _) OkA.nil)) (OkG.name 3) (by decide) OkT.yes (OkW.e (OkW.callB OkA.nil)))) OkA.nil)))) (OkS.ret (OkE.w (OkE.con fun _ => .bl _))) OkS.nil)))
      (OkS.ret (OkE.w (OkE.con fun _ => .bl _))))) h
end
end Ov
set_option Elab.async false
set_option linter.all false
set_option maxRecDepth 100000
set_option maxHeartbeats 4000000
namespace Ov
open PySem L2
def Bok (n : Int) (bs : List PyData) : Prop := ∃ b0 b1 b2 : Int, bs = [.int b0, .int b1, .int b2] ∧ 0 ≤ b0 ∧ 0 ≤ b1 ∧ b1 < 2 ^ 62 ∧ 0 ≤ b2 ∧ b2 ≤ n
theorem Bok.mono {n m : Int} {bs : List PyData} (h : Bok n bs) (e : n ≤ m) : Bok m bs := by
  obtain ⟨b0, b1, b2, rfl, p0, p1, p1', p2, p2'⟩ := h
  exact ⟨_, _, _, rfl, p0, p1, p1', p2, by omega⟩
theorem pMod_ok {i j : Int} (h : 0 < j) : pMod i j = true := decide_eq_true h
theorem pDiv_ok {i j : Int} (h : 0 < j) (h2 : j < 1073741824) : pDiv i j = true := decide_eq_true ⟨h, h2⟩
theorem pMul_r {i j : Int} (h : -(2 ^ 64) < j) (h2 : j < 2 ^ 64) : pMul i j = true := by
  unfold pMul
  rw [decide_eq_true (p := -(2 ^ 64) < j ∧ j < 2 ^ 64) ⟨h, h2⟩, Bool.or_true]
def tkV (b1 b2 below : Int) : Int := ((((((b1 + 48271 * (b2 + 1)) * (39373 + (b2 + 1))) % 2147483647 + (b2 + 1) + b1 / 1000003) * ((((b1 + 48271 * (b2 + 1)) * (39373 + (b2 + 1))) % 2147483647) % 40009 + 7)) % 2147483629 * 48271 + ((b1 + 48271 * (b2 + 1)) * (39373 + (b2 + 1))) % 2147483647) % 2147483587 / 64) % below
theorem take_small {n : Int} {bs : List PyData} {k : Nat} (h : Bok n bs) (hn : n ≤ 10 ^ 12) {below : Int} (h1 : 1 ≤ below) (h2 : below ≤ 10 ^ 7) : ∃ r bs', F_take (k + 1) bs [.int below] = some (.dat (.int r), bs') ∧ 0 ≤ r ∧ r < below ∧ Bok (n + 1) bs' := by
  obtain ⟨b0, b1, b2, rfl, p0, p1, p1', p2, p2'⟩ := h
  by_cases c0 : 0 < b0
  · refine ⟨b0 % below, [.int (b0 / below), .int b1, .int b2], runB_eq rfl ?_, Int.emod_nonneg _ (by omega), Int.emod_lt_of_pos _ (by omega), _, _, _, rfl, Int.ediv_nonneg p0 (by omega), p1, p1', p2, by omega⟩
    unfold f_take
    simp [env0, v_bind, v_ok, v_none, v_pure, v_lift, v_liftN, v_con, v_get, v_gkd, v_gko, v_gkc, v_vwd, v_vws, v_ok1, v_ownD, v_dctD, v_dk1, v_setOwn, v_putM, v_op2, v_op1, v_anil, v_acons, v_vws0, v_vwsC, v_cb, v_tupD, v_lstD, v_lstW, v_listW, v_dds0, v_ddsC, v_asB, v_tb1, v_andT, v_orT, v_notT, v_andV, v_orV, v_notV, v_ofB, v_ifE, v_pl, v_toW, v_fz, v_ofWd, v_ofWo, v_nxt, v_thenS, v_exprS, v_retS, v_retN, v_ifS, v_setS, v_parS, v_setIx, v_asD, v_asI, v_mthE, v_callA, v_callB, v_forS, v_argI, v_seqI, v_slD, v_poN, v_poS, v_isiE, v_isiE2, v_isNE, v_dnew, v_dinT, v_dputS, v_sortDct, v_rgE, v_rg2, v_unS, v_catW, v_chainE, v_add, v_sub, v_lt, v_le, v_gt, v_ge, v_eqI, v_eqB, v_eqS, v_ixL, v_ixT, v_lenL, v_lenT, v_abs, v_intI, v_intB, v_min, v_max, v_chk, c0, atI, ixN, v_mod, v_div, pMod_ok (show 0 < below by omega), pDiv_ok (show 0 < below by omega) (show below < 1073741824 by omega)]
  · have z : b0 = 0 := by omega
    have c1 : ¬ (10 : Int) ^ 7 < below := by omega
    have hp : pPow 10 7 = true := by decide
    refine ⟨tkV b1 b2 below, [.int 0, .int b1, .int (b2 + 1)], runB_eq rfl ?_, ?_, ?_, _, _, _, rfl, Int.le_refl _, p1, p1', by omega, by omega⟩
    · unfold f_take
      have q1 : pMul 48271 (b2 + 1) = true := by unfold pMul; simp
      have q2 : pMul (b1 + 48271 * (b2 + 1)) (39373 + (b2 + 1)) = true := pMul_r (by omega) (by omega)
      have q3 : ∀ x y : Int, pMul x (y % 40009 + 7) = true := fun x y => pMul_r (by omega) (by omega)
      have q4 : ∀ x : Int, pMul x 48271 = true := fun x => pMul_r (by decide) (by decide)
      have m1 : ∀ x : Int, pMod x 2147483647 = true := fun x => pMod_ok (by decide)
      have m2 : ∀ x : Int, pMod x 2147483629 = true := fun x => pMod_ok (by decide)
      have m3 : ∀ x : Int, pMod x 2147483587 = true := fun x => pMod_ok (by decide)
      have m4 : ∀ x : Int, pMod x 40009 = true := fun x => pMod_ok (by decide)
      have m5 : ∀ x : Int, pMod x below = true := fun x => pMod_ok (by omega)
      have d1 : ∀ x : Int, pDiv x 1000003 = true := fun x => pDiv_ok (by decide) (by decide)
      have d2 : ∀ x : Int, pDiv x 64 = true := fun x => pDiv_ok (by decide) (by decide)
      have c1' : ¬ (10000000 : Int) < below := by omega
      unfold tkV
      simp [env0, v_bind, v_ok, v_none, v_pure, v_lift, v_liftN, v_con, v_get, v_gkd, v_gko, v_gkc, v_vwd, v_vws, v_ok1, v_ownD, v_dctD, v_dk1, v_setOwn, v_putM, v_op2, v_op1, v_anil, v_acons, v_vws0, v_vwsC, v_cb, v_tupD, v_lstD, v_lstW, v_listW, v_dds0, v_ddsC, v_asB, v_tb1, v_andT, v_orT, v_notT, v_andV, v_orV, v_notV, v_ofB, v_ifE, v_pl, v_toW, v_fz, v_ofWd, v_ofWo, v_nxt, v_thenS, v_exprS, v_retS, v_retN, v_ifS, v_setS, v_parS, v_setIx, v_asD, v_asI, v_mthE, v_callA, v_callB, v_forS, v_argI, v_seqI, v_slD, v_poN, v_poS, v_isiE, v_isiE2, v_isNE, v_dnew, v_dinT, v_dputS, v_sortDct, v_rgE, v_rg2, v_unS, v_catW, v_chainE, v_add, v_sub, v_lt, v_le, v_gt, v_ge, v_eqI, v_eqB, v_eqS, v_ixL, v_ixT, v_lenL, v_lenT, v_abs, v_intI, v_intB, v_min, v_max, v_chk, z, c1, c1', atI, ixN, v_mod, v_div, v_mul, v_pow, hp, q1, q2, q3, q4, m1, m2, m3, m4, m5, d1, d2]
    · exact Int.emod_nonneg _ (by omega)
    · exact Int.emod_lt_of_pos _ (by omega)
theorem take_any {n : Int} {bs : List PyData} {k : Nat} (h : Bok n bs) (hn : n ≤ 10 ^ 11) {below : Int} (h1 : 1 ≤ below) (h2 : below < 1073741824) : ∃ r bs', F_take (k + 2) bs [.int below] = some (.dat (.int r), bs') ∧ 0 ≤ r ∧ r < below ∧ Bok (n + 2) bs' := by
  by_cases c : below ≤ 10 ^ 7
  · obtain ⟨r, bs', e, a, b, w⟩ := take_small (k := k + 1) h (by omega) h1 c
    exact ⟨r, bs', e, a, b, w.mono (by omega)⟩
  · by_cases c0 : ∃ b0 r, bs = .int b0 :: r ∧ 0 < b0
    · obtain ⟨b0, b1, b2, rfl, p0, p1, p1', p2, p2'⟩ := h
      obtain ⟨_, _, e, c0⟩ := c0
      cases e
      refine ⟨b0 % below, [.int (b0 / below), .int b1, .int b2], runB_eq rfl ?_, Int.emod_nonneg _ (by omega), Int.emod_lt_of_pos _ (by omega), _, _, _, rfl, Int.ediv_nonneg p0 (by omega), p1, p1', p2, by omega⟩
      unfold f_take
      simp [env0, v_bind, v_ok, v_none, v_pure, v_lift, v_liftN, v_con, v_get, v_gkd, v_gko, v_gkc, v_vwd, v_vws, v_ok1, v_ownD, v_dctD, v_dk1, v_setOwn, v_putM, v_op2, v_op1, v_anil, v_acons, v_vws0, v_vwsC, v_cb, v_tupD, v_lstD, v_lstW, v_listW, v_dds0, v_ddsC, v_asB, v_tb1, v_andT, v_orT, v_notT, v_andV, v_orV, v_notV, v_ofB, v_ifE, v_pl, v_toW, v_fz, v_ofWd, v_ofWo, v_nxt, v_thenS, v_exprS, v_retS, v_retN, v_ifS, v_setS, v_parS, v_setIx, v_asD, v_asI, v_mthE, v_callA, v_callB, v_forS, v_argI, v_seqI, v_slD, v_poN, v_poS, v_isiE, v_isiE2, v_isNE, v_dnew, v_dinT, v_dputS, v_sortDct, v_rgE, v_rg2, v_unS, v_catW, v_chainE, v_add, v_sub, v_lt, v_le, v_gt, v_ge, v_eqI, v_eqB, v_eqS, v_ixL, v_ixT, v_lenL, v_lenT, v_abs, v_intI, v_intB, v_min, v_max, v_chk, c0, atI, ixN, v_mod, v_div, pMod_ok (show 0 < below by omega), pDiv_ok (show 0 < below by omega) (show below < 1073741824 by omega)]
    · have h' := h
      obtain ⟨b0, b1, b2, rfl, p0, p1, p1', p2, p2'⟩ := h
      have z : ¬ 0 < b0 := fun z => c0 ⟨b0, _, rfl, z⟩
      obtain ⟨r1, bs1, e1, a1, w1, k1⟩ := take_small (k := k) h' (by omega) (below := 10 ^ 7) (by decide) (Int.le_refl _)
      obtain ⟨r2, bs2, e2, a2, w2, k2⟩ := take_small (k := k) k1 (by omega) (below := below / 10 ^ 7 + 1) (by omega) (by omega)
      refine ⟨(r1 + 10 ^ 7 * r2) % below, bs2, runB_eq rfl ?_, Int.emod_nonneg _ (by omega), Int.emod_lt_of_pos _ (by omega), k2.mono (by omega)⟩
      unfold f_take
      have hp : pPow 10 7 = true := by decide
      have c1 : (10000000 : Int) < below := by omega
      have e1' : F_take (k + 1) [.int b0, .int b1, .int b2] [.int 10000000] = some (.dat (.int r1), bs1) := e1
      have e2' : F_take (k + 1) bs1 [.int (below / 10000000 + 1)] = some (.dat (.int r2), bs2) := e2
      have m5 : ∀ x : Int, pMod x below = true := fun x => pMod_ok (by omega)
      have d1 : ∀ x : Int, pDiv x 10000000 = true := fun x => pDiv_ok (by decide) (by decide)
      have q1 : ∀ x : Int, pMul 10000000 x = true := fun x => by unfold pMul; simp
      simp [env0, v_bind, v_ok, v_none, v_pure, v_lift, v_liftN, v_con, v_get, v_gkd, v_gko, v_gkc, v_vwd, v_vws, v_ok1, v_ownD, v_dctD, v_dk1, v_setOwn, v_putM, v_op2, v_op1, v_anil, v_acons, v_vws0, v_vwsC, v_cb, v_tupD, v_lstD, v_lstW, v_listW, v_dds0, v_ddsC, v_asB, v_tb1, v_andT, v_orT, v_notT, v_andV, v_orV, v_notV, v_ofB, v_ifE, v_pl, v_toW, v_fz, v_ofWd, v_ofWo, v_nxt, v_thenS, v_exprS, v_retS, v_retN, v_ifS, v_setS, v_parS, v_setIx, v_asD, v_asI, v_mthE, v_callA, v_callB, v_forS, v_argI, v_seqI, v_slD, v_poN, v_poS, v_isiE, v_isiE2, v_isNE, v_dnew, v_dinT, v_dputS, v_sortDct, v_rgE, v_rg2, v_unS, v_catW, v_chainE, v_add, v_sub, v_lt, v_le, v_gt, v_ge, v_eqI, v_eqB, v_eqS, v_ixL, v_ixT, v_lenL, v_lenT, v_abs, v_intI, v_intB, v_min, v_max, v_chk, z, c1, atI, ixN, v_mod, v_div, v_mul, v_pow, hp, e1', e2', m5, d1, q1]
theorem of_ok {n : Int} {bs : List PyData} (h : Bok n bs) (hn : n ≤ 10 ^ 11) {ds : List PyData} (h1 : 1 ≤ ds.length) (h2 : ds.length ≤ 1000) : ∃ d bs', F_of bs [.list ds] = some (.dat d, bs') ∧ d ∈ ds ∧ Bok (n + 1) bs' := by
  obtain ⟨r, bs1, e1, a1, w1, k1⟩ := take_small (k := 1) h (by omega) (below := (ds.length : Int)) (by omega) (by omega)
  have hr : r.toNat < ds.length := by omega
  refine ⟨ds[r.toNat], bs1, runB_eq rfl ?_, List.getElem_mem hr, k1⟩
  unfold f_of
  have ea : atI ds r = some ds[r.toNat] := by
    unfold atI ixN
    rw [if_pos a1, if_pos w1]
    exact List.getElem?_eq_getElem hr
  simp [env0, v_bind, v_ok, v_none, v_pure, v_lift, v_liftN, v_con, v_get, v_gkd, v_gko, v_gkc, v_vwd, v_vws, v_ok1, v_ownD, v_dctD, v_dk1, v_setOwn, v_putM, v_op2, v_op1, v_anil, v_acons, v_vws0, v_vwsC, v_cb, v_tupD, v_lstD, v_lstW, v_listW, v_dds0, v_ddsC, v_asB, v_tb1, v_andT, v_orT, v_notT, v_andV, v_orV, v_notV, v_ofB, v_ifE, v_pl, v_toW, v_fz, v_ofWd, v_ofWo, v_nxt, v_thenS, v_exprS, v_retS, v_retN, v_ifS, v_setS, v_parS, v_setIx, v_asD, v_asI, v_mthE, v_callA, v_callB, v_forS, v_argI, v_seqI, v_slD, v_poN, v_poS, v_isiE, v_isiE2, v_isNE, v_dnew, v_dinT, v_dputS, v_sortDct, v_rgE, v_rg2, v_unS, v_catW, v_chainE, v_add, v_sub, v_lt, v_le, v_gt, v_ge, v_eqI, v_eqB, v_eqS, v_ixL, v_ixT, v_lenL, v_lenT, v_abs, v_intI, v_intB, v_min, v_max, v_chk, e1, ea]
theorem cell_ok {ns : List Int} {k : Int} (hk : 0 ≤ k) : ∃ c, F_cell_at [.list (ns.map .int), .int k] = some (.dat (.int c)) := by
  by_cases c : k < ns.length
  · have hr : k.toNat < ns.length := by omega
    refine ⟨ns[k.toNat], runA_eq rfl ?_⟩
    unfold f_cell_at s_cell_at_0 s_cell_at_1
    have ea : atI (ns.map PyData.int) k = some (.int ns[k.toNat]) := by
      unfold atI ixN
      rw [if_pos hk, List.length_map, if_pos c]
      simp [hr]
    simp [env0, v_bind, v_ok, v_none, v_pure, v_lift, v_liftN, v_con, v_get, v_gkd, v_gko, v_gkc, v_vwd, v_vws, v_ok1, v_ownD, v_dctD, v_dk1, v_setOwn, v_putM, v_op2, v_op1, v_anil, v_acons, v_vws0, v_vwsC, v_cb, v_tupD, v_lstD, v_lstW, v_listW, v_dds0, v_ddsC, v_asB, v_tb1, v_andT, v_orT, v_notT, v_andV, v_orV, v_notV, v_ofB, v_ifE, v_pl, v_toW, v_fz, v_ofWd, v_ofWo, v_nxt, v_thenS, v_exprS, v_retS, v_retN, v_ifS, v_setS, v_parS, v_setIx, v_asD, v_asI, v_mthE, v_callA, v_callB, v_forS, v_argI, v_seqI, v_slD, v_poN, v_poS, v_isiE, v_isiE2, v_isNE, v_dnew, v_dinT, v_dputS, v_sortDct, v_rgE, v_rg2, v_unS, v_catW, v_chainE, v_add, v_sub, v_lt, v_le, v_gt, v_ge, v_eqI, v_eqB, v_eqS, v_ixL, v_ixT, v_lenL, v_lenT, v_abs, v_intI, v_intB, v_min, v_max, v_chk, ea, c]
  · refine ⟨0, runA_eq rfl ?_⟩
    unfold f_cell_at s_cell_at_0 s_cell_at_1
    simp [env0, v_bind, v_ok, v_none, v_pure, v_lift, v_liftN, v_con, v_get, v_gkd, v_gko, v_gkc, v_vwd, v_vws, v_ok1, v_ownD, v_dctD, v_dk1, v_setOwn, v_putM, v_op2, v_op1, v_anil, v_acons, v_vws0, v_vwsC, v_cb, v_tupD, v_lstD, v_lstW, v_listW, v_dds0, v_ddsC, v_asB, v_tb1, v_andT, v_orT, v_notT, v_andV, v_orV, v_notV, v_ofB, v_ifE, v_pl, v_toW, v_fz, v_ofWd, v_ofWo, v_nxt, v_thenS, v_exprS, v_retS, v_retN, v_ifS, v_setS, v_parS, v_setIx, v_asD, v_asI, v_mthE, v_callA, v_callB, v_forS, v_argI, v_seqI, v_slD, v_poN, v_poS, v_isiE, v_isiE2, v_isNE, v_dnew, v_dinT, v_dputS, v_sortDct, v_rgE, v_rg2, v_unS, v_catW, v_chainE, v_add, v_sub, v_lt, v_le, v_gt, v_ge, v_eqI, v_eqB, v_eqS, v_ixL, v_ixT, v_lenL, v_lenT, v_abs, v_intI, v_intB, v_min, v_max, v_chk, c]
theorem box_ok {ns : List Int} {k : Int} (hk : 0 ≤ k) (hk2 : k ≤ 3) : ∃ bs, F_box [.list (ns.map .int), .int k] = some (.own (dats bs)) ∧ Bok 0 bs := by
  obtain ⟨c, hc⟩ := cell_ok (ns := ns) hk
  refine ⟨[.int ((if c < 0 then -c else c) * (if (10 : Int) ^ 18 ≤ (if c < 0 then -c else c) then 1 else 0)), .int (c % 2305843009213693951 + 39373 * k + 29), .int 0], runA_eq rfl ?_, _, _, _, rfl, ?_, ?_, ?_, Int.le_refl _, Int.le_refl _⟩
  · unfold f_box s_box_0 s_box_1
    have q1 : ∀ (x : Int) (b : Prop) [Decidable b], pMul x (if b then 1 else 0) = true := fun x b _ => by
      by_cases z : b
      · rw [if_pos z]; exact pMul_r (by decide) (by decide)
      · rw [if_neg z]; exact pMul_r (by decide) (by decide)
    have q2 : pMul 39373 k = true := pMul_r (by omega) (by omega)
    have hp : pPow 10 18 = true := by decide
    have m1 : ∀ x : Int, pMod x 2305843009213693951 = true := fun x => pMod_ok (by decide)
    simp [env0, v_bind, v_ok, v_none, v_pure, v_lift, v_liftN, v_con, v_get, v_gkd, v_gko, v_gkc, v_vwd, v_vws, v_ok1, v_ownD, v_dctD, v_dk1, v_setOwn, v_putM, v_op2, v_op1, v_anil, v_acons, v_vws0, v_vwsC, v_cb, v_tupD, v_lstD, v_lstW, v_listW, v_dds0, v_ddsC, v_asB, v_tb1, v_andT, v_orT, v_notT, v_andV, v_orV, v_notV, v_ofB, v_ifE, v_pl, v_toW, v_fz, v_ofWd, v_ofWo, v_nxt, v_thenS, v_exprS, v_retS, v_retN, v_ifS, v_setS, v_parS, v_setIx, v_asD, v_asI, v_mthE, v_callA, v_callB, v_forS, v_argI, v_seqI, v_slD, v_poN, v_poS, v_isiE, v_isiE2, v_isNE, v_dnew, v_dinT, v_dputS, v_sortDct, v_rgE, v_rg2, v_unS, v_catW, v_chainE, v_add, v_sub, v_lt, v_le, v_gt, v_ge, v_eqI, v_eqB, v_eqS, v_ixL, v_ixT, v_lenL, v_lenT, v_abs, v_intI, v_intB, v_min, v_max, v_chk, hc, v_mul, q1, q2, v_pow, hp, v_mod, m1, sz]
  · have : (0 : Int) ≤ if c < 0 then -c else c := by split <;> omega
    exact Int.mul_nonneg this (by split <;> omega)
  · omega
  · omega
end Ov
set_option Elab.async false
set_option linter.all false
set_option maxRecDepth 100000
set_option maxHeartbeats 4000000
namespace Ov
open PySem L2
theorem souls_while {w0 w1 : Option Wv} {ks : List Int} {top c M : Int} (hM : M = if c > top then c else top) (h0 : 0 < M) (m : Nat) {k : Nat} {a : Int} {w4 : Option Wv} (h1 : (a + m) % M + 1 ∉ ks) (h2 : ∀ j : Nat, j < m → (a + j) % M + 1 ∈ ks) (hk : m < k) :
    whileM (dinT false 2 (get 5)) (setS 5 (pl (op2 addD (op2 modD (get 5) (cb maxD (acons (get 3) (acons (get 1) anil)))) (con (.int 1))))) k
      [w0, some (.dat (.int c)), some (.dct ks), some (.dat (.int top)), w4, some (.dat (.int (a % M + 1)))] = some (.ok .nx [w0, some (.dat (.int c)), some (.dct ks), some (.dat (.int top)), w4, some (.dat (.int ((a + m) % M + 1)))]) := by
  induction m generalizing k a with
  | zero =>
    obtain ⟨k, rfl⟩ : ∃ j, k = j + 1 := ⟨k - 1, by omega⟩
    refine (while_end (e := [w0, some (.dat (.int c)), some (.dct ks), some (.dat (.int top)), w4, some (.dat (.int (a % M + 1)))]) ?_).trans (by simp)
    have : a % M + 1 ∉ ks := by simpa using h1
    simp [v_bind, v_ok, v_none, v_pure, v_lift, v_liftN, v_con, v_get, v_gkd, v_gko, v_gkc, v_vwd, v_vws, v_ok1, v_ownD, v_dctD, v_dk1, v_setOwn, v_putM, v_op2, v_op1, v_anil, v_acons, v_vws0, v_vwsC, v_cb, v_tupD, v_lstD, v_lstW, v_listW, v_dds0, v_ddsC, v_asB, v_tb1, v_andT, v_orT, v_notT, v_andV, v_orV, v_notV, v_ofB, v_ifE, v_pl, v_toW, v_fz, v_ofWd, v_ofWo, v_nxt, v_thenS, v_exprS, v_retS, v_retN, v_ifS, v_setS, v_parS, v_setIx, v_asD, v_asI, v_mthE, v_callA, v_callB, v_forS, v_argI, v_seqI, v_slD, v_poN, v_poS, v_isiE, v_isiE2, v_isNE, v_dnew, v_dinT, v_dputS, v_sortDct, v_rgE, v_rg2, v_unS, v_catW, v_chainE, v_add, v_sub, v_lt, v_le, v_gt, v_ge, v_eqI, v_eqB, v_eqS, v_ixL, v_ixT, v_lenL, v_lenT, v_abs, v_intI, v_intB, v_min, v_max, v_chk, this]
  | succ m ih0 =>
    obtain ⟨k, rfl⟩ : ∃ j, k = j + 1 := ⟨k - 1, by omega⟩
    have ih := ih0 (k := k) (a := a + 1) (by rw [show a + 1 + (m : Int) = a + ((m + 1 : Nat) : Int) by omega]; exact h1) (fun j hj => by rw [show a + 1 + (j : Int) = a + ((j + 1 : Nat) : Int) by omega]; exact h2 (j + 1) (by omega)) (by omega)
    refine (while_go (e := [w0, some (.dat (.int c)), some (.dct ks), some (.dat (.int top)), w4, some (.dat (.int (a % M + 1)))]) ?_ ?_).trans (ih.trans (by rw [show a + 1 + (m : Int) = a + ((m + 1 : Nat) : Int) by omega]))
    · have : a % M + 1 ∈ ks := by simpa using h2 0 (by omega)
      simp [v_bind, v_ok, v_none, v_pure, v_lift, v_liftN, v_con, v_get, v_gkd, v_gko, v_gkc, v_vwd, v_vws, v_ok1, v_ownD, v_dctD, v_dk1, v_setOwn, v_putM, v_op2, v_op1, v_anil, v_acons, v_vws0, v_vwsC, v_cb, v_tupD, v_lstD, v_lstW, v_listW, v_dds0, v_ddsC, v_asB, v_tb1, v_andT, v_orT, v_notT, v_andV, v_orV, v_notV, v_ofB, v_ifE, v_pl, v_toW, v_fz, v_ofWd, v_ofWo, v_nxt, v_thenS, v_exprS, v_retS, v_retN, v_ifS, v_setS, v_parS, v_setIx, v_asD, v_asI, v_mthE, v_callA, v_callB, v_forS, v_argI, v_seqI, v_slD, v_poN, v_poS, v_isiE, v_isiE2, v_isNE, v_dnew, v_dinT, v_dputS, v_sortDct, v_rgE, v_rg2, v_unS, v_catW, v_chainE, v_add, v_sub, v_lt, v_le, v_gt, v_ge, v_eqI, v_eqB, v_eqS, v_ixL, v_ixT, v_lenL, v_lenT, v_abs, v_intI, v_intB, v_min, v_max, v_chk, this]
    · have e1 : pMod (a % M + 1) (if c > top then c else top) = true := by rw [← hM]; exact pMod_ok h0
      have e2 : (a % M + 1) % (if c > top then c else top) + 1 = (a + 1) % M + 1 := by rw [← hM]; exact step_mod h0
      simp only [gt_iff_lt] at e1 e2
      simp [v_bind, v_ok, v_none, v_pure, v_lift, v_liftN, v_con, v_get, v_gkd, v_gko, v_gkc, v_vwd, v_vws, v_ok1, v_ownD, v_dctD, v_dk1, v_setOwn, v_putM, v_op2, v_op1, v_anil, v_acons, v_vws0, v_vwsC, v_cb, v_tupD, v_lstD, v_lstW, v_listW, v_dds0, v_ddsC, v_asB, v_tb1, v_andT, v_orT, v_notT, v_andV, v_orV, v_notV, v_ofB, v_ifE, v_pl, v_toW, v_fz, v_ofWd, v_ofWo, v_nxt, v_thenS, v_exprS, v_retS, v_retN, v_ifS, v_setS, v_parS, v_setIx, v_asD, v_asI, v_mthE, v_callA, v_callB, v_forS, v_argI, v_seqI, v_slD, v_poN, v_poS, v_isiE, v_isiE2, v_isNE, v_dnew, v_dinT, v_dputS, v_sortDct, v_rgE, v_rg2, v_unS, v_catW, v_chainE, v_add, v_sub, v_lt, v_le, v_gt, v_ge, v_eqI, v_eqB, v_eqS, v_ixL, v_ixT, v_lenL, v_lenT, v_abs, v_intI, v_intB, v_min, v_max, v_chk, v_mod, e1, e2]
theorem souls_for {c top M : Int} (hM : M = if c > top then c else top) (ht : 0 ≤ top) (ht2 : top ≤ 10 ^ 9) (hc : c ≤ 16) (h0 : 0 ≤ c) (l : List Int) {n : Int} {bs : List PyData} {ks : List Int} {w4 w5 : Option Wv} (hb : Bok n bs) (hn : n + 2 * l.length ≤ 10 ^ 10) (hl : ks.length + l.length = c.toNat) (nd : ks.Nodup) (hk : ∀ x ∈ ks, 1 ≤ x ∧ x ≤ M) :
    ∃ (ks' : List Int) (bs' : List PyData) (u4 u5 : Option Wv), forM (gN 4) (thenS (setS 5 (pl (op2 addD (con (.int 1)) (fz (callB 0 (F_take 2) (acons (cb maxD (acons (con (.int 1)) (acons (get 3) anil))) anil)))))) (thenS (whileM (dinT false 2 (get 5)) (setS 5 (pl (op2 addD (op2 modD (get 5) (cb maxD (acons (get 3) (acons (get 1) anil)))) (con (.int 1))))) 100) (dputS 2 (get 5)))) (l.map .int)
      [some (.own (dats bs)), some (.dat (.int c)), some (.dct ks), some (.dat (.int top)), w4, w5] = some (.ok .nx [some (.own (dats bs')), some (.dat (.int c)), some (.dct ks'), some (.dat (.int top)), u4, u5]) ∧ ks'.Nodup ∧ (∀ x ∈ ks', 1 ≤ x ∧ x ≤ M) ∧ ks'.length = c.toNat ∧ Bok (n + 2 * l.length) bs' := by
  induction l generalizing n bs ks w4 w5 with
  | nil => exact ⟨ks, bs, w4, w5, rfl, nd, hk, by simpa using hl, by simpa using hb⟩
  | cons x l ih =>
    rw [List.length_cons] at hl hn
    have hm1 : (1 : Int) ≤ (if top > 1 then top else 1) := by split <;> omega
    have hm2 : (if top > 1 then top else 1) ≤ (10 : Int) ^ 9 := by split <;> omega
    obtain ⟨r, bs1, e1, a1, b1, k1⟩ := take_any (k := 0) hb (by omega) (below := if top > 1 then top else 1) hm1 (by omega)
    have hM0 : 0 < M := by rw [hM]; split <;> omega
    have hMr : 1 + r ≤ M := by
      have : (if top > 1 then top else 1) ≤ M := by rw [hM]; split <;> split <;> omega
      omega
    have hkl : (ks.length : Int) < M := by
      have : c ≤ M := by rw [hM]; split <;> omega
      omega
    obtain ⟨m, hm, f1, f2⟩ := free_first ks r M hkl
    have hr0 : r % M = r := Int.emod_eq_of_lt a1 (by omega)
    have wl := souls_while (w0 := some (.own (dats bs1))) (w1 := none) (ks := ks) (top := top) (c := c) hM hM0 m (k := 100) (a := r) (w4 := some (.dat (.int x))) f1 f2 (by omega)
    rw [hr0] at wl
    have hv1 : 1 ≤ (r + m) % M + 1 := by have := Int.emod_nonneg (r + (m : Int)) (show M ≠ 0 by omega); omega
    have hv2 : (r + m) % M + 1 ≤ M := by have := Int.emod_lt_of_pos (r + (m : Int)) hM0; omega
    obtain ⟨ks', bs2, u4, u5, e2, n2, q2, l2, k2⟩ := ih (n := n + 2) (bs := bs1) (ks := ks ++ [(r + m) % M + 1]) (w4 := some (.dat (.int x))) (w5 := some (.dat (.int ((r + m) % M + 1)))) k1 (by omega) (by rw [List.length_append]; show ks.length + 1 + l.length = _; omega)
      (List.nodup_append.mpr ⟨nd, by simp, fun y hy z hz => by rw [List.mem_singleton.mp hz]; exact fun e => f1 (e ▸ hy)⟩) (fun y hy => (List.mem_append.mp hy).elim (hk y) fun z => by rw [List.mem_singleton.mp z]; exact ⟨hv1, hv2⟩)
    refine ⟨ks', bs2, u4, u5, (for_go (e := [some (.own (dats bs)), some (.dat (.int c)), some (.dct ks), some (.dat (.int top)), some (.dat (.int x)), w5]) rfl ?_).trans e2, n2, q2, l2, k2.mono (by rw [List.length_cons]; omega)⟩
    rw [Int.add_comm r 1] at wl
    have pt : putT ks ((r + m) % M + 1) = ks ++ [(r + m) % M + 1] := if_neg f1
    have hlen : decide (ks.length < 1000) = true := decide_eq_true (by omega)
    simp only [gt_iff_lt] at e1
    simp [v_bind, v_ok, v_none, v_pure, v_lift, v_liftN, v_con, v_get, v_gkd, v_gko, v_gkc, v_vwd, v_vws, v_ok1, v_ownD, v_dctD, v_dk1, v_setOwn, v_putM, v_op2, v_op1, v_anil, v_acons, v_vws0, v_vwsC, v_cb, v_tupD, v_lstD, v_lstW, v_listW, v_dds0, v_ddsC, v_asB, v_tb1, v_andT, v_orT, v_notT, v_andV, v_orV, v_notV, v_ofB, v_ifE, v_pl, v_toW, v_fz, v_ofWd, v_ofWo, v_nxt, v_thenS, v_exprS, v_retS, v_retN, v_ifS, v_setS, v_parS, v_setIx, v_asD, v_asI, v_mthE, v_callA, v_callB, v_forS, v_argI, v_seqI, v_slD, v_poN, v_poS, v_isiE, v_isiE2, v_isNE, v_dnew, v_dinT, v_dputS, v_sortDct, v_rgE, v_rg2, v_unS, v_catW, v_chainE, v_add, v_sub, v_lt, v_le, v_gt, v_ge, v_eqI, v_eqB, v_eqS, v_ixL, v_ixT, v_lenL, v_lenT, v_abs, v_intI, v_intB, v_min, v_max, v_chk, e1, wl, pt, hlen]
theorem souls_ok {n : Int} {bs : List PyData} (h : Bok n bs) (hn : n ≤ 10 ^ 9) {c : Int} (h0 : 0 ≤ c) (h1 : c ≤ 16) : ∃ (ms : List Int) (bs' : List PyData), F_souls bs [.int c] = some (.dat (.list (ms.map .int)), bs') ∧ ms.Nodup ∧ ms.Pairwise (· ≤ ·) ∧ (∀ x ∈ ms, 1 ≤ x ∧ x ≤ 10 ^ 9) ∧ ms.length = c.toNat ∧ Bok (n + 40) bs' := by
  obtain ⟨d, bs1, e1, md, k1⟩ := of_ok h (by omega) (ds := [.int c, .int (3 * c + 1), .int (10 ^ 9)]) (by simp) (by simp)
  obtain ⟨top, rfl, t0, t1⟩ : ∃ top : Int, d = .int top ∧ 0 ≤ top ∧ top ≤ 10 ^ 9 := by
    simp only [List.mem_cons, List.not_mem_nil, or_false] at md
    rcases md with rfl | rfl | rfl
    · exact ⟨_, rfl, by omega, by omega⟩
    · exact ⟨_, rfl, by omega, by omega⟩
    · exact ⟨_, rfl, by decide, by decide⟩
  have hrl : (rngL 0 c).length = c.toNat := by simp [rngL]
  obtain ⟨ks, bs2, u4, u5, e2, nd, q, l2, k2⟩ := souls_for (c := c) (top := top) rfl t0 t1 h1 h0 (rngL 0 c) (n := n + 1) (bs := bs1) (ks := []) (w4 := none) (w5 := none) k1 (by rw [hrl]; omega) (by rw [hrl]; simp) List.nodup_nil (fun x hx => by cases hx)
  rw [hrl] at k2
  refine ⟨sortI ks, bs2, runB_eq rfl ?_, (sortI_perm ks).nodup_iff.mpr nd, sortI_pw ks, fun x hx => ?_, (sortI_perm ks).length_eq.trans l2, k2.mono (by omega)⟩
  · unfold f_souls s_souls_0 s_souls_1 s_souls_2 b_souls_1
    have q1 : pMul 3 c = true := pMul_r (by omega) (by omega)
    have hp : pPow 10 9 = true := by decide
    have e1' : F_of bs [.list [.int c, .int (3 * c + 1), .int 1000000000]] = some (.dat (.int top), bs1) := e1
    have rg : rngD [.int c] = some ((rngL 0 c).map .int) := if_pos ⟨by omega, by omega⟩
    have h64 : decide (ks.length < 64) = true := decide_eq_true (by omega)
    simp [env0, v_bind, v_ok, v_none, v_pure, v_lift, v_liftN, v_con, v_get, v_gkd, v_gko, v_gkc, v_vwd, v_vws, v_ok1, v_ownD, v_dctD, v_dk1, v_setOwn, v_putM, v_op2, v_op1, v_anil, v_acons, v_vws0, v_vwsC, v_cb, v_tupD, v_lstD, v_lstW, v_listW, v_dds0, v_ddsC, v_asB, v_tb1, v_andT, v_orT, v_notT, v_andV, v_orV, v_notV, v_ofB, v_ifE, v_pl, v_toW, v_fz, v_ofWd, v_ofWo, v_nxt, v_thenS, v_exprS, v_retS, v_retN, v_ifS, v_setS, v_parS, v_setIx, v_asD, v_asI, v_mthE, v_callA, v_callB, v_forS, v_argI, v_seqI, v_slD, v_poN, v_poS, v_isiE, v_isiE2, v_isNE, v_dnew, v_dinT, v_dputS, v_sortDct, v_rgE, v_rg2, v_unS, v_catW, v_chainE, v_add, v_sub, v_lt, v_le, v_gt, v_ge, v_eqI, v_eqB, v_eqS, v_ixL, v_ixT, v_lenL, v_lenT, v_abs, v_intI, v_intB, v_min, v_max, v_chk, v_mul, q1, v_pow, hp, sz, e1', rg, e2, h64]
  · have hx' := q x ((sortI_perm ks).mem_iff.mp hx)
    refine ⟨hx'.1, Int.le_trans hx'.2 ?_⟩
    split <;> omega
theorem ins_perm {l : List Int} {x : Int} (i : Nat) : (l.take i ++ [x] ++ l.drop i).Perm (x :: l) := by
  have h : (l.take i ++ [x] ++ l.drop i).Perm ([x] ++ (l.take i ++ l.drop i)) := by
    rw [List.append_assoc]
    exact List.perm_append_comm_assoc _ _ _
  rw [List.take_append_drop] at h
  exact h
end Ov
set_option Elab.async false
set_option linter.all false
set_option maxRecDepth 100000
set_option maxHeartbeats 4000000
namespace Ov
open PySem L2
/-! the same data, twice -/
def okS : Nat → PyData → Prop
  | 0, _ => False
  | n + 1, d => (atomD d = true ∧ shp d = true) ∨ ∃ ds : List PyData, (d = .list ds ∨ d = .tuple ds) ∧ ds.length < 1000 ∧ ∀ x ∈ ds, okS n x
theorem okS.ints {n : Nat} (ns : List Int) (h : ns.length < 1000) : okS (n + 2) (.tuple (ns.map .int)) ∧ okS (n + 2) (.list (ns.map .int)) := by
  have : ∀ x ∈ ns.map PyData.int, okS (n + 1) x := fun x hx => by
    obtain ⟨i, _, rfl⟩ := List.mem_map.mp hx
    exact .inl ⟨rfl, shp_int i⟩
  exact ⟨.inr ⟨_, .inr rfl, by rw [List.length_map]; exact h, this⟩, .inr ⟨_, .inl rfl, by rw [List.length_map]; exact h, this⟩⟩
end Ov
set_option Elab.async false
set_option linter.all false
set_option maxRecDepth 100000
set_option maxHeartbeats 4000000
namespace Ov
open PySem L2
theorem atI_in {α : Type} {ds : List α} {r : Int} (h0 : 0 ≤ r) (h1 : r < ds.length) : atI ds r = some (ds[r.toNat]'(by omega)) := by
  unfold atI ixN
  rw [if_pos h0, if_pos h1]
  exact List.getElem?_eq_getElem (by omega)
theorem v_neg (i : Int) : negD (.int i) = some (.int (-i)) := rfl
end Ov
set_option Elab.async false
set_option linter.all false
set_option maxRecDepth 100000
set_option maxHeartbeats 4000000
namespace Ov
open PySem L2
/-! codes -/
def mk (ms : List Int) (h : Int) : Int := (((ms.filter fun o => decide (h ≤ o)).idxOf h : Nat) : Int)
def mks (ms : List Int) : List Int := (sortI ms).map (mk ms)
def bld : List Int → List Int → List Int
  | h :: S, c :: cs => (bld S cs).take c.toNat ++ [h] ++ (bld S cs).drop c.toNat
  | _, _ => []
theorem idx_mid {h : Int} {l1 l2 : List Int} (n : h ∉ l1) : (l1 ++ h :: l2).idxOf h = l1.length := by
  induction l1 with
  | nil => simp
  | cons a r ih =>
    have n1 : h ∉ r := fun z => n (List.mem_cons_of_mem _ z)
    have n2 : ¬ a = h := fun z => n (by rw [z]; exact List.mem_cons_self ..)
    rw [List.cons_append, List.idxOf_cons]
    rw [show (a == h) = false by simpa using n2, ih n1]
    rfl
theorem mk_low {h : Int} {l1 l2 : List Int} (n : h ∉ l1) (lo : ∀ x ∈ l1 ++ l2, h < x) : mk (l1 ++ h :: l2) h = l1.length := by
  unfold mk
  rw [List.filter_eq_self.mpr fun x hx => ?_, idx_mid n]
  rcases List.mem_append.mp hx with hx | hx
  · exact decide_eq_true (Int.le_of_lt (lo x (List.mem_append_left _ hx)))
  · rcases List.mem_cons.mp hx with rfl | hx
    · exact decide_eq_true (Int.le_refl _)
    · exact decide_eq_true (Int.le_of_lt (lo x (List.mem_append_right _ hx)))
theorem mk_up {h k : Int} {l1 l2 : List Int} (lt : h < k) : mk (l1 ++ h :: l2) k = mk (l1 ++ l2) k := by
  unfold mk
  rw [List.filter_append, List.filter_cons, List.filter_append]
  simp [show ¬ k ≤ h by omega]
theorem bld_mk : ∀ {S ms : List Int}, S.Pairwise (· < ·) → ms.Perm S → bld S (S.map (mk ms)) = ms
  | [], ms, _, p => by rw [List.perm_nil.mp p]; rfl
  | h :: S, ms, pw, p => by
    obtain ⟨lo, pw'⟩ := List.pairwise_cons.mp pw
    have hin : h ∈ ms := p.symm.subset (List.mem_cons_self ..)
    obtain ⟨l1, l2, e1, e2, _⟩ := List.exists_erase_eq hin
    subst e2
    have p' : (l1 ++ l2).Perm S := (List.perm_middle.symm.trans p).cons_inv
    have lo' : ∀ x ∈ l1 ++ l2, h < x := fun x hx => lo x (p'.subset hx)
    have em : S.map (mk (l1 ++ h :: l2)) = S.map (mk (l1 ++ l2)) := List.map_congr_left fun k hk => mk_up (lo k hk)
    rw [List.map_cons, mk_low e1 lo', em]
    show (bld S (S.map (mk (l1 ++ l2)))).take (Int.toNat (l1.length : Int)) ++ [h] ++ (bld S (S.map (mk (l1 ++ l2)))).drop (Int.toNat (l1.length : Int)) = _
    rw [bld_mk pw' p', Int.toNat_natCast]
    simp
theorem mk_bld : ∀ {S cs : List Int}, S.Pairwise (· < ·) → cs.length = S.length → (∀ (k : Nat) (c : Int), cs[k]? = some c → 0 ≤ c ∧ c < (S.length : Int) - k) → (bld S cs).Perm S ∧ S.map (mk (bld S cs)) = cs
  | [], cs, _, hl, _ => by
    cases cs with
    | nil => exact ⟨.nil, rfl⟩
    | cons _ _ => cases hl
  | h :: S, [], _, hl, _ => by cases hl
  | h :: S, c :: cs, pw, hl, hb => by
    obtain ⟨lo, pw'⟩ := List.pairwise_cons.mp pw
    rw [List.length_cons, List.length_cons] at hl
    obtain ⟨p, e⟩ := mk_bld (S := S) (cs := cs) pw' (by omega) fun k x hx => by
      have := hb (k + 1) x hx
      rw [List.length_cons] at this
      omega
    have h0 := hb 0 c rfl
    rw [List.length_cons] at h0
    have lr := p.length_eq
    have lo' : ∀ x ∈ bld S cs, h < x := fun x hx => lo x (p.subset hx)
    show ((bld S cs).take c.toNat ++ [h] ++ (bld S cs).drop c.toNat).Perm (h :: S) ∧ (h :: S).map (mk ((bld S cs).take c.toNat ++ [h] ++ (bld S cs).drop c.toNat)) = c :: cs
    refine ⟨(ins_perm c.toNat).trans (p.cons h), ?_⟩
    rw [List.append_assoc, List.singleton_append, List.map_cons, mk_low (fun z => by have := lo' h (List.mem_of_mem_take z); omega) (fun x hx => lo' x (by rw [List.take_append_drop] at hx; exact hx)), List.length_take, lr]
    have em : S.map (mk ((bld S cs).take c.toNat ++ h :: (bld S cs).drop c.toNat)) = S.map (mk (bld S cs)) := List.map_congr_left fun k hk => by rw [mk_up (lo k hk), List.take_append_drop]
    rw [em, e]
    congr 1
    omega
theorem sortI_lt {ms : List Int} (nd : ms.Nodup) : (sortI ms).Pairwise (· < ·) := by
  have h1 := sortI_pw ms
  have h2 : (sortI ms).Nodup := (sortI_perm ms).nodup_iff.mpr nd
  exact (List.Pairwise.and h1 h2).imp fun ⟨a, b⟩ => by omega
theorem sort_perm {a b : List Int} (p : a.Perm b) : sortI a = sortI b := sort_uniq ((sortI_perm a).trans (p.trans (sortI_perm b).symm)) (sortI_pw a) (sortI_pw b)
theorem find_ints (h : Int) : ∀ l : List Int, h ∈ l → (l.map PyData.int).findIdx? (fun z => PyData.eqv z (.int h)) = some (l.idxOf h)
  | [], hm => by cases hm
  | a :: r, hm => by
    have ea : PyData.eqv (.int a) (.int h) = decide (a = h) := by
      have : (a == h) = decide (a = h) := by rw [Bool.eq_iff_iff]; simp
      simpa [PyData.eqv] using this
    rw [List.map_cons, List.findIdx?_cons, ea, List.idxOf_cons]
    by_cases e : a = h
    · simp [e]
    · have hm' : h ∈ r := (List.mem_cons.mp hm).resolve_left fun z => e z.symm
      rw [find_ints h r hm', show (a == h) = false by simpa using e]
      simp [e]
theorem idx_ok {l : List Int} {h : Int} (hm : h ∈ l) : idxD [.list (l.map .int), .int h] = some (.int (l.idxOf h : Nat)) := by
  unfold idxD
  simp only [shp_list, shp_int, Bool.and_self, if_true, find_ints h l hm]
  rfl
theorem filt_ge (ms : List Int) (h : Int) : ((ms.map PyData.int).filter fun d => match d with | .int i => decide (h ≤ i) | _ => false) = (ms.filter fun o => decide (h ≤ o)).map .int := by
  induction ms with
  | nil => rfl
  | cons a r ih =>
    rw [List.map_cons, List.filter_cons, List.filter_cons, ih]
    by_cases e : h ≤ a <;> simp [e]
theorem mem_filt {ms : List Int} {h : Int} (hm : h ∈ ms) : h ∈ ms.filter fun o => decide (h ≤ o) := List.mem_filter.mpr ⟨hm, decide_eq_true (Int.le_refl _)⟩
def isSq (d : PyData) (ms : List Int) : Prop := d = .list (ms.map .int) ∨ d = .tuple (ms.map .int)
theorem isSq.seq {d : PyData} {ms : List Int} (h : isSq d ms) : seqD d = some (ms.map .int) := by rcases h with rfl | rfl <;> rfl
theorem sort_ok {d : PyData} {ms : List Int} (h : isSq d ms) : sortD [d] = some (.list ((sortI ms).map .int)) := by
  unfold sortD
  simp [h.seq, intsD_map]
theorem code_of_ok {d : PyData} {ms : List Int} (hd : isSq d ms) (hl : ms.length ≤ 900) {h : Int} (hm : h ∈ ms) : F_code_of [d, .int h] = some (.dat (.int (mk ms h))) := by
  have comp : lcW (seqI (get 0)) (gN 2) (tb1 (op2 geD (get 2) (get 1))) (get 2) [2] [some (.dat d), some (.dat (.int h)), none] = some (.ok (.own (dats ((ms.filter fun o => decide (h ≤ o)).map .int))) [some (.dat d), some (.dat (.int h)), none]) := by
    refine lc_eq (ds := ms.map .int) (e := [some (.dat d), some (.dat (.int h)), none]) (e2 := [some (.dat d), some (.dat (.int h)), none]) ?_ rfl rfl ?_
    · simp [v_bind, v_ok, v_none, v_pure, v_lift, v_liftN, v_con, v_get, v_gkd, v_gko, v_gkc, v_vwd, v_vws, v_ok1, v_ownD, v_dctD, v_dk1, v_setOwn, v_putM, v_op2, v_op1, v_anil, v_acons, v_vws0, v_vwsC, v_cb, v_tupD, v_lstD, v_lstW, v_listW, v_dds0, v_ddsC, v_asB, v_tb1, v_andT, v_orT, v_notT, v_andV, v_orV, v_notV, v_ofB, v_ifE, v_pl, v_toW, v_fz, v_ofWd, v_ofWo, v_nxt, v_thenS, v_exprS, v_retS, v_retN, v_ifS, v_setS, v_parS, v_setIx, v_asD, v_asI, v_mthE, v_callA, v_callB, v_forS, v_argI, v_seqI, v_slD, v_poN, v_poS, v_isiE, v_isiE2, v_isNE, v_dnew, v_dinT, v_dputS, v_sortDct, v_rgE, v_rg2, v_unS, v_catW, v_chainE, v_add, v_sub, v_lt, v_le, v_gt, v_ge, v_eqI, v_eqB, v_eqS, v_ixL, v_ixT, v_lenL, v_lenT, v_abs, v_intI, v_intB, v_min, v_max, v_chk, hd.seq]
    · have := comp_all (env := [some (.dat d), some (.dat (.int h)), none]) (p := gN 2) (ft := tb1 (op2 geD (get 2) (get 1))) (fe := get 2) (vs := [2]) id (fun d => match d with | .int i => decide (h ≤ i) | _ => false) (ms.map .int) [] (by simp; omega) fun x hx => ?_
      · rw [this]
        simp [filt_ge]
      · obtain ⟨i, _, rfl⟩ := List.mem_map.mp hx
        refine ⟨[some (.dat d), some (.dat (.int h)), some (.dat (.int i))], rfl, ?_, fun _ => ?_, rfl, rfl⟩
        · simp [v_bind, v_ok, v_none, v_pure, v_lift, v_liftN, v_con, v_get, v_gkd, v_gko, v_gkc, v_vwd, v_vws, v_ok1, v_ownD, v_dctD, v_dk1, v_setOwn, v_putM, v_op2, v_op1, v_anil, v_acons, v_vws0, v_vwsC, v_cb, v_tupD, v_lstD, v_lstW, v_listW, v_dds0, v_ddsC, v_asB, v_tb1, v_andT, v_orT, v_notT, v_andV, v_orV, v_notV, v_ofB, v_ifE, v_pl, v_toW, v_fz, v_ofWd, v_ofWo, v_nxt, v_thenS, v_exprS, v_retS, v_retN, v_ifS, v_setS, v_parS, v_setIx, v_asD, v_asI, v_mthE, v_callA, v_callB, v_forS, v_argI, v_seqI, v_slD, v_poN, v_poS, v_isiE, v_isiE2, v_isNE, v_dnew, v_dinT, v_dputS, v_sortDct, v_rgE, v_rg2, v_unS, v_catW, v_chainE, v_add, v_sub, v_lt, v_le, v_gt, v_ge, v_eqI, v_eqB, v_eqS, v_ixL, v_ixT, v_lenL, v_lenT, v_abs, v_intI, v_intB, v_min, v_max, v_chk]
        · simp [v_bind, v_ok, v_none, v_pure, v_lift, v_liftN, v_con, v_get, v_gkd, v_gko, v_gkc, v_vwd, v_vws, v_ok1, v_ownD, v_dctD, v_dk1, v_setOwn, v_putM, v_op2, v_op1, v_anil, v_acons, v_vws0, v_vwsC, v_cb, v_tupD, v_lstD, v_lstW, v_listW, v_dds0, v_ddsC, v_asB, v_tb1, v_andT, v_orT, v_notT, v_andV, v_orV, v_notV, v_ofB, v_ifE, v_pl, v_toW, v_fz, v_ofWd, v_ofWo, v_nxt, v_thenS, v_exprS, v_retS, v_retN, v_ifS, v_setS, v_parS, v_setIx, v_asD, v_asI, v_mthE, v_callA, v_callB, v_forS, v_argI, v_seqI, v_slD, v_poN, v_poS, v_isiE, v_isiE2, v_isNE, v_dnew, v_dinT, v_dputS, v_sortDct, v_rgE, v_rg2, v_unS, v_catW, v_chainE, v_add, v_sub, v_lt, v_le, v_gt, v_ge, v_eqI, v_eqB, v_eqS, v_ixL, v_ixT, v_lenL, v_lenT, v_abs, v_intI, v_intB, v_min, v_max, v_chk]
  have ix := idx_ok (mem_filt hm)
  refine runA_eq rfl ⟨[some (.dat d), some (.dat (.int h)), none], ?_⟩
  show f_code_of [some (.dat d), some (.dat (.int h)), none] = _
  unfold f_code_of rmE
  generalize (ms.filter fun o => decide (h ≤ o)).map PyData.int = L at comp ix
  simp [v_bind, v_ok, v_none, v_pure, v_lift, v_liftN, v_con, v_get, v_gkd, v_gko, v_gkc, v_vwd, v_vws, v_ok1, v_ownD, v_dctD, v_dk1, v_setOwn, v_putM, v_op2, v_op1, v_anil, v_acons, v_vws0, v_vwsC, v_cb, v_tupD, v_lstD, v_lstW, v_listW, v_dds0, v_ddsC, v_asB, v_tb1, v_andT, v_orT, v_notT, v_andV, v_orV, v_notV, v_ofB, v_ifE, v_pl, v_toW, v_fz, v_ofWd, v_ofWo, v_nxt, v_thenS, v_exprS, v_retS, v_retN, v_ifS, v_setS, v_parS, v_setIx, v_asD, v_asI, v_mthE, v_callA, v_callB, v_forS, v_argI, v_seqI, v_slD, v_poN, v_poS, v_isiE, v_isiE2, v_isNE, v_dnew, v_dinT, v_dputS, v_sortDct, v_rgE, v_rg2, v_unS, v_catW, v_chainE, v_add, v_sub, v_lt, v_le, v_gt, v_ge, v_eqI, v_eqB, v_eqS, v_ixL, v_ixT, v_lenL, v_lenT, v_abs, v_intI, v_intB, v_min, v_max, v_chk, comp, isLD, ix]
  rfl
theorem codes_ok {d : PyData} {ms : List Int} (hd : isSq d ms) (hl : ms.length ≤ 900) : F_codes [d] = some (.dat (.tuple ((mks ms).map .int))) := by
  have so := sort_ok hd
  have comp : lcW (seqI (cb sortD (acons (get 0) anil))) (gN 1) yesT (fz (callA F_code_of (acons (get 0) (acons (get 1) anil)))) [1] [some (.dat d), none] = some (.ok (.own (dats ((mks ms).map .int))) [some (.dat d), none]) := by
    refine lc_eq (ds := (sortI ms).map .int) (e := [some (.dat d), none]) (e2 := [some (.dat d), none]) ?_ rfl rfl ?_
    · simp [v_bind, v_ok, v_none, v_pure, v_lift, v_liftN, v_con, v_get, v_gkd, v_gko, v_gkc, v_vwd, v_vws, v_ok1, v_ownD, v_dctD, v_dk1, v_setOwn, v_putM, v_op2, v_op1, v_anil, v_acons, v_vws0, v_vwsC, v_cb, v_tupD, v_lstD, v_lstW, v_listW, v_dds0, v_ddsC, v_asB, v_tb1, v_andT, v_orT, v_notT, v_andV, v_orV, v_notV, v_ofB, v_ifE, v_pl, v_toW, v_fz, v_ofWd, v_ofWo, v_nxt, v_thenS, v_exprS, v_retS, v_retN, v_ifS, v_setS, v_parS, v_setIx, v_asD, v_asI, v_mthE, v_callA, v_callB, v_forS, v_argI, v_seqI, v_slD, v_poN, v_poS, v_isiE, v_isiE2, v_isNE, v_dnew, v_dinT, v_dputS, v_sortDct, v_rgE, v_rg2, v_unS, v_catW, v_chainE, v_add, v_sub, v_lt, v_le, v_gt, v_ge, v_eqI, v_eqB, v_eqS, v_ixL, v_ixT, v_lenL, v_lenT, v_abs, v_intI, v_intB, v_min, v_max, v_chk, so, seqD]
    · have hsl := (sortI_perm ms).length_eq
      have := comp_map (env := [some (.dat d), none]) (p := gN 1) (ft := yesT) (fe := fz (callA F_code_of (acons (get 0) (acons (get 1) anil)))) (vs := [1]) (fun x => match x with | .int h => .int (mk ms h) | _ => .none) ((sortI ms).map .int) [] (by simp; omega) fun x hx => ?_
      · rw [this]
        simp [mks, Function.comp_def]
      · obtain ⟨h, hh, rfl⟩ := List.mem_map.mp hx
        have hc := code_of_ok hd hl ((sortI_perm ms).subset hh)
        refine ⟨[some (.dat d), some (.dat (.int h))], rfl, rfl, ?_, rfl, rfl⟩
        simp [v_bind, v_ok, v_none, v_pure, v_lift, v_liftN, v_con, v_get, v_gkd, v_gko, v_gkc, v_vwd, v_vws, v_ok1, v_ownD, v_dctD, v_dk1, v_setOwn, v_putM, v_op2, v_op1, v_anil, v_acons, v_vws0, v_vwsC, v_cb, v_tupD, v_lstD, v_lstW, v_listW, v_dds0, v_ddsC, v_asB, v_tb1, v_andT, v_orT, v_notT, v_andV, v_orV, v_notV, v_ofB, v_ifE, v_pl, v_toW, v_fz, v_ofWd, v_ofWo, v_nxt, v_thenS, v_exprS, v_retS, v_retN, v_ifS, v_setS, v_parS, v_setIx, v_asD, v_asI, v_mthE, v_callA, v_callB, v_forS, v_argI, v_seqI, v_slD, v_poN, v_poS, v_isiE, v_isiE2, v_isNE, v_dnew, v_dinT, v_dputS, v_sortDct, v_rgE, v_rg2, v_unS, v_catW, v_chainE, v_add, v_sub, v_lt, v_le, v_gt, v_ge, v_eqI, v_eqB, v_eqS, v_ixL, v_ixT, v_lenL, v_lenT, v_abs, v_intI, v_intB, v_min, v_max, v_chk, hc]
  refine runA_eq rfl ⟨[some (.dat d), none], ?_⟩
  show f_codes [some (.dat d), none] = _
  unfold f_codes
  generalize (mks ms).map PyData.int = L at comp
  simp [v_bind, v_ok, v_none, v_pure, v_lift, v_liftN, v_con, v_get, v_gkd, v_gko, v_gkc, v_vwd, v_vws, v_ok1, v_ownD, v_dctD, v_dk1, v_setOwn, v_putM, v_op2, v_op1, v_anil, v_acons, v_vws0, v_vwsC, v_cb, v_tupD, v_lstD, v_lstW, v_listW, v_dds0, v_ddsC, v_asB, v_tb1, v_andT, v_orT, v_notT, v_andV, v_orV, v_notV, v_ofB, v_ifE, v_pl, v_toW, v_fz, v_ofWd, v_ofWo, v_nxt, v_thenS, v_exprS, v_retS, v_retN, v_ifS, v_setS, v_parS, v_setIx, v_asD, v_asI, v_mthE, v_callA, v_callB, v_forS, v_argI, v_seqI, v_slD, v_poN, v_poS, v_isiE, v_isiE2, v_isNE, v_dnew, v_dinT, v_dputS, v_sortDct, v_rgE, v_rg2, v_unS, v_catW, v_chainE, v_add, v_sub, v_lt, v_le, v_gt, v_ge, v_eqI, v_eqB, v_eqS, v_ixL, v_ixT, v_lenL, v_lenT, v_abs, v_intI, v_intB, v_min, v_max, v_chk, comp, tupleD, seqD]
end Ov
set_option Elab.async false
set_option linter.all false
set_option maxRecDepth 100000
set_option maxHeartbeats 4000000
set_option Elab.async false
set_option linter.all false
set_option maxRecDepth 100000
set_option maxHeartbeats 4000000
namespace Ov
/-! runs: the intervals, by their mathematics alone -/
abbrev Iv := Int × Int
def rix (iv : List Iv) (c : Int) : Nat := (iv.filter fun p => decide (p.2 < c)).length
def lf (at_ : Nat) : Nat := at_ - 1
def rg (iv : List Iv) (at_ : Nat) : Nat := min (at_ + 1) (iv.length - 1)
def nx (iv : List Iv) (a : Nat) : List Iv :=
  iv.take (lf a) ++ [((iv.getD (lf a) (0, 0)).1, (iv.getD (rg iv a) (0, 0)).2 - 1)] ++ (iv.drop (rg iv a + 1)).map fun p => (p.1 - 1, p.2 - 1)
def Pt : Int → Int → List Iv → Prop
  | s, e, [] => s = e
  | s, e, p :: r => p.1 = s ∧ s ≤ p.2 ∧ Pt (p.2 + 1) e r
theorem Pt.le : ∀ {iv : List Iv} {s e : Int}, Pt s e iv → s ≤ e
  | [], s, e, h => by have : s = e := h; omega
  | p :: r, s, e, h => by have := Pt.le h.2.2; have := h.2.1; omega
theorem Pt.app : ∀ {a b : List Iv} {s m e : Int}, Pt s m a → Pt m e b → Pt s e (a ++ b)
  | [], b, s, m, e, h, k => by have : s = m := h; rw [this]; exact k
  | p :: r, b, s, m, e, h, k => ⟨h.1, h.2.1, Pt.app h.2.2 k⟩
theorem Pt.split : ∀ {a b : List Iv} {s e : Int}, Pt s e (a ++ b) → ∃ m, Pt s m a ∧ Pt m e b
  | [], b, s, e, h => ⟨s, rfl, h⟩
  | p :: r, b, s, e, h => by
    obtain ⟨m, h1, h2⟩ := Pt.split (a := r) h.2.2
    exact ⟨m, ⟨h.1, h.2.1, h1⟩, h2⟩
theorem Pt.down : ∀ {a : List Iv} {s e : Int}, Pt s e a → Pt (s - 1) (e - 1) (a.map fun p => (p.1 - 1, p.2 - 1))
  | [], s, e, h => by have : s = e := h; show s - 1 = e - 1; omega
  | p :: r, s, e, h => by
    refine ⟨by show p.1 - 1 = s - 1; rw [h.1], by show s - 1 ≤ p.2 - 1; have := h.2.1; omega, ?_⟩
    have := Pt.down h.2.2
    rw [show p.2 + 1 - 1 = p.2 - 1 + 1 by omega] at this
    exact this
theorem rix_low : ∀ {iv : List Iv} {s e c : Int}, Pt s e iv → c ≤ s → rix iv c = 0
  | [], s, e, c, _, _ => rfl
  | p :: r, s, e, c, h, k => by
    have h2 := h.2.1
    have := rix_low h.2.2 (c := c) (by omega)
    unfold rix at *
    rw [List.filter_cons, show decide (p.2 < c) = false from decide_eq_false (by omega)]
    exact this
theorem rix_at : ∀ {iv : List Iv} {s e c : Int}, Pt s e iv → s ≤ c → c < e → ∃ p : Iv, iv[rix iv c]? = some p ∧ p.1 ≤ c ∧ c ≤ p.2 ∧ s ≤ p.1 ∧ p.2 < e
  | [], s, e, c, h, h1, h2 => by have : s = e := h; omega
  | p :: r, s, e, c, h, h1, h2 => by
    have hp := h.2.1
    have le := Pt.le h.2.2
    by_cases k : p.2 < c
    · obtain ⟨q, e1, e2, e3, e4, e5⟩ := rix_at h.2.2 (c := c) (by omega) h2
      refine ⟨q, ?_, e2, e3, by omega, e5⟩
      have : rix (p :: r) c = rix r c + 1 := by
        unfold rix
        rw [List.filter_cons, show decide (p.2 < c) = true from decide_eq_true k]
        rfl
      rw [this]
      exact e1
    · have : rix (p :: r) c = 0 := by
        unfold rix
        rw [List.filter_cons, show decide (p.2 < c) = false from decide_eq_false k]
        exact rix_low h.2.2 (by omega)
      rw [this]
      refine ⟨p, rfl, ?_, by omega, ?_, by omega⟩
      · rw [h.1]; exact h1
      · rw [h.1]; exact Int.le_refl _
theorem rix_in : ∀ {iv : List Iv} {s e c : Int} {k : Nat} {p : Iv}, Pt s e iv → iv[k]? = some p → p.1 ≤ c → c ≤ p.2 → rix iv c = k
  | [], s, e, c, k, p, h, h1, _, _ => by simp at h1
  | q :: r, s, e, c, 0, p, h, h1, h2, h3 => by
    have : q = p := by simpa using h1
    subst this
    unfold rix
    rw [List.filter_cons, show decide (q.2 < c) = false from decide_eq_false (by omega)]
    exact rix_low h.2.2 (by omega)
  | q :: r, s, e, c, k + 1, p, h, h1, h2, h3 => by
    have h1 : r[k]? = some p := by simpa using h1
    have ih := rix_in h.2.2 h1 h2 h3
    have lo : ∀ {iv : List Iv} {s e : Int} {k : Nat}, Pt s e iv → iv[k]? = some p → s ≤ p.1 := fun {iv} => by
      induction iv with
      | nil => intro s e k _ z; simp at z
      | cons a t ih =>
        intro s e k hh z
        have := hh.2.1
        cases k with
        | zero => have : a = p := by simpa using z
                  subst this; rw [hh.1]; exact Int.le_refl _
        | succ k => have := ih hh.2.2 (k := k) (by simpa using z); omega
    have := lo h.2.2 h1
    unfold rix at *
    rw [List.filter_cons, show decide (q.2 < c) = true from decide_eq_true (by omega)]
    show (List.filter _ r).length + 1 = _
    rw [ih]
theorem lt_of_get {α : Type} {l : List α} {k : Nat} {x : α} (h : l[k]? = some x) : k < l.length := (List.getElem?_eq_some_iff.mp h).1
/-- the runs of the next person -/
theorem nx_pt {iv : List Iv} {m : Int} {a : Nat} (h : Pt 0 m iv) (hm : 2 ≤ m) (ha : a < iv.length) : Pt 0 (m - 1) (nx iv a) := by
  have hl : lf a < iv.length := by unfold lf; omega
  have hr : rg iv a < iv.length := by unfold rg; omega
  have hlr : lf a ≤ rg iv a := by unfold lf rg; omega
  -- iv = A ++ (first :: M') ++ C
  have e1 : iv = iv.take (lf a) ++ ((iv.drop (lf a)).take (rg iv a + 1 - lf a) ++ iv.drop (rg iv a + 1)) := by
    have : iv.drop (rg iv a + 1) = (iv.drop (lf a)).drop (rg iv a + 1 - lf a) := by rw [List.drop_drop]; congr 1; omega
    rw [this, List.take_append_drop, List.take_append_drop]
  have h' := h
  rw [e1] at h'
  obtain ⟨x, p1, p2⟩ := Pt.split h'
  obtain ⟨y, p3, p4⟩ := Pt.split p2
  have gl : iv[lf a]? = some (iv[lf a]) := List.getElem?_eq_getElem hl
  have gr : iv[rg iv a]? = some (iv[rg iv a]) := List.getElem?_eq_getElem hr
  -- the ends of the middle part
  have mid : ∀ {M : List Iv} {s e : Int} {k : Nat} {p q : Iv}, Pt s e M → M.length = k + 1 → M[0]? = some p → M[k]? = some q → p.1 = s ∧ q.2 + 1 = e ∧ (k : Int) + s ≤ q.2 := fun {M} => by
    induction M with
    | nil => intro s e k p q _ z; simp at z
    | cons b t ih =>
      intro s e k p q hp hk h0 hq
      have : b = p := by simpa using h0
      subst this
      refine ⟨hp.1, ?_⟩
      cases k with
      | zero =>
        have : b = q := by simpa using hq
        subst this
        have : t = [] := by cases t with | nil => rfl | cons _ _ => simp at hk
        subst this
        have z : b.2 + 1 = e := hp.2.2
        have := hp.2.1
        exact ⟨z, by omega⟩
      | succ k =>
        cases t with
        | nil => simp at hk
        | cons b' t' =>
          have hk' : (b' :: t').length = k + 1 := by rw [List.length_cons] at hk; omega
          obtain ⟨_, z2, z3⟩ := ih hp.2.2 hk' (p := b') rfl (by simpa using hq)
          have := hp.2.1
          exact ⟨z2, by omega⟩
  have lm : ((iv.drop (lf a)).take (rg iv a + 1 - lf a)).length = (rg iv a - lf a) + 1 := by
    rw [List.length_take, List.length_drop]; omega
  obtain ⟨q1, q2, q3⟩ := mid p3 lm (p := iv[lf a]) (q := iv[rg iv a]) (by
    rw [List.getElem?_take_of_lt (by omega), List.getElem?_drop, Nat.add_zero]; exact gl) (by
    rw [List.getElem?_take_of_lt (by omega), List.getElem?_drop, show lf a + (rg iv a - lf a) = rg iv a by omega]; exact gr)
  have x0 := Pt.le p1
  have y0 := Pt.le p4
  unfold nx
  rw [List.getD_eq_getElem?_getD, gl, List.getD_eq_getElem?_getD, gr, List.append_assoc]
  refine Pt.app p1 ⟨q1, ?_, ?_⟩
  · show x ≤ (iv[rg iv a]).2 - 1
    by_cases k : lf a < rg iv a
    · have : (1 : Int) ≤ ((rg iv a - lf a : Nat) : Int) := by omega
      omega
    · -- one run alone: it is all there is
      have l1 : iv.length = 1 := by unfold lf rg at k; omega
      have a0 : lf a = 0 := by omega
      have r0 : rg iv a = 0 := by omega
      have t0 : iv.take (lf a) = [] := by rw [a0]; rfl
      rw [t0] at p1
      have : (0 : Int) = x := p1
      have d0 : iv.drop (rg iv a + 1) = [] := List.drop_eq_nil_of_le (by omega)
      rw [d0] at p4
      have : y = m := p4
      omega
  · have := Pt.down p4
    have z : (iv[rg iv a]).2 - 1 + 1 = y - 1 := by omega
    show Pt ((iv[rg iv a]).2 - 1 + 1) (m - 1) _
    rw [z]
    exact this
theorem nx_len {iv : List Iv} {a : Nat} : (nx iv a).length ≤ iv.length + 1 := by
  unfold nx
  simp only [List.length_append, List.length_take, List.length_map, List.length_drop, List.length_singleton]
  unfold lf rg
  omega
/-- the runs by the codes -/
def rns : List Iv → List Int → List Iv
  | _, [] => []
  | iv, c :: cs => iv.getD (rix iv c) (0, 0) :: rns (nx iv (rix iv c)) cs
def ivs : List Iv → List Int → List (List Iv)
  | _, [] => []
  | iv, c :: cs => iv :: ivs (nx iv (rix iv c)) cs
/-- codes within their bounds -/
def Vd : Int → List Int → Prop
  | _, [] => True
  | m, c :: cs => 0 ≤ c ∧ c < m ∧ Vd (m - 1) cs
def inR (p : Iv) (c : Int) : Prop := p.1 ≤ c ∧ c ≤ p.2
/-- as many people as codes -/
theorem rns_ok : ∀ {cs : List Int} {iv : List Iv} {m : Int}, Pt 0 m iv → m = cs.length → Vd m cs → ∀ (j : Nat) (p : Iv) (c : Int), (rns iv cs)[j]? = some p → cs[j]? = some c → 0 ≤ p.1 ∧ p.1 ≤ c ∧ c ≤ p.2 ∧ p.2 < m - j
  | [], iv, m, h, hm, v, j, p, c, h1, h2 => by simp at h2
  | c :: cs, iv, m, h, hm, v, j, p, c', h1, h2 => by
    obtain ⟨q, e1, e2, e3, e4, e5⟩ := rix_at h v.1 v.2.1
    cases j with
    | zero =>
      have : c = c' := by simpa using h2
      subst this
      have : p = q := by
        simp only [rns, List.getElem?_cons_zero, List.getD_eq_getElem?_getD, e1, Option.getD_some, Option.some.injEq] at h1
        exact h1.symm
      subst this
      exact ⟨e4, e2, e3, by simpa using e5⟩
    | succ j =>
      have m2 : 2 ≤ m := by
        have : j < cs.length := lt_of_get (by simpa using h2)
        rw [List.length_cons] at hm
        omega
      have := rns_ok (nx_pt h m2 (lt_of_get e1)) (by rw [List.length_cons] at hm; omega) v.2.2 j p c' (by simpa [rns] using h1) (by simpa using h2)
      refine ⟨this.1, this.2.1, this.2.2.1, ?_⟩
      have := this.2.2.2
      rw [show ((j + 1 : Nat) : Int) = (j : Int) + 1 by rfl]
      omega
theorem rns_len : ∀ (cs : List Int) (iv : List Iv), (rns iv cs).length = cs.length
  | [], _ => rfl
  | c :: cs, iv => by rw [rns, List.length_cons, List.length_cons, rns_len cs]
theorem rns_cons {c : Int} {cs : List Int} {iv : List Iv} {p : Iv} (e : iv[rix iv c]? = some p) : rns iv (c :: cs) = p :: rns (nx iv (rix iv c)) cs := by
  rw [rns, List.getD_eq_getElem?_getD, e]
  rfl
/-- codes in the runs: the same runs -/
theorem rns_same : ∀ {cs ds : List Int} {iv : List Iv} {m : Int}, Pt 0 m iv → m = cs.length → Vd m cs → ds.length = cs.length → (∀ (j : Nat) (p : Iv) (d : Int), (rns iv cs)[j]? = some p → ds[j]? = some d → inR p d) → rns iv ds = rns iv cs ∧ Vd m ds
  | [], ds, iv, m, h, hm, v, hl, hd => by
    cases ds with
    | nil => exact ⟨rfl, trivial⟩
    | cons _ _ => cases hl
  | c :: cs, [], iv, m, h, hm, v, hl, hd => by cases hl
  | c :: cs, d :: ds, iv, m, h, hm, v, hl, hd => by
    obtain ⟨q, e1, e2, e3, e4, e5⟩ := rix_at h v.1 v.2.1
    have rc := rns_cons (cs := cs) e1
    have h0 := hd 0 q d (by rw [rc]; rfl) rfl
    have er : rix iv d = rix iv c := rix_in h e1 h0.1 h0.2
    have rd : rns iv (d :: ds) = q :: rns (nx iv (rix iv c)) ds := by rw [rns_cons (cs := ds) (p := q) (by rw [er]; exact e1), er]
    have hl' : ds.length = cs.length := by simpa using hl
    have h1 := h0.1
    have h2 := h0.2
    by_cases k : cs = []
    · subst k
      have : ds = [] := List.length_eq_zero_iff.mp hl'
      subst this
      exact ⟨by rw [rc, rd], by omega, by omega, trivial⟩
    · have kl : cs.length ≠ 0 := fun z => k (List.length_eq_zero_iff.mp z)
      rw [List.length_cons] at hm
      obtain ⟨z1, z2⟩ := rns_same (nx_pt h (by omega) (lt_of_get e1)) (by omega) v.2.2 hl' fun j p x hp hx => hd (j + 1) p x (by rw [rc]; exact hp) hx
      exact ⟨by rw [rc, rd, z1], by omega, by omega, z2⟩
def fiv (n : Nat) : List Iv := (List.range n).map fun i : Nat => ((i : Int), (i : Int))
theorem fiv_pt : ∀ n : Nat, Pt 0 n (fiv n)
  | 0 => rfl
  | n + 1 => by
    unfold fiv
    rw [List.range_succ, List.map_append]
    exact Pt.app (fiv_pt n) ⟨rfl, Int.le_refl _, rfl⟩
theorem vd_get : ∀ {cs : List Int} {m : Int}, Vd m cs → ∀ (j : Nat) (c : Int), cs[j]? = some c → 0 ≤ c ∧ c < m - j
  | [], m, _, j, c, h => by simp at h
  | x :: cs, m, v, 0, c, h => by
    have : x = c := by simpa using h
    subst this
    exact ⟨v.1, by have := v.2.1; omega⟩
  | x :: cs, m, v, j + 1, c, h => by
    have := vd_get v.2.2 j c (by simpa using h)
    rw [show ((j + 1 : Nat) : Int) = (j : Int) + 1 by rfl]
    omega
end Ov
set_option Elab.async false
set_option linter.all false
set_option maxRecDepth 100000
set_option maxHeartbeats 4000000
namespace Ov
open PySem L2
def pD (p : Iv) : PyData := .tuple [.int p.1, .int p.2]
def ivD (iv : List Iv) : List PyData := iv.map pD
theorem iv_len (iv : List Iv) : (ivD iv).length = iv.length := List.length_map _
theorem iv_at {iv : List Iv} {k : Nat} {p : Iv} (h : iv[k]? = some p) : atI (ivD iv) (k : Int) = some (pD p) := by
  have hk := lt_of_get h
  rw [atI_in (by omega) (by rw [iv_len]; omega)]
  have : (ivD iv)[k]? = some (pD p) := by unfold ivD; rw [List.getElem?_map, h]; rfl
  rw [← this]
  simp
theorem rng_nat (n : Nat) : rngL 0 (n : Int) = (List.range n).map fun k : Nat => (k : Int) := by
  unfold rngL
  simp
theorem rngD_ok {n : Nat} (h : n ≤ 1000) : rngD [.int (n : Int)] = some ((rngL 0 (n : Int)).map .int) := by
  have g : -(2 ^ 62) ≤ (n : Int) ∧ (n : Int) < 2 ^ 62 := ⟨by omega, by omega⟩
  generalize (n : Int) = N at g ⊢
  exact if_pos g
theorem first_ok {n : Nat} (h : n ≤ 1000) : F_first_intervals [.int (n : Int)] = some (.dat (.list (ivD (fiv n)))) := by
  have rg := rngD_ok h
  have comp : lcW (argI rngD (acons (get 0) anil)) (gN 1) yesT (tupD (acons (get 1) (acons (get 1) anil))) [1] [some (.dat (.int (n : Int))), none] = some (.ok (.own (dats (ivD (fiv n)))) [some (.dat (.int (n : Int))), none]) := by
    refine lc_eq (ds := (rngL 0 (n : Int)).map .int) (e := [some (.dat (.int (n : Int))), none]) (e2 := [some (.dat (.int (n : Int))), none]) (by simp [v_bind, v_ok, v_none, v_pure, v_lift, v_liftN, v_con, v_get, v_gkd, v_gko, v_gkc, v_vwd, v_vws, v_ok1, v_ownD, v_dctD, v_dk1, v_setOwn, v_putM, v_op2, v_op1, v_anil, v_acons, v_vws0, v_vwsC, v_cb, v_tupD, v_lstD, v_lstW, v_listW, v_dds0, v_ddsC, v_asB, v_tb1, v_andT, v_orT, v_notT, v_andV, v_orV, v_notV, v_ofB, v_ifE, v_pl, v_toW, v_fz, v_ofWd, v_ofWo, v_nxt, v_thenS, v_exprS, v_retS, v_retN, v_ifS, v_setS, v_parS, v_setIx, v_asD, v_asI, v_mthE, v_callA, v_callB, v_forS, v_argI, v_seqI, v_slD, v_poN, v_poS, v_isiE, v_isiE2, v_isNE, v_dnew, v_dinT, v_dputS, v_sortDct, v_rgE, v_rg2, v_unS, v_catW, v_chainE, v_add, v_sub, v_lt, v_le, v_gt, v_ge, v_eqI, v_eqB, v_eqS, v_ixL, v_ixT, v_lenL, v_lenT, v_abs, v_intI, v_intB, v_min, v_max, v_chk, rg]) rfl rfl ?_
    refine (comp_map (env := [some (.dat (.int (n : Int))), none]) (fun d => .tuple [d, d]) ((rngL 0 (n : Int)).map .int) [] (by rw [rng_nat]; simp; omega) fun d hd => ?_).trans ?_
    · obtain ⟨i, _, rfl⟩ := List.mem_map.mp hd
      exact ⟨[some (.dat (.int (n : Int))), some (.dat (.int i))], rfl, rfl, by simp [v_bind, v_ok, v_none, v_pure, v_lift, v_liftN, v_con, v_get, v_gkd, v_gko, v_gkc, v_vwd, v_vws, v_ok1, v_ownD, v_dctD, v_dk1, v_setOwn, v_putM, v_op2, v_op1, v_anil, v_acons, v_vws0, v_vwsC, v_cb, v_tupD, v_lstD, v_lstW, v_listW, v_dds0, v_ddsC, v_asB, v_tb1, v_andT, v_orT, v_notT, v_andV, v_orV, v_notV, v_ofB, v_ifE, v_pl, v_toW, v_fz, v_ofWd, v_ofWo, v_nxt, v_thenS, v_exprS, v_retS, v_retN, v_ifS, v_setS, v_parS, v_setIx, v_asD, v_asI, v_mthE, v_callA, v_callB, v_forS, v_argI, v_seqI, v_slD, v_poN, v_poS, v_isiE, v_isiE2, v_isNE, v_dnew, v_dinT, v_dputS, v_sortDct, v_rgE, v_rg2, v_unS, v_catW, v_chainE, v_add, v_sub, v_lt, v_le, v_gt, v_ge, v_eqI, v_eqB, v_eqS, v_ixL, v_ixT, v_lenL, v_lenT, v_abs, v_intI, v_intB, v_min, v_max, v_chk, sz], rfl, rfl⟩
    · rw [rng_nat]
      simp [ivD, fiv, pD, Function.comp_def]
  refine runA_eq rfl ⟨[some (.dat (.int (n : Int))), none], ?_⟩
  show f_first_intervals [some (.dat (.int (n : Int))), none] = _
  unfold f_first_intervals
  generalize ivD (fiv n) = L at comp
  simp [v_bind, v_ok, v_none, v_pure, v_lift, v_liftN, v_con, v_get, v_gkd, v_gko, v_gkc, v_vwd, v_vws, v_ok1, v_ownD, v_dctD, v_dk1, v_setOwn, v_putM, v_op2, v_op1, v_anil, v_acons, v_vws0, v_vwsC, v_cb, v_tupD, v_lstD, v_lstW, v_listW, v_dds0, v_ddsC, v_asB, v_tb1, v_andT, v_orT, v_notT, v_andV, v_orV, v_notV, v_ofB, v_ifE, v_pl, v_toW, v_fz, v_ofWd, v_ofWo, v_nxt, v_thenS, v_exprS, v_retS, v_retN, v_ifS, v_setS, v_parS, v_setIx, v_asD, v_asI, v_mthE, v_callA, v_callB, v_forS, v_argI, v_seqI, v_slD, v_poN, v_poS, v_isiE, v_isiE2, v_isNE, v_dnew, v_dinT, v_dputS, v_sortDct, v_rgE, v_rg2, v_unS, v_catW, v_chainE, v_add, v_sub, v_lt, v_le, v_gt, v_ge, v_eqI, v_eqB, v_eqS, v_ixL, v_ixT, v_lenL, v_lenT, v_abs, v_intI, v_intB, v_min, v_max, v_chk, comp]
def lowP (c : Int) : PyData → Bool
  | .tuple [_, .int q] => decide (q < c)
  | _ => false
def sndP : PyData → PyData
  | .tuple [_, x] => x
  | _ => .none
theorem rix_data (iv : List Iv) (c : Int) : ((ivD iv).filter (lowP c)).length = rix iv c := by
  unfold rix ivD
  induction iv with
  | nil => rfl
  | cons p r ih =>
    rw [List.map_cons, List.filter_cons, List.filter_cons]
    show (if decide (p.2 < c) = true then _ else _ : List PyData).length = (if decide (p.2 < c) = true then _ else _ : List Iv).length
    split
    · rw [List.length_cons, List.length_cons, ih]
    · exact ih
theorem index_ok {iv : List Iv} {c : Int} (h : iv.length ≤ 1000) : F_run_index [.list (ivD iv), .int c] = some (.dat (.int (rix iv c : Nat))) := by
  have comp : lcW (seqI (get 0)) (gT (gsC (gN 2) (gsC (gN 3) gsN))) (tb1 (op2 ltD (get 3) (get 1))) (get 3) [2, 3] [some (.dat (.list (ivD iv))), some (.dat (.int c)), none, none] = some (.ok (.own (dats (((ivD iv).filter (lowP c)).map sndP))) [some (.dat (.list (ivD iv))), some (.dat (.int c)), none, none]) := by
    refine lc_eq (ds := ivD iv) (e := [some (.dat (.list (ivD iv))), some (.dat (.int c)), none, none]) (e2 := [some (.dat (.list (ivD iv))), some (.dat (.int c)), none, none]) (by simp [v_bind, v_ok, v_none, v_pure, v_lift, v_liftN, v_con, v_get, v_gkd, v_gko, v_gkc, v_vwd, v_vws, v_ok1, v_ownD, v_dctD, v_dk1, v_setOwn, v_putM, v_op2, v_op1, v_anil, v_acons, v_vws0, v_vwsC, v_cb, v_tupD, v_lstD, v_lstW, v_listW, v_dds0, v_ddsC, v_asB, v_tb1, v_andT, v_orT, v_notT, v_andV, v_orV, v_notV, v_ofB, v_ifE, v_pl, v_toW, v_fz, v_ofWd, v_ofWo, v_nxt, v_thenS, v_exprS, v_retS, v_retN, v_ifS, v_setS, v_parS, v_setIx, v_asD, v_asI, v_mthE, v_callA, v_callB, v_forS, v_argI, v_seqI, v_slD, v_poN, v_poS, v_isiE, v_isiE2, v_isNE, v_dnew, v_dinT, v_dputS, v_sortDct, v_rgE, v_rg2, v_unS, v_catW, v_chainE, v_add, v_sub, v_lt, v_le, v_gt, v_ge, v_eqI, v_eqB, v_eqS, v_ixL, v_ixT, v_lenL, v_lenT, v_abs, v_intI, v_intB, v_min, v_max, v_chk, seqD]) rfl rfl ?_
    refine (comp_all (env := [some (.dat (.list (ivD iv))), some (.dat (.int c)), none, none]) sndP (lowP c) (ivD iv) [] (by rw [iv_len]; show 0 + _ < _; omega) fun d hd => ?_).trans (by simp)
    obtain ⟨p, _, rfl⟩ := List.mem_map.mp hd
    refine ⟨[some (.dat (.list (ivD iv))), some (.dat (.int c)), some (.dat (.int p.1)), some (.dat (.int p.2))], rfl, ?_, fun _ => ?_, rfl, rfl⟩
    · generalize ivD iv = L
      simp [v_bind, v_ok, v_none, v_pure, v_lift, v_liftN, v_con, v_get, v_gkd, v_gko, v_gkc, v_vwd, v_vws, v_ok1, v_ownD, v_dctD, v_dk1, v_setOwn, v_putM, v_op2, v_op1, v_anil, v_acons, v_vws0, v_vwsC, v_cb, v_tupD, v_lstD, v_lstW, v_listW, v_dds0, v_ddsC, v_asB, v_tb1, v_andT, v_orT, v_notT, v_andV, v_orV, v_notV, v_ofB, v_ifE, v_pl, v_toW, v_fz, v_ofWd, v_ofWo, v_nxt, v_thenS, v_exprS, v_retS, v_retN, v_ifS, v_setS, v_parS, v_setIx, v_asD, v_asI, v_mthE, v_callA, v_callB, v_forS, v_argI, v_seqI, v_slD, v_poN, v_poS, v_isiE, v_isiE2, v_isNE, v_dnew, v_dinT, v_dputS, v_sortDct, v_rgE, v_rg2, v_unS, v_catW, v_chainE, v_add, v_sub, v_lt, v_le, v_gt, v_ge, v_eqI, v_eqB, v_eqS, v_ixL, v_ixT, v_lenL, v_lenT, v_abs, v_intI, v_intB, v_min, v_max, v_chk, lowP, pD]
    · generalize ivD iv = L
      simp [v_bind, v_ok, v_none, v_pure, v_lift, v_liftN, v_con, v_get, v_gkd, v_gko, v_gkc, v_vwd, v_vws, v_ok1, v_ownD, v_dctD, v_dk1, v_setOwn, v_putM, v_op2, v_op1, v_anil, v_acons, v_vws0, v_vwsC, v_cb, v_tupD, v_lstD, v_lstW, v_listW, v_dds0, v_ddsC, v_asB, v_tb1, v_andT, v_orT, v_notT, v_andV, v_orV, v_notV, v_ofB, v_ifE, v_pl, v_toW, v_fz, v_ofWd, v_ofWo, v_nxt, v_thenS, v_exprS, v_retS, v_retN, v_ifS, v_setS, v_parS, v_setIx, v_asD, v_asI, v_mthE, v_callA, v_callB, v_forS, v_argI, v_seqI, v_slD, v_poN, v_poS, v_isiE, v_isiE2, v_isNE, v_dnew, v_dinT, v_dputS, v_sortDct, v_rgE, v_rg2, v_unS, v_catW, v_chainE, v_add, v_sub, v_lt, v_le, v_gt, v_ge, v_eqI, v_eqB, v_eqS, v_ixL, v_ixT, v_lenL, v_lenT, v_abs, v_intI, v_intB, v_min, v_max, v_chk, sndP, pD]
  refine runA_eq rfl ⟨[some (.dat (.list (ivD iv))), some (.dat (.int c)), none, none], ?_⟩
  show f_run_index [some (.dat (.list (ivD iv))), some (.dat (.int c)), none, none] = _
  unfold f_run_index
  rw [← rix_data, ← List.length_map (f := sndP) (as := (ivD iv).filter (lowP c))]
  generalize ((ivD iv).filter (lowP c)).map sndP = L at comp
  generalize ivD iv = L' at comp
  simp [v_bind, v_ok, v_none, v_pure, v_lift, v_liftN, v_con, v_get, v_gkd, v_gko, v_gkc, v_vwd, v_vws, v_ok1, v_ownD, v_dctD, v_dk1, v_setOwn, v_putM, v_op2, v_op1, v_anil, v_acons, v_vws0, v_vwsC, v_cb, v_tupD, v_lstD, v_lstW, v_listW, v_dds0, v_ddsC, v_asB, v_tb1, v_andT, v_orT, v_notT, v_andV, v_orV, v_notV, v_ofB, v_ifE, v_pl, v_toW, v_fz, v_ofWd, v_ofWo, v_nxt, v_thenS, v_exprS, v_retS, v_retN, v_ifS, v_setS, v_parS, v_setIx, v_asD, v_asI, v_mthE, v_callA, v_callB, v_forS, v_argI, v_seqI, v_slD, v_poN, v_poS, v_isiE, v_isiE2, v_isNE, v_dnew, v_dinT, v_dputS, v_sortDct, v_rgE, v_rg2, v_unS, v_catW, v_chainE, v_add, v_sub, v_lt, v_le, v_gt, v_ge, v_eqI, v_eqB, v_eqS, v_ixL, v_ixT, v_lenL, v_lenT, v_abs, v_intI, v_intB, v_min, v_max, v_chk, comp]
theorem cutL_from {α : Type} (l : List α) (k : Nat) (h : k ≤ l.length) : cutL l (some (k : Int)) none = l.drop k := by
  unfold cutL
  have e : HT.sIx l.length 0 (some (k : Int)) = k := by simp [HT.sIx]; rw [if_neg (by omega)]; omega
  have e2 : HT.sIx l.length l.length none = l.length := rfl
  rw [e, e2, List.take_of_length_le (by rw [List.length_drop]; omega)]
theorem cutL_to {α : Type} (l : List α) (k : Nat) (h : k ≤ l.length) : cutL l none (some (k : Int)) = l.take k := by
  unfold cutL
  have e : HT.sIx l.length l.length (some (k : Int)) = k := by simp [HT.sIx]; rw [if_neg (by omega)]; omega
  have e2 : HT.sIx l.length 0 none = 0 := rfl
  rw [e, e2]
  simp
def dnP : PyData → PyData
  | .tuple [.int a, .int b] => .tuple [.int (a - 1), .int (b - 1)]
  | d => d
theorem next_ok {iv : List Iv} {c : Int} (h : iv.length ≤ 1000) (hc : rix iv c < iv.length) : F_next_intervals [.list (ivD iv), .int c] = some (.dat (.list (ivD (nx iv (rix iv c))))) := by
  have ix := index_ok (c := c) h
  generalize hr : rix iv c = a at *
  have hl : lf a < iv.length := by unfold lf; omega
  have hg : rg iv a < iv.length := by unfold rg; omega
  have e3 : maxD [.int ((a : Nat) - 1 : Int), .int 0] = some (.int ((lf a : Nat) : Int)) := by
    rw [v_max]
    congr 2
    unfold lf
    split <;> omega
  have e4 : minD [.int ((a : Nat) + 1 : Int), .int ((iv.length : Int) - 1)] = some (.int ((rg iv a : Nat) : Int)) := by
    rw [v_min]
    congr 2
    unfold rg
    split <;> omega
  have gl : iv[lf a]? = some (iv.getD (lf a) (0, 0)) := by rw [List.getD_eq_getElem?_getD, List.getElem?_eq_getElem hl]; rfl
  have gr : iv[rg iv a]? = some (iv.getD (rg iv a) (0, 0)) := by rw [List.getD_eq_getElem?_getD, List.getElem?_eq_getElem hg]; rfl
  have al := iv_at gl
  have ar := iv_at gr
  have hn : nx iv a = iv.take (lf a) ++ [((iv.getD (lf a) (0, 0)).1, (iv.getD (rg iv a) (0, 0)).2 - 1)] ++ (iv.drop (rg iv a + 1)).map fun p => (p.1 - 1, p.2 - 1) := rfl
  have c1 : cutD (.list (ivD iv)) none (some ((lf a : Nat) : Int)) = some (.list (ivD (iv.take (lf a)))) := by
    show some (PyData.list (cutL (ivD iv) none (some ((lf a : Nat) : Int)))) = _
    rw [cutL_to _ _ (by rw [iv_len]; omega)]
    unfold ivD
    rw [List.map_take]
  have c2 : cutD (.list (ivD iv)) (some ((rg iv a : Nat) + 1 : Int)) none = some (.list (ivD (iv.drop (rg iv a + 1)))) := by
    show some (PyData.list (cutL (ivD iv) (some ((rg iv a + 1 : Nat) : Int)) none)) = _
    rw [cutL_from _ _ (by rw [iv_len]; omega)]
    unfold ivD
    rw [List.map_drop]
  have lD : lenD [.list (ivD iv)] = some (.int iv.length) := by rw [v_lenL, iv_len]
  have ld : (ivD (iv.drop (rg iv a + 1))).length ≤ 1000 := by rw [iv_len, List.length_drop]; omega
  have lt : (ivD (iv.take (lf a))).length ≤ 1000 := by rw [iv_len, List.length_take]; omega
  have dn : (ivD (iv.drop (rg iv a + 1))).map dnP = ivD ((iv.drop (rg iv a + 1)).map fun p => (p.1 - 1, p.2 - 1)) := by
    unfold ivD
    rw [List.map_map, List.map_map]
    rfl
  have dm : ∀ d ∈ ivD (iv.drop (rg iv a + 1)), ∃ x y : Int, d = .tuple [.int x, .int y] := fun d hd => by
    obtain ⟨p, _, rfl⟩ := List.mem_map.mp hd
    exact ⟨_, _, rfl⟩
  have fin : ivD (nx iv a) = ivD (iv.take (lf a)) ++ [.tuple [.int (iv.getD (lf a) (0, 0)).1, .int ((iv.getD (rg iv a) (0, 0)).2 - 1)]] ++ (ivD (iv.drop (rg iv a + 1))).map dnP := by
    rw [hn, dn]
    unfold ivD
    rw [List.map_append, List.map_append]
    rfl
  rw [fin]
  generalize ivD (iv.take (lf a)) = A at *
  generalize ivD (iv.drop (rg iv a + 1)) = C at *
  generalize iv.getD (lf a) (0, 0) = p at *
  generalize iv.getD (rg iv a) (0, 0) = q at *
  generalize ((lf a : Nat) : Int) = l at *
  generalize ((rg iv a : Nat) : Int) = r at *
  generalize ((a : Nat) : Int) = k at *
  generalize ivD iv = L at *
  generalize (iv.length : Int) = N at *
  clear hl hg gl gr hn
  have t0 : ∀ x y : Int, atI [PyData.int x, .int y] 0 = some (.int x) := fun _ _ => rfl
  have t1 : ∀ x y : Int, atI [PyData.int x, .int y] 1 = some (.int y) := fun _ _ => rfl
  refine runA_eq rfl ⟨[some (.dat (.list L)), some (.dat (.int c)), some (.dat (.int k)), some (.dat (.int l)), some (.dat (.int r)), some (.dat (.tuple [.int p.1, .int (q.2 - 1)])), some (.dat (.list (C.map dnP))), none, none], ?_⟩
  show f_next_intervals [some (.dat (.list L)), some (.dat (.int c)), none, none, none, none, none, none, none] = _
  unfold f_next_intervals
  rw [then_nx (e := [some (.dat (.list L)), some (.dat (.int c)), some (.dat (.int k)), none, none, none, none, none, none]) (by unfold s_next_intervals_0; simp [v_bind, v_ok, v_none, v_pure, v_lift, v_liftN, v_con, v_get, v_gkd, v_gko, v_gkc, v_vwd, v_vws, v_ok1, v_ownD, v_dctD, v_dk1, v_setOwn, v_putM, v_op2, v_op1, v_anil, v_acons, v_vws0, v_vwsC, v_cb, v_tupD, v_lstD, v_lstW, v_listW, v_dds0, v_ddsC, v_asB, v_tb1, v_andT, v_orT, v_notT, v_andV, v_orV, v_notV, v_ofB, v_ifE, v_pl, v_toW, v_fz, v_ofWd, v_ofWo, v_nxt, v_thenS, v_exprS, v_retS, v_retN, v_ifS, v_setS, v_parS, v_setIx, v_asD, v_asI, v_mthE, v_callA, v_callB, v_forS, v_argI, v_seqI, v_slD, v_poN, v_poS, v_isiE, v_isiE2, v_isNE, v_dnew, v_dinT, v_dputS, v_sortDct, v_rgE, v_rg2, v_unS, v_catW, v_chainE, v_add, v_sub, v_lt, v_le, v_gt, v_ge, v_eqI, v_eqB, v_eqS, v_ixL, v_ixT, v_lenL, v_lenT, v_abs, v_intI, v_intB, v_min, v_max, v_chk, ix])]
  rw [then_nx (e := [some (.dat (.list L)), some (.dat (.int c)), some (.dat (.int k)), some (.dat (.int l)), none, none, none, none, none]) (by unfold s_next_intervals_1; simp [v_bind, v_ok, v_none, v_pure, v_lift, v_liftN, v_con, v_get, v_gkd, v_gko, v_gkc, v_vwd, v_vws, v_ok1, v_ownD, v_dctD, v_dk1, v_setOwn, v_putM, v_op2, v_op1, v_anil, v_acons, v_vws0, v_vwsC, v_cb, v_tupD, v_lstD, v_lstW, v_listW, v_dds0, v_ddsC, v_asB, v_tb1, v_andT, v_orT, v_notT, v_andV, v_orV, v_notV, v_ofB, v_ifE, v_pl, v_toW, v_fz, v_ofWd, v_ofWo, v_nxt, v_thenS, v_exprS, v_retS, v_retN, v_ifS, v_setS, v_parS, v_setIx, v_asD, v_asI, v_mthE, v_callA, v_callB, v_forS, v_argI, v_seqI, v_slD, v_poN, v_poS, v_isiE, v_isiE2, v_isNE, v_dnew, v_dinT, v_dputS, v_sortDct, v_rgE, v_rg2, v_unS, v_catW, v_chainE, v_add, v_sub, v_lt, v_le, v_gt, v_ge, v_eqI, v_eqB, v_eqS, v_ixL, v_ixT, v_abs, v_intI, v_intB, v_chk, e3])]
  rw [then_nx (e := [some (.dat (.list L)), some (.dat (.int c)), some (.dat (.int k)), some (.dat (.int l)), some (.dat (.int r)), none, none, none, none]) (by unfold s_next_intervals_2; simp [v_bind, v_ok, v_none, v_pure, v_lift, v_liftN, v_con, v_get, v_gkd, v_gko, v_gkc, v_vwd, v_vws, v_ok1, v_ownD, v_dctD, v_dk1, v_setOwn, v_putM, v_op2, v_op1, v_anil, v_acons, v_vws0, v_vwsC, v_cb, v_tupD, v_lstD, v_lstW, v_listW, v_dds0, v_ddsC, v_asB, v_tb1, v_andT, v_orT, v_notT, v_andV, v_orV, v_notV, v_ofB, v_ifE, v_pl, v_toW, v_fz, v_ofWd, v_ofWo, v_nxt, v_thenS, v_exprS, v_retS, v_retN, v_ifS, v_setS, v_parS, v_setIx, v_asD, v_asI, v_mthE, v_callA, v_callB, v_forS, v_argI, v_seqI, v_slD, v_poN, v_poS, v_isiE, v_isiE2, v_isNE, v_dnew, v_dinT, v_dputS, v_sortDct, v_rgE, v_rg2, v_unS, v_catW, v_chainE, v_add, v_sub, v_lt, v_le, v_gt, v_ge, v_eqI, v_eqB, v_eqS, v_ixL, v_ixT, v_abs, v_intI, v_intB, v_chk, e4, lD])]
  rw [then_nx (e := [some (.dat (.list L)), some (.dat (.int c)), some (.dat (.int k)), some (.dat (.int l)), some (.dat (.int r)), some (.dat (.tuple [.int p.1, .int (q.2 - 1)])), none, none, none]) (by
    unfold s_next_intervals_3
    simp [v_bind, v_ok, v_none, v_pure, v_lift, v_liftN, v_con, v_get, v_gkd, v_gko, v_gkc, v_vwd, v_vws, v_ok1, v_ownD, v_dctD, v_dk1, v_setOwn, v_putM, v_op2, v_op1, v_anil, v_acons, v_vws0, v_vwsC, v_cb, v_tupD, v_lstD, v_lstW, v_listW, v_dds0, v_ddsC, v_asB, v_tb1, v_andT, v_orT, v_notT, v_andV, v_orV, v_notV, v_ofB, v_ifE, v_pl, v_toW, v_fz, v_ofWd, v_ofWo, v_nxt, v_thenS, v_exprS, v_retS, v_retN, v_ifS, v_setS, v_parS, v_setIx, v_asD, v_asI, v_mthE, v_callA, v_callB, v_forS, v_argI, v_seqI, v_slD, v_poN, v_poS, v_isiE, v_isiE2, v_isNE, v_dnew, v_dinT, v_dputS, v_sortDct, v_rgE, v_rg2, v_unS, v_catW, v_chainE, v_add, v_sub, v_lt, v_le, v_gt, v_ge, v_eqI, v_eqB, v_eqS, v_ixL, v_ixT, v_lenL, v_lenT, v_abs, v_intI, v_intB, v_min, v_max, v_chk, al, ar, pD, sz, t0, t1])]
  have comp : lcW (seqI (slD (get 0) (poS (op2 addD (get 4) (con (.int 1)))) poN)) (gT (gsC (gN 7) (gsC (gN 8) gsN))) yesT (tupD (acons (op2 subD (get 7) (con (.int 1))) (acons (op2 subD (get 8) (con (.int 1))) anil))) [7, 8] [some (.dat (.list L)), some (.dat (.int c)), some (.dat (.int k)), some (.dat (.int l)), some (.dat (.int r)), some (.dat (.tuple [.int p.1, .int (q.2 - 1)])), none, none, none] = some (.ok (.own (dats (C.map dnP))) [some (.dat (.list L)), some (.dat (.int c)), some (.dat (.int k)), some (.dat (.int l)), some (.dat (.int r)), some (.dat (.tuple [.int p.1, .int (q.2 - 1)])), none, none, none]) := by
    refine lc_eq (ds := C) (e := [some (.dat (.list L)), some (.dat (.int c)), some (.dat (.int k)), some (.dat (.int l)), some (.dat (.int r)), some (.dat (.tuple [.int p.1, .int (q.2 - 1)])), none, none, none]) (e2 := [some (.dat (.list L)), some (.dat (.int c)), some (.dat (.int k)), some (.dat (.int l)), some (.dat (.int r)), some (.dat (.tuple [.int p.1, .int (q.2 - 1)])), none, none, none]) (by simp [v_bind, v_ok, v_none, v_pure, v_lift, v_liftN, v_con, v_get, v_gkd, v_gko, v_gkc, v_vwd, v_vws, v_ok1, v_ownD, v_dctD, v_dk1, v_setOwn, v_putM, v_op2, v_op1, v_anil, v_acons, v_vws0, v_vwsC, v_cb, v_tupD, v_lstD, v_lstW, v_listW, v_dds0, v_ddsC, v_asB, v_tb1, v_andT, v_orT, v_notT, v_andV, v_orV, v_notV, v_ofB, v_ifE, v_pl, v_toW, v_fz, v_ofWd, v_ofWo, v_nxt, v_thenS, v_exprS, v_retS, v_retN, v_ifS, v_setS, v_parS, v_setIx, v_asD, v_asI, v_mthE, v_callA, v_callB, v_forS, v_argI, v_seqI, v_slD, v_poN, v_poS, v_isiE, v_isiE2, v_isNE, v_dnew, v_dinT, v_dputS, v_sortDct, v_rgE, v_rg2, v_unS, v_catW, v_chainE, v_add, v_sub, v_lt, v_le, v_gt, v_ge, v_eqI, v_eqB, v_eqS, v_ixL, v_ixT, v_lenL, v_lenT, v_abs, v_intI, v_intB, v_min, v_max, v_chk, c2, seqD]) rfl rfl ?_
    refine (comp_map (env := [some (.dat (.list L)), some (.dat (.int c)), some (.dat (.int k)), some (.dat (.int l)), some (.dat (.int r)), some (.dat (.tuple [.int p.1, .int (q.2 - 1)])), none, none, none]) dnP C [] (by show 0 + _ < _; omega) fun d hd => ?_).trans (by simp)
    obtain ⟨x, y, rfl⟩ := dm d hd
    exact ⟨[some (.dat (.list L)), some (.dat (.int c)), some (.dat (.int k)), some (.dat (.int l)), some (.dat (.int r)), some (.dat (.tuple [.int p.1, .int (q.2 - 1)])), none, some (.dat (.int x)), some (.dat (.int y))], rfl, rfl, by simp [v_bind, v_ok, v_none, v_pure, v_lift, v_liftN, v_con, v_get, v_gkd, v_gko, v_gkc, v_vwd, v_vws, v_ok1, v_ownD, v_dctD, v_dk1, v_setOwn, v_putM, v_op2, v_op1, v_anil, v_acons, v_vws0, v_vwsC, v_cb, v_tupD, v_lstD, v_lstW, v_listW, v_dds0, v_ddsC, v_asB, v_tb1, v_andT, v_orT, v_notT, v_andV, v_orV, v_notV, v_ofB, v_ifE, v_pl, v_toW, v_fz, v_ofWd, v_ofWo, v_nxt, v_thenS, v_exprS, v_retS, v_retN, v_ifS, v_setS, v_parS, v_setIx, v_asD, v_asI, v_mthE, v_callA, v_callB, v_forS, v_argI, v_seqI, v_slD, v_poN, v_poS, v_isiE, v_isiE2, v_isNE, v_dnew, v_dinT, v_dputS, v_sortDct, v_rgE, v_rg2, v_unS, v_catW, v_chainE, v_add, v_sub, v_lt, v_le, v_gt, v_ge, v_eqI, v_eqB, v_eqS, v_ixL, v_ixT, v_lenL, v_lenT, v_abs, v_intI, v_intB, v_min, v_max, v_chk, dnP, sz], rfl, rfl⟩
  rw [then_nx (e := [some (.dat (.list L)), some (.dat (.int c)), some (.dat (.int k)), some (.dat (.int l)), some (.dat (.int r)), some (.dat (.tuple [.int p.1, .int (q.2 - 1)])), some (.dat (.list (C.map dnP))), none, none]) (by unfold s_next_intervals_4; simp [v_bind, v_ok, v_none, v_pure, v_lift, v_liftN, v_con, v_get, v_gkd, v_gko, v_gkc, v_vwd, v_vws, v_ok1, v_ownD, v_dctD, v_dk1, v_setOwn, v_putM, v_op2, v_op1, v_anil, v_acons, v_vws0, v_vwsC, v_cb, v_tupD, v_lstD, v_lstW, v_listW, v_dds0, v_ddsC, v_asB, v_tb1, v_andT, v_orT, v_notT, v_andV, v_orV, v_notV, v_ofB, v_ifE, v_pl, v_toW, v_fz, v_ofWd, v_ofWo, v_nxt, v_thenS, v_exprS, v_retS, v_retN, v_ifS, v_setS, v_parS, v_setIx, v_asD, v_asI, v_mthE, v_callA, v_callB, v_forS, v_argI, v_seqI, v_slD, v_poN, v_poS, v_isiE, v_isiE2, v_isNE, v_dnew, v_dinT, v_dputS, v_sortDct, v_rgE, v_rg2, v_unS, v_catW, v_chainE, v_add, v_sub, v_lt, v_le, v_gt, v_ge, v_eqI, v_eqB, v_eqS, v_ixL, v_ixT, v_lenL, v_lenT, v_abs, v_intI, v_intB, v_min, v_max, v_chk, comp])]
  have k1 := v_cat A [.tuple [.int p.1, .int (q.2 - 1)]] (by show _ + 1 ≤ _; omega)
  have k2 := v_cat (A ++ [.tuple [.int p.1, .int (q.2 - 1)]]) (C.map dnP) (by rw [List.length_append, List.length_map]; show _ + 1 + _ ≤ _; omega)
  unfold s_next_intervals_5
  generalize C.map dnP = D at *
  simp only [v_bind, v_ok, v_none, v_pure, v_lift, v_liftN, v_con, v_get, v_gkd, v_gko, v_gkc, v_vwd, v_vws, v_ok1, v_ownD, v_dctD, v_dk1, v_setOwn, v_putM, v_op2, v_op1, v_anil, v_acons, v_vws0, v_vwsC, v_cb, v_tupD, v_lstD, v_lstW, v_listW, v_dds0, v_ddsC, v_asB, v_tb1, v_andT, v_orT, v_notT, v_andV, v_orV, v_notV, v_ofB, v_ifE, v_pl, v_toW, v_fz, v_ofWd, v_ofWo, v_nxt, v_thenS, v_exprS, v_retS, v_retN, v_ifS, v_setS, v_parS, v_setIx, v_asD, v_asI, v_mthE, v_callA, v_callB, v_forS, v_argI, v_seqI, v_slD, v_poN, v_poS, v_isiE, v_isiE2, v_isNE, v_dnew, v_dinT, v_dputS, v_sortDct, v_rgE, v_rg2, v_unS, v_catW, v_chainE, v_add, v_sub, v_lt, v_le, v_gt, v_ge, v_eqI, v_eqB, v_eqS, v_ixL, v_ixT, v_lenL, v_lenT, v_abs, v_intI, v_intB, v_min, v_max, v_chk, sz, c1, k1, k2]
  simp [v_bind, v_ok, v_none, v_pure, v_lift, v_liftN, v_con, v_get, v_gkd, v_gko, v_gkc, v_vwd, v_vws, v_ok1, v_ownD, v_dctD, v_dk1, v_setOwn, v_putM, v_op2, v_op1, v_anil, v_acons, v_vws0, v_vwsC, v_cb, v_tupD, v_lstD, v_lstW, v_listW, v_dds0, v_ddsC, v_asB, v_tb1, v_andT, v_orT, v_notT, v_andV, v_orV, v_notV, v_ofB, v_ifE, v_pl, v_toW, v_fz, v_ofWd, v_ofWo, v_nxt, v_thenS, v_exprS, v_retS, v_retN, v_ifS, v_setS, v_parS, v_setIx, v_asD, v_asI, v_mthE, v_callA, v_callB, v_forS, v_argI, v_seqI, v_slD, v_poN, v_poS, v_isiE, v_isiE2, v_isNE, v_dnew, v_dinT, v_dputS, v_sortDct, v_rgE, v_rg2, v_unS, v_catW, v_chainE, v_add, v_sub, v_lt, v_le, v_gt, v_ge, v_eqI, v_eqB, v_eqS, v_ixL, v_ixT, v_lenL, v_lenT, v_abs, v_intI, v_intB, v_min, v_max, v_chk, sz, c1, k1, k2]
end Ov
set_option Elab.async false
set_option linter.all false
set_option maxRecDepth 100000
set_option maxHeartbeats 4000000
namespace Ov
open PySem L2
theorem tup_of {F : M Wv} {env e : En} {C : List PyData} (h : F env = some (.ok (.own (dats C)) e)) : cb tupleD (acons (fz F) anil) env = some (.ok (.dat (.tuple C)) e) := by
  rw [v_cb, v_acons, v_fz, h, v_ok, v_ofWo, v_lift, v_ok, v_bind, v_anil, v_ok, v_pure, v_ok, v_bind, v_vwsC, v_vwd, v_ok, v_bind, v_vws0, v_ok, v_pure, v_ok, v_bind]
  show cont (lift (some (PyData.tuple C)) e) _ = _
  rw [v_lift, v_ok, v_pure]
theorem mks_vd : ∀ {S ms : List Int}, S.Pairwise (· < ·) → ms.Perm S → Vd S.length (S.map (mk ms))
  | [], ms, _, p => trivial
  | h :: S, ms, pw, p => by
    obtain ⟨lo, pw'⟩ := List.pairwise_cons.mp pw
    have hin : h ∈ ms := p.symm.subset (List.mem_cons_self ..)
    obtain ⟨l1, l2, e1, e2, _⟩ := List.exists_erase_eq hin
    subst e2
    have p' : (l1 ++ l2).Perm S := (List.perm_middle.symm.trans p).cons_inv
    have lo' : ∀ x ∈ l1 ++ l2, h < x := fun x hx => lo x (p'.subset hx)
    have em : S.map (mk (l1 ++ h :: l2)) = S.map (mk (l1 ++ l2)) := List.map_congr_left fun k hk => mk_up (lo k hk)
    have hl := p'.length_eq
    rw [List.length_append] at hl
    rw [List.map_cons, mk_low e1 lo', em, List.length_cons]
    refine ⟨by omega, by omega, ?_⟩
    rw [show ((S.length + 1 : Nat) : Int) - 1 = S.length by omega]
    exact mks_vd pw' p'
theorem mks_len (ms : List Int) : (mks ms).length = ms.length := by unfold mks; rw [List.length_map, (sortI_perm ms).length_eq]
theorem vd_row {ms : List Int} (nd : ms.Nodup) : Vd ms.length (mks ms) := by
  have := mks_vd (sortI_lt nd) (sortI_perm ms).symm
  rw [(sortI_perm ms).length_eq] at this
  exact this
/-- the runs of a row -/
def RNS (ms : List Int) : List Iv := rns (fiv ms.length) (mks ms)
theorem RNS_len (ms : List Int) : (RNS ms).length = ms.length := by unfold RNS; rw [rns_len, mks_len]
def lsD (l : List (List Iv)) : List PyData := l.map fun iv => .list (ivD iv)
theorem lists_for {d : PyData} : ∀ (cs : List Int) {iv : List Iv} {m : Int} {acc : List PyData} {w3 : Option Wv}, (cs ≠ [] → Pt 0 m iv) → m = cs.length → Vd m cs → iv.length + cs.length ≤ 500 → acc.length + cs.length ≤ 500 →
    ∃ u2 u3, forM (gN 3) b_run_lists_2 (cs.map .int) [some (.dat d), some (.own (dats acc)), some (.dat (.list (ivD iv))), w3] = some (.ok .nx [some (.dat d), some (.own (dats (acc ++ lsD (ivs iv cs)))), u2, u3])
  | [], iv, m, acc, w3, _, _, _, _, _ => ⟨_, _, by rw [show lsD (ivs iv []) = [] from rfl, List.append_nil]; exact for_nil⟩
  | c :: cs, iv, m, acc, w3, hp, hm, v, hl, ha => by
    have P := hp (by simp)
    obtain ⟨q, e1, _⟩ := rix_at P v.1 v.2.1
    have nk := next_ok (iv := iv) (c := c) (by rw [List.length_cons] at hl; omega) (lt_of_get e1)
    have ap := v_app acc (.list (ivD iv)) (by rw [List.length_cons] at ha; omega)
    rw [List.length_cons] at hm hl ha
    obtain ⟨u2, u3, e⟩ := lists_for cs (iv := nx iv (rix iv c)) (m := m - 1) (acc := acc ++ [.list (ivD iv)]) (w3 := some (.dat (.int c))) (fun z => nx_pt P (by have : cs.length ≠ 0 := fun y => z (List.length_eq_zero_iff.mp y); omega) (lt_of_get e1)) (by omega) v.2.2 (by have := nx_len (iv := iv) (a := rix iv c); omega) (by rw [List.length_append]; show acc.length + 1 + _ ≤ _; omega)
    refine ⟨u2, u3, (for_go (e := [some (.dat d), some (.own (dats acc)), some (.dat (.list (ivD iv))), some (.dat (.int c))]) rfl ?_).trans (e.trans (by rw [List.append_assoc]; rfl))⟩
    unfold b_run_lists_2
    generalize ivD iv = L at *
    generalize ivD (nx iv (rix iv c)) = L' at *
    simp [v_bind, v_ok, v_none, v_pure, v_lift, v_liftN, v_con, v_get, v_gkd, v_gko, v_gkc, v_vwd, v_vws, v_ok1, v_ownD, v_dctD, v_dk1, v_setOwn, v_putM, v_op2, v_op1, v_anil, v_acons, v_vws0, v_vwsC, v_cb, v_tupD, v_lstD, v_lstW, v_listW, v_dds0, v_ddsC, v_asB, v_tb1, v_andT, v_orT, v_notT, v_andV, v_orV, v_notV, v_ofB, v_ifE, v_pl, v_toW, v_fz, v_ofWd, v_ofWo, v_nxt, v_thenS, v_exprS, v_retS, v_retN, v_ifS, v_setS, v_parS, v_setIx, v_asD, v_asI, v_mthE, v_callA, v_callB, v_forS, v_argI, v_seqI, v_slD, v_poN, v_poS, v_isiE, v_isiE2, v_isNE, v_dnew, v_dinT, v_dputS, v_sortDct, v_rgE, v_rg2, v_unS, v_catW, v_chainE, v_add, v_sub, v_lt, v_le, v_gt, v_ge, v_eqI, v_eqB, v_eqS, v_ixL, v_ixT, v_lenL, v_lenT, v_abs, v_intI, v_intB, v_min, v_max, v_chk, ap, nk]
theorem len_sq {d : PyData} {ms : List Int} (h : isSq d ms) : lenD [d] = some (.int ms.length) := by rcases h with rfl | rfl <;> simp [lenD, seqD]
theorem lists_ok {d : PyData} {ms : List Int} (hd : isSq d ms) (hl : ms.length ≤ 100) (nd : ms.Nodup) : F_run_lists [d] = some (.own (dats (lsD (ivs (fiv ms.length) (mks ms))))) := by
  have ln := len_sq hd
  have fo := first_ok (n := ms.length) (by omega)
  have co := codes_ok hd (by omega)
  have fl : (fiv ms.length).length = ms.length := by unfold fiv; simp
  obtain ⟨u2, u3, e⟩ := lists_for (d := d) (mks ms) (iv := fiv ms.length) (m := ms.length) (acc := []) (w3 := none) (fun _ => fiv_pt _) (by rw [mks_len]) (vd_row nd) (by rw [mks_len, fl]; omega) (by rw [mks_len]; show 0 + _ ≤ _; omega)
  rw [List.nil_append] at e
  generalize lsD (ivs (fiv ms.length) (mks ms)) = R at *
  generalize (mks ms).map PyData.int = C at *
  generalize ivD (fiv ms.length) = I at *
  generalize (ms.length : Int) = N at *
  refine runA_eq rfl ⟨[some (.dat d), none, u2, u3], ?_⟩
  show f_run_lists [some (.dat d), none, none, none] = _
  unfold f_run_lists
  rw [then_nx (e := [some (.dat d), some (.own (dats [])), none, none]) (by unfold s_run_lists_0; simp [v_bind, v_ok, v_none, v_pure, v_lift, v_liftN, v_con, v_get, v_gkd, v_gko, v_gkc, v_vwd, v_vws, v_ok1, v_ownD, v_dctD, v_dk1, v_setOwn, v_putM, v_op2, v_op1, v_anil, v_acons, v_vws0, v_vwsC, v_cb, v_tupD, v_lstD, v_lstW, v_listW, v_dds0, v_ddsC, v_asB, v_tb1, v_andT, v_orT, v_notT, v_andV, v_orV, v_notV, v_ofB, v_ifE, v_pl, v_toW, v_fz, v_ofWd, v_ofWo, v_nxt, v_thenS, v_exprS, v_retS, v_retN, v_ifS, v_setS, v_parS, v_setIx, v_asD, v_asI, v_mthE, v_callA, v_callB, v_forS, v_argI, v_seqI, v_slD, v_poN, v_poS, v_isiE, v_isiE2, v_isNE, v_dnew, v_dinT, v_dputS, v_sortDct, v_rgE, v_rg2, v_unS, v_catW, v_chainE, v_add, v_sub, v_lt, v_le, v_gt, v_ge, v_eqI, v_eqB, v_eqS, v_ixL, v_ixT, v_lenL, v_lenT, v_abs, v_intI, v_intB, v_min, v_max, v_chk, sz])]
  rw [then_nx (e := [some (.dat d), some (.own (dats [])), some (.dat (.list I)), none]) (by unfold s_run_lists_1; simp [v_bind, v_ok, v_none, v_pure, v_lift, v_liftN, v_con, v_get, v_gkd, v_gko, v_gkc, v_vwd, v_vws, v_ok1, v_ownD, v_dctD, v_dk1, v_setOwn, v_putM, v_op2, v_op1, v_anil, v_acons, v_vws0, v_vwsC, v_cb, v_tupD, v_lstD, v_lstW, v_listW, v_dds0, v_ddsC, v_asB, v_tb1, v_andT, v_orT, v_notT, v_andV, v_orV, v_notV, v_ofB, v_ifE, v_pl, v_toW, v_fz, v_ofWd, v_ofWo, v_nxt, v_thenS, v_exprS, v_retS, v_retN, v_ifS, v_setS, v_parS, v_setIx, v_asD, v_asI, v_mthE, v_callA, v_callB, v_forS, v_argI, v_seqI, v_slD, v_poN, v_poS, v_isiE, v_isiE2, v_isNE, v_dnew, v_dinT, v_dputS, v_sortDct, v_rgE, v_rg2, v_unS, v_catW, v_chainE, v_add, v_sub, v_lt, v_le, v_gt, v_ge, v_eqI, v_eqB, v_eqS, v_ixL, v_ixT, v_abs, v_intI, v_intB, v_min, v_max, v_chk, ln, fo])]
  rw [then_nx (e := [some (.dat d), some (.own (dats R)), u2, u3]) (by
    unfold s_run_lists_2
    simp only [v_bind, v_ok, v_none, v_pure, v_lift, v_liftN, v_con, v_get, v_gkd, v_gko, v_gkc, v_vwd, v_vws, v_ok1, v_ownD, v_dctD, v_dk1, v_setOwn, v_putM, v_op2, v_op1, v_anil, v_acons, v_vws0, v_vwsC, v_cb, v_tupD, v_lstD, v_lstW, v_listW, v_dds0, v_ddsC, v_asB, v_tb1, v_andT, v_orT, v_notT, v_andV, v_orV, v_notV, v_ofB, v_ifE, v_pl, v_toW, v_fz, v_ofWd, v_ofWo, v_nxt, v_thenS, v_exprS, v_retS, v_retN, v_ifS, v_setS, v_parS, v_setIx, v_asD, v_asI, v_mthE, v_callA, v_callB, v_forS, v_argI, v_seqI, v_slD, v_poN, v_poS, v_isiE, v_isiE2, v_isNE, v_dnew, v_dinT, v_dputS, v_sortDct, v_rgE, v_rg2, v_unS, v_catW, v_chainE, v_add, v_sub, v_lt, v_le, v_gt, v_ge, v_eqI, v_eqB, v_eqS, v_ixL, v_ixT, v_lenL, v_lenT, v_abs, v_intI, v_intB, v_min, v_max, v_chk, List.getElem?_cons_zero, Option.map_some, co, seqD]
    exact e)]
  unfold s_run_lists_3
  rw [v_moveS 1 (dats R) rfl]
  rfl
theorem runs_comp {d : PyData} : ∀ (cs : List Int) {iv : List Iv} {m : Int} {acc : List PyData}, (cs ≠ [] → Pt 0 m iv) → m = cs.length → Vd m cs → iv.length + cs.length ≤ 500 → acc.length + cs.length ≤ 500 →
    compM (gT (gsC (gN 1) (gsC (gN 2) gsN))) yesT (op2 ixD (get 1) (fz (callA F_run_index (acons (get 1) (acons (get 2) anil))))) [1, 2] (pairUp (lsD (ivs iv cs)) (cs.map .int)) acc [some (.dat d), none, none] = some (.ok (acc ++ ivD (rns iv cs)) [some (.dat d), none, none])
  | [], iv, m, acc, _, _, _, _, _ => by
    show some _ = some _
    rw [show ivD (rns iv []) = [] from rfl, List.append_nil]
  | c :: cs, iv, m, acc, hp, hm, v, hl, ha => by
    have P := hp (by simp)
    obtain ⟨q, e1, _⟩ := rix_at P v.1 v.2.1
    rw [List.length_cons] at hm hl ha
    have ix := index_ok (iv := iv) (c := c) (by omega)
    have ia := iv_at e1
    have e := runs_comp (d := d) cs (iv := nx iv (rix iv c)) (m := m - 1) (acc := acc ++ [pD q]) (fun z => nx_pt P (by have : cs.length ≠ 0 := fun y => z (List.length_eq_zero_iff.mp y); omega) (lt_of_get e1)) (by omega) v.2.2 (by have := nx_len (iv := iv) (a := rix iv c); omega) (by rw [List.length_append]; show acc.length + 1 + _ ≤ _; omega)
    rw [rns_cons (cs := cs) e1]
    show compM _ _ _ _ (.tuple [.list (ivD iv), .int c] :: pairUp (lsD (ivs (nx iv (rix iv c)) cs)) (cs.map .int)) acc _ = _
    rw [comp_yes (e := [some (.dat d), some (.dat (.list (ivD iv))), some (.dat (.int c))]) (e2 := [some (.dat d), some (.dat (.list (ivD iv))), some (.dat (.int c))]) (e3 := [some (.dat d), some (.dat (.list (ivD iv))), some (.dat (.int c))]) (y := pD q) rfl rfl (by
      generalize ivD iv = L at *
      simp [v_bind, v_ok, v_none, v_pure, v_lift, v_liftN, v_con, v_get, v_gkd, v_gko, v_gkc, v_vwd, v_vws, v_ok1, v_ownD, v_dctD, v_dk1, v_setOwn, v_putM, v_op2, v_op1, v_anil, v_acons, v_vws0, v_vwsC, v_cb, v_tupD, v_lstD, v_lstW, v_listW, v_dds0, v_ddsC, v_asB, v_tb1, v_andT, v_orT, v_notT, v_andV, v_orV, v_notV, v_ofB, v_ifE, v_pl, v_toW, v_fz, v_ofWd, v_ofWo, v_nxt, v_thenS, v_exprS, v_retS, v_retN, v_ifS, v_setS, v_parS, v_setIx, v_asD, v_asI, v_mthE, v_callA, v_callB, v_forS, v_argI, v_seqI, v_slD, v_poN, v_poS, v_isiE, v_isiE2, v_isNE, v_dnew, v_dinT, v_dputS, v_sortDct, v_rgE, v_rg2, v_unS, v_catW, v_chainE, v_add, v_sub, v_lt, v_le, v_gt, v_ge, v_eqI, v_eqB, v_eqS, v_ixL, v_ixT, v_lenL, v_lenT, v_abs, v_intI, v_intB, v_min, v_max, v_chk, ix, ia]) rfl (by omega)]
    refine e.trans ?_
    rw [List.append_assoc]
    rfl
theorem runs_ok {d : PyData} {ms : List Int} (hd : isSq d ms) (hl : ms.length ≤ 100) (nd : ms.Nodup) : F_runs [d] = some (.dat (.tuple (ivD (RNS ms)))) := by
  have co := codes_ok hd (by omega)
  have ls := lists_ok hd hl nd
  have fl : (fiv ms.length).length = ms.length := by unfold fiv; simp
  have e := runs_comp (d := d) (mks ms) (iv := fiv ms.length) (m := ms.length) (acc := []) (fun _ => fiv_pt _) (by rw [mks_len]) (vd_row nd) (by rw [mks_len, fl]; omega) (by rw [mks_len]; show 0 + _ ≤ _; omega)
  rw [List.nil_append, show rns (fiv ms.length) (mks ms) = RNS ms from rfl] at e
  have comp : lcW (argI zipM (acons (fz (callA F_run_lists (acons (get 0) anil))) (acons (fz (callA F_codes (acons (get 0) anil))) anil))) (gT (gsC (gN 1) (gsC (gN 2) gsN))) yesT (op2 ixD (get 1) (fz (callA F_run_index (acons (get 1) (acons (get 2) anil))))) [1, 2] [some (.dat d), none, none] = some (.ok (.own (dats (ivD (RNS ms)))) [some (.dat d), none, none]) := by
    refine lc_eq (e := [some (.dat d), none, none]) (e2 := [some (.dat d), none, none]) ?_ rfl rfl e
    generalize lsD (ivs (fiv ms.length) (mks ms)) = A at *
    generalize (mks ms).map PyData.int = C at *
    have zz : zipM [.list A, .tuple C] = some (pairUp A C) := rfl
    simp [v_bind, v_ok, v_none, v_pure, v_lift, v_liftN, v_con, v_get, v_gkd, v_gko, v_gkc, v_vwd, v_vws, v_ok1, v_ownD, v_dctD, v_dk1, v_setOwn, v_putM, v_op2, v_op1, v_anil, v_acons, v_vws0, v_vwsC, v_cb, v_tupD, v_lstD, v_lstW, v_listW, v_dds0, v_ddsC, v_asB, v_tb1, v_andT, v_orT, v_notT, v_andV, v_orV, v_notV, v_ofB, v_ifE, v_pl, v_toW, v_fz, v_ofWd, v_ofWo, v_nxt, v_thenS, v_exprS, v_retS, v_retN, v_ifS, v_setS, v_parS, v_setIx, v_asD, v_asI, v_mthE, v_callA, v_callB, v_forS, v_argI, v_seqI, v_slD, v_poN, v_poS, v_isiE, v_isiE2, v_isNE, v_dnew, v_dinT, v_dputS, v_sortDct, v_rgE, v_rg2, v_unS, v_catW, v_chainE, v_add, v_sub, v_lt, v_le, v_gt, v_ge, v_eqI, v_eqB, v_eqS, v_ixL, v_ixT, v_lenL, v_lenT, v_abs, v_intI, v_intB, v_min, v_max, v_chk, co, ls, zz]
  refine runA_eq rfl ⟨[some (.dat d), none, none], ?_⟩
  show f_runs [some (.dat d), none, none] = _
  unfold f_runs
  generalize ivD (RNS ms) = R at *
  have t := tup_of comp
  generalize cb tupleD (acons (fz (lcW (argI zipM (acons (fz (callA F_run_lists (acons (get 0) anil))) (acons (fz (callA F_codes (acons (get 0) anil))) anil))) (gT (gsC (gN 1) (gsC (gN 2) gsN))) yesT (op2 ixD (get 1) (fz (callA F_run_index (acons (get 1) (acons (get 2) anil))))) [1, 2])) anil) = F at t ⊢
  simp [v_bind, v_ok, v_none, v_pure, v_lift, v_liftN, v_con, v_get, v_gkd, v_gko, v_gkc, v_vwd, v_vws, v_ok1, v_ownD, v_dctD, v_dk1, v_setOwn, v_putM, v_op2, v_op1, v_anil, v_acons, v_vws0, v_vwsC, v_cb, v_tupD, v_lstD, v_lstW, v_listW, v_dds0, v_ddsC, v_asB, v_tb1, v_andT, v_orT, v_notT, v_andV, v_orV, v_notV, v_ofB, v_ifE, v_pl, v_toW, v_fz, v_ofWd, v_ofWo, v_nxt, v_thenS, v_exprS, v_retS, v_retN, v_ifS, v_setS, v_parS, v_setIx, v_asD, v_asI, v_mthE, v_callA, v_callB, v_forS, v_argI, v_seqI, v_slD, v_poN, v_poS, v_isiE, v_isiE2, v_isNE, v_dnew, v_dinT, v_dputS, v_sortDct, v_rgE, v_rg2, v_unS, v_catW, v_chainE, v_add, v_sub, v_lt, v_le, v_gt, v_ge, v_eqI, v_eqB, v_eqS, v_ixL, v_ixT, v_lenL, v_lenT, v_abs, v_intI, v_intB, v_min, v_max, v_chk, t]
/-! the bar -/
theorem shp_pD (p : Iv) : shp (pD p) = true := shp_tup [p.1, p.2]
theorem eqv_pD (p q : Iv) : PyData.eqv (pD p) (pD q) = decide (p = q) := by
  have h := eqv_ints [p.1, p.2] [q.1, q.2]
  have e : PyData.eqv (pD p) (pD q) = PyData.eqv (dInts [p.1, p.2]) (dInts [q.1, q.2]) := by simp [pD, dInts, PyData.eqv]
  rw [e, h]
  obtain ⟨a, b⟩ := p
  obtain ⟨c, d⟩ := q
  rw [Bool.eq_iff_iff]
  simp
theorem ne_pD (p q : Iv) : eqvD true (pD p) (pD q) = some (.bool (!decide (p = q))) := by
  unfold eqvD
  rw [shp_pD, shp_pD, eqv_pD, Bool.true_xor]
  rfl
theorem runA_nx {np n : Nat} {fb : M Fl} {ds : List PyData} {e : En} (hl : ds.length = np) (h : fb (env0 ds (n - ds.length)) = some (.ok .nx e)) : runA np n fb ds = some (.dat .none) := by
  unfold runA
  rw [if_pos hl, h]
theorem ne_self (l : List Int) : eqvD true (.list (l.map .int)) (.list (l.map .int)) = some (.bool false) := by
  unfold eqvD
  rw [shp_list]
  have : PyData.eqv (.list (l.map .int)) (.list (l.map .int)) = true := by
    have := eqv_ints l l
    rw [decide_eq_true rfl] at this
    exact this
  rw [this]
  rfl
theorem check_ok {d e : PyData} {ms ns : List Int} (hd : isSq d ms) (he : isSq e ns) (p : ns.Perm ms) : F_check_same_people [d, e] = some (.dat .none) := by
  have s1 := sort_ok hd
  have s2 := sort_ok he
  rw [sort_perm p] at s2
  have ne := ne_self (sortI ms)
  generalize (sortI ms).map PyData.int = L at *
  refine runA_nx (e := [some (.dat d), some (.dat e)]) rfl ?_
  show f_check_same_people [some (.dat d), some (.dat e)] = _
  unfold f_check_same_people
  simp [v_bind, v_ok, v_none, v_pure, v_lift, v_liftN, v_con, v_get, v_gkd, v_gko, v_gkc, v_vwd, v_vws, v_ok1, v_ownD, v_dctD, v_dk1, v_setOwn, v_putM, v_op2, v_op1, v_anil, v_acons, v_vws0, v_vwsC, v_cb, v_tupD, v_lstD, v_lstW, v_listW, v_dds0, v_ddsC, v_asB, v_tb1, v_andT, v_orT, v_notT, v_andV, v_orV, v_notV, v_ofB, v_ifE, v_pl, v_toW, v_fz, v_ofWd, v_ofWo, v_nxt, v_thenS, v_exprS, v_retS, v_retN, v_ifS, v_setS, v_parS, v_setIx, v_asD, v_asI, v_mthE, v_callA, v_callB, v_forS, v_argI, v_seqI, v_slD, v_poN, v_poS, v_isiE, v_isiE2, v_isNE, v_dnew, v_dinT, v_dputS, v_sortDct, v_rgE, v_rg2, v_unS, v_catW, v_chainE, v_add, v_sub, v_lt, v_le, v_gt, v_ge, v_eqI, v_eqB, v_eqS, v_ixL, v_ixT, v_lenL, v_lenT, v_abs, v_intI, v_intB, v_min, v_max, v_chk, s1, s2, ne]
theorem bar_same {d e : PyData} : ∀ {S : List Int} {A : List Iv} {w2 w3 w4 : Option Wv}, S.length = A.length → ∃ u2 u3 u4, forM (gT (gsC (gN 2) (gsC (gN 3) (gsC (gN 4) gsN)))) b_bar_1 (tripUp (S.map .int) (ivD A) (ivD A)) [some (.dat d), some (.dat e), w2, w3, w4] = some (.ok .nx [some (.dat d), some (.dat e), u2, u3, u4])
  | [], A, w2, w3, w4, _ => ⟨w2, w3, w4, for_nil⟩
  | h :: S, [], _, _, _, hl => by cases hl
  | h :: S, p :: A, w2, w3, w4, hl => by
    obtain ⟨u2, u3, u4, r⟩ := bar_same (d := d) (e := e) (S := S) (A := A) (w2 := some (.dat (.int h))) (w3 := some (.dat (pD p))) (w4 := some (.dat (pD p))) (by simpa using hl)
    refine ⟨u2, u3, u4, (for_go (e := [some (.dat d), some (.dat e), some (.dat (.int h)), some (.dat (pD p)), some (.dat (pD p))]) rfl ?_).trans r⟩
    have n := ne_pD p p
    rw [decide_eq_true rfl] at n
    unfold b_bar_1
    generalize pD p = x at *
    simp [v_bind, v_ok, v_none, v_pure, v_lift, v_liftN, v_con, v_get, v_gkd, v_gko, v_gkc, v_vwd, v_vws, v_ok1, v_ownD, v_dctD, v_dk1, v_setOwn, v_putM, v_op2, v_op1, v_anil, v_acons, v_vws0, v_vwsC, v_cb, v_tupD, v_lstD, v_lstW, v_listW, v_dds0, v_ddsC, v_asB, v_tb1, v_andT, v_orT, v_notT, v_andV, v_orV, v_notV, v_ofB, v_ifE, v_pl, v_toW, v_fz, v_ofWd, v_ofWo, v_nxt, v_thenS, v_exprS, v_retS, v_retN, v_ifS, v_setS, v_parS, v_setIx, v_asD, v_asI, v_mthE, v_callA, v_callB, v_forS, v_argI, v_seqI, v_slD, v_poN, v_poS, v_isiE, v_isiE2, v_isNE, v_dnew, v_dinT, v_dputS, v_sortDct, v_rgE, v_rg2, v_unS, v_catW, v_chainE, v_add, v_sub, v_lt, v_le, v_gt, v_ge, v_eqI, v_eqB, v_eqS, v_ixL, v_ixT, v_lenL, v_lenT, v_abs, v_intI, v_intB, v_min, v_max, v_chk, n]
theorem bar_diff {d e : PyData} : ∀ {k : Nat} {S : List Int} {A B : List Iv} {h : Int} {w2 w3 w4 : Option Wv}, S.length = A.length → B.length = A.length → A.take k = B.take k → A[k]? ≠ B[k]? → S[k]? = some h →
    ∃ u2 u3 u4, forM (gT (gsC (gN 2) (gsC (gN 3) (gsC (gN 4) gsN)))) b_bar_1 (tripUp (S.map .int) (ivD A) (ivD B)) [some (.dat d), some (.dat e), w2, w3, w4] = some (.ok (.rt (.dat (.int h))) [some (.dat d), some (.dat e), u2, u3, u4])
  | k, [], A, B, h, _, _, _, _, _, _, _, hS => by simp at hS
  | k, x :: S, [], B, h, _, _, _, hl, _, _, _, _ => by cases hl
  | k, x :: S, p :: A, [], h, _, _, _, _, hl, _, _, _ => by cases hl
  | 0, x :: S, p :: A, q :: B, h, w2, w3, w4, hl, hl2, ht, hne, hS => by
    have : x = h := by simpa using hS
    subst this
    have ne : ¬ p = q := fun z => hne (by rw [z]; rfl)
    refine ⟨_, _, _, for_rt (e := [some (.dat d), some (.dat e), some (.dat (.int x)), some (.dat (pD p)), some (.dat (pD q))]) (e2 := [some (.dat d), some (.dat e), some (.dat (.int x)), some (.dat (pD p)), some (.dat (pD q))]) rfl ?_⟩
    have n := ne_pD p q
    rw [decide_eq_false ne] at n
    unfold b_bar_1
    generalize pD p = x at *
    generalize pD q = y at *
    simp [v_bind, v_ok, v_none, v_pure, v_lift, v_liftN, v_con, v_get, v_gkd, v_gko, v_gkc, v_vwd, v_vws, v_ok1, v_ownD, v_dctD, v_dk1, v_setOwn, v_putM, v_op2, v_op1, v_anil, v_acons, v_vws0, v_vwsC, v_cb, v_tupD, v_lstD, v_lstW, v_listW, v_dds0, v_ddsC, v_asB, v_tb1, v_andT, v_orT, v_notT, v_andV, v_orV, v_notV, v_ofB, v_ifE, v_pl, v_toW, v_fz, v_ofWd, v_ofWo, v_nxt, v_thenS, v_exprS, v_retS, v_retN, v_ifS, v_setS, v_parS, v_setIx, v_asD, v_asI, v_mthE, v_callA, v_callB, v_forS, v_argI, v_seqI, v_slD, v_poN, v_poS, v_isiE, v_isiE2, v_isNE, v_dnew, v_dinT, v_dputS, v_sortDct, v_rgE, v_rg2, v_unS, v_catW, v_chainE, v_add, v_sub, v_lt, v_le, v_gt, v_ge, v_eqI, v_eqB, v_eqS, v_ixL, v_ixT, v_lenL, v_lenT, v_abs, v_intI, v_intB, v_min, v_max, v_chk, n]
  | k + 1, x :: S, p :: A, q :: B, h, w2, w3, w4, hl, hl2, ht, hne, hS => by
    have ht : p :: A.take k = q :: B.take k := ht
    injection ht with e1 e2
    subst e1
    obtain ⟨u2, u3, u4, r⟩ := bar_diff (d := d) (e := e) (k := k) (S := S) (A := A) (B := B) (h := h) (w2 := some (.dat (.int x))) (w3 := some (.dat (pD p))) (w4 := some (.dat (pD p))) (by simpa using hl) (by simpa using hl2) e2 (by simpa using hne) (by simpa using hS)
    refine ⟨u2, u3, u4, (for_go (e := [some (.dat d), some (.dat e), some (.dat (.int x)), some (.dat (pD p)), some (.dat (pD p))]) rfl ?_).trans r⟩
    have n := ne_pD p p
    rw [decide_eq_true rfl] at n
    unfold b_bar_1
    generalize pD p = x at *
    simp [v_bind, v_ok, v_none, v_pure, v_lift, v_liftN, v_con, v_get, v_gkd, v_gko, v_gkc, v_vwd, v_vws, v_ok1, v_ownD, v_dctD, v_dk1, v_setOwn, v_putM, v_op2, v_op1, v_anil, v_acons, v_vws0, v_vwsC, v_cb, v_tupD, v_lstD, v_lstW, v_listW, v_dds0, v_ddsC, v_asB, v_tb1, v_andT, v_orT, v_notT, v_andV, v_orV, v_notV, v_ofB, v_ifE, v_pl, v_toW, v_fz, v_ofWd, v_ofWo, v_nxt, v_thenS, v_exprS, v_retS, v_retN, v_ifS, v_setS, v_parS, v_setIx, v_asD, v_asI, v_mthE, v_callA, v_callB, v_forS, v_argI, v_seqI, v_slD, v_poN, v_poS, v_isiE, v_isiE2, v_isNE, v_dnew, v_dinT, v_dputS, v_sortDct, v_rgE, v_rg2, v_unS, v_catW, v_chainE, v_add, v_sub, v_lt, v_le, v_gt, v_ge, v_eqI, v_eqB, v_eqS, v_ixL, v_ixT, v_lenL, v_lenT, v_abs, v_intI, v_intB, v_min, v_max, v_chk, n]
theorem bar_go {d e : PyData} {ms ns : List Int} (hd : isSq d ms) (he : isSq e ns) (p : ns.Perm ms) (hl : ms.length ≤ 100) (nd : ms.Nodup) : s_bar_0 [some (.dat d), some (.dat e), none, none, none] = some (.ok .nx [some (.dat d), some (.dat e), none, none, none]) ∧
    s_bar_1 [some (.dat d), some (.dat e), none, none, none] = forM (gT (gsC (gN 2) (gsC (gN 3) (gsC (gN 4) gsN)))) b_bar_1 (tripUp ((sortI ms).map .int) (ivD (RNS ms)) (ivD (RNS ns))) [some (.dat d), some (.dat e), none, none, none] := by
  have ck := check_ok hd he p
  have so := sort_ok hd
  have r1 := runs_ok hd hl nd
  have r2 := runs_ok he (by rw [p.length_eq]; exact hl) (p.nodup_iff.mpr nd)
  generalize (sortI ms).map PyData.int = S at *
  generalize ivD (RNS ms) = A at *
  generalize ivD (RNS ns) = B at *
  have zz : zip3M [.list S, .tuple A, .tuple B] = some (tripUp S A B) := rfl
  constructor
  · unfold s_bar_0
    simp [v_bind, v_ok, v_none, v_pure, v_lift, v_liftN, v_con, v_get, v_gkd, v_gko, v_gkc, v_vwd, v_vws, v_ok1, v_ownD, v_dctD, v_dk1, v_setOwn, v_putM, v_op2, v_op1, v_anil, v_acons, v_vws0, v_vwsC, v_cb, v_tupD, v_lstD, v_lstW, v_listW, v_dds0, v_ddsC, v_asB, v_tb1, v_andT, v_orT, v_notT, v_andV, v_orV, v_notV, v_ofB, v_ifE, v_pl, v_toW, v_fz, v_ofWd, v_ofWo, v_nxt, v_thenS, v_exprS, v_retS, v_retN, v_ifS, v_setS, v_parS, v_setIx, v_asD, v_asI, v_mthE, v_callA, v_callB, v_forS, v_argI, v_seqI, v_slD, v_poN, v_poS, v_isiE, v_isiE2, v_isNE, v_dnew, v_dinT, v_dputS, v_sortDct, v_rgE, v_rg2, v_unS, v_catW, v_chainE, v_add, v_sub, v_lt, v_le, v_gt, v_ge, v_eqI, v_eqB, v_eqS, v_ixL, v_ixT, v_lenL, v_lenT, v_abs, v_intI, v_intB, v_min, v_max, v_chk, ck]
  · unfold s_bar_1
    simp only [v_bind, v_ok, v_none, v_pure, v_lift, v_liftN, v_con, v_get, v_gkd, v_gko, v_gkc, v_vwd, v_vws, v_ok1, v_ownD, v_dctD, v_dk1, v_setOwn, v_putM, v_op2, v_op1, v_anil, v_acons, v_vws0, v_vwsC, v_cb, v_tupD, v_lstD, v_lstW, v_listW, v_dds0, v_ddsC, v_asB, v_tb1, v_andT, v_orT, v_notT, v_andV, v_orV, v_notV, v_ofB, v_ifE, v_pl, v_toW, v_fz, v_ofWd, v_ofWo, v_nxt, v_thenS, v_exprS, v_retS, v_retN, v_ifS, v_setS, v_parS, v_setIx, v_asD, v_asI, v_mthE, v_callA, v_callB, v_forS, v_argI, v_seqI, v_slD, v_poN, v_poS, v_isiE, v_isiE2, v_isNE, v_dnew, v_dinT, v_dputS, v_sortDct, v_rgE, v_rg2, v_unS, v_catW, v_chainE, v_add, v_sub, v_lt, v_le, v_gt, v_ge, v_eqI, v_eqB, v_eqS, v_ixL, v_ixT, v_lenL, v_lenT, v_abs, v_intI, v_intB, v_min, v_max, v_chk, List.getElem?_cons_zero, List.getElem?_cons_succ, Option.map_some, so, r1, r2, zz]
theorem bar_none {d e : PyData} {ms ns : List Int} (hd : isSq d ms) (he : isSq e ns) (p : ns.Perm ms) (hl : ms.length ≤ 100) (nd : ms.Nodup) (hr : RNS ns = RNS ms) : F_bar [d, e] = some (.dat .none) := by
  obtain ⟨g1, g2⟩ := bar_go hd he p hl nd
  rw [hr] at g2
  obtain ⟨u2, u3, u4, r⟩ := bar_same (d := d) (e := e) (S := sortI ms) (A := RNS ms) (w2 := none) (w3 := none) (w4 := none) (by rw [RNS_len, (sortI_perm ms).length_eq])
  rw [r] at g2
  refine runA_eq rfl ⟨[some (.dat d), some (.dat e), u2, u3, u4], ?_⟩
  show f_bar [some (.dat d), some (.dat e), none, none, none] = _
  unfold f_bar
  rw [then_nx g1, then_nx g2]
  unfold s_bar_2
  simp [v_bind, v_ok, v_none, v_pure, v_lift, v_liftN, v_con, v_get, v_gkd, v_gko, v_gkc, v_vwd, v_vws, v_ok1, v_ownD, v_dctD, v_dk1, v_setOwn, v_putM, v_op2, v_op1, v_anil, v_acons, v_vws0, v_vwsC, v_cb, v_tupD, v_lstD, v_lstW, v_listW, v_dds0, v_ddsC, v_asB, v_tb1, v_andT, v_orT, v_notT, v_andV, v_orV, v_notV, v_ofB, v_ifE, v_pl, v_toW, v_fz, v_ofWd, v_ofWo, v_nxt, v_thenS, v_exprS, v_retS, v_retN, v_ifS, v_setS, v_parS, v_setIx, v_asD, v_asI, v_mthE, v_callA, v_callB, v_forS, v_argI, v_seqI, v_slD, v_poN, v_poS, v_isiE, v_isiE2, v_isNE, v_dnew, v_dinT, v_dputS, v_sortDct, v_rgE, v_rg2, v_unS, v_catW, v_chainE, v_add, v_sub, v_lt, v_le, v_gt, v_ge, v_eqI, v_eqB, v_eqS, v_ixL, v_ixT, v_lenL, v_lenT, v_abs, v_intI, v_intB, v_min, v_max, v_chk]
theorem bar_some {d e : PyData} {ms ns : List Int} (hd : isSq d ms) (he : isSq e ns) (p : ns.Perm ms) (hl : ms.length ≤ 100) (nd : ms.Nodup) {k : Nat} {h : Int} (ht : (RNS ms).take k = (RNS ns).take k) (hne : (RNS ms)[k]? ≠ (RNS ns)[k]?) (hS : (sortI ms)[k]? = some h) : F_bar [d, e] = some (.dat (.int h)) := by
  obtain ⟨g1, g2⟩ := bar_go hd he p hl nd
  obtain ⟨u2, u3, u4, r⟩ := bar_diff (d := d) (e := e) (S := sortI ms) (A := RNS ms) (B := RNS ns) (w2 := none) (w3 := none) (w4 := none) (by rw [RNS_len, (sortI_perm ms).length_eq]) (by rw [RNS_len, RNS_len, p.length_eq]) ht hne hS
  rw [r] at g2
  refine runA_eq rfl ⟨[some (.dat d), some (.dat e), u2, u3, u4], ?_⟩
  show f_bar [some (.dat d), some (.dat e), none, none, none] = _
  unfold f_bar
  rw [then_nx g1, then_rt g2]
end Ov
set_option Elab.async false
set_option linter.all false
set_option maxHeartbeats 1000000
namespace Ov
/-! exchanges: one code changes by one, in its run -/
theorem pt_get : ∀ {iv : List Iv} {s e : Int} {i : Nat} {p : Iv}, Pt s e iv → iv[i]? = some p → s ≤ p.1 ∧ p.1 ≤ p.2 ∧ p.2 < e
  | [], s, e, i, p, h, k => by simp at k
  | q :: r, s, e, 0, p, h, k => by
    have : q = p := by simpa using k
    subst this
    have h1 := h.1
    have h2 := h.2.1
    have := Pt.le h.2.2
    omega
  | q :: r, s, e, i + 1, p, h, k => by
    have := pt_get h.2.2 (i := i) (by simpa using k)
    have h2 := h.2.1
    omega
theorem pt_lt : ∀ {iv : List Iv} {s e : Int} {i j : Nat} {p q : Iv}, Pt s e iv → iv[i]? = some p → iv[j]? = some q → i < j → p.2 < q.1
  | [], s, e, i, j, p, q, h, k, _, _ => by simp at k
  | x :: r, s, e, 0, j, p, q, h, k, k2, lt => by
    have : x = p := by simpa using k
    subst this
    obtain ⟨j, rfl⟩ : ∃ z, j = z + 1 := ⟨j - 1, by omega⟩
    have := pt_get h.2.2 (i := j) (p := q) (by simpa using k2)
    omega
  | x :: r, s, e, i + 1, j, p, q, h, k, k2, lt => by
    obtain ⟨j, rfl⟩ : ∃ z, j = z + 1 := ⟨j - 1, by omega⟩
    exact pt_lt h.2.2 (i := i) (j := j) (by simpa using k) (by simpa using k2) (by omega)
theorem pt_le {iv : List Iv} {s e : Int} {i j : Nat} {p q : Iv} (h : Pt s e iv) (k : iv[i]? = some p) (k2 : iv[j]? = some q) (le : i ≤ j) : p.1 ≤ q.1 ∧ p.2 ≤ q.2 := by
  by_cases c : i = j
  · subst c
    rw [k] at k2
    cases k2
    exact ⟨Int.le_refl _, Int.le_refl _⟩
  · have a := pt_lt h k k2 (by omega)
    have b := pt_get h k
    have c := pt_get h k2
    omega
theorem pt_adj : ∀ {iv : List Iv} {s e : Int} {i : Nat} {p q : Iv}, Pt s e iv → iv[i]? = some p → iv[i + 1]? = some q → q.1 = p.2 + 1
  | [], s, e, i, p, q, h, k, _ => by simp at k
  | [x], s, e, i, p, q, h, k, k2 => by simp at k2
  | x :: y :: r, s, e, 0, p, q, h, k, k2 => by
    have : x = p := by simpa using k
    subst this
    have : y = q := by simpa using k2
    subst this
    exact h.2.2.1
  | x :: y :: r, s, e, i + 1, p, q, h, k, k2 => pt_adj h.2.2 (i := i) (by simpa using k) (by simpa using k2)
theorem pt_first {iv : List Iv} {s e : Int} {p : Iv} (h : Pt s e iv) (k : iv[0]? = some p) : p.1 = s := by
  cases iv with
  | nil => simp at k
  | cons x r =>
    have : x = p := by simpa using k
    subst this
    exact h.1
theorem pt_last : ∀ {iv : List Iv} {s e : Int} {i : Nat} {p : Iv}, Pt s e iv → iv[i]? = some p → i + 1 = iv.length → p.2 + 1 = e
  | [], s, e, i, p, h, k, _ => by simp at k
  | [x], s, e, i, p, h, k, l => by
    have : i = 0 := by simpa using l
    subst this
    have : x = p := by simpa using k
    subst this
    exact h.2.2
  | x :: y :: r, s, e, 0, p, h, k, l => by simp at l
  | x :: y :: r, s, e, i + 1, p, h, k, l => pt_last h.2.2 (i := i) (by simpa using k) (by simpa using l)
def jn (iv : List Iv) (k : Int) : Prop := ∃ (i : Nat) (p : Iv), iv[i]? = some p ∧ p.1 ≤ k ∧ k + 1 ≤ p.2
section
variable {iv : List Iv} {m c : Int} {a : Nat} {r : Iv}
theorem nx_parts (h : Pt 0 m iv) (ha : iv[a]? = some r) : ∃ pl pr : Iv, iv[lf a]? = some pl ∧ iv[rg iv a]? = some pr ∧ (nx iv a)[lf a]? = some (pl.1, pr.2 - 1) ∧ (∀ (i : Nat) (p : Iv), i < lf a → iv[i]? = some p → (nx iv a)[i]? = some p) ∧ ∀ (i : Nat) (p : Iv), rg iv a < i → iv[i]? = some p → ∃ j : Nat, (nx iv a)[j]? = some (p.1 - 1, p.2 - 1) := by
  have hl := lt_of_get ha
  have l1 : lf a < iv.length := by unfold lf; omega
  have l2 : rg iv a < iv.length := by unfold rg; omega
  have g1 : iv[lf a]? = some iv[lf a] := List.getElem?_eq_getElem l1
  have g2 : iv[rg iv a]? = some iv[rg iv a] := List.getElem?_eq_getElem l2
  have tl : (iv.take (lf a)).length = lf a := by rw [List.length_take]; omega
  refine ⟨_, _, g1, g2, ?_, fun i p hi hp => ?_, fun i p hi hp => ?_⟩
  · unfold nx
    rw [List.append_assoc, List.getElem?_append_right (by omega), tl, Nat.sub_self, List.getD_eq_getElem?_getD, List.getD_eq_getElem?_getD, g1, g2]
    rfl
  · unfold nx
    rw [List.append_assoc, List.getElem?_append_left (by omega), List.getElem?_take_of_lt hi]
    exact hp
  · refine ⟨lf a + 1 + (i - (rg iv a + 1)), ?_⟩
    unfold nx
    rw [List.getElem?_append_right (by rw [List.length_append, tl]; show lf a + 1 ≤ _; omega), List.length_append, tl]
    show ((iv.drop (rg iv a + 1)).map _)[lf a + 1 + (i - (rg iv a + 1)) - (lf a + 1)]? = _
    rw [show lf a + 1 + (i - (rg iv a + 1)) - (lf a + 1) = i - (rg iv a + 1) by omega, List.getElem?_map, List.getElem?_drop, show rg iv a + 1 + (i - (rg iv a + 1)) = i by omega, hp]
    rfl
theorem jn_lo (h : Pt 0 m iv) (ha : iv[a]? = some r) (h1 : r.1 ≤ c) (h2 : c ≤ r.2) {k : Int} (hj : jn iv k) (hk : k + 1 < c) : jn (nx iv a) k := by
  obtain ⟨pl, pr, g1, g2, n1, n2, n3⟩ := nx_parts h ha
  obtain ⟨i, p, hp, p1, p2⟩ := hj
  have hl := lt_of_get ha
  have la : lf a ≤ a := by unfold lf; omega
  have ra : a ≤ rg iv a := by unfold rg; omega
  by_cases c1 : i < lf a
  · exact ⟨i, p, n2 i p c1 hp, p1, p2⟩
  · have e1 := pt_le h g1 hp (by omega)
    have e2 := pt_le h ha g2 ra
    exact ⟨_, _, n1, by show pl.1 ≤ k; omega, by show k + 1 ≤ pr.2 - 1; omega⟩
theorem jn_hi (h : Pt 0 m iv) (ha : iv[a]? = some r) (h1 : r.1 ≤ c) (h2 : c ≤ r.2) {k : Int} (hj : jn iv (k + 1)) (hk : c ≤ k) : jn (nx iv a) k := by
  obtain ⟨pl, pr, g1, g2, n1, n2, n3⟩ := nx_parts h ha
  obtain ⟨i, p, hp, p1, p2⟩ := hj
  have hl := lt_of_get ha
  have la : lf a ≤ a := by unfold lf; omega
  have ra : a ≤ rg iv a := by unfold rg; omega
  by_cases c1 : rg iv a < i
  · obtain ⟨j, hj⟩ := n3 i p c1 hp
    exact ⟨j, _, hj, by show p.1 - 1 ≤ k; omega, by show k + 1 ≤ p.2 - 1; omega⟩
  · have e1 := pt_le h g1 ha la
    have e2 := pt_le h hp g2 (by omega)
    exact ⟨_, _, n1, by show pl.1 ≤ k; omega, by show k + 1 ≤ pr.2 - 1; omega⟩
theorem jn_at (h : Pt 0 m iv) (ha : iv[a]? = some r) (h1 : r.1 ≤ c) (h2 : c ≤ r.2) (k1 : 1 ≤ c) (k2 : c + 1 < m) : jn (nx iv a) (c - 1) := by
  obtain ⟨pl, pr, g1, g2, n1, n2, n3⟩ := nx_parts h ha
  have hl := lt_of_get ha
  refine ⟨_, _, n1, ?_, ?_⟩
  · show pl.1 ≤ c - 1
    by_cases z : a = 0
    · have : lf a = 0 := by unfold lf; omega
      rw [this] at g1
      have := pt_first h g1
      omega
    · have e : lf a + 1 = a := by unfold lf; omega
      have := pt_adj h g1 (by rw [e]; exact ha)
      have := pt_get h g1
      omega
  · show c - 1 + 1 ≤ pr.2 - 1
    by_cases z : a + 1 < iv.length
    · have e : rg iv a = a + 1 := by unfold rg; omega
      rw [e] at g2
      have := pt_adj h ha g2
      have := pt_get h g2
      omega
    · have e : rg iv a = a := by unfold rg; omega
      rw [e, ha] at g2
      cases g2
      have := pt_last h ha (by omega)
      omega
end
/-- the lowest of a row, taken out -/
theorem low_out {S l1 l2 : List Int} {h : Int} {iv : List Iv} (pw : (h :: S).Pairwise (· < ·)) (p : (l1 ++ h :: l2).Perm (h :: S)) (hp : Pt 0 ((l1 ++ h :: l2).length : Nat) iv) :
    S.Pairwise (· < ·) ∧ (l1 ++ l2).Perm S ∧ h ∉ l1 ++ l2 ∧ (∀ x ∈ l1 ++ l2, h < x) ∧ ∃ r : Iv, iv[rix iv (l1.length : Int)]? = some r ∧ r.1 ≤ (l1.length : Int) ∧ (l1.length : Int) ≤ r.2 ∧
      rns iv ((h :: S).map (mk (l1 ++ h :: l2))) = r :: rns (nx iv (rix iv (l1.length : Int))) (S.map (mk (l1 ++ l2))) ∧ (l1 ++ l2 ≠ [] → Pt 0 ((l1 ++ l2).length : Nat) (nx iv (rix iv (l1.length : Int)))) := by
  obtain ⟨lo, pw'⟩ := List.pairwise_cons.mp pw
  have p' : (l1 ++ l2).Perm S := (List.perm_middle.symm.trans p).cons_inv
  have lo' : ∀ x ∈ l1 ++ l2, h < x := fun x hx => lo x (p'.subset hx)
  have nh : h ∉ l1 ++ l2 := fun z => by have := lo' h z; omega
  have em : S.map (mk (l1 ++ h :: l2)) = S.map (mk (l1 ++ l2)) := List.map_congr_left fun k hk => mk_up (lo k hk)
  have ll : (l1 ++ h :: l2).length = l1.length + l2.length + 1 := by rw [List.length_append, List.length_cons]; omega
  obtain ⟨r, e1, e2, e3, _, _⟩ := rix_at hp (c := (l1.length : Int)) (by omega) (by rw [ll]; omega)
  refine ⟨pw', p', nh, lo', r, e1, e2, e3, ?_, fun z => ?_⟩
  · rw [List.map_cons, mk_low (fun z => nh (List.mem_append_left _ z)) lo', em, rns_cons e1]
  · have lz : (l1 ++ l2).length ≠ 0 := fun y => z (List.length_eq_zero_iff.mp y)
    rw [List.length_append] at lz
    have := nx_pt hp (a := rix iv (l1.length : Int)) (by rw [ll]; omega) (lt_of_get e1)
    rw [ll] at this
    rw [List.length_append, show ((l1.length + l2.length : Nat) : Int) = ((l1.length + l2.length + 1 : Nat) : Int) - 1 by omega]
    exact this
theorem filt_drop {A1 A2 : List Int} {h x : Int} (lt : h < x) : (A1 ++ h :: A2).filter (fun o => decide (x ≤ o)) = (A1 ++ A2).filter (fun o => decide (x ≤ o)) := by
  rw [List.filter_append, List.filter_cons, List.filter_append]
  simp [show ¬ x ≤ h by omega]
theorem adj_run : ∀ {S ms : List Int} {iv : List Iv}, S.Pairwise (· < ·) → ms.Perm S → Pt 0 (ms.length : Nat) iv → ∀ {A C : List Int} {a b x : Int} {t : Nat}, ms = A ++ a :: b :: C → jn iv (A.length : Nat) → S[t]? = some x → x = min a b →
    ∃ p : Iv, (rns iv (S.map (mk ms)))[t]? = some p ∧ p.1 ≤ ((A.filter fun o => decide (x ≤ o)).length : Nat) ∧ (((A.filter fun o => decide (x ≤ o)).length : Nat) : Int) + 1 ≤ p.2
  | [], ms, iv, pw, p, hp, A, C, a, b, x, t, e, hj, ht, hx => by simp at ht
  | h :: S, ms, iv, pw, p, hp, A, C, a, b, x, t, e, hj, ht, hx => by
    subst e
    have nd : (A ++ a :: b :: C).Nodup := p.nodup_iff.mpr (pw.imp fun z => by omega)
    obtain ⟨lo, _⟩ := List.pairwise_cons.mp pw
    have low : ∀ y ∈ A ++ a :: b :: C, h ≤ y := fun y hy => by
      rcases List.mem_cons.mp (p.subset hy) with rfl | z
      · exact Int.le_refl _
      · have := lo y z; omega
    have hh : h ∈ A ++ a :: b :: C := p.symm.subset (List.mem_cons_self ..)
    by_cases c1 : x = h
    · -- the shorter one of the two is the lowest
      subst c1
      have t0 : t = 0 := by
        cases t with
        | zero => rfl
        | succ t => have := lo x (List.mem_of_getElem? (by simpa using ht)); omega
      subst t0
      have fa : (A.filter fun o => decide (x ≤ o)) = A := List.filter_eq_self.mpr fun y hy => decide_eq_true (low y (List.mem_append_left _ hy))
      rw [fa]
      obtain ⟨i, q, hq, q1, q2⟩ := hj
      have two : x = a ∨ x = b := by omega
      rcases two with rfl | rfl
      · obtain ⟨_, _, _, _, r, e1, e2, e3, e4, _⟩ := low_out (l1 := A) (l2 := b :: C) pw p hp
        have := rix_in hp hq (c := (A.length : Int)) (by omega) (by omega)
        rw [this, hq] at e1
        cases e1
        exact ⟨q, by rw [e4]; rfl, q1, q2⟩
      · have pe : (A ++ a :: x :: C) = (A ++ [a]) ++ x :: C := by simp
        rw [pe] at p hp ⊢
        obtain ⟨_, _, _, _, r, e1, e2, e3, e4, _⟩ := low_out (l1 := A ++ [a]) (l2 := C) pw p hp
        have l1 : (((A ++ [a]).length : Nat) : Int) = (A.length : Int) + 1 := by rw [List.length_append]; rfl
        have := rix_in hp hq (c := (((A ++ [a]).length : Nat) : Int)) (by omega) (by omega)
        rw [this, hq] at e1
        cases e1
        exact ⟨q, by rw [e4]; rfl, q1, q2⟩
    · -- somebody else is the lowest
      have ha := low a (by simp)
      have hb := low b (by simp)
      have nh : h ≠ a ∧ h ≠ b := by
        refine ⟨fun z => ?_, fun z => ?_⟩ <;> exact c1 (by omega)
      obtain ⟨t, rfl⟩ : ∃ z, t = z + 1 := by
        cases t with
        | zero => exact absurd (by simpa using ht : h = x).symm c1
        | succ t => exact ⟨t, rfl⟩
      have ht : S[t]? = some x := by simpa using ht
      have hx' : h < x := by omega
      rcases List.mem_append.mp hh with hA | hC
      · obtain ⟨A1, A2, rfl⟩ := List.append_of_mem hA
        have pe : (A1 ++ h :: A2) ++ a :: b :: C = A1 ++ h :: (A2 ++ a :: b :: C) := by simp
        rw [pe] at p hp ⊢
        obtain ⟨pw', p', _, _, r, e1, e2, e3, e4, e5⟩ := low_out (l1 := A1) (l2 := A2 ++ a :: b :: C) pw p hp
        have l1 : (((A1 ++ h :: A2).length : Nat) : Int) = (((A1 ++ A2).length : Nat) : Int) + 1 := by rw [List.length_append, List.length_cons, List.length_append]; omega
        rw [l1] at hj
        have j2 := jn_hi hp e1 e2 e3 hj (by rw [List.length_append]; omega)
        obtain ⟨q, g1, g2, g3⟩ := adj_run (A := A1 ++ A2) (C := C) pw' p' (e5 (by simp)) (by simp) j2 ht hx
        rw [filt_drop hx']
        exact ⟨q, by rw [e4]; exact g1, g2, g3⟩
      · have hC : h ∈ C := by
          rcases List.mem_cons.mp hC with z | hC
          · exact absurd z nh.1
          · rcases List.mem_cons.mp hC with z | hC
            · exact absurd z nh.2
            · exact hC
        obtain ⟨C1, C2, rfl⟩ := List.append_of_mem hC
        have pe : A ++ a :: b :: (C1 ++ h :: C2) = (A ++ a :: b :: C1) ++ h :: C2 := by simp
        rw [pe] at p hp ⊢
        obtain ⟨pw', p', _, _, r, e1, e2, e3, e4, e5⟩ := low_out (l1 := A ++ a :: b :: C1) (l2 := C2) pw p hp
        have j2 := jn_lo hp e1 e2 e3 hj (by rw [List.length_append, List.length_cons, List.length_cons]; omega)
        obtain ⟨q, g1, g2, g3⟩ := adj_run (A := A) (C := C1 ++ C2) pw' p' (e5 (by simp)) (by simp) j2 ht hx
        exact ⟨q, by rw [e4]; exact g1, g2, g3⟩
theorem gap_run : ∀ {S ms : List Int} {iv : List Iv}, S.Pairwise (· < ·) → ms.Perm S → Pt 0 (ms.length : Nat) iv → ∀ {A B C : List Int} {a b x : Int} {t : Nat}, ms = A ++ a :: (B ++ b :: C) → B ≠ [] → (∀ y ∈ B, y < a ∧ y < b) → S[t]? = some x → x = min a b →
    ∃ p : Iv, (rns iv (S.map (mk ms)))[t]? = some p ∧ p.1 ≤ ((A.filter fun o => decide (x ≤ o)).length : Nat) ∧ (((A.filter fun o => decide (x ≤ o)).length : Nat) : Int) + 1 ≤ p.2
  | [], ms, iv, pw, p, hp, A, B, C, a, b, x, t, e, hB, hb, ht, hx => by simp at ht
  | h :: S, ms, iv, pw, p, hp, A, B, C, a, b, x, t, e, hB, hb, ht, hx => by
    subst e
    obtain ⟨lo, _⟩ := List.pairwise_cons.mp pw
    have low : ∀ y ∈ A ++ a :: (B ++ b :: C), h ≤ y := fun y hy => by
      rcases List.mem_cons.mp (p.subset hy) with rfl | z
      · exact Int.le_refl _
      · have := lo y z; omega
    obtain ⟨y, hy⟩ := List.exists_mem_of_ne_nil B hB
    have y1 := hb y hy
    have y2 := low y (by simp [hy])
    have hx' : h < x := by omega
    obtain ⟨t, rfl⟩ : ∃ z, t = z + 1 := by
      cases t with
      | zero => have : h = x := by simpa using ht
                omega
      | succ t => exact ⟨t, rfl⟩
    have ht : S[t]? = some x := by simpa using ht
    have hh : h ∈ A ++ a :: (B ++ b :: C) := p.symm.subset (List.mem_cons_self ..)
    rcases List.mem_append.mp hh with hA | hh
    · obtain ⟨A1, A2, rfl⟩ := List.append_of_mem hA
      have pe : (A1 ++ h :: A2) ++ a :: (B ++ b :: C) = A1 ++ h :: (A2 ++ a :: (B ++ b :: C)) := by simp
      rw [pe] at p hp ⊢
      obtain ⟨pw', p', _, _, r, e1, e2, e3, e4, e5⟩ := low_out (l1 := A1) (l2 := A2 ++ a :: (B ++ b :: C)) pw p hp
      obtain ⟨q, g1, g2, g3⟩ := gap_run (A := A1 ++ A2) (B := B) (C := C) pw' p' (e5 (by simp)) (by simp) hB hb ht hx
      rw [filt_drop hx']
      exact ⟨q, by rw [e4]; exact g1, g2, g3⟩
    · rcases List.mem_cons.mp hh with z | hh
      · omega
      · rcases List.mem_append.mp hh with hB' | hh
        · obtain ⟨B1, B2, rfl⟩ := List.append_of_mem hB'
          have pe : A ++ a :: ((B1 ++ h :: B2) ++ b :: C) = (A ++ a :: B1) ++ h :: (B2 ++ b :: C) := by simp
          rw [pe] at p hp ⊢
          obtain ⟨pw', p', _, _, r, e1, e2, e3, e4, e5⟩ := low_out (l1 := A ++ a :: B1) (l2 := B2 ++ b :: C) pw p hp
          by_cases c1 : B1 ++ B2 = []
          · obtain ⟨z1, z2⟩ := List.append_eq_nil_iff.mp c1
            subst z1 z2
            have lz : (((A ++ [a]).length : Nat) : Int) = (A.length : Int) + 1 := by rw [List.length_append]; rfl
            have lm : (A ++ [a] ++ h :: ([] ++ b :: C)).length = A.length + C.length + 3 := by simp; omega
            have j2 := jn_at hp e1 e2 e3 (by rw [lz]; omega) (by rw [lm, lz]; omega)
            rw [show (((A ++ [a]).length : Nat) : Int) - 1 = A.length by omega] at j2
            obtain ⟨q, g1, g2, g3⟩ := adj_run (A := A) (C := C) (a := a) (b := b) pw' p' (e5 (by simp)) (by simp) j2 ht hx
            exact ⟨q, by rw [e4]; exact g1, g2, g3⟩
          · obtain ⟨q, g1, g2, g3⟩ := gap_run (A := A) (B := B1 ++ B2) (C := C) pw' p' (e5 (by simp)) (by simp) c1 (fun z hz => hb z (by rcases List.mem_append.mp hz with w | w <;> simp [w])) ht hx
            exact ⟨q, by rw [e4]; exact g1, g2, g3⟩
        · have hC : h ∈ C := by
            rcases List.mem_cons.mp hh with z | hC
            · omega
            · exact hC
          obtain ⟨C1, C2, rfl⟩ := List.append_of_mem hC
          have pe : A ++ a :: (B ++ b :: (C1 ++ h :: C2)) = (A ++ a :: (B ++ b :: C1)) ++ h :: C2 := by simp
          rw [pe] at p hp ⊢
          obtain ⟨pw', p', _, _, r, e1, e2, e3, e4, e5⟩ := low_out (l1 := A ++ a :: (B ++ b :: C1)) (l2 := C2) pw p hp
          obtain ⟨q, g1, g2, g3⟩ := gap_run (A := A) (B := B) (C := C1 ++ C2) pw' p' (e5 (by simp)) (by simp) hB hb ht hx
          exact ⟨q, by rw [e4]; exact g1, g2, g3⟩
end Ov
set_option Elab.async false
set_option linter.all false
set_option maxHeartbeats 1000000
namespace Ov
/-! the codes after an exchange -/
theorem ix_ne {a h : Int} {l : List Int} (n : h ≠ a) : (a :: l).idxOf h = l.idxOf h + 1 := by
  rw [List.idxOf_cons, show (a == h) = false by simpa using Ne.symm n]
  rfl
theorem idx_swap {P Q T : List Int} {a b h : Int} (ha : h ≠ a) (hb : h ≠ b) : (P ++ a :: (Q ++ b :: T)).idxOf h = (P ++ b :: (Q ++ a :: T)).idxOf h := by
  rw [List.idxOf_append, List.idxOf_append]
  by_cases c : h ∈ P
  · rw [if_pos c, if_pos c]
  · rw [if_neg c, if_neg c, ix_ne ha, ix_ne hb, List.idxOf_append, List.idxOf_append]
    by_cases c : h ∈ Q
    · rw [if_pos c, if_pos c]
    · rw [if_neg c, if_neg c, ix_ne hb, ix_ne ha]
def fh (h : Int) (l : List Int) : List Int := l.filter fun o => decide (h ≤ o)
theorem fh_app (h : Int) (a b : List Int) : fh h (a ++ b) = fh h a ++ fh h b := List.filter_append _ _
theorem fh_yes {h a : Int} {l : List Int} (c : h ≤ a) : fh h (a :: l) = a :: fh h l := by
  unfold fh
  rw [List.filter_cons, if_pos (decide_eq_true c)]
theorem fh_no {h a : Int} {l : List Int} (c : a < h) : fh h (a :: l) = fh h l := by
  unfold fh
  rw [List.filter_cons, if_neg (by simpa using c)]
theorem fh_nil {h : Int} {l : List Int} (c : ∀ y ∈ l, y < h) : fh h l = [] := List.filter_eq_nil_iff.mpr fun y hy => by simpa using c y hy
theorem mk_fh (ms : List Int) (h : Int) : mk ms h = (((fh h ms).idxOf h : Nat) : Int) := rfl
section
variable {A B C : List Int} {a b : Int}
theorem mk_swap_ne (nd : (A ++ a :: (B ++ b :: C)).Nodup) (hb : ∀ y ∈ B, y < a ∧ y < b) {h : Int} (hh : h ≠ min a b) : mk (A ++ b :: (B ++ a :: C)) h = mk (A ++ a :: (B ++ b :: C)) h := by
  rw [mk_fh, mk_fh]
  by_cases c : h < min a b
  · have h1 : h ≤ a := by omega
    have h2 : h ≤ b := by omega
    rw [fh_app, fh_yes h2, fh_app, fh_yes h1, fh_app, fh_yes h1, fh_app, fh_yes h2, idx_swap (by omega) (by omega)]
  · have nB : fh h B = [] := fh_nil fun y hy => by have := hb y hy; omega
    have e : fh h (A ++ b :: (B ++ a :: C)) = fh h (A ++ a :: (B ++ b :: C)) := by
      rw [fh_app, fh_app]
      congr 1
      by_cases c1 : a < b
      · have h1 : a < h := by omega
        rw [fh_no h1, fh_app, nB, List.nil_append]
        by_cases c2 : h ≤ b
        · rw [fh_yes c2, fh_app, nB, List.nil_append, fh_no h1, fh_yes c2]
        · rw [fh_no (by omega), fh_app, nB, List.nil_append, fh_no h1, fh_no (by omega)]
      · have h1 : b < h := by omega
        rw [fh_no h1, fh_app, nB, List.nil_append]
        by_cases c2 : h ≤ a
        · rw [fh_yes c2, fh_yes c2, fh_app, nB, List.nil_append, fh_no h1]
        · rw [fh_no (by omega), fh_no (by omega), fh_app, nB, List.nil_append, fh_no h1]
    rw [e]
theorem mk_swap_eq (nd : (A ++ a :: (B ++ b :: C)).Nodup) (hb : ∀ y ∈ B, y < a ∧ y < b) (lt : a < b) : mk (A ++ a :: (B ++ b :: C)) a = ((fh a A).length : Nat) ∧ mk (A ++ b :: (B ++ a :: C)) a = ((fh a A).length : Nat) + 1 := by
  have nA : a ∉ A := fun z => by
    have := (List.nodup_append.mp nd).2.2 a z a (List.mem_cons_self ..)
    exact this rfl
  have nB : fh a B = [] := fh_nil fun y hy => (hb y hy).1
  have nF : a ∉ fh a A := fun z => nA (List.mem_filter.mp z).1
  constructor
  · rw [mk_fh, fh_app, fh_yes (Int.le_refl _), fh_app, nB, List.nil_append, fh_yes (by omega), idx_mid nF]
  · rw [mk_fh, fh_app, fh_yes (by omega), fh_app, nB, List.nil_append, fh_yes (Int.le_refl _)]
    have : fh a A ++ b :: a :: fh a C = (fh a A ++ [b]) ++ a :: fh a C := by simp
    rw [this, idx_mid (fun z => by
      rcases List.mem_append.mp z with z | z
      · exact nF z
      · have := List.mem_singleton.mp z; omega), List.length_append]
    rfl
end
/-- an exchange of a row -/
structure Xc (ms ns : List Int) (x e : Int) : Prop where
  perm : ns.Perm ms
  mem : x ∈ ms
  one : e = 1 ∨ e = -1
  same : ∀ h, h ≠ x → mk ns h = mk ms h
  step : mk ns x = mk ms x + e
  run : ∀ (t : Nat) (p : Iv), (sortI ms)[t]? = some x → (RNS ms)[t]? = some p → p.1 ≤ mk ns x ∧ mk ns x ≤ p.2
theorem xc_of {A B C : List Int} {a b : Int} (nd : (A ++ a :: (B ++ b :: C)).Nodup) (hB : B ≠ []) (hb : ∀ y ∈ B, y < a ∧ y < b) :
    Xc (A ++ a :: (B ++ b :: C)) (A ++ b :: (B ++ a :: C)) (min a b) (if a < b then 1 else -1) := by
  have ab : a ≠ b := by
    have := (List.nodup_cons.mp (List.nodup_append.mp nd).2.1).1
    exact fun z => this (by rw [z]; simp)
  have pm : (A ++ b :: (B ++ a :: C)).Perm (A ++ a :: (B ++ b :: C)) := by
    refine List.Perm.append_left A ?_
    exact ((List.perm_middle (l₁ := B) (l₂ := C) (a := a)).cons b).trans ((List.Perm.swap a b (B ++ C)).trans ((List.perm_middle (l₁ := B) (l₂ := C) (a := b)).symm.cons a))
  have nd' := pm.nodup_iff.mpr nd
  have hb' : ∀ y ∈ B, y < b ∧ y < a := fun y hy => (hb y hy).symm
  have rn : ∀ (t : Nat) (p : Iv), (sortI (A ++ a :: (B ++ b :: C)))[t]? = some (min a b) → (RNS (A ++ a :: (B ++ b :: C)))[t]? = some p → p.1 ≤ ((fh (min a b) A).length : Nat) ∧ (((fh (min a b) A).length : Nat) : Int) + 1 ≤ p.2 := fun t p ht hp => by
    obtain ⟨q, g1, g2, g3⟩ := gap_run (sortI_lt nd) (sortI_perm _).symm (fiv_pt _) (A := A) (B := B) (C := C) (a := a) (b := b) rfl hB hb ht rfl
    have : some q = some p := g1.symm.trans hp
    cases this
    exact ⟨g2, g3⟩
  by_cases c : a < b
  · have mn : min a b = a := by omega
    obtain ⟨m1, m2⟩ := mk_swap_eq nd hb c
    rw [if_pos c]
    refine ⟨pm, by rw [mn]; simp, .inl rfl, fun h hh => mk_swap_ne nd hb hh, by rw [mn]; omega, fun t p ht hp => ?_⟩
    have := rn t p ht hp
    rw [mn] at this ⊢
    omega
  · have mn : min a b = b := by omega
    obtain ⟨m1, m2⟩ := mk_swap_eq (A := A) (B := B) (C := C) (a := b) (b := a) nd' hb' (by omega)
    rw [if_neg c]
    refine ⟨pm, by rw [mn]; simp, .inr rfl, fun h hh => mk_swap_ne nd hb hh, by rw [mn]; omega, fun t p ht hp => ?_⟩
    have := rn t p ht hp
    rw [mn] at this ⊢
    omega
/-- the runs stay -/
theorem Xc.rns {ms ns : List Int} {x e : Int} (h : Xc ms ns x e) (nd : ms.Nodup) : RNS ns = RNS ms := by
  have hs : sortI ns = sortI ms := sort_perm h.perm
  have hl : ns.length = ms.length := h.perm.length_eq
  have := (rns_same (ds := mks ns) (fiv_pt ms.length) (by rw [mks_len]) (vd_row nd) (by rw [mks_len, mks_len, hl]) fun j p d hp hd => ?_).1
  · unfold RNS
    rw [hl]
    exact this
  · unfold mks at hd
    rw [hs, List.getElem?_map] at hd
    obtain ⟨y, hy, hd⟩ := Option.map_eq_some_iff.mp hd
    subst hd
    by_cases c : y = x
    · subst c
      exact h.run j p hy hp
    · rw [h.same y c]
      have := rns_ok (fiv_pt ms.length) (by rw [mks_len]) (vd_row nd) j p (Ov.mk ms y) hp (by unfold mks; rw [List.getElem?_map, hy]; rfl)
      exact ⟨this.2.1, this.2.2.1⟩
/-! no exchange: each run is one index -/
theorem fiv_get {m c : Nat} (h : c < m) : (fiv m)[c]? = some ((c : Int), (c : Int)) := by
  unfold fiv
  rw [List.getElem?_map, List.getElem?_range h]
  rfl
theorem fiv_len (n : Nat) : (fiv n).length = n := by unfold fiv; simp
/-! how far the codes are -/
end Ov
set_option Elab.async false
set_option linter.all false
set_option maxRecDepth 100000
set_option maxHeartbeats 4000000
namespace Ov
open PySem L2
def rowD (r : List Int) : PyData := .tuple (r.map .int)
theorem cutL_mid {α : Type} (l : List α) (a b : Nat) (h : a ≤ b) (h2 : b ≤ l.length) : cutL l (some (a : Int)) (some (b : Int)) = (l.drop a).take (b - a) := by
  unfold cutL
  have e : HT.sIx l.length 0 (some (a : Int)) = a := by simp [HT.sIx]; rw [if_neg (by omega)]; omega
  have e2 : HT.sIx l.length l.length (some (b : Int)) = b := by simp [HT.sIx]; rw [if_neg (by omega)]; omega
  rw [e, e2]
def clr (ms : List Int) (l r : Nat) : Bool := ((ms.drop (l + 1)).take (r - (l + 1))).all fun y => decide (y < min (ms.getD l 0) (ms.getD r 0))
/-! sights and exchanges -/
def sg1 (ms : List Int) (l : Nat) : List Iv := ((rngL ((l : Int) + 1) ms.length).filter fun r => clr ms l r.toNat).map fun r => ((l : Int), r)
def sg (ms : List Int) : List Nat → List Iv
  | [] => []
  | l :: ls => sg1 ms l ++ sg ms ls
theorem rng_in2 {a : Nat} {n : Nat} {k : Int} (h : k ∈ rngL ((a : Int) + 1) n) : ∃ j : Nat, k = j ∧ a < j ∧ j < n := by
  unfold rngL at h
  obtain ⟨j, hj, rfl⟩ := List.mem_map.mp h
  have := List.mem_range.mp hj
  exact ⟨a + 1 + j, by omega, by omega, by omega⟩
theorem rng_has2 {a n j : Nat} (h1 : a < j) (h2 : j < n) : (j : Int) ∈ rngL ((a : Int) + 1) n := by
  unfold rngL
  exact List.mem_map.mpr ⟨j - (a + 1), List.mem_range.mpr (by omega), by omega⟩
theorem sg_in {ms : List Int} {p : Iv} : ∀ {ls : List Nat}, p ∈ sg ms ls → ∃ l r : Nat, p = ((l : Int), (r : Int)) ∧ l ∈ ls ∧ l < r ∧ r < ms.length ∧ clr ms l r = true
  | [], h => by cases h
  | l :: ls, h => by
    rcases List.mem_append.mp h with h | h
    · obtain ⟨k, hk, rfl⟩ := List.mem_map.mp h
      obtain ⟨k1, k2⟩ := List.mem_filter.mp hk
      obtain ⟨j, rfl, j1, j2⟩ := rng_in2 k1
      rw [Int.toNat_natCast] at k2
      exact ⟨l, j, rfl, List.mem_cons_self .., j1, j2, k2⟩
    · obtain ⟨l', r, e, m, k⟩ := sg_in h
      exact ⟨l', r, e, List.mem_cons_of_mem _ m, k⟩
theorem sg_has {ms : List Int} {l r : Nat} (h1 : l < r) (h2 : r < ms.length) (h3 : clr ms l r = true) : ∀ {ls : List Nat}, l ∈ ls → ((l : Int), (r : Int)) ∈ sg ms ls
  | [], h => by cases h
  | k :: ls, h => by
    rcases List.mem_cons.mp h with rfl | h
    · exact List.mem_append_left _ (List.mem_map.mpr ⟨(r : Int), List.mem_filter.mpr ⟨rng_has2 h1 h2, by rw [Int.toNat_natCast]; exact h3⟩, rfl⟩)
    · exact List.mem_append_right _ (sg_has h1 h2 h3 h)
def farP (p : Iv) : Bool := decide (p.1 < p.2 - 1)
def xcs (ms : List Int) : List Iv := (sg ms (List.range ms.length)).filter farP
/-! what an exchange is -/
theorem clr_iff {A B C : List Int} {a b : Int} : clr (A ++ a :: (B ++ b :: C)) A.length (A.length + 1 + B.length) = true ↔ ∀ y ∈ B, y < a ∧ y < b := by
  have g1 : (A ++ a :: (B ++ b :: C)).getD A.length 0 = a := by rw [List.getD_eq_getElem?_getD, List.getElem?_append_right (Nat.le_refl _), Nat.sub_self]; rfl
  have g2 : (A ++ a :: (B ++ b :: C)).getD (A.length + 1 + B.length) 0 = b := by
    rw [List.getD_eq_getElem?_getD, List.getElem?_append_right (by omega), show A.length + 1 + B.length - A.length = B.length + 1 by omega, List.getElem?_cons_succ, List.getElem?_append_right (Nat.le_refl _), Nat.sub_self]
    rfl
  have g3 : ((A ++ a :: (B ++ b :: C)).drop (A.length + 1)).take (A.length + 1 + B.length - (A.length + 1)) = B := by
    have : A ++ a :: (B ++ b :: C) = (A ++ [a]) ++ (B ++ b :: C) := by simp
    rw [this, show A.length + 1 = (A ++ [a]).length by simp, List.drop_left, show (A ++ [a]).length + B.length - (A ++ [a]).length = B.length by omega, List.take_left]
  unfold clr
  rw [g1, g2, g3, List.all_eq_true]
  constructor
  · intro h y hy
    have := of_decide_eq_true (h y hy)
    omega
  · intro h y hy
    have := h y hy
    exact decide_eq_true (by omega)
theorem split_at {ms : List Int} {l r : Nat} (h1 : l < r) (h2 : r < ms.length) : ∃ A a B b C, ms = A ++ a :: (B ++ b :: C) ∧ l = A.length ∧ r = A.length + 1 + B.length := by
  refine ⟨ms.take l, ms[l], (ms.drop (l + 1)).take (r - (l + 1)), ms[r], ms.drop (r + 1), ?_, by rw [List.length_take]; omega, by rw [List.length_take, List.length_take, List.length_drop]; omega⟩
  have e1 : ms = ms.take l ++ ms.drop l := (List.take_append_drop l ms).symm
  have e2 : ms.drop l = ms[l] :: ms.drop (l + 1) := List.drop_eq_getElem_cons (by omega)
  have e3 : ms.drop (l + 1) = (ms.drop (l + 1)).take (r - (l + 1)) ++ (ms.drop (l + 1)).drop (r - (l + 1)) := (List.take_append_drop _ _).symm
  have e4 : (ms.drop (l + 1)).drop (r - (l + 1)) = ms[r] :: ms.drop (r + 1) := by
    rw [List.drop_drop, show l + 1 + (r - (l + 1)) = r by omega]
    exact List.drop_eq_getElem_cons h2
  rw [e4] at e3
  rw [← e3, ← e2]
  exact e1
theorem xcs_in {ms : List Int} {p : Iv} (h : p ∈ xcs ms) : ∃ A a B b C, ms = A ++ a :: (B ++ b :: C) ∧ B ≠ [] ∧ (∀ y ∈ B, y < a ∧ y < b) ∧ p = ((A.length : Int), ((A.length + 1 + B.length : Nat) : Int)) := by
  obtain ⟨m1, m2⟩ := List.mem_filter.mp h
  obtain ⟨l, r, rfl, _, k1, k2, k3⟩ := sg_in m1
  obtain ⟨A, a, B, b, C, rfl, rfl, rfl⟩ := split_at k1 k2
  refine ⟨A, a, B, b, C, rfl, fun z => ?_, clr_iff.mp k3, rfl⟩
  subst z
  have := of_decide_eq_true m2
  simp at this
theorem xcs_has {A B C : List Int} {a b : Int} (hB : B ≠ []) (hb : ∀ y ∈ B, y < a ∧ y < b) : ((A.length : Int), ((A.length + 1 + B.length : Nat) : Int)) ∈ xcs (A ++ a :: (B ++ b :: C)) := by
  have lB : B.length ≠ 0 := fun z => hB (List.length_eq_zero_iff.mp z)
  refine List.mem_filter.mpr ⟨sg_has (by omega) (by rw [List.length_append, List.length_cons, List.length_append, List.length_cons]; omega) (clr_iff.mpr hb) (List.mem_range.mpr (by rw [List.length_append, List.length_cons]; omega)), decide_eq_true ?_⟩
  show (A.length : Int) < ((A.length + 1 + B.length : Nat) : Int) - 1
  omega
end Ov
set_option Elab.async false
set_option linter.all false
set_option maxRecDepth 100000
set_option maxHeartbeats 4000000
namespace Ov
open PySem L2
section
variable {A B C : List Int} {a b : Int}
theorem at_l : (A ++ a :: (B ++ b :: C))[A.length]? = some a := by rw [List.getElem?_append_right (Nat.le_refl _), Nat.sub_self]; rfl
theorem at_r : (A ++ a :: (B ++ b :: C))[A.length + 1 + B.length]? = some b := by
  rw [List.getElem?_append_right (by omega), show A.length + 1 + B.length - A.length = B.length + 1 by omega, List.getElem?_cons_succ, List.getElem?_append_right (Nat.le_refl _), Nat.sub_self]
  rfl
theorem len_x : (A ++ a :: (B ++ b :: C)).length = A.length + B.length + C.length + 2 := by rw [List.length_append, List.length_cons, List.length_append, List.length_cons]; omega
end
/-! count, steps -/
theorem size_ok (p : Iv) : F_run_size [pD p] = some (.dat (.int (p.2 - p.1 + 1))) := by
  have e0 : s_run_size_0 [some (.dat (pD p)), none, none] = some (.ok .nx [some (.dat (pD p)), some (.dat (.int p.1)), some (.dat (.int p.2))]) := un_ok (get_ok rfl) rfl
  refine runA_eq rfl ⟨[some (.dat (pD p)), some (.dat (.int p.1)), some (.dat (.int p.2))], ?_⟩
  show f_run_size [some (.dat (pD p)), none, none] = _
  unfold f_run_size
  rw [then_nx e0]
  exact ret_ok (op2_ok (op2_ok (get_ok rfl) (get_ok rfl) rfl) con_ok rfl)
def prod : Int → List Iv → Int
  | t, [] => t
  | t, p :: r => prod (t * (p.2 - p.1 + 1)) r
theorem count_for {d : PyData} : ∀ (l : List Iv) {t : Int} {w2 : Option Wv}, (∀ p ∈ l, p.1 ≤ p.2 ∧ p.2 - p.1 ≤ 1000) → ∃ u2, forM (gN 2) b_count_rows_1 (ivD l) [some (.dat d), some (.dat (.int t)), w2] = some (.ok .nx [some (.dat d), some (.dat (.int (prod t l))), u2])
  | [], t, w2, _ => ⟨w2, for_nil⟩
  | p :: l, t, w2, h => by
    obtain ⟨u2, e⟩ := count_for (d := d) l (t := t * (p.2 - p.1 + 1)) (w2 := some (.dat (pD p))) fun x hx => h x (List.mem_cons_of_mem _ hx)
    have h0 := h p (List.mem_cons_self ..)
    have pm : pMul t (p.2 - p.1 + 1) = true := pMul_r (by omega) (by omega)
    have st : b_count_rows_1 [some (.dat d), some (.dat (.int t)), some (.dat (pD p))] = some (.ok .nx [some (.dat d), some (.dat (.int (t * (p.2 - p.1 + 1)))), some (.dat (pD p))]) := aug_ok rfl (call1 (get_ok rfl) (size_ok p)) (v_mulD _ _ pm) (by show 1 < 3; decide)
    exact ⟨u2, (for_go (e := [some (.dat d), some (.dat (.int t)), some (.dat (pD p))]) rfl st).trans e⟩
theorem rns_sm {ms : List Int} (nd : ms.Nodup) (hl : ms.length ≤ 16) : ∀ p ∈ RNS ms, p.1 ≤ p.2 ∧ p.2 - p.1 ≤ 1000 := fun p hp => by
  obtain ⟨j, hj, e⟩ := List.getElem_of_mem hp
  have hj' : j < (mks ms).length := by rw [mks_len, ← RNS_len]; exact hj
  have := rns_ok (fiv_pt ms.length) (by rw [mks_len]) (vd_row nd) j p ((mks ms)[j]'hj') (by rw [← e]; exact List.getElem?_eq_getElem hj) (List.getElem?_eq_getElem hj')
  omega
theorem sum_ints (l : List Int) : sumD [.list (l.map .int)] = some (.int l.sum) := by
  unfold sumD
  simp [intsD_map]
end Ov
set_option linter.all false
set_option maxRecDepth 100000
set_option maxHeartbeats 4000000
namespace Ov
/-! valleys, hills and teeth: their runs -/
/-! the codes of a valley -/
/-! hills -/
theorem mks_inj {ms ns : List Int} (p : ns.Perm ms) (nd : ms.Nodup) (h : mks ns = mks ms) : ns = ms := by
  have pw : (sortI ms).Pairwise (· < ·) := sortI_lt nd
  have e1 := bld_mk pw (sortI_perm ms).symm
  have e2 := bld_mk pw (p.trans (sortI_perm ms).symm)
  unfold mks at h
  rw [sort_perm p] at h
  rw [← e1, ← e2, h]
/-! teeth -/
theorem prod_mul : ∀ (b : List Iv) (t : Int), prod t b = t * prod 1 b
  | [], t => by simp [prod]
  | p :: b, t => by rw [prod, prod, prod_mul b (t * _), prod_mul b (1 * _), Int.one_mul, Int.mul_assoc]
def fct : Nat → Int
  | 0 => 1
  | n + 1 => fct n * (n + 1)
end Ov
set_option linter.all false
set_option maxRecDepth 100000
set_option maxHeartbeats 4000000
namespace Ov
/-! signatures: their mathematics -/
def CL : Nat → Int
  | 0 => 1
  | 1 => 1
  | n + 2 => 2 * CL (n + 1) + n * CL n
def rl (r i : Nat) : Nat := r - ((if 0 < i then 1 else 0) + (if i + 1 < r then 1 else 0))
def PS (r : Nat) : Nat → Int
  | 0 => 0
  | i + 1 => PS r i + CL (rl r i)
def nm : Nat → List Nat → Int
  | _, [] => 0
  | r, i :: s => PS r i + nm (rl r i) s
/-! the signature of codes -/
def sgs : List Iv → List Int → List Nat
  | _, [] => []
  | iv, c :: cs => rix iv c :: sgs (nx iv (rix iv c)) cs
theorem sgs_rns : ∀ {cs ds : List Int} {iv : List Iv} {m : Int}, (cs ≠ [] → Pt 0 m iv) → m = cs.length → Vd m cs → Vd m ds → ds.length = cs.length → (rns iv ds = rns iv cs ↔ sgs iv ds = sgs iv cs)
  | [], ds, iv, m, _, _, _, _, hl => by rw [List.length_eq_zero_iff.mp hl]; simp
  | c :: cs, [], iv, m, _, _, _, _, hl => by simp at hl
  | c :: cs, d :: ds, iv, m, hp, hm, v, v2, hl => by
    have P := hp (by simp)
    obtain ⟨q, e1, e2, e3, _, _⟩ := rix_at P v.1 v.2.1
    obtain ⟨q2, g1, g2, g3, _, _⟩ := rix_at P v2.1 v2.2.1
    rw [List.length_cons, List.length_cons] at hl
    rw [List.length_cons] at hm
    have ih : ∀ k : Nat, k < iv.length → (rns (nx iv k) ds = rns (nx iv k) cs ↔ sgs (nx iv k) ds = sgs (nx iv k) cs) := fun k hk => sgs_rns (m := m - 1) (fun z => nx_pt P (by have : cs.length ≠ 0 := fun y => z (List.length_eq_zero_iff.mp y); omega) hk) (by omega) v.2.2 v2.2.2 (by omega)
    rw [rns_cons e1, rns_cons g1, sgs, sgs]
    constructor
    · intro h
      injection h with h1 h2
      subst h1
      have er : rix iv d = rix iv c := rix_in P e1 g2 g3
      rw [er] at h2 ⊢
      rw [(ih _ (lt_of_get e1)).mp h2]
    · intro h
      injection h with h1 h2
      rw [h1] at g1 h2 ⊢
      rw [e1] at g1
      cases g1
      rw [(ih _ (lt_of_get e1)).mpr h2]
/-! the first row of a lot -/
def SG (ms : List Int) : List Nat := sgs (fiv ms.length) (mks ms)
theorem SG_RNS {ms ns : List Int} (p : ns.Perm ms) (nd : ms.Nodup) : RNS ns = RNS ms ↔ SG ns = SG ms := by
  have nd2 : ns.Nodup := p.nodup_iff.mpr nd
  have := sgs_rns (cs := mks ms) (ds := mks ns) (iv := fiv ms.length) (m := ms.length) (fun _ => fiv_pt _) (by rw [mks_len]) (vd_row nd) (by have := vd_row nd2; rw [p.length_eq] at this; exact this) (by rw [mks_len, mks_len, p.length_eq])
  unfold RNS SG
  rw [p.length_eq]
  exact this
/-- codes in the runs of a row: another row of its lot -/
theorem lot_mate {ms cs : List Int} (nd : ms.Nodup) (hl : cs.length = ms.length) (h : ∀ (j : Nat) (p : Iv) (c : Int), (RNS ms)[j]? = some p → cs[j]? = some c → inR p c) :
    (bld (sortI ms) cs).Perm ms ∧ mks (bld (sortI ms) cs) = cs ∧ RNS (bld (sortI ms) cs) = RNS ms ∧ SG (bld (sortI ms) cs) = SG ms := by
  have pw := sortI_lt nd
  obtain ⟨r1, v⟩ := rns_same (ds := cs) (fiv_pt ms.length) (by rw [mks_len]) (vd_row nd) (by rw [mks_len, hl]) h
  have ls : (sortI ms).length = ms.length := (sortI_perm ms).length_eq
  obtain ⟨b1, b2⟩ := mk_bld (S := sortI ms) (cs := cs) pw (by rw [ls, hl]) fun k c hk => by
    have := vd_get v k c hk
    rw [ls]
    exact this
  have p : (bld (sortI ms) cs).Perm ms := b1.trans (sortI_perm ms)
  have mk_ : mks (bld (sortI ms) cs) = cs := by unfold mks; rw [sort_perm p]; exact b2
  have rr : RNS (bld (sortI ms) cs) = RNS ms := by unfold RNS; rw [mk_, p.length_eq]; exact r1
  exact ⟨p, mk_, rr, (SG_RNS p nd).mp rr⟩
end Ov
set_option linter.all false
set_option maxRecDepth 100000
set_option maxHeartbeats 4000000
namespace Ov
/-! numbers written with the runs as digits -/
def szI (p : Iv) : Int := p.2 - p.1 + 1
def unr : List Iv → Int → Int × List Int
  | [], x => (x, [])
  | p :: l, x => ((unr l x).1 / szI p, (p.1 + (unr l x).1 % szI p) :: (unr l x).2)
def rk : List Iv → List Int → Int → Int
  | p :: l, c :: cs, a => rk l cs (a * szI p + c - p.1)
  | _, _, a => a
theorem unr_len : ∀ (l : List Iv) (x : Int), (unr l x).2.length = l.length
  | [], _ => rfl
  | p :: l, x => by rw [unr, List.length_cons, List.length_cons, unr_len l x]
theorem unr_rk : ∀ {l : List Iv} {x : Int}, rk l (unr l x).2 (unr l x).1 = x
  | [], x => rfl
  | p :: l, x => by
    show rk l (unr l x).2 ((unr l x).1 / szI p * szI p + (p.1 + (unr l x).1 % szI p) - p.1) = x
    rw [show (unr l x).1 / szI p * szI p + (p.1 + (unr l x).1 % szI p) - p.1 = (unr l x).1 by
      have := Int.mul_ediv_add_emod (unr l x).1 (szI p)
      rw [Int.mul_comm] at this
      omega]
    exact unr_rk
theorem unr_nn : ∀ {l : List Iv} {x : Int}, (∀ p ∈ l, p.1 ≤ p.2) → 0 ≤ x → 0 ≤ (unr l x).1
  | [], x, _, h => h
  | p :: l, x, hp, h => Int.ediv_nonneg (unr_nn (fun q hq => hp q (List.mem_cons_of_mem _ hq)) h) (by have := hp p (List.mem_cons_self ..); unfold szI; omega)
theorem unr_lt : ∀ {l : List Iv} {t x : Int}, (∀ p ∈ l, p.1 ≤ p.2) → x < prod t l → (unr l x).1 < t
  | [], t, x, _, h => h
  | p :: l, t, x, hp, h => by
    have h1 := hp p (List.mem_cons_self ..)
    have ih := unr_lt (l := l) (t := t * szI p) (x := x) (fun q hq => hp q (List.mem_cons_of_mem _ hq)) h
    exact Int.ediv_lt_of_lt_mul (by unfold szI; omega) ih
theorem unr_in : ∀ {l : List Iv} {x : Int}, (∀ p ∈ l, p.1 ≤ p.2) → ∀ (j : Nat) (p : Iv) (c : Int), l[j]? = some p → (unr l x).2[j]? = some c → inR p c
  | [], x, _, j, p, c, h, _ => by simp at h
  | q :: l, x, hp, 0, p, c, h, e => by
    cases h
    have h1 := hp q (List.mem_cons_self ..)
    have e : some (q.1 + (unr l x).1 % szI q) = some c := e
    cases e
    have s0 : 0 < szI q := by unfold szI; omega
    have a := Int.emod_nonneg (unr l x).1 (b := szI q) (by omega)
    have b := Int.emod_lt_of_pos (unr l x).1 s0
    unfold inR
    unfold szI at a b ⊢
    omega
  | q :: l, x, hp, j + 1, p, c, h, e => unr_in (fun q hq => hp q (List.mem_cons_of_mem _ hq)) j p c (by simpa using h) (by simpa [unr] using e)
theorem rk_unr : ∀ {l : List Iv} {cs : List Int} {a : Int}, cs.length = l.length → (∀ (j : Nat) (p : Iv) (c : Int), l[j]? = some p → cs[j]? = some c → inR p c) → unr l (rk l cs a) = (a, cs)
  | [], [], a, _, _ => rfl
  | [], _ :: _, a, h, _ => by simp at h
  | _ :: _, [], a, h, _ => by simp at h
  | p :: l, c :: cs, a, hl, h => by
    have h0 := h 0 p c rfl rfl
    have ih := rk_unr (l := l) (cs := cs) (a := a * szI p + c - p.1) (by simpa using hl) fun j q d h1 h2 => h (j + 1) q d (by simpa using h1) (by simpa using h2)
    show ((unr l (rk l cs (a * szI p + c - p.1))).1 / szI p, (p.1 + (unr l (rk l cs (a * szI p + c - p.1))).1 % szI p) :: (unr l (rk l cs (a * szI p + c - p.1))).2) = _
    rw [ih]
    have s0 : 0 < szI p := by unfold szI; have := h0.1; have := h0.2; omega
    have b0 : 0 ≤ c - p.1 := by have := h0.1; omega
    have b1 : c - p.1 < szI p := by unfold szI; have := h0.2; omega
    have e : a * szI p + c - p.1 = (c - p.1) + a * szI p := by omega
    show ((a * szI p + c - p.1) / szI p, (p.1 + (a * szI p + c - p.1) % szI p) :: cs) = (a, c :: cs)
    rw [e, Int.add_mul_ediv_right _ _ (by omega), Int.add_mul_emod_self_right, Int.ediv_eq_zero_of_lt b0 b1, Int.emod_eq_of_lt b0 b1, Int.zero_add, show p.1 + (c - p.1) = c by omega]
theorem prod_pos : ∀ {l : List Iv} {t : Int}, (∀ p ∈ l, p.1 ≤ p.2) → 1 ≤ t → 1 ≤ prod t l
  | [], t, _, h => h
  | p :: l, t, hp, h => prod_pos (l := l) (t := t * szI p) (fun q hq => hp q (List.mem_cons_of_mem _ hq)) (by
    have := hp p (List.mem_cons_self ..)
    have s1 : 1 ≤ szI p := by unfold szI; omega
    have := Int.mul_le_mul h s1 (by omega) (by omega)
    omega)
theorem rk_bd : ∀ {l : List Iv} {cs : List Int} {a : Int}, cs.length = l.length → (∀ (j : Nat) (p : Iv) (c : Int), l[j]? = some p → cs[j]? = some c → inR p c) → 0 ≤ a → a * prod 1 l ≤ rk l cs a ∧ rk l cs a < (a + 1) * prod 1 l
  | [], [], a, _, _, h => by simp only [rk, prod]; omega
  | [], _ :: _, a, h, _, _ => by simp at h
  | _ :: _, [], a, h, _, _ => by simp at h
  | p :: l, c :: cs, a, hl, h, ha => by
    have h0 := h 0 p c rfl rfl
    have b0 : 0 ≤ c - p.1 := by have := h0.1; omega
    have b1 : c - p.1 < szI p := by unfold szI; have := h0.2; omega
    have s0 : 0 < szI p := by omega
    have a0 : 0 ≤ a * szI p := Int.mul_nonneg ha (by omega)
    obtain ⟨i1, i2⟩ := rk_bd (l := l) (cs := cs) (a := a * szI p + c - p.1) (by simpa using hl) (fun j q d h1 h2 => h (j + 1) q d (by simpa using h1) (by simpa using h2)) (by omega)
    have pm : prod 1 (p :: l) = szI p * prod 1 l := by
      show prod (1 * szI p) l = _
      rw [prod_mul, Int.one_mul]
    have pp : 0 ≤ prod 1 l := by
      have hq : ∀ q ∈ l, q.1 ≤ q.2 := fun q hq => by
        obtain ⟨j, hj, e⟩ := List.getElem_of_mem hq
        have hj2 : j < cs.length := by have : cs.length = l.length := by simpa using hl
                                       omega
        have := h (j + 1) q cs[j] (by simp [List.getElem?_eq_getElem hj, e]) (by simp [List.getElem?_eq_getElem hj2])
        have := this.1
        have := this
        unfold inR at *
        omega
      have := prod_pos (l := l) (t := 1) hq (Int.le_refl _)
      omega
    rw [pm]
    show a * (szI p * prod 1 l) ≤ rk l cs (a * szI p + c - p.1) ∧ rk l cs (a * szI p + c - p.1) < (a + 1) * (szI p * prod 1 l)
    constructor
    · have := Int.mul_le_mul_of_nonneg_right (show a * szI p ≤ a * szI p + c - p.1 by omega) pp
      rw [← Int.mul_assoc]
      omega
    · have e : (a + 1) * szI p = a * szI p + szI p := by rw [Int.add_mul, Int.one_mul]
      have := Int.mul_le_mul_of_nonneg_right (show a * szI p + c - p.1 + 1 ≤ (a + 1) * szI p by omega) pp
      rw [← Int.mul_assoc]
      omega
end Ov
set_option Elab.async false
set_option linter.all false
set_option maxRecDepth 100000
set_option maxHeartbeats 4000000
set_option linter.all false
set_option maxRecDepth 100000
set_option maxHeartbeats 4000000
namespace Ov
/-! more of rows, codes and lots -/
theorem prod_le : ∀ {l : List Iv} {n : Nat}, l.length = n → (∀ (j : Nat) (p : Iv), l[j]? = some p → p.1 ≤ p.2 ∧ p.2 - p.1 + 1 ≤ (n : Int) - j) → prod 1 l ≤ fct n
  | [], n, h, _ => by cases h; exact Int.le_refl _
  | p :: l, n, h, hp => by
    rw [List.length_cons] at h
    cases n with
    | zero => simp at h
    | succ n =>
      have h0 := hp 0 p rfl
      have ih := prod_le (l := l) (n := n) (by omega) fun j q hq => by
        have := hp (j + 1) q (by simpa using hq)
        omega
      have pp := prod_pos (l := l) (t := 1) (fun q hq => by
        obtain ⟨j, hj, e⟩ := List.getElem_of_mem hq
        exact (hp (j + 1) q (by simp [List.getElem?_eq_getElem hj, e])).1) (Int.le_refl _)
      show prod (1 * (p.2 - p.1 + 1)) l ≤ fct n * ((n : Int) + 1)
      rw [prod_mul, Int.one_mul, Int.mul_comm (fct n)]
      exact Int.mul_le_mul (by omega) ih (by omega) (by omega)
theorem RNS_in {ms : List Int} (nd : ms.Nodup) (j : Nat) (p : Iv) (h : (RNS ms)[j]? = some p) : ∃ c, (mks ms)[j]? = some c ∧ 0 ≤ p.1 ∧ p.1 ≤ c ∧ c ≤ p.2 ∧ p.2 < (ms.length : Int) - j := by
  have hj := lt_of_get h
  have hj' : j < (mks ms).length := by rw [mks_len, ← RNS_len]; exact hj
  exact ⟨_, List.getElem?_eq_getElem hj', rns_ok (fiv_pt ms.length) (by rw [mks_len]) (vd_row nd) j p ((mks ms)[j]'hj') h (List.getElem?_eq_getElem hj')⟩
theorem prod_fct {ms : List Int} (nd : ms.Nodup) : prod 1 (RNS ms) ≤ fct ms.length := prod_le (RNS_len ms) fun j p h => by
  obtain ⟨c, _, h1, h2, h3, h4⟩ := RNS_in nd j p h
  omega
theorem fct_mono : ∀ {m n : Nat}, m ≤ n → fct m ≤ fct n
  | m, 0, h => by rw [show m = 0 by omega]; exact Int.le_refl _
  | m, n + 1, h => by
    by_cases e : m = n + 1
    · rw [e]; exact Int.le_refl _
    · have ih := fct_mono (m := m) (n := n) (by omega)
      have p : ∀ k : Nat, 1 ≤ fct k := fun k => by
        induction k with
        | zero => exact Int.le_refl _
        | succ k ih => have := Int.mul_le_mul ih (show (1 : Int) ≤ (k : Int) + 1 by omega) (by omega) (by omega); show 1 ≤ fct k * ((k : Int) + 1); omega
      have := Int.mul_le_mul (Int.le_refl (fct n)) (show (1 : Int) ≤ (n : Int) + 1 by omega) (by omega) (by have := p n; omega)
      show fct m ≤ fct n * ((n : Int) + 1)
      omega
theorem prod16 {ms : List Int} (nd : ms.Nodup) (hl : ms.length ≤ 16) : 1 ≤ prod 1 (RNS ms) ∧ prod 1 (RNS ms) < 100000000000000 := by
  have h1 := prod_fct nd
  have h2 := fct_mono hl
  have h3 : fct 16 < 100000000000000 := by decide
  exact ⟨prod_pos (fun p hp => by
    obtain ⟨j, hj, e⟩ := List.getElem_of_mem hp
    obtain ⟨c, _, h1, h2, h3, h4⟩ := RNS_in nd j p (by rw [← e]; exact List.getElem?_eq_getElem hj)
    omega) (Int.le_refl _), by omega⟩
/-! the row with a number -/
theorem at_mate {ms : List Int} {x : Int} (nd : ms.Nodup) : let ns := bld (sortI ms) (unr (RNS ms) x).2
    ns.Perm ms ∧ mks ns = (unr (RNS ms) x).2 ∧ RNS ns = RNS ms ∧ SG ns = SG ms := by
  refine lot_mate nd (by rw [unr_len, RNS_len]) fun j p c h1 h2 => unr_in (fun q hq => ?_) j p c h1 h2
  obtain ⟨j, hj, e⟩ := List.getElem_of_mem hq
  obtain ⟨c, _, h1, h2, h3, h4⟩ := RNS_in nd j q (by rw [← e]; exact List.getElem?_eq_getElem hj)
  omega
/-! heights by any rising names -/
/-! the shortest at the end -/
/-! rising rows -/
end Ov
set_option Elab.async false
set_option linter.all false
set_option maxRecDepth 100000
set_option maxHeartbeats 4000000
namespace Ov
open PySem L2
theorem bools_map {β : Type} (l : List β) (t : β → Bool) : boolsD (l.map fun x => .bool (t x)) = some (l.map t) := by
  induction l with
  | nil => rfl
  | cons a r ih => show (boolsD (r.map fun x => .bool (t x))).map (t a :: ·) = _; rw [ih]; rfl
theorem all_map {β : Type} (l : List β) (t : β → Bool) : allD [.list (l.map fun x => .bool (t x))] = some (.bool (l.all t)) := by
  show ((boolsD _).map fun bs => PyData.bool (bs.all id)) = _
  rw [bools_map]
  show some (PyData.bool ((l.map t).all id)) = _
  rw [List.all_map]
  rfl
theorem cutT_mid {β : Type} {z : β → PyData} {l : List β} {a b : Nat} (h : a ≤ b) (h2 : b ≤ l.length) : cutD (.tuple (l.map z)) (some (a : Int)) (some (b : Int)) = some (.tuple (((l.drop a).take (b - a)).map z)) := by
  show some (PyData.tuple (cutL _ _ _)) = _
  rw [cutL_mid _ _ _ h (by rw [List.length_map]; exact h2), List.map_take, List.map_drop]
theorem sees_go {ms : List Int} {i j : Int} {l : List PyData} {r : Bool}
    (h1 : (lcW (seqI (slD (get 0) (poS (op2 addD (get 1) (con (.int 1)))) (poS (get 2)))) (gN 3) yesT (op2 ltD (get 3) (cb minD (acons (op2 ixD (get 0) (get 1)) (acons (op2 ixD (get 0) (get 2)) anil)))) [3]) [some (.dat (.tuple (ms.map PyData.int))), some (.dat (.int i)), some (.dat (.int j)), none] = some (.ok (.own (dats l)) [some (.dat (.tuple (ms.map PyData.int))), some (.dat (.int i)), some (.dat (.int j)), none]))
    (h2 : allD [.list l] = some (.bool r)) :
    F_sees [.tuple (ms.map PyData.int), .int i, .int j] = some (.dat (.bool r)) := by
  refine runA_eq rfl ⟨[some (.dat (.tuple (ms.map PyData.int))), some (.dat (.int i)), some (.dat (.int j)), none], ?_⟩
  show f_sees [some (.dat (.tuple (ms.map PyData.int))), some (.dat (.int i)), some (.dat (.int j)), none] = _
  unfold f_sees
  exact (ret_x (pl_x (cb_x (acons_x (fz_x h1 (v_ofWo _)) anil_x) (vwC_x vwd_x vw0_x) h2) rfl))
theorem sees_ok {ms : List Int} {l r : Nat} (h1 : l < r) (h2 : r < ms.length) (h3 : ms.length ≤ 1000) : F_sees [.tuple (ms.map .int), .int (l : Int), .int (r : Int)] = some (.dat (.bool (clr ms l r))) := by
  have gl : ms[l]? = some (ms.getD l 0) := by rw [List.getD_eq_getElem?_getD, List.getElem?_eq_getElem (by omega)]; rfl
  have gr : ms[r]? = some (ms.getD r 0) := by rw [List.getD_eq_getElem?_getD, List.getElem?_eq_getElem (by omega)]; rfl
  refine sees_go (lc_eq (seq_x (sl_x (get_x rfl) (poS_x (op2_x (get_x rfl) con_x vwd_x vwd_x ((addI_x _ _).trans (congrArg (fun z => some (PyData.int z)) (show (l : Int) + 1 = ((l + 1 : Nat) : Int) by omega))))) (poS_x (get_x rfl)) vwd_x (cutT_mid (z := PyData.int) (a := l + 1) (b := r) (by omega) (by omega))) rfl) rfl rfl (compM_x (fun y => .bool (decide (y < min (ms.getD l 0) (ms.getD r 0)))) _ (by rw [List.length_take, List.length_drop]; omega) fun y _ => ?_)) (all_map _ _)
  exact ⟨[some (.dat (.tuple (ms.map .int))), some (.dat (.int (l : Int))), some (.dat (.int (r : Int))), some (.dat (.int y))], rfl, rfl, op2_x (get_x rfl) (cb_x (acons_x (op2_x (get_x rfl) (get_x rfl) vwd_x vwd_x (ixT_map (z := PyData.int) gl)) (acons_x (op2_x (get_x rfl) (get_x rfl) vwd_x vwd_x (ixT_map (z := PyData.int) gr)) anil_x)) (vwC_x vwd_x (vwC_x vwd_x vw0_x)) (min_x _ _)) vwd_x vwd_x (ltI_x _ _), rfl, rfl⟩
/-! swaps -/
def sw1 (ms : List Int) (i : Nat) : List Iv := ((List.range' (i + 2) (ms.length - (i + 2))).filter fun j => clr ms i j).map fun j : Nat => ((i : Int), (j : Int))
def sws (ms : List Int) : List Nat → List Iv
  | [] => []
  | i :: l => sw1 ms i ++ sws ms l
theorem sw1_len (ms : List Int) (i : Nat) : (sw1 ms i).length ≤ ms.length := by
  unfold sw1
  rw [List.length_map]
  have := List.length_filter_le (fun j => clr ms i j) (List.range' (i + 2) (ms.length - (i + 2)))
  rw [List.length_range'] at this
  omega
theorem rng_range (a b : Nat) : rngL (a : Int) (b : Int) = (List.range' a (b - a)).map fun k : Nat => (k : Int) := by
  unfold rngL
  rw [List.range'_eq_map_range, List.map_map, show ((b : Int) - (a : Int)).toNat = b - a by omega]
  refine List.map_congr_left fun k _ => ?_
  show (a : Int) + (k : Int) = ((a + k : Nat) : Int)
  omega
theorem sg1_far (ms : List Int) (l : Nat) : (sg1 ms l).filter farP = sw1 ms l := by
  unfold sg1 sw1
  have e : rngL ((l : Int) + 1) ms.length = (List.range' (l + 1) (ms.length - (l + 1))).map fun k : Nat => (k : Int) := rng_range (l + 1) ms.length
  rw [e, List.filter_map, List.filter_filter, List.filter_map, List.map_map]
  have key : (List.range' (l + 1) (ms.length - (l + 1))).filter (fun j => decide (l + 1 < j) && clr ms l j) = (List.range' (l + 2) (ms.length - (l + 2))).filter fun j => clr ms l j := by
    by_cases c : l + 1 < ms.length
    · rw [show ms.length - (l + 1) = (ms.length - (l + 2)) + 1 by omega, List.range'_succ, List.filter_cons_of_neg (by simp)]
      refine List.filter_congr fun j hj => ?_
      have : l + 2 ≤ j := by have := List.mem_range'.mp hj; omega
      rw [decide_eq_true (by omega : l + 1 < j)]
      rfl
    · rw [show ms.length - (l + 1) = 0 by omega, show ms.length - (l + 2) = 0 by omega]
      rfl
  rw [← key]
  congr 1
  refine List.filter_congr fun j _ => ?_
  show (farP ((l : Int), (j : Int)) && clr ms l ((j : Int)).toNat) = _
  rw [Int.toNat_natCast]
  congr 1
  unfold farP
  rw [decide_eq_decide]
  show (l : Int) < (j : Int) - 1 ↔ _
  omega
theorem sws_far (ms : List Int) : ∀ ls : List Nat, (sg ms ls).filter farP = sws ms ls
  | [] => rfl
  | l :: ls => by rw [sg, List.filter_append, sg1_far, sws_far ms ls]; rfl
theorem sws_xcs (ms : List Int) : sws ms (List.range ms.length) = xcs ms := (sws_far ms _).symm
theorem sw_body {ms : List Int} {f y : List Iv} {i : Int}
    (h1 : (lcW (argI rngD2 (acons (op2 addD (get 2) (con (.int 2))) (acons (cb lenD (acons (get 0) anil)) anil))) (gN 3) (tb1 (fz (callA F_sees (acons (get 0) (acons (get 2) (acons (get 3) anil)))))) (tupD (acons (get 2) (acons (get 3) anil))) [3]) [some (.dat (.tuple (ms.map PyData.int))), some (.dat (.list (ivD f))), some (.dat (.int i)), none] = some (.ok (.own (dats (ivD y))) [some (.dat (.tuple (ms.map PyData.int))), some (.dat (.list (ivD f))), some (.dat (.int i)), none]))
    (h2 : (ivD f).length + (ivD y).length ≤ 1000000) :
    b_swaps_1 [some (.dat (.tuple (ms.map PyData.int))), some (.dat (.list (ivD f))), some (.dat (.int i)), none] = some (.ok .nx [some (.dat (.tuple (ms.map PyData.int))), some (.dat (.list ((ivD f) ++ (ivD y)))), some (.dat (.int i)), none]) := by
  unfold b_swaps_1
  exact (set_x (pl_x (op2_x (get_x rfl) (fz_x h1 (v_ofWo _)) vwd_x vwd_x (v_cat _ _ h2)) rfl) (Nat.le_of_ble_eq_true rfl))
theorem swaps_go {ms : List Int} {l : List PyData} {f : List Iv} {u1 u2 : Option Wv}
    (h1 : rngD [.int (ms.length : Nat)] = some l)
    (h2 : forM (gN 2) b_swaps_1 l [some (.dat (.tuple (ms.map PyData.int))), some (.dat (.list [])), none, none] = some (.ok .nx [some (.dat (.tuple (ms.map PyData.int))), some (.dat (.list (ivD f))), u1, u2])) :
    F_swaps [.tuple (ms.map PyData.int)] = some (.dat (.list (ivD f))) := by
  have s0 : s_swaps_0 [some (.dat (.tuple (ms.map PyData.int))), none, none, none] = some (.ok .nx [some (.dat (.tuple (ms.map PyData.int))), some (.dat (.list [])), none, none]) := by
    unfold s_swaps_0
    exact (set_x (pl_x (lst_x anil_x rfl (Nat.le_of_ble_eq_true rfl)) rfl) (Nat.le_of_ble_eq_true rfl))
  have s1 : s_swaps_1 [some (.dat (.tuple (ms.map PyData.int))), some (.dat (.list [])), none, none] = some (.ok .nx [some (.dat (.tuple (ms.map PyData.int))), some (.dat (.list (ivD f))), u1, u2]) := by
    unfold s_swaps_1
    exact (for_x (argI_x (acons_x (cb_x (acons_x (get_x rfl) anil_x) (vwC_x vwd_x vw0_x) (lenTm_x _ _)) anil_x) rfl h1) h2)
  refine runA_eq rfl ⟨[some (.dat (.tuple (ms.map PyData.int))), some (.dat (.list (ivD f))), u1, u2], ?_⟩
  show f_swaps [some (.dat (.tuple (ms.map PyData.int))), none, none, none] = _
  unfold f_swaps
  rw [then_nx s0, then_nx s1]
  unfold s_swaps_2
  exact (ret_x (pl_x (get_x rfl) rfl))
theorem sw_loop {ms : List Int} (hn : ms.length ≤ 30) : ∀ (j : Nat) {k : Nat} {f : List Iv} {w2 : Option Wv}, k + j ≤ ms.length → f.length + 30 * j ≤ 1000 → ∃ u2, forM (gN 2) b_swaps_1 ((List.range' k j).map nI) [some (.dat (.tuple (ms.map .int))), some (.dat (.list (ivD f))), w2, none] = some (.ok .nx [some (.dat (.tuple (ms.map .int))), some (.dat (.list (ivD (f ++ sws ms (List.range' k j))))), u2, none])
  | 0, k, f, w2, _, _ => ⟨w2, by show _ = some (Rs.ok Fl.nx [_, some (.dat (.list (ivD (f ++ [])))), _, _]); rw [List.append_nil]; exact for_nil⟩
  | j + 1, k, f, w2, h, hl => by
    have l1 := sw1_len ms k
    obtain ⟨u2, e⟩ := sw_loop hn j (k := k + 1) (f := f ++ sw1 ms k) (w2 := some (.dat (nI k))) (by omega) (by rw [List.length_append]; omega)
    have cm : lcW (argI rngD2 (acons (op2 addD (get 2) (con (.int 2))) (acons (cb lenD (acons (get 0) anil)) anil))) (gN 3) (tb1 (fz (callA F_sees (acons (get 0) (acons (get 2) (acons (get 3) anil)))))) (tupD (acons (get 2) (acons (get 3) anil))) [3] [some (.dat (.tuple (ms.map PyData.int))), some (.dat (.list (ivD f))), some (.dat (.int (k : Int))), none] = some (.ok (.own (dats (ivD (sw1 ms k)))) [some (.dat (.tuple (ms.map PyData.int))), some (.dat (.list (ivD f))), some (.dat (.int (k : Int))), none]) := by
      refine lc_eq (argI_x (acons_x (op2_x (get_x rfl) con_x vwd_x vwd_x ((addI_x _ _).trans (congrArg (fun z => some (PyData.int z)) (show (k : Int) + 2 = ((k + 2 : Nat) : Int) by omega)))) (acons_x (cb_x (acons_x (get_x rfl) anil_x) (vwC_x vwd_x vw0_x) (lenTm_x _ _)) anil_x)) rfl (rng2N (by omega) (by omega))) rfl rfl ?_
      have := comp_x (env := [some (.dat (.tuple (ms.map PyData.int))), some (.dat (.list (ivD f))), some (.dat (.int (k : Int))), none]) (p := gN 3) (ft := tb1 (fz (callA F_sees (acons (get 0) (acons (get 2) (acons (get 3) anil)))))) (fe := tupD (acons (get 2) (acons (get 3) anil))) (vs := [3]) (z := nI) (fun j => .tuple [.int (k : Int), .int (j : Int)]) (fun j => clr ms k j) (List.range' (k + 2) (ms.length - (k + 2))) [] (by rw [List.length_range']; show 0 + _ < _; omega) fun j hj => by
        have hj := List.mem_range'.mp hj
        exact ⟨[some (.dat (.tuple (ms.map PyData.int))), some (.dat (.list (ivD f))), some (.dat (.int (k : Int))), some (.dat (.int (j : Int)))], rfl, tb_x (fz_x (callA_x (acons_x (get_x rfl) (acons_x (get_x rfl) (acons_x (get_x rfl) anil_x))) rfl (sees_ok (by omega) (by omega) (by omega))) rfl) vwd_x, fun _ => tup_x (acons_x (get_x rfl) (acons_x (get_x rfl) anil_x)) rfl (Nat.le_of_ble_eq_true rfl), rfl, rfl⟩
      refine this.trans ?_
      rw [List.nil_append]
      unfold sw1 ivD
      rw [List.map_map]
      rfl
    have st := sw_body (ms := ms) (f := f) (i := (k : Int)) cm (by rw [iv_len, iv_len]; omega)
    refine ⟨u2, ?_⟩
    rw [List.range'_succ, List.map_cons]
    refine (for_go (e := [some (.dat (.tuple (ms.map .int))), some (.dat (.list (ivD f))), some (.dat (.int (k : Int))), none]) rfl st).trans (Eq.trans ?_ (e.trans ?_))
    · unfold ivD; rw [List.map_append]; rfl
    · rw [List.append_assoc]; rfl
theorem swaps_ok {ms : List Int} (hn : ms.length ≤ 30) : F_swaps [.tuple (ms.map .int)] = some (.dat (.list (ivD (xcs ms)))) := by
  obtain ⟨u2, e⟩ := sw_loop hn ms.length (k := 0) (f := []) (w2 := none) (by omega) (by show 0 + _ ≤ _; omega)
  rw [← List.range_eq_range', sws_xcs, List.nil_append] at e
  exact swaps_go (rng1N (by omega)) (by rw [← List.range_eq_range']; exact e)
/-! turned -/
theorem turned_go {i1 j1 i j b a : Int} {ms c0 c1 c2 : List Int}
    (h1 : cutD (.tuple (ms.map PyData.int)) none (some i) = some (.tuple (c0.map PyData.int)))
    (h2 : ixD (.tuple (ms.map PyData.int)) (.int j) = some (.int b))
    (h3 : (c0.map PyData.int).length + ([.int b] : List PyData).length ≤ 1000000)
    (q4 : i + 1 = i1)
    (h5 : cutD (.tuple (ms.map PyData.int)) (some i1) (some j) = some (.tuple (c1.map PyData.int)))
    (h6 : (((c0.map PyData.int) ++ [.int b]) : List PyData).length + (c1.map PyData.int).length ≤ 1000000)
    (h7 : ixD (.tuple (ms.map PyData.int)) (.int i) = some (.int a))
    (h8 : ((((c0.map PyData.int) ++ [.int b]) ++ (c1.map PyData.int)) : List PyData).length + ([.int a] : List PyData).length ≤ 1000000)
    (q9 : j + 1 = j1)
    (h10 : cutD (.tuple (ms.map PyData.int)) (some j1) none = some (.tuple (c2.map PyData.int)))
    (h11 : (((((c0.map PyData.int) ++ [.int b]) ++ (c1.map PyData.int)) ++ [.int a]) : List PyData).length + (c2.map PyData.int).length ≤ 1000000) :
    F_turned [.tuple (ms.map PyData.int), .tuple [.int i, .int j]] = some (.dat (.tuple (((((c0.map PyData.int) ++ [.int b]) ++ (c1.map PyData.int)) ++ [.int a]) ++ (c2.map PyData.int)))) := by
  have s0 : s_turned_0 [some (.dat (.tuple (ms.map PyData.int))), some (.dat (.tuple [.int i, .int j])), none, none] = some (.ok .nx [some (.dat (.tuple (ms.map PyData.int))), some (.dat (.tuple [.int i, .int j])), some (.dat (.int i)), some (.dat (.int j))]) := by
    unfold s_turned_0
    exact (un_x (get_x rfl) rfl)
  refine runA_eq rfl ⟨[some (.dat (.tuple (ms.map PyData.int))), some (.dat (.tuple [.int i, .int j])), some (.dat (.int i)), some (.dat (.int j))], ?_⟩
  show f_turned [some (.dat (.tuple (ms.map PyData.int))), some (.dat (.tuple [.int i, .int j])), none, none] = _
  unfold f_turned
  rw [then_nx s0]
  unfold s_turned_1
  exact (ret_x (pl_x (op2_x (op2_x (op2_x (op2_x (sl_x (get_x rfl) poN_x (poS_x (get_x rfl)) vwd_x h1) (tup_x (acons_x (op2_x (get_x rfl) (get_x rfl) vwd_x vwd_x h2) anil_x) rfl (Nat.le_of_ble_eq_true rfl)) vwd_x vwd_x (v_catT _ _ h3)) (sl_x (get_x rfl) (poS_x (op2_x (get_x rfl) con_x vwd_x vwd_x ((addI_x _ _).trans (congrArg (fun z => some (PyData.int z)) q4)))) (poS_x (get_x rfl)) vwd_x h5) vwd_x vwd_x (v_catT _ _ h6)) (tup_x (acons_x (op2_x (get_x rfl) (get_x rfl) vwd_x vwd_x h7) anil_x) rfl (Nat.le_of_ble_eq_true rfl)) vwd_x vwd_x (v_catT _ _ h8)) (sl_x (get_x rfl) (poS_x (op2_x (get_x rfl) con_x vwd_x vwd_x ((addI_x _ _).trans (congrArg (fun z => some (PyData.int z)) q9)))) poN_x vwd_x h10) vwd_x vwd_x (v_catT _ _ h11)) rfl))
section
variable {A B C : List Int} {a b : Int}
theorem turned_ok (hl : (A ++ a :: (B ++ b :: C)).length ≤ 1000) : F_turned [.tuple ((A ++ a :: (B ++ b :: C)).map .int), pD ((A.length : Int), ((A.length + 1 + B.length : Nat) : Int))] = some (.dat (.tuple ((A ++ b :: (B ++ a :: C)).map .int))) := by
  have ln := len_x (A := A) (B := B) (C := C) (a := a) (b := b)
  have d0 : (A ++ a :: (B ++ b :: C)).take A.length = A := by simp
  have d1 : ((A ++ a :: (B ++ b :: C)).drop (A.length + 1)).take (A.length + 1 + B.length - (A.length + 1)) = B := by
    have e : A ++ a :: (B ++ b :: C) = (A ++ [a]) ++ (B ++ b :: C) := by simp
    rw [e, List.drop_append_of_le_length (by simp), List.drop_eq_nil_of_le (by simp), List.nil_append, show A.length + 1 + B.length - (A.length + 1) = B.length by omega]
    simp
  have d2 : (A ++ a :: (B ++ b :: C)).drop (A.length + 1 + B.length + 1) = C := by
    have e : A ++ a :: (B ++ b :: C) = (A ++ a :: (B ++ [b])) ++ C := by simp
    rw [e, List.drop_append_of_le_length (by simp; omega), List.drop_eq_nil_of_le (by simp; omega)]
    rfl
  have t0 := cutT_to (z := PyData.int) (l := A ++ a :: (B ++ b :: C)) (k := A.length)
  have t1 := cutT_mid (z := PyData.int) (l := A ++ a :: (B ++ b :: C)) (a := A.length + 1) (b := A.length + 1 + B.length) (by omega) (by omega)
  have t2 := cutT_from (z := PyData.int) (l := A ++ a :: (B ++ b :: C)) (k := A.length + 1 + B.length + 1)
  rw [d0] at t0
  rw [d1] at t1
  rw [d2] at t2
  have la : A.length ≤ 1000 ∧ B.length ≤ 1000 ∧ C.length ≤ 1000 := ⟨by omega, by omega, by omega⟩
  refine (turned_go (ms := A ++ a :: (B ++ b :: C)) (i := (A.length : Int)) (j := ((A.length + 1 + B.length : Nat) : Int)) (i1 := ((A.length + 1 : Nat) : Int)) (j1 := ((A.length + 1 + B.length + 1 : Nat) : Int)) t0 (ixT_map (z := PyData.int) at_r) ?_ (by omega) t1 ?_ (ixT_map (z := PyData.int) at_l) ?_ (by omega) t2 ?_).trans ?_
  · rw [List.length_map]; show A.length + 1 ≤ _; omega
  · rw [List.length_append, List.length_map, List.length_map]; show A.length + 1 + _ ≤ _; omega
  · rw [List.length_append, List.length_append, List.length_map, List.length_map]; show A.length + 1 + B.length + 1 ≤ _; omega
  · rw [List.length_append, List.length_append, List.length_append, List.length_map, List.length_map, List.length_map]; show A.length + 1 + B.length + 1 + _ ≤ _; omega
  · congr 3
    simp
end
/-! walks -/
def Wk : List Int → List Iv → List Int → Prop
  | ms, [], ns => ns = ms
  | ms, t :: ts, ns => ∃ A a B b C, ms = A ++ a :: (B ++ b :: C) ∧ B ≠ [] ∧ (∀ y ∈ B, y < a ∧ y < b) ∧ t = ((A.length : Int), ((A.length + 1 + B.length : Nat) : Int)) ∧ Wk (A ++ b :: (B ++ a :: C)) ts ns
theorem Wk.snoc : ∀ {ts : List Iv} {ms : List Int} {A B C : List Int} {a b : Int}, Wk ms ts (A ++ a :: (B ++ b :: C)) → B ≠ [] → (∀ y ∈ B, y < a ∧ y < b) → Wk ms (ts ++ [((A.length : Int), ((A.length + 1 + B.length : Nat) : Int))]) (A ++ b :: (B ++ a :: C))
  | [], ms, A, B, C, a, b, h, hB, hb => ⟨A, a, B, b, C, h.symm, hB, hb, rfl, rfl⟩
  | t :: ts, ms, A, B, C, a, b, ⟨A', a', B', b', C', h1, h2, h3, h4, h5⟩, hB, hb => ⟨A', a', B', b', C', h1, h2, h3, h4, Wk.snoc h5 hB hb⟩
theorem swap_perm {A B C : List Int} {a b : Int} : (A ++ b :: (B ++ a :: C)).Perm (A ++ a :: (B ++ b :: C)) := by
  refine List.Perm.append_left A ?_
  refine (List.Perm.cons b List.perm_middle).trans ?_
  refine (List.Perm.swap a b (B ++ C)).trans ?_
  exact List.Perm.cons a List.perm_middle.symm
theorem Wk.perm : ∀ {ts : List Iv} {ms ns : List Int}, Wk ms ts ns → ns.Perm ms
  | [], ms, ns, h => by rw [show ns = ms from h]
  | t :: ts, ms, ns, ⟨A, a, B, b, C, h1, h2, h3, h4, h5⟩ => by rw [h1]; exact (Wk.perm h5).trans swap_perm
end Ov
set_option linter.all false
set_option maxRecDepth 100000
set_option maxHeartbeats 4000000
namespace Ov
/-! runs as marks between neighbours -/
theorem nx_get {iv : List Iv} {a i : Nat} {q : Iv} (ha : a < iv.length) (h : (nx iv a)[i]? = some q) :
    (i < lf a ∧ iv[i]? = some q) ∨ (∃ pl pr, iv[lf a]? = some pl ∧ iv[rg iv a]? = some pr ∧ q = (pl.1, pr.2 - 1)) ∨ ∃ j p, rg iv a < j ∧ iv[j]? = some p ∧ q = (p.1 - 1, p.2 - 1) := by
  have hl : lf a < iv.length := by unfold lf; omega
  have hr : rg iv a < iv.length := by unfold rg; omega
  have g1 : iv[lf a]? = some iv[lf a] := List.getElem?_eq_getElem hl
  have g2 : iv[rg iv a]? = some iv[rg iv a] := List.getElem?_eq_getElem hr
  unfold nx at h
  rw [List.append_assoc, List.singleton_append, List.getElem?_append] at h
  by_cases c1 : i < (iv.take (lf a)).length
  · rw [if_pos c1] at h
    rw [List.length_take] at c1
    rw [List.getElem?_take, if_pos (by omega)] at h
    exact .inl ⟨by omega, h⟩
  · rw [if_neg c1] at h
    rw [List.length_take, Nat.min_eq_left (by omega)] at h c1
    cases e : i - lf a with
    | zero =>
      rw [e] at h
      right; left
      refine ⟨_, _, g1, g2, ?_⟩
      have h' := h
      simp only [List.getElem?_cons_zero] at h'
      injection h' with h'
      rw [← h']
      simp [List.getD_eq_getElem?_getD, g1, g2]
    | succ n =>
      rw [e, List.getElem?_cons_succ, List.getElem?_map, List.getElem?_drop] at h
      obtain ⟨p, hp, hq⟩ := Option.map_eq_some_iff.mp h
      exact .inr (.inr ⟨rg iv a + 1 + n, p, by omega, hp, hq.symm⟩)
theorem jn_nx {iv : List Iv} {m : Int} {a : Nat} {r : Iv} (P : Pt 0 m iv) (ha : iv[a]? = some r) {k : Int} (k0 : 0 ≤ k) (k1 : k + 2 < m) :
    jn (nx iv a) k ↔ (k < max 0 (r.1 - 1) ∧ jn iv k) ∨ (max 0 (r.1 - 1) ≤ k ∧ k < min r.2 (m - 2)) ∨ (max 0 (r.1 - 1) ≤ k ∧ min r.2 (m - 2) ≤ k ∧ jn iv (k + 1)) := by
  have lta := lt_of_get ha
  obtain ⟨pl, pr, e1, e2, e3, e4, e5⟩ := nx_parts P ha
  have gr := pt_get P ha
  have ls : lf a = a - 1 := rfl
  have rs : rg iv a = min (a + 1) (iv.length - 1) := rfl
  have fl := pt_get P e1
  have fr := pt_get P e2
  -- where the neighbours end
  have hpl : (a = 0 ∧ pl = r ∧ r.1 = 0) ∨ (1 ≤ a ∧ r.1 = pl.2 + 1) := by
    by_cases c : a = 0
    · subst c
      rw [show lf 0 = 0 from rfl, ha] at e1
      cases e1
      exact .inl ⟨rfl, rfl, pt_first P ha⟩
    · exact .inr ⟨by omega, pt_adj (i := lf a) P e1 (by rw [show lf a + 1 = a by omega]; exact ha)⟩
  have hpr : (a + 1 = iv.length ∧ pr = r ∧ r.2 = m - 1) ∨ (a + 1 < iv.length ∧ pr.1 = r.2 + 1) := by
    by_cases c : a + 1 = iv.length
    · rw [show rg iv a = a by omega, ha] at e2
      cases e2
      have := pt_last P ha c
      exact .inl ⟨c, rfl, by omega⟩
    · refine .inr ⟨by omega, pt_adj (i := a) P ha ?_⟩
      rw [show a + 1 = rg iv a by omega]
      exact e2
  constructor
  · rintro ⟨i, q, hq, q1, q2⟩
    rcases nx_get lta hq with ⟨h1, h2⟩ | ⟨pl', pr', h1, h2, rfl⟩ | ⟨j, p, h1, h2, rfl⟩
    · have := pt_lt P h2 e1 h1
      rcases hpl with ⟨z, _, _⟩ | ⟨_, z⟩
      · omega
      · exact .inl ⟨by omega, i, q, h2, q1, q2⟩
    · rw [e1] at h1
      rw [e2] at h2
      cases h1
      cases h2
      simp only at q1 q2
      rcases hpl with ⟨z, z2, z3⟩ | ⟨z, z2⟩
      · rcases hpr with ⟨y, y2, y3⟩ | ⟨y, y2⟩
        · right; left; omega
        · by_cases c : k < r.2
          · right; left; omega
          · right; right
            exact ⟨by omega, by omega, rg iv a, pr, e2, by omega, by omega⟩
      · by_cases c0 : k < r.1 - 1
        · exact .inl ⟨by omega, lf a, pl, e1, q1, by omega⟩
        · rcases hpr with ⟨y, y2, y3⟩ | ⟨y, y2⟩
          · right; left; omega
          · by_cases c : k < r.2
            · right; left; omega
            · right; right
              exact ⟨by omega, by omega, rg iv a, pr, e2, by omega, by omega⟩
    · simp only at q1 q2
      have := pt_lt P e2 h2 h1
      have f := pt_get P h2
      have lj := lt_of_get h2
      right; right
      rcases hpr with ⟨y, y2, y3⟩ | ⟨y, y2⟩
      · exfalso; omega
      · exact ⟨by omega, by omega, j, p, h2, by omega, by omega⟩
  · rintro (⟨h1, i, q, h2, h3, h4⟩ | ⟨h1, h2⟩ | ⟨h1, h2, i, q, h3, h4, h5⟩)
    · rcases hpl with ⟨z, _, _⟩ | ⟨_, z⟩
      · omega
      · by_cases c : i < lf a
        · exact ⟨i, q, e4 i q c h2, h3, h4⟩
        · by_cases c2 : i = lf a
          · subst c2
            rw [e1] at h2
            cases h2
            refine ⟨lf a, _, e3, h3, ?_⟩
            show k + 1 ≤ pr.2 - 1
            rcases hpr with ⟨_, rfl, _⟩ | ⟨_, y⟩ <;> omega
          · have := pt_lt P e1 h2 (by omega)
            omega
    · refine ⟨lf a, _, e3, ?_, ?_⟩
      · show pl.1 ≤ k
        rcases hpl with ⟨_, rfl, _⟩ | ⟨_, z⟩ <;> omega
      · show k + 1 ≤ pr.2 - 1
        rcases hpr with ⟨_, rfl, _⟩ | ⟨_, y⟩ <;> omega
    · have gq := pt_get P h3
      by_cases c : rg iv a < i
      · obtain ⟨j, hj⟩ := e5 i q c h3
        exact ⟨j, _, hj, by show q.1 - 1 ≤ k; omega, by show k + 1 ≤ q.2 - 1; omega⟩
      · by_cases c2 : i = rg iv a
        · subst c2
          rw [e2] at h3
          cases h3
          refine ⟨lf a, _, e3, ?_, by show k + 1 ≤ pr.2 - 1; omega⟩
          show pl.1 ≤ k
          rcases hpl with ⟨_, rfl, _⟩ | ⟨_, z⟩ <;> omega
        · have := pt_lt P h3 e2 (by omega)
          have h6 : i ≤ a := by omega
          have := (pt_le P h3 ha h6).2
          omega
end Ov
set_option Elab.async false
set_option linter.all false
set_option maxRecDepth 100000
set_option maxHeartbeats 4000000
set_option linter.all false
set_option maxRecDepth 100000
set_option maxHeartbeats 4000000
set_option Elab.async false
set_option linter.all false
set_option maxRecDepth 100000
set_option maxHeartbeats 4000000
set_option Elab.async false
set_option linter.all false
set_option maxRecDepth 100000
set_option maxHeartbeats 4000000
namespace Ov
open PySem L2
theorem leads_n {d e : PyData}
    (h1 : F_bar [d, e] = some (.dat (.none))) :
    F_leads [d, e] = some (.dat (.bool true)) := by
  refine runA_eq rfl ⟨[some (.dat (d)), some (.dat (e))], ?_⟩
  show f_leads [some (.dat (d)), some (.dat (e))] = _
  unfold f_leads
  exact (ret_x (pl_x (isN_x (fz_x (callA_x (acons_x (get_x rfl) (acons_x (get_x rfl) anil_x)) rfl h1) rfl) rfl) rfl))
theorem leads_s {d e : PyData} {h : Int}
    (h1 : F_bar [d, e] = some (.dat (.int h))) :
    F_leads [d, e] = some (.dat (.bool false)) := by
  refine runA_eq rfl ⟨[some (.dat (d)), some (.dat (e))], ?_⟩
  show f_leads [some (.dat (d)), some (.dat (e))] = _
  unfold f_leads
  exact (ret_x (pl_x (isN_x (fz_x (callA_x (acons_x (get_x rfl) (acons_x (get_x rfl) anil_x)) rfl h1) rfl) rfl) rfl))
def bar1 : List Int → List Iv → List Iv → Option Int
  | h :: S, p :: A, q :: B => if p = q then bar1 S A B else some h
  | _, _, _ => none
def barO (a b : List Int) : Option Int := bar1 (sortI a) (RNS a) (RNS b)
def optI : Option Int → PyData
  | none => .none
  | some h => .int h
theorem bar1_cons {h : Int} {S : List Int} {p q : Iv} {A B : List Iv} : bar1 (h :: S) (p :: A) (q :: B) = if p = q then bar1 S A B else some h := by rw [bar1]
theorem bar1_none : ∀ {S : List Int} {A B : List Iv}, A.length = S.length → B.length = S.length → bar1 S A B = none → A = B
  | [], [], [], _, _, _ => rfl
  | h :: S, p :: A, q :: B, h1, h2, h3 => by
    rw [bar1_cons] at h3
    split at h3
    · rename_i e
      rw [e, bar1_none (by simpa using h1) (by simpa using h2) h3]
    · cases h3
  | [], _ :: _, _, h, _, _ => by simp at h
  | [], [], _ :: _, _, h, _ => by simp at h
  | _ :: _, [], _, h, _, _ => by simp at h
  | _ :: _, _ :: _, [], _, h, _ => by simp at h
theorem bar1_some : ∀ {S : List Int} {A B : List Iv} {x : Int}, bar1 S A B = some x → ∃ k, A.take k = B.take k ∧ A[k]? ≠ B[k]? ∧ S[k]? = some x
  | h :: S, p :: A, q :: B, x, e => by
    rw [bar1_cons] at e
    split at e
    · rename_i pq
      subst pq
      obtain ⟨k, h1, h2, h3⟩ := bar1_some e
      exact ⟨k + 1, by rw [List.take_succ_cons, List.take_succ_cons, h1], by simpa using h2, by simpa using h3⟩
    · rename_i pq
      exact ⟨0, rfl, by simpa using pq, by simpa using e⟩
  | [], _, _, _, e => by unfold bar1 at e; cases e
  | _ :: _, [], _, _, e => by unfold bar1 at e; cases e
  | _ :: _, _ :: _, [], _, e => by unfold bar1 at e; cases e
section
variable {d e : PyData} {a b : List Int}
theorem barO_none (p : b.Perm a) (h : barO a b = none) : RNS b = RNS a := (bar1_none (by rw [RNS_len, (sortI_perm a).length_eq]) (by rw [RNS_len, (sortI_perm a).length_eq, p.length_eq]) h).symm
theorem bar_val (hd : isSq d a) (he : isSq e b) (p : b.Perm a) (hl : a.length ≤ 100) (nd : a.Nodup) : F_bar [d, e] = some (.dat (optI (barO a b))) := by
  cases h : barO a b with
  | none => exact bar_none hd he p hl nd (barO_none p h)
  | some x =>
    obtain ⟨k, h1, h2, h3⟩ := bar1_some h
    exact bar_some hd he p hl nd h1 h2 h3
theorem leads_val (hd : isSq d a) (he : isSq e b) (p : b.Perm a) (hl : a.length ≤ 100) (nd : a.Nodup) : F_leads [d, e] = some (.dat (.bool (barO a b).isNone)) := by
  have := bar_val hd he p hl nd
  cases h : barO a b with
  | none => rw [h] at this; exact leads_n this
  | some x => rw [h] at this; exact leads_s this
end
/-! equal, including the kinds -/
def okAll (n : Nat) : List PyData → Prop
  | [] => True
  | d :: ds => okS n d ∧ okAll n ds
theorem okAll.get {n : Nat} : ∀ {ds : List PyData}, okAll n ds → ∀ x ∈ ds, okS n x
  | [], _, x, h => by cases h
  | d :: ds, k, x, h => by
    rcases List.mem_cons.mp h with rfl | h
    · exact k.1
    · exact okAll.get k.2 x h
end Ov
set_option Elab.async false
set_option linter.all false
set_option maxRecDepth 100000
set_option maxHeartbeats 4000000
namespace Ov
open PySem L2
/-! which pairs are exchanges -/
/-! one exchange -/
def nx1 (ms : List Int) (p : Iv) : List Int := (ms.set p.1.toNat (ms.getD p.2.toNat 0)).set p.2.toNat (ms.getD p.1.toNat 0)
section
variable {A B C : List Int} {a b : Int}
theorem nx1_x : nx1 (A ++ a :: (B ++ b :: C)) ((A.length : Int), ((A.length + 1 + B.length : Nat) : Int)) = A ++ b :: (B ++ a :: C) := by
  have gl : (A ++ a :: (B ++ b :: C)).getD A.length 0 = a := by rw [List.getD_eq_getElem?_getD, at_l]; rfl
  have gr : (A ++ a :: (B ++ b :: C)).getD (A.length + 1 + B.length) 0 = b := by rw [List.getD_eq_getElem?_getD, at_r]; rfl
  have e1 : (A ++ a :: (B ++ b :: C)).set A.length b = A ++ b :: (B ++ b :: C) := by rw [List.set_append_right _ _ (Nat.le_refl _), Nat.sub_self]; rfl
  have e2 : (A ++ b :: (B ++ b :: C)).set (A.length + 1 + B.length) a = A ++ b :: (B ++ a :: C) := by
    rw [List.set_append_right _ _ (by omega), show A.length + 1 + B.length - A.length = B.length + 1 by omega, List.set_cons_succ, List.set_append_right _ _ (Nat.le_refl _), Nat.sub_self]
    rfl
  unfold nx1
  rw [Int.toNat_natCast, Int.toNat_natCast, gl, gr, e1, e2]
end
/-! lists of exchanges -/
def du : List Int → List Iv → Sum (List Int) Iv
  | ms, [] => .inl ms
  | ms, p :: t => if p ∈ xcs ms then du (nx1 ms p) t else .inr p
/-! walks -/
/-! pairs among data -/
/-! whether a value is a tour -/
end Ov
set_option linter.all false
set_option maxRecDepth 100000
set_option maxHeartbeats 4000000
namespace Ov
/-! rows of the same runs lead to each other -/
/-- one exchange over the heads of shorter people -/
def Xg (w v : List Int) : Prop := ∃ A a B b C, w = A ++ a :: (B ++ b :: C) ∧ v = A ++ b :: (B ++ a :: C) ∧ B ≠ [] ∧ ∀ y ∈ B, y < a ∧ y < b
/-- neighbours who change places -/
def Nb (J : Int → Prop) (w v : List Int) : Prop := ∃ A a b C, w = A ++ a :: b :: C ∧ v = A ++ b :: a :: C ∧ J (A.length : Nat)
inductive Sv (R : List Int → List Int → Prop) : List Int → List Int → Prop
  | nil (w) : Sv R w w
  | snoc {w v u} : Sv R w v → R v u → Sv R w u
theorem Sv.trans {R : List Int → List Int → Prop} {w v u : List Int} (h : Sv R w v) (k : Sv R v u) : Sv R w u := by
  induction k with
  | nil => exact h
  | snoc _ r ih => exact .snoc ih r
theorem Sv.one {R : List Int → List Int → Prop} {w v : List Int} (h : R w v) : Sv R w v := .snoc (.nil _) h
theorem Sv.symm {R : List Int → List Int → Prop} (hR : ∀ {a b}, R a b → R b a) {w v : List Int} (h : Sv R w v) : Sv R v w := by
  induction h with
  | nil => exact .nil _
  | snoc _ r ih => exact (Sv.one (hR r)).trans ih
theorem Sv.mono {R Q : List Int → List Int → Prop} (hR : ∀ {a b}, R a b → Q a b) {w v : List Int} (h : Sv R w v) : Sv Q w v := by
  induction h with
  | nil => exact .nil _
  | snoc _ r ih => exact .snoc ih (hR r)
def Es (iv : List Iv) (w v : List Int) : Prop := Nb (jn iv) w v ∨ Xg w v
theorem Xg.symm {w v : List Int} : Xg w v → Xg v w := fun ⟨A, a, B, b, C, h1, h2, h3, h4⟩ => ⟨A, b, B, a, C, h2, h1, h3, fun y hy => (h4 y hy).symm⟩
theorem Es.symm {iv : List Iv} {w v : List Int} : Es iv w v → Es iv v w
  | .inl ⟨A, a, b, C, h1, h2, h3⟩ => .inl ⟨A, b, a, C, h2, h1, h3⟩
  | .inr h => .inr h.symm
/-- the lowest put in at a place -/
def ins (L : List Int) (i : Nat) (h : Int) : List Int := L.take i ++ h :: L.drop i
theorem ins_app (l1 l2 : List Int) (h : Int) : ins (l1 ++ l2) l1.length h = l1 ++ h :: l2 := by
  unfold ins
  rw [List.take_left, List.drop_left]
theorem ins_lt {A B : List Int} {i : Nat} {h : Int} (k : i ≤ A.length) : ins (A ++ B) i h = ins A i h ++ B := by
  unfold ins
  rw [List.take_append_of_le_length k, List.drop_append_of_le_length k, List.append_assoc]
  rfl
theorem ins_gt {A B : List Int} {i : Nat} {h : Int} : ins (A ++ B) (A.length + i) h = A ++ ins B i h := by
  unfold ins
  rw [List.take_length_add_append, List.drop_length_add_append, List.append_assoc]
theorem ins_ne (L : List Int) (i : Nat) (h : Int) : ins L i h ≠ [] := by unfold ins; simp
theorem ins_mem {L : List Int} {i : Nat} {h x : Int} (m : x ∈ ins L i h) : x = h ∨ x ∈ L := by
  unfold ins at m
  rcases List.mem_append.mp m with m | m
  · exact .inr (List.mem_of_mem_take m)
  · rcases List.mem_cons.mp m with m | m
    · exact .inl m
    · exact .inr (List.mem_of_mem_drop m)
theorem ins_len {L : List Int} {i : Nat} {h : Int} : (ins L i h).length = L.length + 1 := by
  unfold ins
  rw [List.length_append, List.length_cons, List.length_take, List.length_drop]
  omega
/-- the lowest moves within its run -/
theorem ins_move {iv : List Iv} {L : List Int} {h : Int} {t : Nat} {r : Iv} (hr : iv[t]? = some r) : ∀ (d i : Nat), i + d ≤ L.length → r.1 ≤ (i : Int) → ((i + d : Nat) : Int) ≤ r.2 → Sv (Es iv) (ins L i h) (ins L (i + d) h)
  | 0, i, _, _, _ => .nil _
  | d + 1, i, h1, h2, h3 => by
    refine .snoc (ins_move hr d i (by omega) h2 (by omega)) (.inl ?_)
    have lt : i + d < L.length := by omega
    refine ⟨L.take (i + d), h, L[i + d], L.drop (i + d + 1), ?_, ?_, ?_⟩
    · unfold ins
      rw [List.drop_eq_getElem_cons lt]
    · unfold ins
      rw [show i + (d + 1) = i + d + 1 by omega, ← List.take_append_getElem lt, List.append_assoc]
      rfl
    · rw [List.length_take, Nat.min_eq_left (by omega)]
      exact ⟨t, r, hr, by omega, by omega⟩
theorem ins_go {iv : List Iv} {L : List Int} {h : Int} {t : Nat} {r : Iv} (hr : iv[t]? = some r) {i j : Nat} (hi : i ≤ L.length) (hj : j ≤ L.length) (i1 : r.1 ≤ (i : Int)) (i2 : (i : Int) ≤ r.2) (j1 : r.1 ≤ (j : Int)) (j2 : (j : Int) ≤ r.2) : Sv (Es iv) (ins L i h) (ins L j h) := by
  rcases Nat.le_total i j with c | c
  · have := ins_move hr (L := L) (h := h) (j - i) i (by omega) i1 (by rw [show i + (j - i) = j by omega]; exact j2)
    rw [show i + (j - i) = j by omega] at this
    exact this
  · have := ins_move hr (L := L) (h := h) (i - j) j (by omega) j1 (by rw [show j + (i - j) = i by omega]; exact i2)
    rw [show j + (i - j) = i by omega] at this
    exact this.symm Es.symm
/-- what the rest can do, the row can do -/
theorem lift1 {iv : List Iv} {L L' : List Int} {h : Int} {i t : Nat} {r : Iv} (P : Pt 0 ((L.length + 1 : Nat) : Int) iv) (hr : iv[t]? = some r) (hi : i ≤ L.length) (i1 : r.1 ≤ (i : Int)) (i2 : (i : Int) ≤ r.2) (lo : ∀ x ∈ L, h < x)
    (e : Es (nx iv t) L L') : ∃ j : Nat, j ≤ L'.length ∧ r.1 ≤ (j : Int) ∧ (j : Int) ≤ r.2 ∧ Sv (Es iv) (ins L i h) (ins L' j h) := by
  rcases e with ⟨A, a, b, C, e1, e2, hj⟩ | ⟨A, a, B, b, C, e1, e2, hB, hb⟩
  · subst e1
    subst e2
    have ll : (A ++ a :: b :: C).length = A.length + C.length + 2 := by rw [List.length_append, List.length_cons, List.length_cons]; omega
    have l2 : (A ++ b :: a :: C).length = A.length + C.length + 2 := by rw [List.length_append, List.length_cons, List.length_cons]; omega
    have pr := pt_get P hr
    rw [ll] at P hi pr
    rcases (jn_nx P hr (k := ((A.length : Nat) : Int)) (by omega) (by omega)).mp hj with ⟨h1, h2⟩ | ⟨h1, h2⟩ | ⟨h1, h2, h3⟩
    · -- behind both
      refine ⟨i, by rw [l2]; exact hi, i1, i2, .one (.inl ?_)⟩
      obtain ⟨k, rfl⟩ : ∃ k, i = (A ++ [a, b]).length + k := ⟨i - (A ++ [a, b]).length, by rw [List.length_append]; simp; omega⟩
      refine ⟨A, a, b, ins C k h, ?_, ?_, h2⟩
      · rw [show A ++ a :: b :: C = (A ++ [a, b]) ++ C by simp, ins_gt]; simp
      · rw [show A ++ b :: a :: C = (A ++ [b, a]) ++ C by simp, show (A ++ [a, b]).length + k = (A ++ [b, a]).length + k by simp, ins_gt]; simp
    · -- between both
      have hb1 : r.1 ≤ ((A.length + 1 : Nat) : Int) ∧ ((A.length + 1 : Nat) : Int) ≤ r.2 := by omega
      refine ⟨A.length + 1, by rw [l2]; omega, hb1.1, hb1.2, ?_⟩
      refine .snoc (ins_go hr (by rw [ll]; exact hi) (by rw [ll]; omega) i1 i2 hb1.1 hb1.2) (.inr ?_)
      refine ⟨A, a, [h], b, C, ?_, ?_, by simp, fun y hy => ?_⟩
      · rw [ins_gt]; rfl
      · rw [ins_gt]; rfl
      · rw [List.mem_singleton.mp hy]
        exact ⟨lo a (by simp), lo b (by simp)⟩
    · -- before both
      refine ⟨i, by rw [l2]; exact hi, i1, i2, .one (.inl ?_)⟩
      have ki : i ≤ A.length := by omega
      refine ⟨ins A i h, a, b, C, ins_lt ki, ins_lt ki, ?_⟩
      rw [ins_len]
      exact h3
  · subst e1
    subst e2
    have ll : (A ++ a :: (B ++ b :: C)).length = A.length + B.length + C.length + 2 := by simp; omega
    have l2 : (A ++ b :: (B ++ a :: C)).length = A.length + B.length + C.length + 2 := by simp; omega
    rw [ll] at hi
    refine ⟨i, by rw [l2]; exact hi, i1, i2, .one (.inr ?_)⟩
    by_cases c1 : i ≤ A.length
    · exact ⟨ins A i h, a, B, b, C, ins_lt c1, ins_lt c1, hB, hb⟩
    · by_cases c2 : i ≤ A.length + 1 + B.length
      · obtain ⟨k, rfl⟩ : ∃ k, i = (A ++ [a]).length + k := ⟨i - (A ++ [a]).length, by rw [List.length_append]; simp; omega⟩
        have kB : k ≤ B.length := by rw [List.length_append] at c2; simp at c2; omega
        refine ⟨A, a, ins B k h, b, C, ?_, ?_, ins_ne _ _ _, fun y hy => ?_⟩
        · rw [show A ++ a :: (B ++ b :: C) = (A ++ [a]) ++ (B ++ b :: C) by simp, ins_gt, ins_lt kB]; simp
        · rw [show A ++ b :: (B ++ a :: C) = (A ++ [b]) ++ (B ++ a :: C) by simp, show (A ++ [a]).length + k = (A ++ [b]).length + k by simp, ins_gt, ins_lt kB]; simp
        · rcases ins_mem hy with rfl | hy
          · exact ⟨lo a (by simp), lo b (by simp)⟩
          · exact hb y hy
      · obtain ⟨k, rfl⟩ : ∃ k, i = (A ++ a :: (B ++ [b])).length + k := ⟨i - (A ++ a :: (B ++ [b])).length, by simp; omega⟩
        refine ⟨A, a, B, b, ins C k h, ?_, ?_, hB, hb⟩
        · rw [show A ++ a :: (B ++ b :: C) = (A ++ a :: (B ++ [b])) ++ C by simp, ins_gt]; simp
        · rw [show A ++ b :: (B ++ a :: C) = (A ++ b :: (B ++ [a])) ++ C by simp, show (A ++ a :: (B ++ [b])).length + k = (A ++ b :: (B ++ [a])).length + k by simp, ins_gt]; simp
theorem Es.len {iv : List Iv} {w v : List Int} : Es iv w v → v.length = w.length
  | .inl ⟨A, a, b, C, h1, h2, _⟩ => by rw [h1, h2]; simp
  | .inr ⟨A, a, B, b, C, h1, h2, _⟩ => by rw [h1, h2]; simp
theorem Es.mem {iv : List Iv} {w v : List Int} (h : Es iv w v) {x : Int} (m : x ∈ v) : x ∈ w := by
  rcases h with ⟨A, a, b, C, rfl, rfl, _⟩ | ⟨A, a, B, b, C, rfl, rfl, _⟩
  · simp only [List.mem_append, List.mem_cons] at m ⊢
    rcases m with m | m | m | m <;> simp [m]
  · simp only [List.mem_append, List.mem_cons] at m ⊢
    rcases m with m | m | m | m | m <;> simp [m]
theorem liftS {iv : List Iv} {L L' : List Int} {h : Int} {i t : Nat} {r : Iv} (P : Pt 0 ((L.length + 1 : Nat) : Int) iv) (hr : iv[t]? = some r) (hi : i ≤ L.length) (i1 : r.1 ≤ (i : Int)) (i2 : (i : Int) ≤ r.2) (lo : ∀ x ∈ L, h < x)
    (e : Sv (Es (nx iv t)) L L') : L'.length = L.length ∧ (∀ x ∈ L', h < x) ∧ ∃ j : Nat, j ≤ L'.length ∧ r.1 ≤ (j : Int) ∧ (j : Int) ≤ r.2 ∧ Sv (Es iv) (ins L i h) (ins L' j h) := by
  induction e with
  | nil => exact ⟨rfl, lo, i, hi, i1, i2, .nil _⟩
  | snoc _ s ih =>
    obtain ⟨z1, z2, j, z3, z4, z5, z6⟩ := ih
    obtain ⟨j', y1, y2, y3, y4⟩ := lift1 (by rw [z1]; exact P) hr z3 z4 z5 z2 s
    exact ⟨s.len.trans z1, fun x hx => z2 x (s.mem hx), j', y1, y2, y3, z6.trans y4⟩
theorem conn : ∀ {S w v : List Int} {iv : List Iv}, S.Pairwise (· < ·) → w.Perm S → v.Perm S → (S ≠ [] → Pt 0 (w.length : Nat) iv) → rns iv (S.map (mk w)) = rns iv (S.map (mk v)) → Sv (Es iv) w v
  | [], w, v, iv, pw, p, q, hp, e => by
    rw [p.eq_nil, q.eq_nil]
    exact .nil _
  | h :: S, w, v, iv, pw, p, q, hp, e => by
    have hp := hp (by simp)
    have lw : w.length = v.length := p.length_eq.trans q.length_eq.symm
    obtain ⟨l1, l2, rfl⟩ := List.append_of_mem (p.symm.subset (List.mem_cons_self ..))
    obtain ⟨k1, k2, rfl⟩ := List.append_of_mem (q.symm.subset (List.mem_cons_self ..))
    obtain ⟨pw', p', nh, lo, r, e1, e2, e3, e4, e5⟩ := low_out pw p hp
    obtain ⟨_, q', nh', lo', s, f1, f2, f3, f4, f5⟩ := low_out pw q (by rw [← lw]; exact hp)
    rw [e4, f4] at e
    injection e with ea eb
    subst ea
    have er : rix iv (k1.length : Int) = rix iv (l1.length : Int) := rix_in hp e1 f2 f3
    rw [er] at eb f1
    have ne : S ≠ [] → l1 ++ l2 ≠ [] := fun z y => z (by rw [y] at p'; exact List.nil_perm.mp p')
    have ih := conn pw' p' q' (fun z => e5 (ne z)) eb
    have ll : (l1 ++ h :: l2).length = (l1 ++ l2).length + 1 := by simp; omega
    rw [ll] at hp
    obtain ⟨z1, z2, j, z3, z4, z5, z6⟩ := liftS hp e1 (i := l1.length) (by simp) e2 e3 lo ih
    rw [ins_app] at z6
    refine z6.trans ?_
    have := ins_go e1 (L := k1 ++ k2) (h := h) z3 (j := k1.length) (by simp) z4 z5 f2 f3
    rw [ins_app] at this
    exact this
theorem es_fiv {n : Nat} {w v : List Int} (h : Es (fiv n) w v) : Xg w v := by
  rcases h with ⟨A, a, b, C, _, _, i, p, h1, h2, h3⟩ | h
  · exfalso
    have hi := lt_of_get h1
    rw [fiv_len] at hi
    rw [fiv_get hi] at h1
    cases h1
    simp only at h2 h3
    omega
  · exact h
/-- rows of the same people with the same runs: exchanges lead from one to the other -/
theorem connected {w v : List Int} (nd : w.Nodup) (p : v.Perm w) (h : RNS v = RNS w) : Sv Xg w v := by
  have hs : sortI v = sortI w := sort_perm p
  unfold RNS mks at h
  rw [p.length_eq, hs] at h
  exact (conn (sortI_lt nd) (sortI_perm w).symm (p.trans (sortI_perm w).symm) (fun _ => fiv_pt w.length) h.symm).mono es_fiv
theorem Xg.perm {w v : List Int} : Xg w v → v.Perm w := fun ⟨A, a, B, b, C, h1, h2, _, _⟩ => by
  rw [h1, h2]
  refine List.Perm.append_left A ?_
  refine (List.Perm.cons b List.perm_middle).trans ?_
  refine (List.Perm.swap a b (B ++ C)).trans ?_
  exact List.Perm.cons a List.perm_middle.symm
theorem Sv.perm {w v : List Int} (h : Sv Xg w v) : v.Perm w := by
  induction h with
  | nil => exact .refl _
  | snoc _ r ih => exact r.perm.trans ih
theorem Xg.rns {w v : List Int} (nd : w.Nodup) : Xg w v → RNS v = RNS w := fun ⟨A, a, B, b, C, h1, h2, h3, h4⟩ => by
  subst h1
  subst h2
  exact (xc_of nd h3 h4).rns nd
theorem Sv.rns {w v : List Int} (nd : w.Nodup) (h : Sv Xg w v) : RNS v = RNS w := by
  induction h with
  | nil => rfl
  | snoc s r ih => exact (r.rns (s.perm.nodup_iff.mpr nd)).trans ih
end Ov
set_option linter.all false
set_option maxRecDepth 100000
set_option maxHeartbeats 4000000
namespace Ov
/-! the fewest steps, and the search layer by layer -/
section
variable {R : List Int → List Int → Prop}
inductive Pk (R : List Int → List Int → Prop) : Nat → List Int → List Int → Prop
  | nil (w) : Pk R 0 w w
  | snoc {k w v u} : Pk R k w v → R v u → Pk R (k + 1) w u
theorem Pk.trans {j k : Nat} {w v u : List Int} (h : Pk R j w v) (q : Pk R k v u) : Pk R (j + k) w u := by
  induction q with
  | nil => exact h
  | snoc _ r ih => exact .snoc (ih h) r
theorem Pk.one {w v : List Int} (h : R w v) : Pk R 1 w v := .snoc (.nil _) h
theorem Pk.symm (hR : ∀ {a b}, R a b → R b a) {k : Nat} {w v : List Int} (h : Pk R k w v) : Pk R k v w := by
  induction h with
  | nil => exact .nil _
  | @snoc k w v u _ r ih =>
    have := (Pk.one (hR r)).trans ih
    rw [Nat.add_comm] at this
    exact this
theorem Pk.sv {k : Nat} {w v : List Int} (h : Pk R k w v) : Sv R w v := by
  induction h with
  | nil => exact .nil _
  | snoc _ r ih => exact .snoc ih r
theorem Sv.pk {w v : List Int} (h : Sv R w v) : ∃ k, Pk R k w v := by
  induction h with
  | nil => exact ⟨0, .nil _⟩
  | snoc _ r ih => obtain ⟨k, hk⟩ := ih; exact ⟨k + 1, .snoc hk r⟩
theorem Pk.zero {w v : List Int} (h : Pk R 0 w v) : v = w := by cases h; rfl
theorem Pk.succ {k : Nat} {w u : List Int} (h : Pk R (k + 1) w u) : ∃ v, Pk R k w v ∧ R v u := by
  cases h with
  | snoc h r => exact ⟨_, h, r⟩
/-- so many steps at the least -/
def IsD (R : List Int → List Int → Prop) (w v : List Int) (k : Nat) : Prop := Pk R k w v ∧ ∀ j, Pk R j w v → k ≤ j
theorem least_ex {p : Nat → Prop} : ∀ n : Nat, p n → ∃ k, p k ∧ k ≤ n ∧ ∀ j, p j → k ≤ j := by
  intro n
  induction n using Nat.strongRecOn with
  | ind n ih =>
    intro hn
    by_cases c : ∃ m, m < n ∧ p m
    · obtain ⟨m, hm, pm⟩ := c
      obtain ⟨k, h1, h2, h3⟩ := ih m hm pm
      exact ⟨k, h1, by omega, h3⟩
    · exact ⟨n, hn, Nat.le_refl _, fun j hj => Nat.le_of_not_lt fun z => c ⟨j, z, hj⟩⟩
theorem IsD.ex {j : Nat} {w v : List Int} (h : Pk R j w v) : ∃ k, k ≤ j ∧ IsD R w v k := by
  obtain ⟨k, h1, h2, h3⟩ := least_ex (p := fun j => Pk R j w v) j h
  exact ⟨k, h2, h1, h3⟩
theorem IsD.uni {j k : Nat} {w v : List Int} (h : IsD R w v j) (q : IsD R w v k) : j = k := Nat.le_antisymm (h.2 _ q.1) (q.2 _ h.1)
theorem IsD.symm (hR : ∀ {a b}, R a b → R b a) {k : Nat} {w v : List Int} (h : IsD R w v k) : IsD R v w k := ⟨h.1.symm hR, fun j hj => h.2 j (hj.symm hR)⟩
theorem IsD.self (w : List Int) : IsD R w w 0 := ⟨.nil _, fun _ _ => Nat.zero_le _⟩
theorem IsD.zero {w v : List Int} (h : IsD R w v 0) : v = w := h.1.zero
/-- the one before -/
theorem IsD.pred {k : Nat} {w u : List Int} (h : IsD R w u (k + 1)) : ∃ v, IsD R w v k ∧ R v u := by
  obtain ⟨v, h1, h2⟩ := h.1.succ
  refine ⟨v, ⟨h1, fun j hj => ?_⟩, h2⟩
  have := h.2 _ (hj.snoc h2)
  omega
theorem IsD.down : ∀ {k : Nat} {w u : List Int}, IsD R w u k → ∀ j, j ≤ k → ∃ v, IsD R w v j
  | 0, w, u, h, j, hj => by
    have : j = 0 := by omega
    subst this
    exact ⟨u, h⟩
  | k + 1, w, u, h, j, hj => by
    by_cases c : j = k + 1
    · subst c; exact ⟨u, h⟩
    · obtain ⟨v, hv, _⟩ := h.pred
      exact hv.down j (by omega)
/-! the search -/
def addN (d : Int) (st : List (List Int × Int) × List (List Int)) (u : List Int) : List (List Int × Int) × List (List Int) :=
  if (lookK st.1 u).isSome then st else (st.1 ++ [(u, d + 1)], st.2 ++ [u])
theorem lookK_none {f : List (List Int × Int)} {u : List Int} : lookK f u = none ↔ u ∉ f.map Prod.fst := by
  induction f with
  | nil => simp [lookK]
  | cons x f ih =>
    obtain ⟨a, b⟩ := x
    show (if a = u then some b else lookK f u) = none ↔ _
    split
    · rename_i c; subst c; simp
    · rename_i c
      rw [ih, List.map_cons, List.mem_cons]
      exact ⟨fun h z => z.elim (fun e => c e.symm) h, fun h z => h (.inr z)⟩
theorem lookK_mem {f : List (List Int × Int)} {u : List Int} {d : Int} (h : lookK f u = some d) : (u, d) ∈ f := by
  induction f with
  | nil => cases h
  | cons x f ih =>
    obtain ⟨a, b⟩ := x
    have h2 : (if a = u then some b else lookK f u) = some d := h
    by_cases c : a = u
    · rw [if_pos c] at h2
      rw [← c, ← Option.some.inj h2]; exact List.mem_cons_self ..
    · rw [if_neg c] at h2
      exact List.mem_cons_of_mem _ (ih h2)
theorem lookK_of {f : List (List Int × Int)} {u : List Int} {d : Int} (nd : (f.map Prod.fst).Nodup) (h : (u, d) ∈ f) : lookK f u = some d := by
  induction f with
  | nil => cases h
  | cons x f ih =>
    obtain ⟨a, b⟩ := x
    rw [List.map_cons, List.nodup_cons] at nd
    show (if a = u then some b else lookK f u) = some d
    rcases List.mem_cons.mp h with e | h
    · cases e; simp
    · rw [if_neg fun c => nd.1 (by subst c; exact List.mem_map.mpr ⟨_, h, rfl⟩)]
      exact ih nd.2 h
/-- how far the search is -/
structure Inv (R : List Int → List Int → Prop) (w : List Int) (k : Nat) (f : List (List Int × Int)) (l : List (List Int)) : Prop where
  nd : (f.map Prod.fst).Nodup
  ok : ∀ v d, (v, d) ∈ f → ∃ j : Nat, d = j ∧ j ≤ k ∧ IsD R w v j
  all : ∀ v j, j ≤ k → IsD R w v j → v ∈ f.map Prod.fst
  last : ∀ v, v ∈ l ↔ IsD R w v k
  cnt : k + min 1 l.length ≤ f.length
/-- within a layer -/
structure Mid (R : List Int → List Int → Prop) (w : List Int) (k : Nat) (n : Nat) (st : List (List Int × Int) × List (List Int)) : Prop where
  nd : (st.1.map Prod.fst).Nodup
  ok : ∀ v d, (v, d) ∈ st.1 → ∃ j : Nat, d = j ∧ j ≤ k + 1 ∧ IsD R w v j
  all : ∀ v j, j ≤ k → IsD R w v j → v ∈ st.1.map Prod.fst
  aft : ∀ v, v ∈ st.2 ↔ (v, ((k + 1 : Nat) : Int)) ∈ st.1
  cnt : st.1.length = n + st.2.length
theorem Mid.add {w v u : List Int} {k n : Nat} {st : List (List Int × Int) × List (List Int)} (h : Mid R w k n st) (hv : IsD R w v k) (r : R v u) : Mid R w k n (addN k st u) ∧ u ∈ (addN k st u).1.map Prod.fst ∧ ∀ x ∈ st.1.map Prod.fst, x ∈ (addN k st u).1.map Prod.fst := by
  unfold addN
  cases hl : lookK st.1 u with
  | some d =>
    rw [if_pos (show (some d).isSome = true from rfl)]
    exact ⟨h, List.mem_map.mpr ⟨_, lookK_mem hl, rfl⟩, fun _ z => z⟩
  | none =>
    rw [if_neg (by simp)]
    have nu := lookK_none.mp hl
    have du : IsD R w u (k + 1) := ⟨hv.1.snoc r, fun j hj => by
      obtain ⟨i, h1, h2⟩ := IsD.ex hj
      have : ¬ i ≤ k := fun z => nu (h.all u i z h2)
      omega⟩
    refine ⟨⟨?_, ?_, ?_, ?_, ?_⟩, by simp, fun x hx => by rw [List.map_append]; exact List.mem_append_left _ hx⟩
    · rw [List.map_append]
      exact List.nodup_append.mpr ⟨h.nd, by simp, fun a ha b hb e => nu (by
        have : b = u := by simpa using hb
        rw [← this, ← e]; exact ha)⟩
    · intro x d hx
      rcases List.mem_append.mp hx with hx | hx
      · exact h.ok x d hx
      · have : (x, d) = (u, ((k : Nat) : Int) + 1) := by simpa using hx
        cases this
        exact ⟨k + 1, rfl, Nat.le_refl _, du⟩
    · intro x j hj hx
      rw [List.map_append]
      exact List.mem_append_left _ (h.all x j hj hx)
    · intro x
      constructor
      · intro hx
        rcases List.mem_append.mp hx with hx | hx
        · exact List.mem_append_left _ ((h.aft x).mp hx)
        · have : x = u := by simpa using hx
          subst this
          exact List.mem_append_right _ (List.mem_cons_self ..)
      · intro hx
        rcases List.mem_append.mp hx with hx | hx
        · exact List.mem_append_left _ ((h.aft x).mpr hx)
        · have : (x, ((k + 1 : Nat) : Int)) = (u, ((k : Nat) : Int) + 1) := by simpa using hx
          cases this
          exact List.mem_append_right _ (List.mem_cons_self ..)
    · rw [List.length_append, List.length_append, h.cnt]
      simp
      omega
theorem Mid.adds {w v : List Int} {k n : Nat} (hv : IsD R w v k) : ∀ {us : List (List Int)} {st : List (List Int × Int) × List (List Int)}, Mid R w k n st → (∀ u ∈ us, R v u) → Mid R w k n (us.foldl (addN k) st) ∧ (∀ u ∈ us, u ∈ (us.foldl (addN k) st).1.map Prod.fst) ∧ ∀ x ∈ st.1.map Prod.fst, x ∈ (us.foldl (addN k) st).1.map Prod.fst
  | [], st, h, _ => ⟨h, fun _ z => (by cases z), fun _ z => z⟩
  | u :: us, st, h, hu => by
    obtain ⟨h1, h2, h3⟩ := h.add hv (hu u (List.mem_cons_self ..))
    obtain ⟨h4, h5, h6⟩ := Mid.adds hv h1 (us := us) fun x hx => hu x (List.mem_cons_of_mem _ hx)
    exact ⟨h4, fun x hx => (List.mem_cons.mp hx).elim (fun e => by subst e; exact h6 _ h2) (h5 x), fun x hx => h6 x (h3 x hx)⟩
def layer (nb : List Int → List (List Int)) (k : Nat) (l : List (List Int)) (st : List (List Int × Int) × List (List Int)) : List (List Int × Int) × List (List Int) := l.foldl (fun st v => (nb v).foldl (addN k) st) st
theorem Mid.layer {w : List Int} {k n : Nat} {nb : List Int → List (List Int)} (hn : ∀ v u, u ∈ nb v ↔ R v u) : ∀ {l : List (List Int)} {st : List (List Int × Int) × List (List Int)}, (∀ v ∈ l, IsD R w v k) → Mid R w k n st → Mid R w k n (layer nb k l st) ∧ (∀ v ∈ l, ∀ u, R v u → u ∈ (layer nb k l st).1.map Prod.fst) ∧ ∀ x ∈ st.1.map Prod.fst, x ∈ (layer nb k l st).1.map Prod.fst
  | [], st, _, h => ⟨h, fun _ z => (by cases z), fun _ z => z⟩
  | v :: l, st, hl, h => by
    obtain ⟨h1, h2, h3⟩ := h.adds (hl v (List.mem_cons_self ..)) (us := nb v) fun u hu => (hn v u).mp hu
    obtain ⟨h4, h5, h6⟩ := Mid.layer (l := l) hn (fun x hx => hl x (List.mem_cons_of_mem _ hx)) h1
    exact ⟨h4, fun x hx u r => (List.mem_cons.mp hx).elim (fun e => by subst e; exact h6 _ (h2 u ((hn _ u).mpr r))) fun hx => h5 x hx u r, fun x hx => h6 x (h3 x hx)⟩
theorem Inv.next {w : List Int} {k : Nat} {f : List (List Int × Int)} {l : List (List Int)} {nb : List Int → List (List Int)} (hn : ∀ v u, u ∈ nb v ↔ R v u) (h : Inv R w k f l) (hl : l ≠ []) : Inv R w (k + 1) (layer nb k l (f, [])).1 (layer nb k l (f, [])).2 := by
  have m0 : Mid R w k f.length (f, []) := ⟨h.nd, fun v d hv => by
    obtain ⟨j, h1, h2, h3⟩ := h.ok v d hv
    exact ⟨j, h1, by omega, h3⟩, h.all, fun v => ⟨fun z => (by cases z), fun z => by
    obtain ⟨j, h1, h2, _⟩ := h.ok v _ z
    omega⟩, rfl⟩
  obtain ⟨m, m2, _⟩ := m0.layer hn (l := l) fun v hv => (h.last v).mp hv
  refine ⟨m.nd, m.ok, fun v j hj hv => ?_, fun v => ?_, ?_⟩
  · by_cases c : j ≤ k
    · exact m.all v j c hv
    · have : j = k + 1 := by omega
      subst this
      obtain ⟨u, h1, h2⟩ := hv.pred
      exact m2 u ((h.last u).mpr h1) v h2
  · rw [m.aft v]
    constructor
    · intro hv
      obtain ⟨j, h1, _, h3⟩ := m.ok v _ hv
      have : j = k + 1 := by omega
      subst this
      exact h3
    · intro hv
      obtain ⟨u, h1, h2⟩ := hv.pred
      obtain ⟨⟨x, d⟩, hx, e⟩ := List.mem_map.mp (m2 u ((h.last u).mpr h1) v h2)
      have e : x = v := e
      subst e
      obtain ⟨j, h3, _, h5⟩ := m.ok x d hx
      rw [IsD.uni h5 hv] at h3
      rw [← h3]
      exact hx
  · rw [m.cnt]
    have := h.cnt
    have : 1 ≤ l.length := List.length_pos_iff.mpr hl
    omega
theorem Inv.start (w : List Int) : Inv R w 0 [(w, 0)] [w] := by
  refine ⟨by simp, fun v d h => ?_, fun v j hj hv => ?_, fun v => ?_, by simp⟩
  · have : (v, d) = (w, (0 : Int)) := by simpa using h
    cases this
    exact ⟨0, rfl, Nat.le_refl _, .self _⟩
  · have : j = 0 := by omega
    subst this
    rw [hv.zero]; simp
  · constructor
    · intro h
      have : v = w := by simpa using h
      subst this
      exact .self _
    · intro h
      rw [h.zero]; simp
/-- all that can be reached, each with the fewest steps -/
structure Full (R : List Int → List Int → Prop) (w : List Int) (f : List (List Int × Int)) : Prop where
  nd : (f.map Prod.fst).Nodup
  ok : ∀ v d, (v, d) ∈ f → ∃ j : Nat, d = j ∧ IsD R w v j ∧ j + 1 ≤ f.length
  all : ∀ v j, IsD R w v j → lookK f v = some (j : Int)
theorem Inv.full {w : List Int} {k : Nat} {f : List (List Int × Int)} (h : Inv R w k f []) : Full R w f := by
  have hall : ∀ v j, IsD R w v j → j < k ∧ v ∈ f.map Prod.fst := fun v j hv => by
    have : j < k := by
      refine Nat.lt_of_not_le fun z => ?_
      obtain ⟨u, hu⟩ := hv.down k z
      have := (h.last u).mpr hu
      cases this
    exact ⟨this, h.all v j (by omega) hv⟩
  have hc := h.cnt
  refine ⟨h.nd, fun v d hv => ?_, fun v j hv => ?_⟩
  · obtain ⟨j, h1, h2, h3⟩ := h.ok v d hv
    have := (hall v j h3).1
    exact ⟨j, h1, h3, by simp at hc; omega⟩
  · obtain ⟨⟨x, d⟩, hx, e⟩ := List.mem_map.mp (hall v j hv).2
    have e : x = v := e
    subst e
    obtain ⟨i, h1, h2, h3⟩ := h.ok x d hx
    rw [lookK_of h.nd hx, h1, IsD.uni h3 hv]
end
end Ov
set_option Elab.async false
set_option linter.all false
set_option maxRecDepth 100000
set_option maxHeartbeats 4000000
namespace Ov
open PySem L2
/-! the search in the program -/
def nbs (v : List Int) : List (List Int) := (xcs v).map (nx1 v)
theorem mem_nbs (v u : List Int) : u ∈ nbs v ↔ Xg v u := by
  unfold nbs
  rw [List.mem_map]
  constructor
  · rintro ⟨p, hp, rfl⟩
    obtain ⟨A, a, B, b, C, h1, h2, h3, h4⟩ := xcs_in hp
    exact ⟨A, a, B, b, C, h1, by rw [h4, h1]; exact nx1_x, h2, h3⟩
  · rintro ⟨A, a, B, b, C, rfl, rfl, h3, h4⟩
    exact ⟨_, xcs_has h3 h4, nx1_x⟩
theorem putKI_new {f : List (List Int × Int)} {u : List Int} {d : Int} (h : lookK f u = none) : putKI f u d = f ++ [(u, d)] := by
  unfold putKI
  rw [if_neg]
  intro z
  obtain ⟨x, hx, e⟩ := List.any_eq_true.mp z
  exact lookK_none.mp h (List.mem_map.mpr ⟨x, hx, of_decide_eq_true e⟩)
def rows (l : List (List Int)) : List PyData := l.map rowD
theorem rows_app (l : List (List Int)) (u : List Int) : rows l ++ [.tuple (u.map .int)] = rows (l ++ [u]) := by
  unfold rows
  rw [List.map_append]
  rfl
section
variable {d0 d2 w5 w6 : Option Wv}
theorem Mid.look {R : List Int → List Int → Prop} {w v : List Int} {k n : Nat} {st : List (List Int × Int) × List (List Int)} (m : Mid R w k n st) (hv : IsD R w v k) : lookK st.1 v = some (k : Int) := by
  obtain ⟨⟨x, d⟩, hx, e⟩ := List.mem_map.mp (m.all v k (Nat.le_refl _) hv)
  have e : x = v := e
  subst e
  obtain ⟨j, h1, _, h3⟩ := m.ok x d hx
  rw [lookK_of m.nd hx, h1, IsD.uni h3 hv]
/-- not more than so many rows can be reached -/
def Bd1 (R : List Int → List Int → Prop) (w : List Int) (N : Nat) : Prop := ∀ l : List (List Int), l.Nodup → (∀ v ∈ l, ∃ j, Pk R j w v) → l.length ≤ N
theorem Mid.len {R : List Int → List Int → Prop} {w : List Int} {k n N : Nat} {st : List (List Int × Int) × List (List Int)} (m : Mid R w k n st) (b : Bd1 R w N) : st.1.length ≤ N := by
  have := b (st.1.map Prod.fst) m.nd fun v hv => by
    obtain ⟨⟨x, d⟩, hx, e⟩ := List.mem_map.mp hv
    have e : x = v := e
    subst e
    obtain ⟨j, _, _, h3⟩ := m.ok x d hx
    exact ⟨j, h3.1⟩
  rw [List.length_map] at this
  exact this
end
end Ov
set_option Elab.async false
set_option linter.all false
set_option maxRecDepth 100000
set_option maxHeartbeats 4000000
namespace Ov
open PySem L2
/-! how many rows there are in a lot -/
theorem nd_le : ∀ (M : Nat) {l : List Nat}, l.Nodup → (∀ x ∈ l, x < M) → l.length ≤ M
  | 0, l, _, h => by
    cases l with
    | nil => exact Nat.le_refl _
    | cons x l => have := h x (List.mem_cons_self ..); omega
  | M + 1, l, nd, h => by
    have e := nd_le M (l := l.erase M) (nd.erase M) fun x hx => by
      have := (List.Nodup.mem_erase_iff nd).mp hx
      have := h x this.2
      omega
    rw [List.length_erase] at e
    split at e <;> omega
theorem run_in {w v : List Int} (nd : w.Nodup) (p : v.Perm w) (r : RNS v = RNS w) : ∀ (j : Nat) (q : Iv) (c : Int), (RNS w)[j]? = some q → (mks v)[j]? = some c → inR q c := fun j q c h1 h2 => by
  rw [← r] at h1
  obtain ⟨c', e, _, h3, h4, _⟩ := RNS_in (p.nodup_iff.mpr nd) j q h1
  rw [h2] at e
  cases e
  exact ⟨h3, h4⟩
theorem rk_lot {w v : List Int} (nd : w.Nodup) (p : v.Perm w) (r : RNS v = RNS w) : 0 ≤ rk (RNS w) (mks v) 0 ∧ rk (RNS w) (mks v) 0 < prod 1 (RNS w) ∧ unr (RNS w) (rk (RNS w) (mks v) 0) = (0, mks v) := by
  have hl : (mks v).length = (RNS w).length := by rw [mks_len, RNS_len, p.length_eq]
  have h := rk_bd hl (run_in nd p r) (Int.le_refl 0)
  exact ⟨by omega, by omega, rk_unr hl (run_in nd p r)⟩
theorem lot_bd {w : List Int} (nd : w.Nodup) : Bd1 Xg w (prod 1 (RNS w)).toNat := fun l nl hl => by
  have in_ : ∀ v ∈ l, v.Perm w ∧ RNS v = RNS w := fun v hv => by
    obtain ⟨j, hj⟩ := hl v hv
    exact ⟨Sv.perm hj.sv, Sv.rns nd hj.sv⟩
  have nm : (l.map fun v => (rk (RNS w) (mks v) 0).toNat).Nodup := by
    refine List.pairwise_map.mpr (nl.imp_of_mem fun {a b} ha hb n e => n ?_)
    obtain ⟨p1, r1⟩ := in_ a ha
    obtain ⟨p2, r2⟩ := in_ b hb
    obtain ⟨a1, a2, a3⟩ := rk_lot nd p1 r1
    obtain ⟨b1, b2, b3⟩ := rk_lot nd p2 r2
    have e2 : rk (RNS w) (mks a) 0 = rk (RNS w) (mks b) 0 := by omega
    rw [e2, b3] at a3
    exact mks_inj (p1.trans p2.symm) (p2.nodup_iff.mpr nd) (by injection a3 with _ z; exact z.symm)
  have := nd_le (prod 1 (RNS w)).toNat nm fun x hx => by
    obtain ⟨v, hv, rfl⟩ := List.mem_map.mp hx
    obtain ⟨p1, r1⟩ := in_ v hv
    obtain ⟨a1, a2, a3⟩ := rk_lot nd p1 r1
    omega
  rw [List.length_map] at this
  exact this
theorem isd_ex {w v : List Int} (nd : w.Nodup) (p : v.Perm w) (r : RNS v = RNS w) : ∃ k, IsD Xg w v k := by
  obtain ⟨j, hj⟩ := (connected nd p r).pk
  obtain ⟨k, _, hk⟩ := IsD.ex hj
  exact ⟨k, hk⟩
/-! codes along a way -/
/-! mirrored rows -/
/-! other heights in the same order -/
section
variable {w : List Int} {f : Int → Int}
theorem mono_lt (hf : ∀ x ∈ w, ∀ y ∈ w, x < y → f x < f y) {x y : Int} (hx : x ∈ w) (hy : y ∈ w) (h : f x < f y) : x < y := by
  rcases Int.lt_trichotomy x y with c | c | c
  · exact c
  · rw [c] at h; omega
  · have := hf y hy x hx c; omega
theorem mono_inj (hf : ∀ x ∈ w, ∀ y ∈ w, x < y → f x < f y) {x y : Int} (hx : x ∈ w) (hy : y ∈ w) (h : f x = f y) : x = y := by
  rcases Int.lt_trichotomy x y with c | c | c
  · have := hf x hx y hy c; omega
  · exact c
  · have := hf y hy x hx c; omega
theorem map_row_inj (hf : ∀ x ∈ w, ∀ y ∈ w, x < y → f x < f y) : ∀ {a b : List Int}, (∀ z ∈ a, z ∈ w) → (∀ z ∈ b, z ∈ w) → a.map f = b.map f → a = b
  | [], [], _, _, _ => rfl
  | [], _ :: _, _, _, h => by cases h
  | _ :: _, [], _, _, h => by cases h
  | x :: a, y :: b, ha, hb, h => by
    rw [List.map_cons, List.map_cons] at h
    injection h with h1 h2
    rw [mono_inj hf (ha x (List.mem_cons_self ..)) (hb y (List.mem_cons_self ..)) h1, map_row_inj hf (fun z hz => ha z (List.mem_cons_of_mem _ hz)) (fun z hz => hb z (List.mem_cons_of_mem _ hz)) h2]
theorem Xg.map (hf : ∀ x ∈ w, ∀ y ∈ w, x < y → f x < f y) {x u : List Int} (hx : ∀ z ∈ x, z ∈ w) : Xg x u → Xg (x.map f) (u.map f) := fun ⟨A, a, B, b, C, h1, h2, h3, h4⟩ => by
  subst h1
  refine ⟨A.map f, f a, B.map f, f b, C.map f, by simp, by rw [h2]; simp, by simpa using h3, fun y hy => ?_⟩
  obtain ⟨z, hz, rfl⟩ := List.mem_map.mp hy
  have hz' := hx z (by simp [hz])
  exact ⟨hf _ hz' _ (hx a (by simp)) (h4 z hz).1, hf _ hz' _ (hx b (by simp)) (h4 z hz).2⟩
theorem Xg.unmap (hf : ∀ x ∈ w, ∀ y ∈ w, x < y → f x < f y) {x u : List Int} (hx : ∀ z ∈ x, z ∈ w) : Xg (x.map f) u → ∃ v, u = v.map f ∧ Xg x v := fun ⟨A, a, B, b, C, h1, h2, h3, h4⟩ => by
  obtain ⟨A0, R, rfl, rfl, e2⟩ := List.map_eq_append_iff.mp h1
  obtain ⟨a0, R, rfl, rfl, e3⟩ := List.map_eq_cons_iff.mp e2
  obtain ⟨B0, R, rfl, rfl, e4⟩ := List.map_eq_append_iff.mp e3
  obtain ⟨b0, C0, rfl, rfl, rfl⟩ := List.map_eq_cons_iff.mp e4
  refine ⟨A0 ++ b0 :: (B0 ++ a0 :: C0), by rw [h2]; simp, A0, a0, B0, b0, C0, rfl, rfl, by simpa using h3, fun y hy => ?_⟩
  have hy' := hx y (by simp [hy])
  have := h4 (f y) (List.mem_map.mpr ⟨y, hy, rfl⟩)
  exact ⟨mono_lt hf hy' (hx a0 (by simp)) this.1, mono_lt hf hy' (hx b0 (by simp)) this.2⟩
theorem Pk.map (hf : ∀ x ∈ w, ∀ y ∈ w, x < y → f x < f y) {k : Nat} {x u : List Int} (hx : ∀ z ∈ x, z ∈ w) (h : Pk Xg k x u) : Pk Xg k (x.map f) (u.map f) ∧ ∀ z ∈ u, z ∈ w := by
  induction h with
  | nil => exact ⟨.nil _, hx⟩
  | snoc _ r ih =>
    obtain ⟨i1, i2⟩ := ih hx
    exact ⟨.snoc i1 (r.map hf i2), fun z hz => i2 z (r.perm.subset hz)⟩
theorem Pk.unmap (hf : ∀ x ∈ w, ∀ y ∈ w, x < y → f x < f y) : ∀ {k : Nat} {x u : List Int}, (∀ z ∈ x, z ∈ w) → Pk Xg k (x.map f) u → ∃ v, u = v.map f ∧ Pk Xg k x v ∧ ∀ z ∈ v, z ∈ w
  | 0, x, u, hx, h => ⟨x, h.zero, .nil _, hx⟩
  | k + 1, x, u, hx, h => by
    obtain ⟨m, h1, h2⟩ := h.succ
    obtain ⟨v, rfl, i1, i2⟩ := Pk.unmap hf hx h1
    obtain ⟨y, rfl, h3⟩ := h2.unmap hf i2
    exact ⟨y, rfl, .snoc i1 h3, fun z hz => i2 z (h3.perm.subset hz)⟩
theorem IsD.map (hf : ∀ x ∈ w, ∀ y ∈ w, x < y → f x < f y) {k : Nat} {x u : List Int} (hx : ∀ z ∈ x, z ∈ w) (h : IsD Xg x u k) : IsD Xg (x.map f) (u.map f) k := by
  obtain ⟨h1, h2⟩ := h.1.map hf hx
  refine ⟨h1, fun j hj => ?_⟩
  obtain ⟨v, e, i1, i2⟩ := Pk.unmap hf hx hj
  rw [map_row_inj hf h2 i2 e] at h
  exact h.2 j i1
end
end Ov
set_option Elab.async false
set_option linter.all false
set_option maxRecDepth 100000
set_option maxHeartbeats 4000000
namespace Ov
open PySem L2
/-! distance, plan, farthest -/
theorem count_val {d : PyData} {ms : List Int} (hd : isSq d ms) (nd : ms.Nodup) (hl : ms.length ≤ 16) : F_count_rows [d] = some (.dat (.int (prod 1 (RNS ms)))) := by
  have ru := runs_ok hd (by omega) nd
  obtain ⟨u2, e⟩ := count_for (d := d) (RNS ms) (t := 1) (w2 := none) (rns_sm nd hl)
  generalize ivD (RNS ms) = R at *
  have e0 : s_count_rows_0 [some (.dat d), none, none] = some (.ok .nx [some (.dat d), some (.dat (.int 1)), none]) := set_ok con_ok (by show 1 < 3; decide)
  have e1 : s_count_rows_1 [some (.dat d), some (.dat (.int 1)), none] = some (.ok .nx [some (.dat d), some (.dat (.int (prod 1 (RNS ms)))), u2]) := for_ok (seq_ok (call1 (get_ok rfl) ru) rfl) e
  refine runA_eq rfl ⟨[some (.dat d), some (.dat (.int (prod 1 (RNS ms)))), u2], ?_⟩
  show f_count_rows [some (.dat d), none, none] = _
  unfold f_count_rows
  rw [then_nx e0, then_nx e1]
  exact ret_ok (get_ok rfl)
/-! the plan -/
end Ov
set_option Elab.async false
set_option linter.all false
set_option maxRecDepth 100000
set_option maxHeartbeats 4000000
namespace Ov
open PySem L2
/-! the law's own search -/
theorem shp_rows (l : List (List Int)) : shp (.list (rows l)) = true := (Sh.lst (k := 5) fun x hx => by
  obtain ⟨p, _, rfl⟩ := List.mem_map.mp hx
  exact Sh.tup fun y hy => by
    obtain ⟨i, _, rfl⟩ := List.mem_map.mp hy
    exact Sh.int _).shp (by decide)
theorem noB_rows (l : List (List Int)) : noB (.list (rows l)) = true := by
  have : ∀ l : List (List Int), noBs (rows l) = true := fun l => by
    induction l with
    | nil => rfl
    | cons a l ih =>
      show (noB (rowD a) && noBs (rows l)) = true
      rw [ih, show noB (rowD a) = true from noBs_ints a]
      rfl
  exact this l
theorem turned_val {ms : List Int} {p : Iv} (hl : ms.length ≤ 30) (h : p ∈ xcs ms) : F_turned [.tuple (ms.map .int), pD p] = some (.dat (.tuple ((nx1 ms p).map .int))) := by
  obtain ⟨A, a, B, b, C, rfl, hB, hb, rfl⟩ := xcs_in h
  rw [nx1_x]
  exact turned_ok (by omega)
def lIn : M Fl := (thenS (setS 7 (pl (fz (callA F_turned (acons (get 5) (acons (get 6) anil))))))
    (ifS (dinX true 2 (get 7)) (thenS (dputN 2 (get 7) (op2 addD (dgX 2 (get 5)) (con (.int 1))))
    (exprS (mthE 4 appD (acons (get 7) anil)))) nxt))
def lMid : M Fl := (forS (seqI (fz (callA F_swaps (acons (get 5) anil)))) (gN 6) lIn)
def lOut : M Fl := (thenS (setS 4 (lstW anil))
    (thenS (forS (seqI (get 3)) (gN 5) lMid)
    (M.bind (frzM 4) fun _ => (setS 3 (pl (get 4))))))
def lTst : M Bool := (andT (tb1 (op2 (eqvD true) (get 3) (lstD anil))) (tb1 (op2 leD (lenNd 2) (get 1))))
theorem ne_nil_rows (l : List (List Int)) : eqvD true (.list (rows l)) (.list []) = some (.bool (!l.isEmpty)) := by
  cases l with
  | nil => exact eq_yes (n := true) (by decide)
  | cons a l => exact eq_no (n := true) (shp_rows _) (by decide) (noB_rows _) (by decide) (by simp [rows])
section
variable {d0 d1 d3 w6 w7 : Option Wv}
theorem lin_ok {v u : List Int} {p : Iv} {k : Int} {st : List (List Int × Int) × List (List Int)} (hx : F_turned [.tuple (v.map .int), pD p] = some (.dat (.tuple (u.map .int)))) (hk : lookK st.1 v = some k) (hl : st.1.length < 100000) (ha : st.2.length < 100000) :
    lIn [d0, d1, some (.dtn (nkv st.1)), d3, some (.own (dats (rows st.2))), some (.dat (.tuple (v.map .int))), some (.dat (pD p)), w7] = some (.ok .nx [d0, d1, some (.dtn (nkv (addN k st u).1)), d3, some (.own (dats (rows (addN k st u).2))), some (.dat (.tuple (v.map .int))), some (.dat (pD p)), some (.dat (.tuple (u.map .int)))]) := by
  unfold lIn
  refine then_x (set_x (e := [d0, d1, some (.dtn (nkv st.1)), d3, some (.own (dats (rows st.2))), some (.dat (.tuple (v.map .int))), some (.dat (pD p)), w7]) (pl_x (fz_x (callA_x (acons_x (get_x rfl) (acons_x (get_x rfl) anil_x)) rfl hx) rfl) rfl) (Nat.le_of_ble_eq_true rfl)) ?_
  show ifS _ _ _ [d0, d1, some (.dtn (nkv st.1)), d3, some (.own (dats (rows st.2))), some (.dat (.tuple (v.map .int))), some (.dat (pD p)), some (.dat (.tuple (u.map .int)))] = _
  have di := dinN_x (env := [d0, d1, some (.dtn (nkv st.1)), d3, some (.own (dats (rows st.2))), some (.dat (.tuple (v.map .int))), some (.dat (pD p)), some (.dat (.tuple (u.map .int)))]) (n := true) (i := 2) (fk := get 7) (u := u) (f := st.1) (get_x rfl) rfl
  cases hu : lookK st.1 u with
  | some d =>
    rw [hu] at di
    have e : addN k st u = st := by unfold addN; rw [hu]; rfl
    rw [e]
    exact ifS_f di nxt_x
  | none =>
    rw [hu] at di
    have e : addN k st u = (st.1 ++ [(u, k + 1)], st.2 ++ [u]) := by unfold addN; rw [hu]; rfl
    rw [e]
    refine ifS_t di ?_
    have pt := dputNV_x (env := [d0, d1, some (.dtn (nkv st.1)), d3, some (.own (dats (rows st.2))), some (.dat (.tuple (v.map .int))), some (.dat (pD p)), some (.dat (.tuple (u.map .int)))]) (i := 2) (fk := get 7) (fv := op2 addD (dgX 2 (get 5)) (con (.int 1))) (u := u) (f := st.1) (d := k + 1) (op2_x (dgetN_x (get_x rfl) rfl hk) con_x vwd_x vwd_x (addI_x _ _)) (get_x rfl) rfl hl
    rw [putKI_new hu] at pt
    refine then_x pt ?_
    rw [← rows_app]
    exact expr_x (mth_x (env := [d0, d1, some (.dtn (nkv (st.1 ++ [(u, k + 1)]))), d3, some (.own (dats (rows st.2))), some (.dat (.tuple (v.map .int))), some (.dat (pD p)), some (.dat (.tuple (u.map .int)))]) (b0 := rows st.2) (bs := rows st.2) rfl (acons_x (get_x rfl) anil_x) rfl rfl (v_app _ _ (by unfold rows; rw [List.length_map]; omega)))
theorem lin_loop {w v : List Int} {k n N : Nat} (hv : IsD Xg w v k) (hl : v.length ≤ 30) (b : Bd1 Xg w N) (hN : N < 100000) : ∀ (ps : List Iv) {st : List (List Int × Int) × List (List Int)} {w6 w7 : Option Wv}, (∀ p ∈ ps, p ∈ xcs v) → Mid Xg w k n st →
    ∃ u6 u7, forM (gN 6) lIn (ivD ps) [d0, d1, some (.dtn (nkv st.1)), d3, some (.own (dats (rows st.2))), some (.dat (.tuple (v.map .int))), w6, w7] =
      some (.ok .nx [d0, d1, some (.dtn (nkv ((ps.map (nx1 v)).foldl (addN k) st).1)), d3, some (.own (dats (rows ((ps.map (nx1 v)).foldl (addN k) st).2))), some (.dat (.tuple (v.map .int))), u6, u7])
  | [], st, w6, w7, _, _ => ⟨w6, w7, for_nil⟩
  | p :: ps, st, w6, w7, hp, m => by
    have p0 := hp p (List.mem_cons_self ..)
    have xg : Xg v (nx1 v p) := (mem_nbs v _).mp (List.mem_map.mpr ⟨p, p0, rfl⟩)
    obtain ⟨m1, _, _⟩ := m.add hv xg
    obtain ⟨u6, u7, e⟩ := lin_loop hv hl b hN ps (w6 := some (.dat (pD p))) (w7 := some (.dat (.tuple ((nx1 v p).map .int)))) (fun q hq => hp q (List.mem_cons_of_mem _ hq)) m1
    have ml := m.len b
    have mc := m.cnt
    exact ⟨u6, u7, (for_go (e := [d0, d1, some (.dtn (nkv st.1)), d3, some (.own (dats (rows st.2))), some (.dat (.tuple (v.map .int))), some (.dat (pD p)), w7]) rfl (lin_ok (turned_val hl p0) (m.look hv) (by omega) (by omega))).trans e⟩
theorem lout_loop {w : List Int} {k n N : Nat} (b : Bd1 Xg w N) (hN : N < 100000) : ∀ (l : List (List Int)) {st : List (List Int × Int) × List (List Int)} {w5 w6 w7 : Option Wv}, (∀ v ∈ l, IsD Xg w v k ∧ v.length ≤ 30) → Mid Xg w k n st →
    ∃ u5 u6 u7, forM (gN 5) lMid (rows l) [d0, d1, some (.dtn (nkv st.1)), d3, some (.own (dats (rows st.2))), w5, w6, w7] =
      some (.ok .nx [d0, d1, some (.dtn (nkv (layer nbs k l st).1)), d3, some (.own (dats (rows (layer nbs k l st).2))), u5, u6, u7])
  | [], st, w5, w6, w7, _, _ => ⟨w5, w6, w7, for_nil⟩
  | v :: l, st, w5, w6, w7, hv, m => by
    obtain ⟨v1, v2⟩ := hv v (List.mem_cons_self ..)
    obtain ⟨m1, _, _⟩ := m.adds v1 (us := nbs v) fun u hu => (mem_nbs v u).mp hu
    obtain ⟨u6, u7, e1⟩ := lin_loop (d0 := d0) (d1 := d1) (d3 := d3) v1 v2 b hN (xcs v) (w6 := w6) (w7 := w7) (fun p hp => hp) m
    obtain ⟨x5, x6, x7, e2⟩ := lout_loop b hN l (w5 := some (.dat (.tuple (v.map .int)))) (w6 := u6) (w7 := u7) (fun q hq => hv q (List.mem_cons_of_mem _ hq)) m1
    refine ⟨x5, x6, x7, (for_go (e := [d0, d1, some (.dtn (nkv st.1)), d3, some (.own (dats (rows st.2))), some (.dat (rowD v)), w6, w7]) rfl ?_).trans e2⟩
    unfold lMid
    exact for_x (seq_x (fz_x (callA_x (acons_x (get_x rfl) anil_x) rfl (swaps_ok v2)) rfl) rfl) e1
theorem lwh_loop {w : List Int} {N most : Nat} (b : Bd1 Xg w N) (hM : N ≤ most) (hN : N < 100000) (hl : w.length ≤ 30) : ∀ (m k : Nat) {f : List (List Int × Int)} {l : List (List Int)} {w4 w5 w6 w7 : Option Wv}, Inv Xg w k f l → N < k + m →
    ∃ f' u3 u4 u5 u6 u7, whileM lTst lOut m [d0, some (.dat (.int (most : Int))), some (.dtn (nkv f)), some (.dat (.list (rows l))), w4, w5, w6, w7] = some (.ok .nx [d0, some (.dat (.int (most : Int))), some (.dtn (nkv f')), u3, u4, u5, u6, u7]) ∧ Full Xg w f'
  | 0, k, f, l, w4, w5, w6, w7, i, hm => by
    exfalso
    have := b (f.map Prod.fst) i.nd fun v hv => by
      obtain ⟨⟨x, d⟩, hx, e⟩ := List.mem_map.mp hv
      have e : x = v := e
      subst e
      obtain ⟨j, _, _, h3⟩ := i.ok x d hx
      exact ⟨j, h3.1⟩
    rw [List.length_map] at this
    have := i.cnt
    omega
  | m + 1, k, f, [], w4, w5, w6, w7, i, hm => by
    refine ⟨f, some (.dat (.list (rows []))), w4, w5, w6, w7, while_end ?_, i.full⟩
    unfold lTst
    exact andT_f (tb_x (op2_x (get_x rfl) (lst_x anil_x rfl (by decide)) vwd_x vwd_x (ne_nil_rows [])) vwd_x)
  | m + 1, k, f, v :: l, w4, w5, w6, w7, i, hm => by
    have i2 := i.next mem_nbs (by simp)
    have fl : f.length ≤ N := by
      have := b (f.map Prod.fst) i.nd fun v hv => by
        obtain ⟨⟨x, d⟩, hx, e⟩ := List.mem_map.mp hv
        have e : x = v := e
        subst e
        obtain ⟨j, _, _, h3⟩ := i.ok x d hx
        exact ⟨j, h3.1⟩
      rw [List.length_map] at this
      exact this
    have m0 : Mid Xg w k f.length (f, []) := ⟨i.nd, fun v d hv => by
      obtain ⟨j, h1, h2, h3⟩ := i.ok v d hv
      exact ⟨j, h1, by omega, h3⟩, i.all, fun v => ⟨fun z => (by cases z), fun z => by
      obtain ⟨j, h1, h2, _⟩ := i.ok v _ z
      omega⟩, rfl⟩
    obtain ⟨u5, u6, u7, e1⟩ := lout_loop (d0 := d0) (d1 := some (.dat (.int (most : Int)))) (d3 := some (.dat (.list (rows (v :: l))))) b hN (v :: l) (w5 := w5) (w6 := w6) (w7 := w7) (fun x hx => by
      have := (i.last x).mp hx
      refine ⟨this, ?_⟩
      rw [(Sv.perm this.1.sv).length_eq]
      exact hl) m0
    obtain ⟨f', u3, u4, x5, x6, x7, e2, fu⟩ := lwh_loop b hM hN hl m (k + 1) (w4 := some (.dat (.list (rows (layer nbs k (v :: l) (f, [])).2)))) (w5 := u5) (w6 := u6) (w7 := u7) i2 (by omega)
    have tt : lTst [d0, some (.dat (.int (most : Int))), some (.dtn (nkv f)), some (.dat (.list (rows (v :: l)))), w4, w5, w6, w7] = some (.ok true [d0, some (.dat (.int (most : Int))), some (.dtn (nkv f)), some (.dat (.list (rows (v :: l)))), w4, w5, w6, w7]) := by
      unfold lTst
      refine andT_t (tb_x (op2_x (get_x rfl) (lst_x anil_x rfl (by decide)) vwd_x vwd_x (ne_nil_rows (v :: l))) vwd_x) ?_
      have t2 : tb1 (op2 leD (lenNd 2) (get 1)) [d0, some (.dat (.int (most : Int))), some (.dtn (nkv f)), some (.dat (.list (rows (v :: l)))), w4, w5, w6, w7] = some (.ok (decide ((f.length : Int) ≤ (most : Int))) [d0, some (.dat (.int (most : Int))), some (.dtn (nkv f)), some (.dat (.list (rows (v :: l)))), w4, w5, w6, w7]) := tb_x (op2_x (lenNV_x (f := f) rfl (by omega)) (get_x rfl) vwd_x vwd_x (leI_x _ _)) vwd_x
      rw [decide_eq_true (by omega)] at t2
      exact t2
    refine ⟨f', u3, u4, x5, x6, x7, (while_go tt ?_).trans e2, fu⟩
    unfold lOut
    refine then_x (set_x (e := [d0, some (.dat (.int (most : Int))), some (.dtn (nkv f)), some (.dat (.list (rows (v :: l)))), w4, w5, w6, w7]) (lstW_x anil_x rfl (by decide)) (Nat.le_of_ble_eq_true rfl)) ?_
    refine then_x (for_x (seq_x (get_x rfl) rfl) e1) ?_
    exact frz_x (i := 4) rfl (set_x (e := [d0, some (.dat (.int (most : Int))), some (.dtn (nkv (layer nbs k (v :: l) (f, [])).1)), some (.dat (.list (rows (v :: l)))), some (.dat (.list (rows (layer nbs k (v :: l) (f, [])).2))), u5, u6, u7]) (pl_x (get_x rfl) rfl) (Nat.le_of_ble_eq_true rfl))
end
theorem reached_ok {w : List Int} {N most : Nat} (b : Bd1 Xg w N) (hM : N ≤ most) (hN : N < 3000) (hl : w.length ≤ 30) : ∃ z f, F_reached [.tuple (w.map .int), .int (most : Int)] = some (.dtn (nkv (z :: f))) ∧ Full Xg w (z :: f) ∧ (z :: f).length ≤ N := by
  obtain ⟨f', u3, u4, u5, u6, u7, e, fu⟩ := lwh_loop (d0 := some (.dat (.tuple (w.map .int)))) b hM (by omega) hl 3000 0 (w4 := none) (w5 := none) (w6 := none) (w7 := none) (Inv.start w) (by omega)
  have ne := fu.all w 0 (.self w)
  have fl : f'.length ≤ N := by
    have := b (f'.map Prod.fst) fu.nd fun v hv => by
      obtain ⟨⟨x, d⟩, hx, e⟩ := List.mem_map.mp hv
      have e : x = v := e
      subst e
      obtain ⟨j, _, h3, _⟩ := fu.ok x d hx
      exact ⟨j, h3.1⟩
    rw [List.length_map] at this
    exact this
  cases f' with
  | nil => cases ne
  | cons z f =>
    refine ⟨z, f, runA_eq rfl ⟨[some (.dat (.tuple (w.map .int))), some (.dat (.int (most : Int))), none, u3, u4, u5, u6, u7], ?_⟩, fu, fl⟩
    show f_reached [some (.dat (.tuple (w.map .int))), some (.dat (.int (most : Int))), none, none, none, none, none, none] = _
    unfold f_reached
    refine then_x (par_x (dispN_x (get_x rfl) con_x) (pl_x (lst_x (acons_x (get_x rfl) anil_x) rfl (Nat.le_of_ble_eq_true rfl)) rfl) (Nat.le_of_ble_eq_true rfl) (Nat.le_of_ble_eq_true rfl)) ?_
    refine then_x e ?_
    have t2 : tb1 (op2 leD (lenNd 2) (get 1)) [some (.dat (.tuple (w.map .int))), some (.dat (.int (most : Int))), some (.dtn (nkv (z :: f))), u3, u4, u5, u6, u7] = some (.ok (decide (((z :: f).length : Int) ≤ (most : Int))) [some (.dat (.tuple (w.map .int))), some (.dat (.int (most : Int))), some (.dtn (nkv (z :: f))), u3, u4, u5, u6, u7]) := tb_x (op2_x (lenNV_x (f := z :: f) rfl (by omega)) (get_x rfl) vwd_x vwd_x (leI_x _ _)) vwd_x
    rw [decide_eq_true (by omega)] at t2
    exact ifS_t t2 (moveN_x rfl)
end Ov
set_option Elab.async false
set_option linter.all false
set_option maxRecDepth 100000
set_option maxHeartbeats 4000000
namespace Ov
open PySem L2
/-- a drawn row of the lot -/
structure Dr (ms : List Int) (r : Int) (th : List Int) : Prop where
  pe : th.Perm ms
  ru : RNS th = RNS ms
  mc : mks th = (unr (RNS ms) r).2
  u1 : (unr (RNS ms) r).1 = 0
  rk : rk (RNS ms) (mks th) 0 = r
def rowOf (ms : List Int) (x : Int) : List Int := bld (sortI ms) (unr (RNS ms) x).2
theorem dr_ok {ms : List Int} {r : Int} (nd : ms.Nodup) (hl : ms.length ≤ 16) (x0 : 0 ≤ r) (x1 : r < prod 1 (RNS ms)) : Dr ms r (rowOf ms r) := by
  obtain ⟨tp, tm, tr, ts⟩ := at_mate (ms := ms) (x := r) nd
  have u1 : (unr (RNS ms) r).1 = 0 := by
    have a := unr_lt (l := RNS ms) (t := 1) (x := r) (fun p hp => (rns_sm nd hl p hp).1) x1
    have b := unr_nn (l := RNS ms) (x := r) (fun p hp => (rns_sm nd hl p hp).1) x0
    omega
  have ux := unr_rk (l := RNS ms) (x := r)
  rw [u1, ← tm] at ux
  exact ⟨tp, tr, tm, u1, ux⟩
/-! all rows of the lot, their codes ascending -/
def lotR (ms : List Int) : List (List Int) := (List.range' 0 (prod 1 (RNS ms)).toNat).map fun i : Nat => rowOf ms (i : Int)
theorem row_of_mks {ms v : List Int} (nd : ms.Nodup) (p : v.Perm ms) : bld (sortI ms) (mks v) = v := by
  rw [← sort_perm p]
  exact bld_mk (sort_lt (sortI_pw v) ((sortI_perm v).nodup_iff.mpr (p.nodup_iff.mpr nd))) (sortI_perm v).symm
section
variable {ms : List Int}
theorem lotR_len : (lotR ms).length = (prod 1 (RNS ms)).toNat := by unfold lotR; rw [List.length_map, List.length_range']
theorem lotR_get {i : Nat} (h : i < (prod 1 (RNS ms)).toNat) : (lotR ms)[i]? = some (rowOf ms (i : Int)) := by
  unfold lotR
  rw [List.getElem?_map, List.getElem?_range' h]
  simp
theorem lotR_in (nd : ms.Nodup) (hl : ms.length ≤ 16) {v : List Int} (h : v ∈ lotR ms) : v.Perm ms ∧ RNS v = RNS ms := by
  unfold lotR at h
  obtain ⟨i, hi, rfl⟩ := List.mem_map.mp h
  have hi := List.mem_range'.mp hi
  have d := dr_ok nd hl (r := (i : Int)) (by omega) (by omega)
  exact ⟨d.pe, d.ru⟩
theorem rowOf_rk (nd : ms.Nodup) {v : List Int} (p : v.Perm ms) (r : RNS v = RNS ms) : rowOf ms (rk (RNS ms) (mks v) 0) = v := by
  obtain ⟨_, _, h3⟩ := rk_lot nd p r
  unfold rowOf
  rw [h3]
  exact row_of_mks nd p
theorem lotR_at (nd : ms.Nodup) {v : List Int} (p : v.Perm ms) (r : RNS v = RNS ms) : (lotR ms)[(rk (RNS ms) (mks v) 0).toNat]? = some v := by
  obtain ⟨h1, h2, _⟩ := rk_lot nd p r
  rw [lotR_get (by omega), Int.toNat_of_nonneg h1, rowOf_rk nd p r]
theorem lotR_mem (nd : ms.Nodup) (hl : ms.length ≤ 16) {v : List Int} : v ∈ lotR ms ↔ v.Perm ms ∧ RNS v = RNS ms := ⟨lotR_in nd hl, fun ⟨p, r⟩ => List.mem_of_getElem? (lotR_at nd p r)⟩
theorem lotR_pwn (nd : ms.Nodup) (hl : ms.length ≤ 16) : ((lotR ms).map mks).Nodup := by
  unfold lotR
  rw [List.map_map]
  refine List.pairwise_map.mpr (List.Pairwise.imp_of_mem ?_ (List.pairwise_lt_range' (s := 0) (n := (prod 1 (RNS ms)).toNat)))
  intro a b ha hb lt e
  have ha := List.mem_range'.mp ha
  have hb := List.mem_range'.mp hb
  have da := dr_ok nd hl (r := (a : Int)) (by omega) (by omega)
  have db := dr_ok nd hl (r := (b : Int)) (by omega) (by omega)
  have e : mks (rowOf ms (a : Int)) = mks (rowOf ms (b : Int)) := e
  have k1 := da.rk
  rw [e, db.rk] at k1
  omega
theorem lotR_nd (nd : ms.Nodup) (hl : ms.length ≤ 16) : (lotR ms).Nodup := (lotR_pwn nd hl).of_map _ fun a b n e => n (congrArg _ e)
theorem kys_perm (nd : ms.Nodup) (hl : ms.length ≤ 16) {f : List (List Int × Int)} (fu : Full Xg ms f) : (kys f).Perm (lotR ms) := by
  refine (List.perm_ext_iff_of_nodup fu.nd (lotR_nd nd hl)).mpr fun v => ?_
  rw [lotR_mem nd hl]
  constructor
  · intro h
    obtain ⟨⟨x, d⟩, hx, e⟩ := List.mem_map.mp h
    have e : x = v := e
    subst e
    obtain ⟨j, _, h3, _⟩ := fu.ok x d hx
    exact ⟨Sv.perm h3.1.sv, Sv.rns nd h3.1.sv⟩
  · rintro ⟨p, r⟩
    obtain ⟨k, hk⟩ := isd_ex nd p r
    exact List.mem_map.mpr ⟨_, lookK_mem (fu.all v k hk), rfl⟩
end
end Ov
set_option Elab.async false
set_option linter.all false
set_option maxRecDepth 100000
set_option maxHeartbeats 4000000
namespace Ov
open PySem L2
/-! all orders of some people -/
def one1 (ss s : List Int) : List (List Int) := (ss.filter fun k => true ^^ decide (k ∈ s)).map fun k => s ++ [k]
def ext1 (ss : List Int) (L : List (List Int)) : List (List Int) := L.flatMap (one1 ss)
def evR (ss : List Int) : Nat → List (List Int)
  | 0 => [[]]
  | k + 1 => ext1 ss (evR ss k)
theorem fil_len {ss s : List Int} (nd : ss.Nodup) (ns : s.Nodup) (sub : ∀ x ∈ s, x ∈ ss) : (ss.filter fun k => true ^^ decide (k ∈ s)).length + s.length = ss.length := by
  have p : ((ss.filter fun k => true ^^ decide (k ∈ s)) ++ s).Perm ss := (List.perm_ext_iff_of_nodup (List.nodup_append.mpr ⟨nd.filter _, ns, fun a ha b hb e => by
    subst e
    have := (List.mem_filter.mp ha).2
    simp at this
    exact this hb⟩) nd).mpr fun x => by
      rw [List.mem_append, List.mem_filter]
      constructor
      · rintro (h | h)
        · exact h.1
        · exact sub x h
      · intro h
        by_cases m : x ∈ s
        · exact .inr m
        · exact .inl ⟨h, by simp [m]⟩
  rw [← p.length_eq, List.length_append]
theorem mem_one {ss s v : List Int} : v ∈ one1 ss s ↔ ∃ k, k ∈ ss ∧ k ∉ s ∧ v = s ++ [k] := by
  unfold one1
  rw [List.mem_map]
  constructor
  · rintro ⟨k, hk, rfl⟩
    obtain ⟨h1, h2⟩ := List.mem_filter.mp hk
    exact ⟨k, h1, by simpa using h2, rfl⟩
  · rintro ⟨k, h1, h2, rfl⟩
    exact ⟨k, List.mem_filter.mpr ⟨h1, by simpa using h2⟩, rfl⟩
theorem mem_ext {ss v : List Int} {L : List (List Int)} : v ∈ ext1 ss L ↔ ∃ s ∈ L, ∃ k, k ∈ ss ∧ k ∉ s ∧ v = s ++ [k] := by
  unfold ext1
  rw [List.mem_flatMap]
  exact ⟨fun ⟨s, h1, h2⟩ => ⟨s, h1, mem_one.mp h2⟩, fun ⟨s, h1, h2⟩ => ⟨s, h1, mem_one.mpr h2⟩⟩
theorem mem_ev {ss : List Int} : ∀ {k : Nat} {v : List Int}, v ∈ evR ss k ↔ v.Nodup ∧ (∀ x ∈ v, x ∈ ss) ∧ v.length = k
  | 0, v => by
    show v ∈ [[]] ↔ _
    constructor
    · intro h
      cases List.mem_singleton.mp h
      exact ⟨List.nodup_nil, fun x h => (by cases h), rfl⟩
    · rintro ⟨_, _, h⟩
      rw [List.length_eq_zero_iff.mp h]
      simp
  | k + 1, v => by
    show v ∈ ext1 ss (evR ss k) ↔ _
    rw [mem_ext]
    constructor
    · rintro ⟨s, h1, x, h2, h3, rfl⟩
      obtain ⟨a, b, c⟩ := mem_ev.mp h1
      refine ⟨List.nodup_append.mpr ⟨a, by simp, fun y hy z hz e => ?_⟩, fun y hy => ?_, by rw [List.length_append, c]; rfl⟩
      · rw [List.mem_singleton.mp hz] at e
        exact h3 (e ▸ hy)
      · rcases List.mem_append.mp hy with hy | hy
        · exact b y hy
        · rw [List.mem_singleton.mp hy]; exact h2
    · rintro ⟨a, b, c⟩
      have ne : v ≠ [] := fun e => by rw [e] at c; cases c
      have e := List.dropLast_concat_getLast ne
      have nd := a
      rw [← e] at nd
      obtain ⟨n1, _, n3⟩ := List.nodup_append.mp nd
      refine ⟨v.dropLast, mem_ev.mpr ⟨n1, fun x hx => b x ((List.dropLast_sublist v).subset hx), by rw [List.length_dropLast, c]; rfl⟩, v.getLast ne, b _ (List.getLast_mem ne), fun h => n3 _ h _ (List.mem_singleton.mpr rfl) rfl, e.symm⟩
theorem fm_nd {ss : List Int} (nd : ss.Nodup) : ∀ {L : List (List Int)}, L.Nodup → (ext1 ss L).Nodup
  | [], _ => List.nodup_nil
  | s :: L, h => by
    obtain ⟨h1, h2⟩ := List.nodup_cons.mp h
    show (one1 ss s ++ ext1 ss L).Nodup
    refine List.nodup_append.mpr ⟨?_, fm_nd nd h2, fun a ha b hb e => ?_⟩
    · unfold one1
      refine List.pairwise_map.mpr (List.Pairwise.imp (fun {a b} n e => n ?_) (nd.filter _))
      have := List.append_cancel_left e
      injection this
    · obtain ⟨x, _, _, rfl⟩ := mem_one.mp ha
      obtain ⟨t, ht, y, _, _, rfl⟩ := mem_ext.mp hb
      have := List.append_inj_left' e rfl
      exact h1 (this ▸ ht)
theorem ev_nd {ss : List Int} (nd : ss.Nodup) : ∀ k, (evR ss k).Nodup
  | 0 => by show [([] : List Int)].Nodup; simp
  | k + 1 => fm_nd nd (ev_nd nd k)
theorem ext_len {ss : List Int} {m : Nat} : ∀ {L : List (List Int)}, (∀ s ∈ L, (one1 ss s).length = m) → (ext1 ss L).length = L.length * m
  | [], _ => by show 0 = 0 * m; omega
  | s :: L, h => by
    show (one1 ss s ++ ext1 ss L).length = _
    rw [List.length_append, h s (List.mem_cons_self ..), ext_len fun t ht => h t (List.mem_cons_of_mem _ ht), List.length_cons, Nat.succ_mul]
    omega
theorem ev_step {ss : List Int} (nd : ss.Nodup) (k : Nat) (h : k ≤ ss.length) : (evR ss (k + 1)).length = (evR ss k).length * (ss.length - k) :=
  ext_len fun s hs => by
    obtain ⟨a, b, c⟩ := mem_ev.mp hs
    have := fil_len nd a b
    unfold one1
    rw [List.length_map]
    omega
theorem ev_few {ss : List Int} (nd : ss.Nodup) (hl : ss.length ≤ 5) : ∀ k, k ≤ ss.length → (evR ss k).length ≤ 120
  | 0, _ => by show 1 ≤ 120; decide
  | 1, h => by rw [ev_step nd 0 (by omega)]; show 1 * _ ≤ _; omega
  | 2, h => by
    rw [ev_step nd 1 (by omega), ev_step nd 0 (by omega)]
    show 1 * _ * _ ≤ _
    have : ss.length = 2 ∨ ss.length = 3 ∨ ss.length = 4 ∨ ss.length = 5 := by omega
    rcases this with e | e | e | e <;> rw [e] <;> decide
  | 3, h => by
    rw [ev_step nd 2 (by omega), ev_step nd 1 (by omega), ev_step nd 0 (by omega)]
    show 1 * _ * _ * _ ≤ _
    have : ss.length = 3 ∨ ss.length = 4 ∨ ss.length = 5 := by omega
    rcases this with e | e | e <;> rw [e] <;> decide
  | 4, h => by
    rw [ev_step nd 3 (by omega), ev_step nd 2 (by omega), ev_step nd 1 (by omega), ev_step nd 0 (by omega)]
    show 1 * _ * _ * _ * _ ≤ _
    have : ss.length = 4 ∨ ss.length = 5 := by omega
    rcases this with e | e <;> rw [e] <;> decide
  | 5, h => by
    rw [ev_step nd 4 (by omega), ev_step nd 3 (by omega), ev_step nd 2 (by omega), ev_step nd 1 (by omega), ev_step nd 0 (by omega)]
    show 1 * _ * _ * _ * _ * _ ≤ _
    have : ss.length = 5 := by omega
    rw [this]; decide
  | k + 6, h => by omega
theorem ev_all {ss : List Int} (nd : ss.Nodup) {v : List Int} : v ∈ evR ss ss.length ↔ v.Perm ss := by
  rw [mem_ev]
  constructor
  · rintro ⟨a, b, c⟩
    have p : ((ss.filter fun k => true ^^ decide (k ∈ v)) ++ v).Perm ss := by
      refine (List.perm_ext_iff_of_nodup (List.nodup_append.mpr ⟨nd.filter _, a, fun x hx y hy e => ?_⟩) nd).mpr fun x => ?_
      · subst e
        have := (List.mem_filter.mp hx).2
        simp at this
        exact this hy
      · rw [List.mem_append, List.mem_filter]
        constructor
        · rintro (h | h)
          · exact h.1
          · exact b x h
        · intro h
          by_cases m : x ∈ v
          · exact .inr m
          · exact .inl ⟨h, by simp [m]⟩
    have l := fil_len nd a b
    have z : (ss.filter fun k => true ^^ decide (k ∈ v)) = [] := List.length_eq_zero_iff.mp (by omega)
    rwa [z, List.nil_append] at p
  · intro p
    exact ⟨p.nodup_iff.mpr nd, fun x hx => p.mem_iff.mp hx, p.length_eq⟩
theorem rows_apps (a b : List (List Int)) : rows a ++ rows b = rows (a ++ b) := by unfold rows; rw [List.map_append]
def evB : M Fl := (exprS (extW 3 (lcW (seqI (get 0)) (gN 5) (tb1 (op2 (inF true) (get 5) (get 4))) (op2 catT (get 4) (tupD (acons (get 5) anil))) [5])))
section
variable {ss : List Int} {d1 d2 : Option Wv}
theorem evb_ok (hs : ss.length ≤ 5) {s : List Int} (hl : s.length ≤ 5) {acc : List (List Int)} (ha : acc.length ≤ 1000) :
    evB [some (.dat (.list (ss.map .int))), d1, d2, some (.own (dats (rows acc))), some (.dat (.tuple (s.map .int))), none] = some (.ok .nx [some (.dat (.list (ss.map .int))), d1, d2, some (.own (dats (rows (acc ++ one1 ss s)))), some (.dat (.tuple (s.map .int))), none]) := by
  unfold evB
  have c0 : (lcW (seqI (get 0)) (gN 5) (tb1 (op2 (inF true) (get 5) (get 4))) (op2 catT (get 4) (tupD (acons (get 5) anil))) [5]) [some (.dat (.list (ss.map .int))), d1, d2, some (.own (dats (rows acc))), some (.dat (.tuple (s.map .int))), none] = some (.ok (.own (dats (rows (one1 ss s)))) [some (.dat (.list (ss.map .int))), d1, d2, some (.own (dats (rows acc))), some (.dat (.tuple (s.map .int))), none]) := by
    refine lc_eq (seq_x (get_x rfl) rfl) rfl rfl ?_
    have := comp_x (env := [some (.dat (.list (ss.map .int))), d1, d2, some (.own (dats (rows acc))), some (.dat (.tuple (s.map .int))), none]) (p := gN 5) (ft := tb1 (op2 (inF true) (get 5) (get 4))) (fe := op2 catT (get 4) (tupD (acons (get 5) anil))) (vs := [5]) (z := PyData.int) (fun k => rowD (s ++ [k])) (fun k => true ^^ decide (k ∈ s)) ss [] (by show 0 + _ < _; omega) fun k hk =>
      ⟨[some (.dat (.list (ss.map .int))), d1, d2, some (.own (dats (rows acc))), some (.dat (.tuple (s.map .int))), some (.dat (.int k))], rfl, tb_x (op2_x (get_x rfl) (get_x rfl) vwd_x vwd_x (inF_ints true k s rfl)) vwd_x, fun _ => op2_x (get_x rfl) (tup_x (acons_x (get_x rfl) anil_x) rfl (Nat.le_of_ble_eq_true rfl)) vwd_x vwd_x (catTi (z := PyData.int) s [k] (by show s.length + 1 ≤ _; omega)), rfl, rfl⟩
    refine this.trans ?_
    rw [List.nil_append]
    unfold rows one1
    rw [List.map_map]
    rfl
  have le : (rows (one1 ss s)).length ≤ 5 := by
    unfold rows one1
    rw [List.length_map, List.length_map]
    exact Nat.le_trans (List.length_filter_le _ _) hs
  have := extW_x (i := 3) (as := rows acc) (es := rows acc) (ds := rows (one1 ss s)) rfl c0 rfl (by unfold rows at le ⊢; rw [List.length_map]; omega)
  rw [rows_apps] at this
  exact expr_x this
theorem evb_loop (hs : ss.length ≤ 5) : ∀ (L : List (List Int)) {acc : List (List Int)} {w4 : Option Wv}, (∀ s ∈ L, s.length ≤ 5) → acc.length + 5 * L.length ≤ 1000 →
    ∃ u4, forM (gN 4) evB (rows L) [some (.dat (.list (ss.map .int))), d1, d2, some (.own (dats (rows acc))), w4, none] = some (.ok .nx [some (.dat (.list (ss.map .int))), d1, d2, some (.own (dats (rows (acc ++ ext1 ss L)))), u4, none])
  | [], acc, w4, _, _ => ⟨w4, by rw [show ext1 ss [] = [] from rfl, List.append_nil]; exact for_nil⟩
  | s :: L, acc, w4, h, hl => by
    have le : (one1 ss s).length ≤ 5 := by
      unfold one1
      rw [List.length_map]
      exact Nat.le_trans (List.length_filter_le _ _) hs
    rw [List.length_cons] at hl
    obtain ⟨u4, e⟩ := evb_loop hs L (acc := acc ++ one1 ss s) (w4 := some (.dat (.tuple (s.map .int)))) (fun t ht => h t (List.mem_cons_of_mem _ ht)) (by rw [List.length_append]; omega)
    refine ⟨u4, (for_go (e := [some (.dat (.list (ss.map .int))), d1, d2, some (.own (dats (rows acc))), some (.dat (rowD s)), none]) rfl (evb_ok hs (h s (List.mem_cons_self ..)) (by omega))).trans (e.trans ?_)⟩
    rw [show ext1 ss (s :: L) = one1 ss s ++ ext1 ss L from rfl, List.append_assoc]
theorem ev1_loop (nd : ss.Nodup) (hs : ss.length ≤ 5) : ∀ (r : List Int) (k : Nat) {w2 w3 w4 : Option Wv}, k + r.length ≤ ss.length →
    ∃ u2 u3 u4, forM (gN 2) b_every_1 (r.map .int) [some (.dat (.list (ss.map .int))), some (.dat (.list (rows (evR ss k)))), w2, w3, w4, none] = some (.ok .nx [some (.dat (.list (ss.map .int))), some (.dat (.list (rows (evR ss (k + r.length))))), u2, u3, u4, none])
  | [], k, w2, w3, w4, _ => ⟨w2, w3, w4, for_nil⟩
  | x :: r, k, w2, w3, w4, h => by
    rw [List.length_cons] at h
    have few := ev_few nd hs k (by omega)
    obtain ⟨u4, e⟩ := evb_loop (d1 := some (.dat (.list (rows (evR ss k))))) (d2 := some (.dat (.int x))) hs (evR ss k) (acc := []) (w4 := w4) (fun s hs2 => by have := (mem_ev.mp hs2).2.2; omega) (by show 0 + _ ≤ _; omega)
    rw [List.nil_append] at e
    obtain ⟨v2, v3, v4, e2⟩ := ev1_loop nd hs r (k + 1) (w2 := some (.dat (.int x))) (w3 := some (.dat (.list (rows (ext1 ss (evR ss k)))))) (w4 := u4) (by omega)
    refine ⟨v2, v3, v4, (for_go (e := [some (.dat (.list (ss.map .int))), some (.dat (.list (rows (evR ss k)))), some (.dat (.int x)), w3, w4, none]) rfl ?_).trans (e2.trans ?_)⟩
    · unfold b_every_1
      refine then_x (set_x (e := [some (.dat (.list (ss.map .int))), some (.dat (.list (rows (evR ss k)))), some (.dat (.int x)), w3, w4, none]) (lstW_x anil_x rfl (by decide)) (Nat.le_of_ble_eq_true rfl)) ?_
      refine then_x (for_x (seq_x (get_x rfl) rfl) e) ?_
      exact frz_x (i := 3) rfl (set_x (e := [some (.dat (.list (ss.map .int))), some (.dat (.list (rows (evR ss k)))), some (.dat (.int x)), some (.dat (.list (rows (ext1 ss (evR ss k))))), u4, none]) (pl_x (get_x rfl) rfl) (Nat.le_of_ble_eq_true rfl))
    · rw [show k + 1 + r.length = k + (x :: r).length from by rw [List.length_cons]; omega]
end
theorem every_ok {ss : List Int} (nd : ss.Nodup) (hs : ss.length ≤ 5) : F_every [.list (ss.map .int)] = some (.dat (.list (rows (evR ss ss.length)))) := by
  obtain ⟨u2, u3, u4, e⟩ := ev1_loop nd hs ss 0 (w2 := none) (w3 := none) (w4 := none) (by omega)
  refine runA_eq rfl ⟨[some (.dat (.list (ss.map .int))), some (.dat (.list (rows (evR ss ss.length)))), u2, u3, u4, none], ?_⟩
  show f_every [some (.dat (.list (ss.map .int))), none, none, none, none, none] = _
  unfold f_every
  have s0 : s_every_0 [some (.dat (.list (ss.map .int))), none, none, none, none, none] = some (.ok .nx [some (.dat (.list (ss.map .int))), some (.dat (.list (rows (evR ss 0)))), none, none, none, none]) := by
    unfold s_every_0
    exact set_x (pl_x (lst_x (acons_x (tup_x anil_x rfl (Nat.le_of_ble_eq_true rfl)) anil_x) rfl (Nat.le_of_ble_eq_true rfl)) rfl) (Nat.le_of_ble_eq_true rfl)
  rw [then_nx s0]
  have s1 : s_every_1 [some (.dat (.list (ss.map .int))), some (.dat (.list (rows (evR ss 0)))), none, none, none, none] = some (.ok .nx [some (.dat (.list (ss.map .int))), some (.dat (.list (rows (evR ss (0 + ss.length))))), u2, u3, u4, none]) := by
    unfold s_every_1
    exact for_x (seq_x (get_x rfl) rfl) e
  rw [Nat.zero_add] at s1
  rw [then_nx s1]
  unfold s_every_2
  exact ret_x (pl_x (get_x rfl) rfl)
end Ov
set_option Elab.async false
set_option linter.all false
set_option maxRecDepth 100000
set_option maxHeartbeats 4000000
namespace Ov
open PySem L2
/-! rows by their runs -/
def nkP (p : Iv) : NestedKey := .tup [.num p.1, .num p.2]
def nkR (r : List Iv) : NestedKey := .tup (r.map nkP)
theorem nkP_inj {p q : Iv} (h : nkP p = nkP q) : p = q := by
  obtain ⟨a, b⟩ := p
  obtain ⟨c, d⟩ := q
  unfold nkP at h
  injection h with h
  injection h with h1 h2
  injection h1 with h1
  injection h2 with h2
  injection h2 with h2
  have h1 : a = c := h1
  have h2 : b = d := h2
  rw [h1, h2]
theorem nkR_inj {r s : List Iv} (h : nkR r = nkR s) : r = s := by
  unfold nkR at h
  injection h with h
  exact (List.map_inj_right fun x y e => nkP_inj e).mp h
theorem asNK_iv (r : List Iv) : asNK (.dat (.tuple (ivD r))) = some (nkR r) := by
  have h : nkDs (ivD r) = some (r.map nkP) := by
    induction r with
    | nil => rfl
    | cons p r ih =>
      show (nkD (pD p)).bind (fun k => (nkDs (ivD r)).map (k :: ·)) = _
      rw [ih]
      rfl
  have d : (nkR r).depth ≤ 8 := by
    have : ∀ l : List Iv, NestedKey.depthAll (l.map nkP) ≤ 1 := fun l => by
      induction l with
      | nil => exact Nat.zero_le _
      | cons a r ih =>
        show max (nkP a).depth (NestedKey.depthAll (r.map nkP)) ≤ 1
        have : (nkP a).depth = 1 := rfl
        omega
    have := this r
    show NestedKey.depthAll (r.map nkP) + 1 ≤ 8
    omega
  show (nkDs (ivD r)).bind (fun ks => if (NestedKey.tup ks).depth ≤ 8 then some (NestedKey.tup ks) else none) = _
  rw [h]
  exact if_pos d
theorem shp_ivT (l : List Iv) : shp (.tuple (ivD l)) = true := (Sh.tup (k := 5) fun x hx => by
  obtain ⟨p, _, rfl⟩ := List.mem_map.mp hx
  exact Sh.tup fun y hy => by
    simp only [List.mem_cons, List.not_mem_nil, or_false] at hy
    rcases hy with rfl | rfl <;> exact Sh.int _).shp (by decide)
theorem noB_ivT (l : List Iv) : noB (.tuple (ivD l)) = true := by
  have : ∀ l : List Iv, noBs (ivD l) = true := fun l => by
    induction l with
    | nil => rfl
    | cons a l ih =>
      show (noB (pD a) && noBs (ivD l)) = true
      rw [ih]
      rfl
  exact this l
theorem ivD_inj {a b : List Iv} (h : ivD a = ivD b) : a = b := (List.map_inj_right fun p q e => by
  obtain ⟨p1, p2⟩ := p
  obtain ⟨q1, q2⟩ := q
  unfold pD at e
  injection e with e
  injection e with e1 e2
  injection e2 with e2
  injection e1 with e1
  injection e2 with e2
  have e1 : p1 = q1 := e1
  have e2 : p2 = q2 := e2
  rw [e1, e2]).mp h
theorem eqv_iv (n : Bool) (a b : List Iv) : eqvD n (.tuple (ivD a)) (.tuple (ivD b)) = some (.bool (n ^^ decide (a = b))) := by
  by_cases e : a = b
  · subst e
    rw [eq_yes (shp_ivT _)]
    simp
  · rw [eq_no (shp_ivT _) (shp_ivT _) (noB_ivT _) (noB_ivT _) fun z => e (ivD_inj (PyData.tuple.inj z))]
    simp [e]
abbrev Gp := List Iv × List (List Int)
def enG (g : Gp) : NestedKey × PyData := (nkR g.1, .list (rows g.2))
def lookR : List Gp → List Iv → Option (List (List Int))
  | [], _ => none
  | (r, vs) :: G, k => if r = k then some vs else lookR G k
def gadd (G : List Gp) (r : List Iv) (v : List Int) : List Gp :=
  match lookR G r with
  | some vs => G.map fun g => if g.1 = r then (g.1, vs ++ [v]) else g
  | none => G ++ [(r, [v])]
theorem lookG_en (r : List Iv) : ∀ G : List Gp, lookG (G.map enG) (nkR r) = (lookR G r).map fun vs => .list (rows vs)
  | [] => rfl
  | (s, vs) :: G => by
    show (if nkR s = nkR r then some (PyData.list (rows vs)) else lookG (G.map enG) (nkR r)) = (if s = r then some vs else lookR G r).map _
    by_cases e : s = r
    · rw [if_pos e, if_pos (by rw [e])]; rfl
    · rw [if_neg e, if_neg fun z => e (nkR_inj z), lookG_en r G]
theorem putG_en (G : List Gp) (r : List Iv) (v : List Int) : putG (G.map enG) (nkR r) (.list (rows (((lookR G r).getD []) ++ [v]))) = (gadd G r v).map enG := by
  unfold putG gadd
  rw [lookG_en]
  cases lookR G r with
  | none =>
    show List.map enG G ++ _ = List.map enG (G ++ _)
    rw [List.map_append]
    rfl
  | some vs =>
    show List.map _ (List.map enG G) = List.map enG (List.map _ G)
    rw [List.map_map, List.map_map]
    refine List.map_congr_left fun g _ => ?_
    show (if nkR g.1 = nkR r then _ else _) = enG (if g.1 = r then _ else _)
    by_cases e : g.1 = r
    · rw [if_pos e, if_pos (by rw [e])]
      rfl
    · rw [if_neg e, if_neg fun z => e (nkR_inj z)]
theorem lookR_none {r : List Iv} : ∀ {G : List Gp}, lookR G r = none → r ∉ G.map (·.1)
  | [], _ => by simp
  | (s, vs) :: G, h => by
    by_cases e : s = r
    · rw [show lookR ((s, vs) :: G) r = some vs from if_pos e] at h; cases h
    · rw [show lookR ((s, vs) :: G) r = lookR G r from if_neg e] at h
      intro z
      rcases List.mem_cons.mp z with z | z
      · exact e z.symm
      · exact lookR_none h z
theorem lookR_some {r : List Iv} {vs : List (List Int)} : ∀ {G : List Gp}, lookR G r = some vs → (r, vs) ∈ G
  | [], h => by cases h
  | (s, ws) :: G, h => by
    by_cases e : s = r
    · rw [show lookR ((s, ws) :: G) r = some ws from if_pos e] at h
      cases h
      rw [e]
      exact List.mem_cons_self ..
    · rw [show lookR ((s, ws) :: G) r = lookR G r from if_neg e] at h
      exact List.mem_cons_of_mem _ (lookR_some h)
/-- the rows L, by their runs -/
structure Gr (L : List (List Int)) (G : List Gp) : Prop where
  nd : (G.map (·.1)).Nodup
  ok : ∀ g ∈ G, g.2 = L.filter (fun v => decide (RNS v = g.1)) ∧ g.2 ≠ []
  all : ∀ v ∈ L, RNS v ∈ G.map (·.1)
  sum : (G.map fun g => g.2.length).sum = L.length
theorem Gr.nil : Gr [] [] := ⟨List.nodup_nil, fun g h => (by cases h), fun v h => (by cases h), rfl⟩
theorem sum_up {r : List Iv} {vs : List (List Int)} {v : List Int} : ∀ {G : List Gp}, (G.map (·.1)).Nodup → (r, vs) ∈ G → ((G.map fun g => if g.1 = r then (g.1, vs ++ [v]) else g).map fun g => g.2.length).sum = (G.map fun g => g.2.length).sum + 1
  | [], _, h => by cases h
  | g :: G, nd, h => by
    obtain ⟨n1, n2⟩ := List.nodup_cons.mp nd
    rw [List.map_cons, List.map_cons, List.map_cons, List.sum_cons, List.sum_cons]
    rcases List.mem_cons.mp h with e | e
    · rw [← e]
      have id : (G.map fun g => if g.1 = r then (g.1, vs ++ [v]) else g) = G := by
        conv => rhs; rw [← List.map_id G]
        refine List.map_congr_left fun x hx => if_neg fun z => n1 ?_
        rw [← e]
        exact List.mem_map.mpr ⟨x, hx, z⟩
      rw [id]
      show (if r = r then (r, vs ++ [v]) else (r, vs)).2.length + _ = vs.length + _ + 1
      rw [if_pos rfl]
      show (vs ++ [v]).length + _ = _
      rw [List.length_append]
      show vs.length + 1 + (G.map fun g => g.2.length).sum = vs.length + (G.map fun g => g.2.length).sum + 1
      omega
    · rw [sum_up n2 e]
      have ne : g.1 ≠ r := fun z => n1 (List.mem_map.mpr ⟨_, e, z.symm⟩)
      rw [if_neg ne]
      omega
theorem Gr.add {L : List (List Int)} {G : List Gp} (h : Gr L G) (v : List Int) : Gr (L ++ [v]) (gadd G (RNS v) v) := by
  have fa : ∀ r, (L ++ [v]).filter (fun w => decide (RNS w = r)) = L.filter (fun w => decide (RNS w = r)) ++ if RNS v = r then [v] else [] := fun r => by
    rw [List.filter_append]
    congr 1
    by_cases e : RNS v = r
    · rw [if_pos e, List.filter_cons_of_pos (by simpa using e)]; rfl
    · rw [if_neg e, List.filter_cons_of_neg (by simpa using e)]; rfl
  unfold gadd
  cases e : lookR G (RNS v) with
  | none =>
    have nk := lookR_none e
    have no : L.filter (fun w => decide (RNS w = RNS v)) = [] := List.filter_eq_nil_iff.mpr fun w hw z => nk (by
      have z : RNS w = RNS v := by simpa using z
      rw [← z]
      exact h.all w hw)
    show Gr (L ++ [v]) (G ++ [(RNS v, [v])])
    refine ⟨?_, fun g hg => ?_, fun w hw => ?_, ?_⟩
    · rw [List.map_append]
      exact List.nodup_append.mpr ⟨h.nd, by simp, fun x hx y hy z => nk (by rw [List.mem_singleton.mp hy] at z; have z : x = RNS v := z; rw [← z]; exact hx)⟩
    · rcases List.mem_append.mp hg with hg | hg
      · obtain ⟨h1, h2⟩ := h.ok g hg
        refine ⟨?_, h2⟩
        rw [fa, if_neg fun z => nk (by rw [z]; exact List.mem_map.mpr ⟨g, hg, rfl⟩), List.append_nil]
        exact h1
      · rw [List.mem_singleton.mp hg]
        refine ⟨?_, by simp⟩
        show [v] = List.filter (fun w => decide (RNS w = RNS v)) (L ++ [v])
        rw [fa, no, if_pos rfl]
        rfl
    · rw [List.map_append]
      rcases List.mem_append.mp hw with hw | hw
      · exact List.mem_append_left _ (h.all w hw)
      · rw [List.mem_singleton.mp hw]; exact List.mem_append_right _ (List.mem_singleton.mpr rfl)
    · rw [List.map_append, List.sum_append, h.sum, List.length_append]
      rfl
  | some vs =>
    have hm := lookR_some e
    have keys : (G.map fun g => if g.1 = RNS v then (g.1, vs ++ [v]) else g).map (·.1) = G.map (·.1) := by
      rw [List.map_map]
      refine List.map_congr_left fun g _ => ?_
      show (if g.1 = RNS v then (g.1, vs ++ [v]) else g).1 = g.1
      split <;> rfl
    show Gr (L ++ [v]) (G.map fun g => if g.1 = RNS v then (g.1, vs ++ [v]) else g)
    refine ⟨by rw [keys]; exact h.nd, fun g hg => ?_, fun w hw => ?_, ?_⟩
    · obtain ⟨g0, h0, rfl⟩ := List.mem_map.mp hg
      by_cases c : g0.1 = RNS v
      · rw [if_pos c]
        refine ⟨?_, by simp⟩
        show vs ++ [v] = List.filter (fun w => decide (RNS w = g0.1)) (L ++ [v])
        have e2 := (h.ok _ hm).1
        have e2 : vs = L.filter (fun w => decide (RNS w = RNS v)) := e2
        rw [fa, c, if_pos rfl, ← e2]
      · rw [if_neg c]
        obtain ⟨h1, h2⟩ := h.ok g0 h0
        refine ⟨?_, h2⟩
        rw [fa, if_neg fun z => c z.symm, List.append_nil]
        exact h1
    · rw [keys]
      rcases List.mem_append.mp hw with hw | hw
      · exact h.all w hw
      · rw [List.mem_singleton.mp hw]; exact List.mem_map.mpr ⟨_, hm, rfl⟩
    · rw [sum_up h.nd hm, h.sum, List.length_append]
      rfl
theorem gadd_len (G : List Gp) (r : List Iv) (v : List Int) : (gadd G r v).length ≤ G.length + 1 := by
  unfold gadd
  split
  · rw [List.length_map]; omega
  · rw [List.length_append]; simp
/-! the loop -/
section
variable {w0 w1 w2 w6 w7 w8 w9 w10 w11 w12 : Option Wv}
theorem grp_ok {v : List Int} (nd : v.Nodup) (hl : v.length ≤ 100) {G : List Gp} (hG : G.length < 1000) (hv : ∀ g ∈ G, g.2.length ≤ 1000) {w5 : Option Wv} :
    b_right_2 [w0, w1, w2, some (.dtd (G.map enG)), some (.dat (rowD v)), w5, w6, w7, w8, w9, w10, w11, w12] = some (.ok .nx [w0, w1, w2, some (.dtd ((gadd G (RNS v) v).map enG)), some (.dat (rowD v)), some (.dat (.tuple (ivD (RNS v)))), w6, w7, w8, w9, w10, w11, w12]) := by
  unfold b_right_2
  refine then_x (set_x (e := [w0, w1, w2, some (.dtd (G.map enG)), some (.dat (rowD v)), w5, w6, w7, w8, w9, w10, w11, w12]) (pl_x (fz_x (callA_x (acons_x (get_x rfl) anil_x) rfl (runs_ok (d := rowD v) (.inr rfl) hl nd)) rfl) rfl) (Nat.le_of_ble_eq_true rfl)) ?_
  show dputY 3 (get 5) _ [w0, w1, w2, some (.dtd (G.map enG)), some (.dat (rowD v)), some (.dat (.tuple (ivD (RNS v)))), w6, w7, w8, w9, w10, w11, w12] = _
  have gt := dget2Y_x (env := [w0, w1, w2, some (.dtd (G.map enG)), some (.dat (rowD v)), some (.dat (.tuple (ivD (RNS v)))), w6, w7, w8, w9, w10, w11, w12]) (i := 3) (fk := get 5) (fv := lstD anil) rfl (get_x rfl) (asNK_iv (RNS v)) (lst_x anil_x rfl (by decide)) rfl
  rw [lookG_en] at gt
  have vv : ((lookR G (RNS v)).map fun vs => PyData.list (rows vs)).getD (.list []) = .list (((lookR G (RNS v)).getD []).map rowD) := by cases lookR G (RNS v) <;> rfl
  rw [vv] at gt
  have ln : ((lookR G (RNS v)).getD []).length ≤ 1000 := by
    cases e : lookR G (RNS v) with
    | none => exact Nat.zero_le _
    | some vs => exact hv _ (lookR_some e)
  have ct : catD (.list (((lookR G (RNS v)).getD []).map rowD)) (.list [rowD v]) = some (.list (rows (((lookR G (RNS v)).getD []) ++ [v]))) := by
    have := v_cat (((lookR G (RNS v)).getD []).map rowD) [rowD v] (by rw [List.length_map]; show _ + 1 ≤ _; omega)
    rw [this]
    unfold rows
    rw [List.map_append]
    rfl
  have pt := dputY_x (env := [w0, w1, w2, some (.dtd (G.map enG)), some (.dat (rowD v)), some (.dat (.tuple (ivD (RNS v)))), w6, w7, w8, w9, w10, w11, w12]) (i := 3) (fk := get 5) (fv := op2 catD (dget2Y 3 (get 5) (lstD anil)) (lstD (acons (get 4) anil))) (op2_x gt (lst_x (acons_x (get_x rfl) anil_x) rfl (Nat.le_of_ble_eq_true rfl)) vwd_x vwd_x ct) rfl (get_x rfl) (asNK_iv (RNS v)) rfl (by rw [List.length_map]; omega)
  rw [putG_en] at pt
  exact pt
theorem grp_loop : ∀ (M : List (List Int)) {L : List (List Int)} {G : List Gp} {w4 w5 : Option Wv}, Gr L G → (∀ v ∈ M, v.Nodup ∧ v.length ≤ 100) → L.length + M.length ≤ 900 → G.length ≤ L.length →
    ∃ G' u4 u5, forM (gN 4) b_right_2 (rows M) [w0, w1, w2, some (.dtd (G.map enG)), w4, w5, w6, w7, w8, w9, w10, w11, w12] = some (.ok .nx [w0, w1, w2, some (.dtd (G'.map enG)), u4, u5, w6, w7, w8, w9, w10, w11, w12]) ∧ Gr (L ++ M) G' ∧ G'.length ≤ (L ++ M).length
  | [], L, G, w4, w5, h, _, _, hg => ⟨G, w4, w5, for_nil, by rw [List.append_nil]; exact h, by rw [List.append_nil]; exact hg⟩
  | v :: M, L, G, w4, w5, h, hv, hl, hg => by
    rw [List.length_cons] at hl
    obtain ⟨v1, v2⟩ := hv v (List.mem_cons_self ..)
    have gl := gadd_len G (RNS v) v
    obtain ⟨G', u4, u5, e, k1, k2⟩ := grp_loop M (h.add v) (w4 := some (.dat (rowD v))) (w5 := some (.dat (.tuple (ivD (RNS v))))) (fun w hw => hv w (List.mem_cons_of_mem _ hw)) (by rw [List.length_append]; show L.length + 1 + _ ≤ _; omega) (by rw [List.length_append]; show _ ≤ L.length + 1; omega)
    refine ⟨G', u4, u5, (for_go (e := [w0, w1, w2, some (.dtd (G.map enG)), some (.dat (rowD v)), w5, w6, w7, w8, w9, w10, w11, w12]) rfl (grp_ok v1 v2 (by omega) fun g hg => ?_)).trans e, by rw [List.append_cons]; exact k1, by rw [List.append_cons]; exact k2⟩
    rw [(h.ok g hg).1]
    exact Nat.le_trans (List.length_filter_le _ _) (by omega)
end
end Ov
set_option Elab.async false
set_option linter.all false
set_option maxRecDepth 100000
set_option maxHeartbeats 4000000
namespace Ov
open PySem L2
/-! the lots found by search are the classes of equal runs -/
theorem bar1_self : ∀ (S : List Int) (A : List Iv), bar1 S A A = none
  | [], _ => by simp [bar1]
  | _ :: _, [] => by simp [bar1]
  | h :: S, p :: A => by rw [bar1_cons, if_pos rfl]; exact bar1_self S A
theorem barO_self {a b : List Int} (h : RNS b = RNS a) : barO a b = none := by
  unfold barO
  rw [h]
  exact bar1_self _ _
theorem barO_is {a b : List Int} (p : b.Perm a) : (barO a b).isNone = decide (RNS a = RNS b) := by
  by_cases e : RNS b = RNS a
  · rw [barO_self e, decide_eq_true e.symm]; rfl
  · rw [decide_eq_false fun z => e z.symm]
    cases h : barO a b with
    | none => exact absurd (barO_none p h) e
    | some _ => rfl
theorem ix0L {l : List (List Int)} {v : List Int} (h : l[0]? = some v) : ixD (.list (rows l)) (.int 0) = some (rowD v) := ixL_map (z := rowD) (k := 0) h
theorem ixN1 {l : List (List Int)} {v : List Int} (h : l.getLast? = some v) : ixD (.list (rows l)) (.int (-1)) = some (rowD v) := atI_neg1 (z := rowD) h
theorem negR {x : Int} : (true ^^ decide (x = x)) = false := by rw [decide_eq_true rfl]; rfl
structure Clq (ss : List Int) (g : Gp) : Prop where
  ne : g.2 ≠ []
  mem : ∀ v, v ∈ g.2 ↔ v.Perm ss ∧ RNS v = g.1
  nd : g.2.Nodup
section
variable {ss : List Int} {g : Gp}
theorem Clq.perm (c : Clq ss g) (nd : ss.Nodup) (hl : ss.length ≤ 16) {w : List Int} (hw : w ∈ g.2) : g.2.Perm (lotR w) := by
  obtain ⟨p, r⟩ := (c.mem w).mp hw
  have ndw : w.Nodup := p.nodup_iff.mpr nd
  have hlw : w.length ≤ 16 := by rw [p.length_eq]; exact hl
  refine (List.perm_ext_iff_of_nodup c.nd (lotR_nd ndw hlw)).mpr fun v => ?_
  rw [c.mem v, lotR_mem ndw hlw]
  exact ⟨fun ⟨a, b⟩ => ⟨a.trans p.symm, b.trans r.symm⟩, fun ⟨a, b⟩ => ⟨a.trans p, b.trans r⟩⟩
theorem Clq.len (c : Clq ss g) (nd : ss.Nodup) (hl : ss.length ≤ 16) {w : List Int} (hw : w ∈ g.2) : (g.2.length : Int) = prod 1 (RNS w) := by
  obtain ⟨p, r⟩ := (c.mem w).mp hw
  have ndw : w.Nodup := p.nodup_iff.mpr nd
  have hlw : w.length ≤ 16 := by rw [p.length_eq]; exact hl
  have := (prod16 ndw hlw).1
  rw [(c.perm nd hl hw).length_eq, lotR_len]
  omega
theorem few120 {w : List Int} (nd : w.Nodup) (hl : w.length ≤ 5) : prod 1 (RNS w) ≤ 120 := by
  have h := prod_fct nd
  have : w.length = 0 ∨ w.length = 1 ∨ w.length = 2 ∨ w.length = 3 ∨ w.length = 4 ∨ w.length = 5 := by omega
  rcases this with e | e | e | e | e | e <;> rw [e] at h <;> exact Int.le_trans h (by decide)
theorem Clq.lot (c : Clq ss g) (nd : ss.Nodup) (hl : ss.length ≤ 5) {w : List Int} (hw : w ∈ g.2) : ∃ f : List (List Int × Int), F_reached [rowD w, .int 120] = some (.dtn (nkv f)) ∧ alike (f.map (·.1)) = true ∧ f.length ≤ 1000000 ∧ sortL (f.map (·.1)) = sortL g.2 ∧ alike g.2 = true := by
  obtain ⟨p, r⟩ := (c.mem w).mp hw
  have ndw : w.Nodup := p.nodup_iff.mpr nd
  have hlw : w.length ≤ 5 := by rw [p.length_eq]; exact hl
  have f7 := few120 ndw hlw
  have p0 := (prod16 ndw (by omega)).1
  obtain ⟨z, f, e, fu, len⟩ := reached_ok (most := 120) (lot_bd ndw) (by omega) (by omega) (by omega)
  have kp := kys_perm ndw (by omega) fu
  have pm : ((z :: f).map (·.1)).Perm g.2 := kp.trans (c.perm nd (by omega) hw).symm
  have al : ∀ l : List (List Int), (∀ v ∈ l, v.Perm ss) → alike l = true := fun l h => by
    unfold alike
    by_cases n : ss = []
    · refine (Bool.or_eq_true _ _).mpr (.inr (List.all_eq_true.mpr fun v hv => ?_))
      have := h v hv
      rw [n] at this
      rw [this.eq_nil]
      rfl
    · refine (Bool.or_eq_true _ _).mpr (.inl (List.all_eq_true.mpr fun v hv => ?_))
      have := (h v hv).length_eq
      cases v with
      | nil => exact absurd (List.length_eq_zero_iff.mp this.symm) n
      | cons _ _ => rfl
  refine ⟨z :: f, e, al _ fun v hv => ((c.mem v).mp (pm.mem_iff.mp hv)).1, by omega, ?_, al _ fun v hv => ((c.mem v).mp hv).1⟩
  exact sortL_uniq ((sortL_perm _).trans (pm.trans (sortL_perm _).symm)) (sortL_pw _) (sortL_pw _)
end
section
variable {ss : List Int} {g : Gp} {w1 w2 w3 w4 w5 w6 w7 w8 w9 w10 w11 w12 : Option Wv}
theorem cls_ok (c : Clq ss g) (nd : ss.Nodup) (hl : ss.length ≤ 5) (hk : g.2.length ≤ 1000) {n : Int} {bs : List PyData} (hb : Bok n bs) (hn : n ≤ 10 ^ 7) :
    ∃ bs2 w u, b_right_3 [some (.own (dats bs)), w1, w2, w3, w4, w5, some (.dat (.list (rows g.2))), w7, w8, w9, w10, w11, w12] = some (.ok .nx [some (.own (dats bs2)), w1, w2, w3, w4, w5, some (.dat (.list (rows g.2))), some (.dat (.list (rows (sortL g.2)))), some (.dat (rowD w)), some (.dat (rowD u)), w10, w11, w12]) ∧ Bok (n + 1) bs2 := by
  obtain ⟨w, hw0⟩ : ∃ w, g.2[0]? = some w := by
    cases e : g.2 with
    | nil => exact absurd e c.ne
    | cons w r => exact ⟨w, rfl⟩
  obtain ⟨y, hy⟩ : ∃ y, g.2.getLast? = some y := by
    cases e : g.2.getLast? with
    | none => exact absurd (List.getLast?_eq_none_iff.mp e) c.ne
    | some y => exact ⟨y, rfl⟩
  have wm : w ∈ g.2 := List.mem_of_getElem? hw0
  have ym : y ∈ g.2 := List.mem_of_getLast? hy
  obtain ⟨wp, wr⟩ := (c.mem w).mp wm
  obtain ⟨yp, yr⟩ := (c.mem y).mp ym
  obtain ⟨f, re, al, fl, so, al2⟩ := c.lot nd hl wm
  obtain ⟨d, bs2, oe, dm, ob⟩ := of_ok hb (by omega) (ds := rows g.2) (by unfold rows; rw [List.length_map]; exact List.length_pos_iff.mpr c.ne) (by unfold rows; rw [List.length_map]; exact hk)
  obtain ⟨u, um, rfl⟩ := List.mem_map.mp dm
  obtain ⟨up, ur⟩ := (c.mem u).mp um
  refine ⟨bs2, w, u, ?_, ob⟩
  have ndw : w.Nodup := wp.nodup_iff.mpr nd
  have lw : w.length ≤ 5 := by rw [wp.length_eq]; exact hl
  have lu : u.length ≤ 5 := by rw [up.length_eq]; exact hl
  have cv := count_val (d := rowD y) (ms := y) (.inr rfl) (yp.nodup_iff.mpr nd) (by rw [yp.length_eq]; omega)
  rw [← c.len nd (by omega) ym] at cv
  have st : sortTD [.list (rows g.2)] = some (.list (rows (sortL g.2))) := sortTm_x' al2
  unfold b_right_3
  have kw : sortKW (callA F_reached (acons (op2 ixD (get 6) (con (.int 0))) (acons (con (.int 120)) anil))) [some (.own (dats bs)), w1, w2, w3, w4, w5, some (.dat (.list (rows g.2))), w7, w8, w9, w10, w11, w12] = some (.ok (.dat (.list (rows (sortL g.2)))) [some (.own (dats bs)), w1, w2, w3, w4, w5, some (.dat (.list (rows g.2))), w7, w8, w9, w10, w11, w12]) := by
    have := sortKW_x (callA_x (acons_x (op2_x (env := [some (.own (dats bs)), w1, w2, w3, w4, w5, some (.dat (.list (rows g.2))), w7, w8, w9, w10, w11, w12]) (f := get 6) (g := con (.int 0)) (get_x rfl) con_x vwd_x vwd_x (ix0L hw0)) (acons_x con_x anil_x)) rfl re) al fl
    rw [so] at this
    exact this
  refine then_x (set_x (e := [some (.own (dats bs)), w1, w2, w3, w4, w5, some (.dat (.list (rows g.2))), w7, w8, w9, w10, w11, w12]) (pl_x kw rfl) (Nat.le_of_ble_eq_true rfl)) ?_
  have t1 : (orT (tb1 (op2 (eqvD true) (cb sortTD (acons (get 6) anil)) (get 7))) (tb1 (op2 (eqA true) (fz (callA F_count_rows (acons (op2 ixD (get 6) (op1 negD (con (.int 1)))) anil))) (cb lenD (acons (get 7) anil))))) [some (.own (dats bs)), w1, w2, w3, w4, w5, some (.dat (.list (rows g.2))), some (.dat (.list (rows (sortL g.2)))), w8, w9, w10, w11, w12] = some (.ok false [some (.own (dats bs)), w1, w2, w3, w4, w5, some (.dat (.list (rows g.2))), some (.dat (.list (rows (sortL g.2)))), w8, w9, w10, w11, w12]) := by
    refine orT_f (tb_x (op2_x (cb_x (acons_x (get_x rfl) anil_x) (vwC_x vwd_x vw0_x) st) (get_x rfl) vwd_x vwd_x (eq_yes (n := true) (shp_rows _))) vwd_x) ?_
    have ln : lenD [.list (rows (sortL g.2))] = some (.int (g.2.length : Nat)) := by
      have := lenLm_x (sortL g.2) rowD
      rw [(sortL_perm g.2).length_eq] at this
      exact this
    have := tb_x (op2_x (env := [some (.own (dats bs)), w1, w2, w3, w4, w5, some (.dat (.list (rows g.2))), some (.dat (.list (rows (sortL g.2)))), w8, w9, w10, w11, w12]) (fo := eqA true) (fz_x (callA_x (acons_x (op2_x (f := get 6) (g := op1 negD (con (.int 1))) (get_x rfl) (op1_x con_x vwd_x (v_neg 1)) vwd_x vwd_x (ixN1 hy)) anil_x) rfl cv) rfl) (cb_x (acons_x (get_x (i := 7) rfl) anil_x) (vwC_x vwd_x vw0_x) ln) vwd_x vwd_x (v_eqI true _ _)) vwd_x
    rw [negR] at this
    exact this
  refine then_x (ifS_f t1 nxt_x) ?_
  refine then_x (e := [some (.own (dats bs2)), w1, w2, w3, w4, w5, some (.dat (.list (rows g.2))), some (.dat (.list (rows (sortL g.2)))), some (.dat (rowD w)), some (.dat (rowD u)), w10, w11, w12]) (par_x (e := [some (.own (dats bs)), w1, w2, w3, w4, w5, some (.dat (.list (rows g.2))), some (.dat (.list (rows (sortL g.2)))), w8, w9, w10, w11, w12]) (pl_x (op2_x (get_x rfl) con_x vwd_x vwd_x (ix0L hw0)) rfl) (pl_x (fz_x (callB_x rfl (acons_x (get_x rfl) anil_x) rfl rfl oe) rfl) rfl) (Nat.le_of_ble_eq_true rfl) (Nat.le_of_ble_eq_true rfl)) ?_
  have b1 := bar_val (d := rowD w) (e := rowD u) (.inr rfl) (.inr rfl) (up.trans wp.symm) (by omega) ndw
  rw [barO_self (ur.trans wr.symm)] at b1
  have b2 := leads_val (d := rowD u) (e := rowD w) (.inr rfl) (.inr rfl) (wp.trans up.symm) (by omega) (up.nodup_iff.mpr nd)
  rw [barO_self (wr.trans ur.symm)] at b2
  refine ifS_f (orT_f (tb_x (isN_x (n := true) (fz_x (callA_x (acons_x (get_x rfl) (acons_x (get_x rfl) anil_x)) rfl b1) rfl) (x := true) rfl) vwd_x) (notT_x (x := true) (tb_x (fz_x (callA_x (acons_x (get_x rfl) (acons_x (get_x rfl) anil_x)) rfl b2) rfl) vwd_x))) nxt_x
theorem cls_loop (nd : ss.Nodup) (hl : ss.length ≤ 5) : ∀ (G : List Gp) {n : Int} {bs : List PyData} {w6 w7 w8 w9 : Option Wv}, (∀ g ∈ G, Clq ss g ∧ g.2.length ≤ 1000) → Bok n bs → n + G.length ≤ 10 ^ 7 → isOwn (some w6) = false →
    ∃ bs2 u6 u7 u8 u9, forM (gN 6) b_right_3 ((G.map enG).map (·.2)) [some (.own (dats bs)), w1, w2, w3, w4, w5, w6, w7, w8, w9, w10, w11, w12] = some (.ok .nx [some (.own (dats bs2)), w1, w2, w3, w4, w5, u6, u7, u8, u9, w10, w11, w12]) ∧ Bok (n + G.length) bs2 ∧ isOwn (some u6) = false
  | [], n, bs, w6, w7, w8, w9, _, hb, _, h6 => ⟨bs, w6, w7, w8, w9, for_nil, hb.mono (by show n ≤ n + 0; omega), h6⟩
  | g :: G, n, bs, w6, w7, w8, w9, h, hb, hn, h6 => by
    rw [List.length_cons] at hn
    obtain ⟨c, k⟩ := h g (List.mem_cons_self ..)
    obtain ⟨bs1, w, u, e1, k1⟩ := cls_ok (w1 := w1) (w2 := w2) (w3 := w3) (w4 := w4) (w5 := w5) (w7 := w7) (w8 := w8) (w9 := w9) (w10 := w10) (w11 := w11) (w12 := w12) c nd hl k hb (by omega)
    obtain ⟨bs2, u6, u7, u8, u9, e2, k2, h7⟩ := cls_loop nd hl G (fun x hx => h x (List.mem_cons_of_mem _ hx)) k1 (by omega) rfl (w6 := some (.dat (.list (rows g.2)))) (w7 := some (.dat (.list (rows (sortL g.2))))) (w8 := some (.dat (rowD w))) (w9 := some (.dat (rowD u)))
    exact ⟨bs2, u6, u7, u8, u9, (for_go (e := [some (.own (dats bs)), w1, w2, w3, w4, w5, some (.dat (.list (rows g.2))), w7, w8, w9, w10, w11, w12]) rfl e1).trans e2, k2.mono (by rw [List.length_cons]; omega), h7⟩
theorem two_ok {L : List (List Int)} (hp : ∀ v ∈ L, v.Perm ss) (nd : ss.Nodup) (hl : ss.length ≤ 5) (l1 : 1 ≤ L.length) (l2 : L.length ≤ 1000) {n : Int} {bs : List PyData} (hb : Bok n bs) (hn : n ≤ 10 ^ 7) :
    ∃ bs2 v u, b_right_4 [some (.own (dats bs)), w1, some (.dat (.list (rows L))), w3, w4, w5, w6, w7, w8, w9, w10, w11, w12] = some (.ok .nx [some (.own (dats bs2)), w1, some (.dat (.list (rows L))), w3, some (.dat (rowD v)), w5, w6, w7, w8, w9, w10, some (.dat (rowD u)), some (.dat (.bool (decide (RNS v = RNS u))))]) ∧ Bok (n + 2) bs2 := by
  obtain ⟨d, bs1, o1, dm, k1⟩ := of_ok hb (by omega) (ds := rows L) (by unfold rows; rw [List.length_map]; exact l1) (by unfold rows; rw [List.length_map]; exact l2)
  obtain ⟨v, vm, rfl⟩ := List.mem_map.mp dm
  obtain ⟨d, bs2, o2, dm, k2⟩ := of_ok k1 (by omega) (ds := rows L) (by unfold rows; rw [List.length_map]; exact l1) (by unfold rows; rw [List.length_map]; exact l2)
  obtain ⟨u, um, rfl⟩ := List.mem_map.mp dm
  have vp := hp v vm
  have up := hp u um
  have ndv : v.Nodup := vp.nodup_iff.mpr nd
  have lv : v.length ≤ 5 := by rw [vp.length_eq]; exact hl
  have lu : u.length ≤ 5 := by rw [up.length_eq]; exact hl
  refine ⟨bs2, v, u, ?_, k2.mono (by omega)⟩
  unfold b_right_4
  refine then_x (e := [some (.own (dats bs2)), w1, some (.dat (.list (rows L))), w3, some (.dat (rowD v)), w5, w6, w7, w8, w9, w10, some (.dat (rowD u)), w12]) (par_x (e := [some (.own (dats bs1)), w1, some (.dat (.list (rows L))), w3, w4, w5, w6, w7, w8, w9, w10, w11, w12]) (pl_x (fz_x (callB_x rfl (acons_x (get_x rfl) anil_x) rfl rfl o1) rfl) rfl) (pl_x (fz_x (callB_x rfl (acons_x (get_x rfl) anil_x) rfl rfl o2) rfl) rfl) (Nat.le_of_ble_eq_true rfl) (Nat.le_of_ble_eq_true rfl)) ?_
  have eq := eqv_iv false (RNS v) (RNS u)
  rw [Bool.false_xor] at eq
  refine then_x (set_x (e := [some (.own (dats bs2)), w1, some (.dat (.list (rows L))), w3, some (.dat (rowD v)), w5, w6, w7, w8, w9, w10, some (.dat (rowD u)), w12]) (pl_x (op2_x (fz_x (callA_x (acons_x (get_x rfl) anil_x) rfl (runs_ok (d := rowD v) (.inr rfl) (by omega) ndv)) rfl) (fz_x (callA_x (acons_x (get_x rfl) anil_x) rfl (runs_ok (d := rowD u) (.inr rfl) (by omega) (up.nodup_iff.mpr nd))) rfl) vwd_x vwd_x eq) rfl) (Nat.le_of_ble_eq_true rfl)) ?_
  have b1 := bar_val (d := rowD v) (e := rowD u) (.inr rfl) (.inr rfl) (up.trans vp.symm) (by omega) ndv
  have b2 := leads_val (d := rowD v) (e := rowD u) (.inr rfl) (.inr rfl) (up.trans vp.symm) (by omega) ndv
  rw [barO_is (up.trans vp.symm)] at b2
  have nb : isNR (.dat (optI (barO v u))) = some (decide (RNS v = RNS u)) := by
    rw [← barO_is (up.trans vp.symm)]
    cases barO v u <;> rfl
  have xx : ∀ b : Bool, (true ^^ decide (b = b)) = false := fun b => by rw [decide_eq_true rfl]; rfl
  refine ifS_f (orT_f (e1 := [some (.own (dats bs2)), w1, some (.dat (.list (rows L))), w3, some (.dat (rowD v)), w5, w6, w7, w8, w9, w10, some (.dat (rowD u)), some (.dat (.bool (decide (RNS v = RNS u))))]) ?_ ?_) nxt_x
  · have := tb_x (op2_x (env := [some (.own (dats bs2)), w1, some (.dat (.list (rows L))), w3, some (.dat (rowD v)), w5, w6, w7, w8, w9, w10, some (.dat (rowD u)), some (.dat (.bool (decide (RNS v = RNS u))))]) (fo := eqA true) (g := get 12) (fz_x (callA_x (acons_x (get_x (i := 4) rfl) (acons_x (get_x (i := 11) rfl) anil_x)) rfl b2) rfl) (get_x rfl) vwd_x vwd_x (v_eqB true _ _)) vwd_x
    rw [xx] at this
    exact this
  · have t := isN_x (n := false) (fz_x (callA_x (env := [some (.own (dats bs2)), w1, some (.dat (.list (rows L))), w3, some (.dat (rowD v)), w5, w6, w7, w8, w9, w10, some (.dat (rowD u)), some (.dat (.bool (decide (RNS v = RNS u))))]) (acons_x (get_x (i := 4) rfl) (acons_x (get_x (i := 11) rfl) anil_x)) rfl b1) rfl) nb
    rw [Bool.false_xor] at t
    have := tb_x (op2_x (fo := eqA true) (g := get 12) t (get_x rfl) vwd_x vwd_x (v_eqB true _ _)) vwd_x
    rw [xx] at this
    exact this
theorem two_loop {L : List (List Int)} (hp : ∀ v ∈ L, v.Perm ss) (nd : ss.Nodup) (hl : ss.length ≤ 5) (l1 : 1 ≤ L.length) (l2 : L.length ≤ 1000) : ∀ (ks : List Nat) {n : Int} {bs : List PyData} {w4 w10 w11 w12 : Option Wv}, Bok n bs → n + 2 * ks.length ≤ 10 ^ 7 →
    ∃ bs2 u4 u10 u11 u12, forM (gN 10) b_right_4 (ks.map nI) [some (.own (dats bs)), w1, some (.dat (.list (rows L))), w3, w4, w5, w6, w7, w8, w9, w10, w11, w12] = some (.ok .nx [some (.own (dats bs2)), w1, some (.dat (.list (rows L))), w3, u4, w5, w6, w7, w8, w9, u10, u11, u12]) ∧ Bok (n + 2 * ks.length) bs2
  | [], n, bs, w4, w10, w11, w12, hb, _ => ⟨bs, w4, w10, w11, w12, for_nil, hb.mono (by show n ≤ n + 2 * 0; omega)⟩
  | k :: ks, n, bs, w4, w10, w11, w12, hb, hn => by
    rw [List.length_cons] at hn
    obtain ⟨bs1, v, u, e1, k1⟩ := two_ok (w1 := w1) (w3 := w3) (w4 := w4) (w5 := w5) (w6 := w6) (w7 := w7) (w8 := w8) (w9 := w9) (w10 := some (.dat (nI k))) (w11 := w11) (w12 := w12) hp nd hl l1 l2 hb (by omega)
    obtain ⟨bs2, u4, u10, u11, u12, e2, k2⟩ := two_loop hp nd hl l1 l2 ks k1 (by omega) (w4 := some (.dat (rowD v))) (w10 := some (.dat (nI k))) (w11 := some (.dat (rowD u))) (w12 := some (.dat (.bool (decide (RNS v = RNS u)))))
    exact ⟨bs2, u4, u10, u11, u12, (for_go (e := [some (.own (dats bs)), w1, some (.dat (.list (rows L))), w3, w4, w5, w6, w7, w8, w9, some (.dat (nI k)), w11, w12]) rfl e1).trans e2, k2.mono (by rw [List.length_cons]; omega)⟩
end
end Ov
set_option Elab.async false
set_option linter.all false
set_option maxRecDepth 100000
set_option maxHeartbeats 4000000
namespace Ov
open PySem L2
/-! the law -/
theorem right_ok {n : Int} {bs : List PyData} (hb : Bok n bs) (hn : n ≤ 10 ^ 6) : ∃ bs', F_right bs [] = some (.dat (.bool true), bs') ∧ Bok (n + 1000) bs' := by
  obtain ⟨r, b1, e1, r0, r1, k1⟩ := take_small (k := 1) hb (by omega) (below := 6) (by decide) (by decide)
  obtain ⟨ss, b2, e2, nd, _, _, sl, k2⟩ := souls_ok k1 (by omega) r0 (by omega)
  have hl : ss.length ≤ 5 := by omega
  have few := ev_few nd hl ss.length (Nat.le_refl _)
  have evn := ev_nd nd ss.length
  have em : ∀ v ∈ evR ss ss.length, v.Perm ss := fun v hv => (ev_all nd).mp hv
  have pos : 1 ≤ (evR ss ss.length).length := List.length_pos_iff.mpr (List.ne_nil_of_mem ((ev_all nd).mpr (List.Perm.refl ss)))
  obtain ⟨G, u4, u5, e3, gr, gl⟩ := grp_loop (w0 := some (.own (dats b2))) (w1 := some (.dat (.list (ss.map .int)))) (w2 := some (.dat (.list (rows (evR ss ss.length))))) (w6 := none) (w7 := none) (w8 := none) (w9 := none) (w10 := none) (w11 := none) (w12 := none) (evR ss ss.length) Gr.nil (w4 := none) (w5 := none) (fun v hv => ⟨(em v hv).nodup_iff.mpr nd, by rw [(em v hv).length_eq]; omega⟩) (by show 0 + _ ≤ _; omega) (by show 0 ≤ 0; omega)
  rw [List.nil_append] at gr gl
  have cl : ∀ g ∈ G, Clq ss g ∧ g.2.length ≤ 1000 := fun g hg => by
    obtain ⟨h1, h2⟩ := gr.ok g hg
    refine ⟨⟨h2, fun v => ?_, by rw [h1]; exact evn.filter _⟩, by rw [h1]; exact Nat.le_trans (List.length_filter_le _ _) (by omega)⟩
    rw [h1, List.mem_filter, ev_all nd, decide_eq_true_iff]
  obtain ⟨b3, u6, u7, u8, u9, e4, k3, o6⟩ := cls_loop (w1 := some (.dat (.list (ss.map .int)))) (w2 := some (.dat (.list (rows (evR ss ss.length))))) (w3 := some (.ndd (G.map enG))) (w4 := u4) (w5 := u5) (w10 := none) (w11 := none) (w12 := none) nd hl G (w6 := none) (w7 := none) (w8 := none) (w9 := none) cl k2 (by omega) rfl
  obtain ⟨b4, v4, v10, v11, v12, e5, k4⟩ := two_loop (w1 := some (.dat (.list (ss.map .int)))) (w3 := some (.ndd (G.map enG))) (w5 := u5) (w6 := u6) (w7 := u7) (w8 := u8) (w9 := u9) (L := evR ss ss.length) em nd hl pos (by omega) (List.range' 0 6) k3 (by rw [List.length_range']; omega) (w4 := u4) (w10 := none) (w11 := none) (w12 := none)
  rw [List.length_range'] at k4
  refine ⟨b4, runB_eq rfl ⟨[some (.dat (.list (ss.map .int))), some (.dat (.list (rows (evR ss ss.length)))), some (.ndd (G.map enG)), v4, u5, none, u7, u8, u9, v10, v11, v12], ?_⟩, k4.mono (by omega)⟩
  show f_right [some (.own (dats bs)), none, none, none, none, none, none, none, none, none, none, none, none] = _
  unfold f_right
  have s0 : s_right_0 [some (.own (dats bs)), none, none, none, none, none, none, none, none, none, none, none, none] = some (.ok .nx [some (.own (dats b2)), some (.dat (.list (ss.map .int))), none, none, none, none, none, none, none, none, none, none, none]) := by
    unfold s_right_0
    exact set_x (pl_x (fz_x (callB_x rfl (acons_x (fz_x (callB_x rfl (acons_x con_x anil_x) rfl rfl e1) rfl) anil_x) rfl rfl e2) rfl) rfl) (Nat.le_of_ble_eq_true rfl)
  rw [then_nx s0]
  have s1 : s_right_1 [some (.own (dats b2)), some (.dat (.list (ss.map .int))), none, none, none, none, none, none, none, none, none, none, none] = some (.ok .nx [some (.own (dats b2)), some (.dat (.list (ss.map .int))), some (.dat (.list (rows (evR ss ss.length)))), some (.dtd []), none, none, none, none, none, none, none, none, none]) := by
    unfold s_right_1
    exact par_x (e := [some (.own (dats b2)), some (.dat (.list (ss.map .int))), none, none, none, none, none, none, none, none, none, none, none]) (e2 := [some (.own (dats b2)), some (.dat (.list (ss.map .int))), none, none, none, none, none, none, none, none, none, none, none]) (pl_x (fz_x (callA_x (acons_x (get_x rfl) anil_x) rfl (every_ok nd hl)) rfl) rfl) (show dnewY _ = some (.ok (.dtd []) _) from rfl) (Nat.le_of_ble_eq_true rfl) (Nat.le_of_ble_eq_true rfl)
  rw [then_nx s1]
  have s2 : s_right_2 [some (.own (dats b2)), some (.dat (.list (ss.map .int))), some (.dat (.list (rows (evR ss ss.length)))), some (.dtd []), none, none, none, none, none, none, none, none, none] = some (.ok .nx [some (.own (dats b2)), some (.dat (.list (ss.map .int))), some (.dat (.list (rows (evR ss ss.length)))), some (.dtd (G.map enG)), u4, u5, none, none, none, none, none, none, none]) := by
    unfold s_right_2
    exact for_x (seq_x (get_x rfl) rfl) e3
  rw [then_nx s2]
  have s3 : s_right_3 [some (.own (dats b2)), some (.dat (.list (ss.map .int))), some (.dat (.list (rows (evR ss ss.length)))), some (.dtd (G.map enG)), u4, u5, none, none, none, none, none, none, none] = some (.ok .nx [some (.own (dats b3)), some (.dat (.list (ss.map .int))), some (.dat (.list (rows (evR ss ss.length)))), some (.ndd (G.map enG)), u4, u5, u6, u7, u8, u9, none, none, none]) := by
    unfold s_right_3
    rw [preY_x (env := [some (.own (dats b2)), some (.dat (.list (ss.map .int))), some (.dat (.list (rows (evR ss ss.length)))), some (.dtd (G.map enG)), u4, u5, none, none, none, none, none, none, none]) (i := 3) (ks := G.map enG) rfl]
    exact for_x (valsY_x (env := [some (.own (dats b2)), some (.dat (.list (ss.map .int))), some (.dat (.list (rows (evR ss ss.length)))), some (.ndd (G.map enG)), u4, u5, none, none, none, none, none, none, none]) (i := 3) rfl) e4
  rw [then_nx s3]
  have s4 : s_right_4 [some (.own (dats b3)), some (.dat (.list (ss.map .int))), some (.dat (.list (rows (evR ss ss.length)))), some (.ndd (G.map enG)), u4, u5, u6, u7, u8, u9, none, none, none] = some (.ok .nx [some (.own (dats b4)), some (.dat (.list (ss.map .int))), some (.dat (.list (rows (evR ss ss.length)))), some (.ndd (G.map enG)), v4, u5, u6, u7, u8, u9, v10, v11, v12]) := by
    unfold s_right_4
    exact for_x (argI_x (acons_x con_x anil_x) rfl (rng1N (n := 6) (by decide))) e5
  rw [then_nx s4]
  unfold s_right_5
  rw [preY_n (env := [some (.own (dats b4)), some (.dat (.list (ss.map .int))), some (.dat (.list (rows (evR ss ss.length)))), some (.ndd (G.map enG)), v4, u5, u6, u7, u8, u9, v10, v11, v12]) (i := 3) (ks := G.map enG) rfl]
  have gs : (G.map enG).map (·.2) = G.map fun g => PyData.list (rows g.2) := by rw [List.map_map]; rfl
  have c0 : (lcW (valsY 3) (gN 6) yesT (fz (callA F_count_rows (acons (op2 ixD (get 6) (con (.int 0))) anil))) [6]) [some (.own (dats b4)), some (.dat (.list (ss.map .int))), some (.dat (.list (rows (evR ss ss.length)))), some (.ndd (G.map enG)), v4, u5, u6, u7, u8, u9, v10, v11, v12] = some (.ok (.own (dats (G.map fun g => .int ((g.2.length : Nat) : Int)))) [some (.own (dats b4)), some (.dat (.list (ss.map .int))), some (.dat (.list (rows (evR ss ss.length)))), some (.ndd (G.map enG)), v4, u5, none, u7, u8, u9, v10, v11, v12]) := by
    refine lc_eq (valsY_x (i := 3) (kvs := G.map enG) rfl) (by show (!isOwn (some u6) && true) = true; rw [o6]; rfl) rfl ?_
    rw [gs]
    refine compM_x (env := [some (.own (dats b4)), some (.dat (.list (ss.map .int))), some (.dat (.list (rows (evR ss ss.length)))), some (.ndd (G.map enG)), v4, u5, none, u7, u8, u9, v10, v11, v12]) (z := fun g : Gp => PyData.list (rows g.2)) (fun g => .int ((g.2.length : Nat) : Int)) G (by omega) fun g hg => ?_
    obtain ⟨c, _⟩ := cl g hg
    obtain ⟨w, hw0⟩ : ∃ w, g.2[0]? = some w := by
      cases e : g.2 with
      | nil => exact absurd e c.ne
      | cons w r => exact ⟨w, rfl⟩
    have wm : w ∈ g.2 := List.mem_of_getElem? hw0
    have wp := ((c.mem w).mp wm).1
    have cv := count_val (d := rowD w) (ms := w) (.inr rfl) (wp.nodup_iff.mpr nd) (by rw [wp.length_eq]; omega)
    rw [← c.len nd (by omega) wm] at cv
    exact ⟨[some (.own (dats b4)), some (.dat (.list (ss.map .int))), some (.dat (.list (rows (evR ss ss.length)))), some (.ndd (G.map enG)), v4, u5, some (.dat (.list (rows g.2))), u7, u8, u9, v10, v11, v12], rfl, rfl, fz_x (callA_x (acons_x (op2_x (get_x rfl) con_x vwd_x vwd_x (ix0L hw0)) anil_x) rfl cv) rfl, rfl, rfl⟩
  have su : sumD [.list (G.map fun g => .int ((g.2.length : Nat) : Int))] = some (.int ((evR ss ss.length).length : Nat)) := by
    have := sum_ints (G.map fun g => ((g.2.length : Nat) : Int))
    rw [List.map_map] at this
    refine this.trans ?_
    rw [← gr.sum]
    have : ∀ l : List Gp, (l.map fun g => ((g.2.length : Nat) : Int)).sum = (((l.map fun g => g.2.length).sum : Nat) : Int) := fun l => by
      induction l with
      | nil => rfl
      | cons a l ih => rw [List.map_cons, List.map_cons, List.sum_cons, List.sum_cons, ih]; omega
    rw [this]
  have fin := op2_x (env := [some (.own (dats b4)), some (.dat (.list (ss.map .int))), some (.dat (.list (rows (evR ss ss.length)))), some (.ndd (G.map enG)), v4, u5, u6, u7, u8, u9, v10, v11, v12]) (fo := eqA false) (g := cb lenD (acons (get 2) anil)) (cb_x (acons_x (fz_x c0 (v_ofWo _)) anil_x) (vwC_x vwd_x vw0_x) su) (cb_x (acons_x (get_x rfl) anil_x) (vwC_x vwd_x vw0_x) (lenLm_x (evR ss ss.length) rowD)) vwd_x vwd_x (v_eqI false _ _)
  rw [decide_eq_true rfl] at fin
  exact ret_x (pl_x fin rfl)
end Ov
set_option Elab.async false
set_option linter.all false
set_option maxRecDepth 100000
set_option maxHeartbeats 4000000
namespace Ov
open PySem L2
theorem law_body {ns : List Int} {k : Int} {w2 : Option Wv} {b l bs1 : List PyData}
    (h1 : F_box [.list (ns.map PyData.int), .int k] = some (.own (dats b)))
    (h2 : (lcW (argI rngD (acons (con (.int 1)) anil)) (gN 3) yesT (fz (callB 2 F_right anil)) [3]) [some (.dat (.list (ns.map PyData.int))), some (.dat (.int k)), some (.own (dats b)), none] = some (.ok (.own (dats l)) [some (.dat (.list (ns.map PyData.int))), some (.dat (.int k)), some (.own (dats bs1)), none]))
    (h3 : allD [.list l] = some (.bool true)) :
    b_law_0 [some (.dat (.list (ns.map PyData.int))), some (.dat (.int k)), w2, none] = some (.ok .nx [some (.dat (.list (ns.map PyData.int))), some (.dat (.int k)), some (.own (dats bs1)), none]) := by
  unfold b_law_0
  exact (then_x (set_x (callA_x (acons_x (get_x rfl) (acons_x (get_x rfl) anil_x)) rfl h1) (Nat.le_of_ble_eq_true rfl)) (ifS_f (notT_x (tb_x (cb_x (acons_x (fz_x h2 (v_ofWo _)) anil_x) (vwC_x vwd_x vw0_x) h3) vwd_x)) nxt_x))
theorem law_go {ns : List Int} {l : List PyData} {u1 u2 u3 : Option Wv}
    (h1 : rngD [.int 2] = some l)
    (h2 : forM (gN 1) b_law_0 l [some (.dat (.list (ns.map PyData.int))), none, none, none] = some (.ok .nx [some (.dat (.list (ns.map PyData.int))), u1, u2, u3])) :
    F_law [.list (ns.map PyData.int)] = some (.dat (.bool true)) := by
  have s0 : s_law_0 [some (.dat (.list (ns.map PyData.int))), none, none, none] = some (.ok .nx [some (.dat (.list (ns.map PyData.int))), u1, u2, u3]) := by
    unfold s_law_0
    exact (for_x (argI_x (acons_x con_x anil_x) rfl h1) h2)
  refine runA_eq rfl ⟨[some (.dat (.list (ns.map PyData.int))), u1, u2, u3], ?_⟩
  show f_law [some (.dat (.list (ns.map PyData.int))), none, none, none] = _
  unfold f_law
  rw [then_nx s0]
  unfold s_law_1
  exact (ret_x (pl_x con_x rfl))
theorem turn_comp {d0 d1 : Option Wv} : ∀ (j : Nat) {k : Nat} {n : Int} {bs acc : List PyData}, Bok n bs → n + 1000 * j ≤ 10 ^ 6 → acc.length + j ≤ 1000 → ∃ bs', compM (gN 3) yesT (fz (callB 2 F_right anil)) [3] ((List.range' k j).map nI) acc [d0, d1, some (.own (dats bs)), none] = some (.ok (acc ++ (List.range' k j).map fun _ => .bool true) [d0, d1, some (.own (dats bs')), none]) ∧ Bok (n + 1000 * j) bs'
  | 0, k, n, bs, acc, hb, _, _ => ⟨bs, by show some _ = some _; rw [show (List.range' k 0).map (fun _ => PyData.bool true) = [] from rfl, List.append_nil], hb.mono (by omega)⟩
  | j + 1, k, n, bs, acc, hb, hn, hl => by
    obtain ⟨bs1, e1, k1⟩ := right_ok hb (by omega)
    obtain ⟨bs', e, k2⟩ := turn_comp (d0 := d0) (d1 := d1) j (k := k + 1) (acc := acc ++ [.bool true]) k1 (by omega) (by rw [List.length_append]; show acc.length + 1 + j ≤ _; omega)
    refine ⟨bs', ?_, k2.mono (by omega)⟩
    rw [List.range'_succ, List.map_cons, List.map_cons]
    refine (comp_yes (e := [d0, d1, some (.own (dats bs)), some (.dat (nI k))]) (e2 := [d0, d1, some (.own (dats bs)), some (.dat (nI k))]) (e3 := [d0, d1, some (.own (dats bs1)), some (.dat (nI k))]) (y := .bool true) rfl rfl (fz_x (callB_x rfl anil_x rfl rfl e1) rfl) rfl (by omega)).trans (e.trans ?_)
    rw [List.append_assoc]
    rfl
theorem law_loop {ns : List Int} : ∀ (j : Nat) {k : Nat} {w1 w2 : Option Wv}, k + j ≤ 4 → ∃ u1 u2, forM (gN 1) b_law_0 ((List.range' k j).map nI) [some (.dat (.list (ns.map .int))), w1, w2, none] = some (.ok .nx [some (.dat (.list (ns.map .int))), u1, u2, none])
  | 0, k, w1, w2, _ => ⟨w1, w2, for_nil⟩
  | j + 1, k, w1, w2, h => by
    obtain ⟨bs, b1, b2⟩ := box_ok (ns := ns) (k := (k : Int)) (by omega) (by omega)
    obtain ⟨bs', c1, c2⟩ := turn_comp (d0 := some (.dat (.list (ns.map .int)))) (d1 := some (.dat (.int (k : Int)))) 1 (k := 0) (acc := []) b2 (by omega) (by decide)
    rw [List.nil_append] at c1
    have al := all_map (List.range' 0 1) fun _ => true
    rw [List.all_eq_true.mpr fun _ _ => rfl] at al
    have st := law_body (ns := ns) (k := (k : Int)) (w2 := w2) b1 (lc_eq (argI_x (acons_x con_x anil_x) rfl (rng1N (n := 1) (by decide))) rfl rfl c1) al
    obtain ⟨u1, u2, e⟩ := law_loop (ns := ns) j (k := k + 1) (w1 := some (.dat (.int (k : Int)))) (w2 := some (.own (dats bs'))) (by omega)
    rw [List.range'_succ, List.map_cons]
    exact ⟨u1, u2, (for_go (e := [some (.dat (.list (ns.map .int))), some (.dat (.int (k : Int))), w2, none]) rfl st).trans e⟩
theorem law_ok (ns : List Int) : F_law [.list (ns.map .int)] = some (.dat (.bool true)) := by
  obtain ⟨u1, u2, e⟩ := law_loop (ns := ns) 2 (k := 0) (w1 := none) (w2 := none) (by decide)
  exact law_go (rng1N (n := 2) (by decide)) e
end Ov
set_option Elab.async false
set_option linter.all false
set_option maxRecDepth 100000
set_option maxHeartbeats 4000000
namespace Ov
open PySem L2
theorem all_mk {l : PySem.W.OpenLaw} {w : World} {K : PySem.W.Frag} {h : Heap} {mg : Str → Option Value} {fa f0 f1 f2 f3 f4 f5 f6 f7 f8 f9 f10 f11 f12 f13 f14 f15 f16 f17 f18 f19 f20 f21 f22 f23 COtherPeople iOtherPeople : Addr} (X : K.In h) (G : h.Ns mainGlobals mg) (hfa : mg "law" = some (.ref fa))
    {od0 an0 : Option Addr} {sl0 : Array (Option Value)} {oc0 kV0 dc0 pm0 cd0 ct0 : Value}
    {od1 an1 : Option Addr} {sl1 : Array (Option Value)} {oc1 kV1 dc1 pm1 cd1 ct1 : Value}
    {od2 an2 : Option Addr} {sl2 : Array (Option Value)} {oc2 kV2 dc2 pm2 cd2 ct2 : Value}
    {od3 an3 : Option Addr} {sl3 : Array (Option Value)} {oc3 kV3 dc3 pm3 cd3 ct3 : Value}
    {od4 an4 : Option Addr} {sl4 : Array (Option Value)} {oc4 kV4 dc4 pm4 cd4 ct4 : Value}
    {od5 an5 : Option Addr} {sl5 : Array (Option Value)} {oc5 kV5 dc5 pm5 cd5 ct5 : Value}
    {od6 an6 : Option Addr} {sl6 : Array (Option Value)} {oc6 kV6 dc6 pm6 cd6 ct6 : Value}
    {od7 an7 : Option Addr} {sl7 : Array (Option Value)} {oc7 kV7 dc7 pm7 cd7 ct7 : Value}
    {od8 an8 : Option Addr} {sl8 : Array (Option Value)} {oc8 kV8 dc8 pm8 cd8 ct8 : Value}
    {od9 an9 : Option Addr} {sl9 : Array (Option Value)} {oc9 kV9 dc9 pm9 cd9 ct9 : Value}
    {od10 an10 : Option Addr} {sl10 : Array (Option Value)} {oc10 kV10 dc10 pm10 cd10 ct10 : Value}
    {od11 an11 : Option Addr} {sl11 : Array (Option Value)} {oc11 kV11 dc11 pm11 cd11 ct11 : Value}
    {od12 an12 : Option Addr} {sl12 : Array (Option Value)} {oc12 kV12 dc12 pm12 cd12 ct12 : Value}
    {od13 an13 : Option Addr} {sl13 : Array (Option Value)} {oc13 kV13 dc13 pm13 cd13 ct13 : Value}
    {od14 an14 : Option Addr} {sl14 : Array (Option Value)} {oc14 kV14 dc14 pm14 cd14 ct14 : Value}
    {od15 an15 : Option Addr} {sl15 : Array (Option Value)} {oc15 kV15 dc15 pm15 cd15 ct15 : Value}
    {od16 an16 : Option Addr} {sl16 : Array (Option Value)} {oc16 kV16 dc16 pm16 cd16 ct16 : Value}
    {od17 an17 : Option Addr} {sl17 : Array (Option Value)} {oc17 kV17 dc17 pm17 cd17 ct17 : Value}
    {od18 an18 : Option Addr} {sl18 : Array (Option Value)} {oc18 kV18 dc18 pm18 cd18 ct18 : Value}
    {od19 an19 : Option Addr} {sl19 : Array (Option Value)} {oc19 kV19 dc19 pm19 cd19 ct19 : Value}
    {od20 an20 : Option Addr} {sl20 : Array (Option Value)} {oc20 kV20 dc20 pm20 cd20 ct20 : Value}
    {od21 an21 : Option Addr} {sl21 : Array (Option Value)} {oc21 kV21 dc21 pm21 cd21 ct21 : Value}
    {od22 an22 : Option Addr} {sl22 : Array (Option Value)} {oc22 kV22 dc22 pm22 cd22 ct22 : Value}
    {od23 an23 : Option Addr} {sl23 : Array (Option Value)} {oc23 kV23 dc23 pm23 cd23 ct23 : Value}
    {nmOtherPeople qOtherPeople : Str} {NOtherPeople : Addr} {bsOtherPeople sbOtherPeople : List Value} {snOtherPeople : List Str} {abOtherPeople : Bool} {coOtherPeople : Option Bool} {ddOtherPeople : Option Addr} {w0OtherPeople w1OtherPeople w2OtherPeople w3OtherPeople w5OtherPeople : Option Value}
    {odOtherPeople anOtherPeople : Option Addr} {slOtherPeople : Array (Option Value)} {ocOtherPeople kVOtherPeople dcOtherPeople pmOtherPeople cdOtherPeople ctOtherPeople : Value}
    
    (a0 : PySem.W.nsIn K mainGlobals "code_of" = some (some (.ref f0)))
    (l0 : K.lookup f0 = some ⟨oc0, od0, .func (PySem.W.fnOf "code_of" "code_of" (defArgs S_code_of) (defBody S_code_of) (defScope S_code_of) .none kV0 dc0 pm0 an0 cd0 ct0), sl0⟩)
    (c0 : PySem.W.codeIn K cd0 "code_of" = true)
    (k0 : PySem.W.keepIn K (.ref f0) = true)
    (a1 : PySem.W.nsIn K mainGlobals "codes" = some (some (.ref f1)))
    (l1 : K.lookup f1 = some ⟨oc1, od1, .func (PySem.W.fnOf "codes" "codes" (defArgs S_codes) (defBody S_codes) (defScope S_codes) .none kV1 dc1 pm1 an1 cd1 ct1), sl1⟩)
    (c1 : PySem.W.codeIn K cd1 "codes" = true)
    (k1 : PySem.W.keepIn K (.ref f1) = true)
    (a2 : PySem.W.nsIn K mainGlobals "first_intervals" = some (some (.ref f2)))
    (l2 : K.lookup f2 = some ⟨oc2, od2, .func (PySem.W.fnOf "first_intervals" "first_intervals" (defArgs S_first_intervals) (defBody S_first_intervals) (defScope S_first_intervals) .none kV2 dc2 pm2 an2 cd2 ct2), sl2⟩)
    (c2 : PySem.W.codeIn K cd2 "first_intervals" = true)
    (k2 : PySem.W.keepIn K (.ref f2) = true)
    (a3 : PySem.W.nsIn K mainGlobals "run_size" = some (some (.ref f3)))
    (l3 : K.lookup f3 = some ⟨oc3, od3, .func (PySem.W.fnOf "run_size" "run_size" (defArgs S_run_size) (defBody S_run_size) (defScope S_run_size) .none kV3 dc3 pm3 an3 cd3 ct3), sl3⟩)
    (c3 : PySem.W.codeIn K cd3 "run_size" = true)
    (k3 : PySem.W.keepIn K (.ref f3) = true)
    (a4 : PySem.W.nsIn K mainGlobals "run_index" = some (some (.ref f4)))
    (l4 : K.lookup f4 = some ⟨oc4, od4, .func (PySem.W.fnOf "run_index" "run_index" (defArgs S_run_index) (defBody S_run_index) (defScope S_run_index) .none kV4 dc4 pm4 an4 cd4 ct4), sl4⟩)
    (c4 : PySem.W.codeIn K cd4 "run_index" = true)
    (k4 : PySem.W.keepIn K (.ref f4) = true)
    (a5 : PySem.W.nsIn K mainGlobals "next_intervals" = some (some (.ref f5)))
    (l5 : K.lookup f5 = some ⟨oc5, od5, .func (PySem.W.fnOf "next_intervals" "next_intervals" (defArgs S_next_intervals) (defBody S_next_intervals) (defScope S_next_intervals) .none kV5 dc5 pm5 an5 cd5 ct5), sl5⟩)
    (c5 : PySem.W.codeIn K cd5 "next_intervals" = true)
    (k5 : PySem.W.keepIn K (.ref f5) = true)
    (a6 : PySem.W.nsIn K mainGlobals "run_lists" = some (some (.ref f6)))
    (l6 : K.lookup f6 = some ⟨oc6, od6, .func (PySem.W.fnOf "run_lists" "run_lists" (defArgs S_run_lists) (defBody S_run_lists) (defScope S_run_lists) .none kV6 dc6 pm6 an6 cd6 ct6), sl6⟩)
    (c6 : PySem.W.codeIn K cd6 "run_lists" = true)
    (k6 : PySem.W.keepIn K (.ref f6) = true)
    (a7 : PySem.W.nsIn K mainGlobals "runs" = some (some (.ref f7)))
    (l7 : K.lookup f7 = some ⟨oc7, od7, .func (PySem.W.fnOf "runs" "runs" (defArgs S_runs) (defBody S_runs) (defScope S_runs) .none kV7 dc7 pm7 an7 cd7 ct7), sl7⟩)
    (c7 : PySem.W.codeIn K cd7 "runs" = true)
    (k7 : PySem.W.keepIn K (.ref f7) = true)
    (a8 : PySem.W.nsIn K mainGlobals "check_same_people" = some (some (.ref f8)))
    (l8 : K.lookup f8 = some ⟨oc8, od8, .func (PySem.W.fnOf "check_same_people" "check_same_people" (defArgs S_check_same_people) (defBody S_check_same_people) (defScope S_check_same_people) .none kV8 dc8 pm8 an8 cd8 ct8), sl8⟩)
    (c8 : PySem.W.codeIn K cd8 "check_same_people" = true)
    (k8 : PySem.W.keepIn K (.ref f8) = true)
    (a9 : PySem.W.nsIn K mainGlobals "leads" = some (some (.ref f9)))
    (l9 : K.lookup f9 = some ⟨oc9, od9, .func (PySem.W.fnOf "leads" "leads" (defArgs S_leads) (defBody S_leads) (defScope S_leads) .none kV9 dc9 pm9 an9 cd9 ct9), sl9⟩)
    (c9 : PySem.W.codeIn K cd9 "leads" = true)
    (k9 : PySem.W.keepIn K (.ref f9) = true)
    (a10 : PySem.W.nsIn K mainGlobals "bar" = some (some (.ref f10)))
    (l10 : K.lookup f10 = some ⟨oc10, od10, .func (PySem.W.fnOf "bar" "bar" (defArgs S_bar) (defBody S_bar) (defScope S_bar) .none kV10 dc10 pm10 an10 cd10 ct10), sl10⟩)
    (c10 : PySem.W.codeIn K cd10 "bar" = true)
    (k10 : PySem.W.keepIn K (.ref f10) = true)
    (a11 : PySem.W.nsIn K mainGlobals "count_rows" = some (some (.ref f11)))
    (l11 : K.lookup f11 = some ⟨oc11, od11, .func (PySem.W.fnOf "count_rows" "count_rows" (defArgs S_count_rows) (defBody S_count_rows) (defScope S_count_rows) .none kV11 dc11 pm11 an11 cd11 ct11), sl11⟩)
    (c11 : PySem.W.codeIn K cd11 "count_rows" = true)
    (k11 : PySem.W.keepIn K (.ref f11) = true)
    (a12 : PySem.W.nsIn K mainGlobals "_law_cell_at" = some (some (.ref f12)))
    (l12 : K.lookup f12 = some ⟨oc12, od12, .func (PySem.W.fnOf "_law_cell_at" "_law_cell_at" (defArgs S_cell_at) (defBody S_cell_at) (defScope S_cell_at) .none kV12 dc12 pm12 an12 cd12 ct12), sl12⟩)
    (c12 : PySem.W.codeIn K cd12 "_law_cell_at" = true)
    (k12 : PySem.W.keepIn K (.ref f12) = true)
    (a13 : PySem.W.nsIn K mainGlobals "_law_box" = some (some (.ref f13)))
    (l13 : K.lookup f13 = some ⟨oc13, od13, .func (PySem.W.fnOf "_law_box" "_law_box" (defArgs S_box) (defBody S_box) (defScope S_box) .none kV13 dc13 pm13 an13 cd13 ct13), sl13⟩)
    (c13 : PySem.W.codeIn K cd13 "_law_box" = true)
    (k13 : PySem.W.keepIn K (.ref f13) = true)
    (a14 : PySem.W.nsIn K mainGlobals "_law_take" = some (some (.ref f14)))
    (l14 : K.lookup f14 = some ⟨oc14, od14, .func (PySem.W.fnOf "_law_take" "_law_take" (defArgs S_take) (defBody S_take) (defScope S_take) .none kV14 dc14 pm14 an14 cd14 ct14), sl14⟩)
    (c14 : PySem.W.codeIn K cd14 "_law_take" = true)
    (k14 : PySem.W.keepIn K (.ref f14) = true)
    (a15 : PySem.W.nsIn K mainGlobals "_law_of" = some (some (.ref f15)))
    (l15 : K.lookup f15 = some ⟨oc15, od15, .func (PySem.W.fnOf "_law_of" "_law_of" (defArgs S_of) (defBody S_of) (defScope S_of) .none kV15 dc15 pm15 an15 cd15 ct15), sl15⟩)
    (c15 : PySem.W.codeIn K cd15 "_law_of" = true)
    (k15 : PySem.W.keepIn K (.ref f15) = true)
    (a16 : PySem.W.nsIn K mainGlobals "_law_souls" = some (some (.ref f16)))
    (l16 : K.lookup f16 = some ⟨oc16, od16, .func (PySem.W.fnOf "_law_souls" "_law_souls" (defArgs S_souls) (defBody S_souls) (defScope S_souls) .none kV16 dc16 pm16 an16 cd16 ct16), sl16⟩)
    (c16 : PySem.W.codeIn K cd16 "_law_souls" = true)
    (k16 : PySem.W.keepIn K (.ref f16) = true)
    (a17 : PySem.W.nsIn K mainGlobals "_law_sees" = some (some (.ref f17)))
    (l17 : K.lookup f17 = some ⟨oc17, od17, .func (PySem.W.fnOf "_law_sees" "_law_sees" (defArgs S_sees) (defBody S_sees) (defScope S_sees) .none kV17 dc17 pm17 an17 cd17 ct17), sl17⟩)
    (c17 : PySem.W.codeIn K cd17 "_law_sees" = true)
    (k17 : PySem.W.keepIn K (.ref f17) = true)
    (a18 : PySem.W.nsIn K mainGlobals "_law_swaps" = some (some (.ref f18)))
    (l18 : K.lookup f18 = some ⟨oc18, od18, .func (PySem.W.fnOf "_law_swaps" "_law_swaps" (defArgs S_swaps) (defBody S_swaps) (defScope S_swaps) .none kV18 dc18 pm18 an18 cd18 ct18), sl18⟩)
    (c18 : PySem.W.codeIn K cd18 "_law_swaps" = true)
    (k18 : PySem.W.keepIn K (.ref f18) = true)
    (a19 : PySem.W.nsIn K mainGlobals "_law_turned" = some (some (.ref f19)))
    (l19 : K.lookup f19 = some ⟨oc19, od19, .func (PySem.W.fnOf "_law_turned" "_law_turned" (defArgs S_turned) (defBody S_turned) (defScope S_turned) .none kV19 dc19 pm19 an19 cd19 ct19), sl19⟩)
    (c19 : PySem.W.codeIn K cd19 "_law_turned" = true)
    (k19 : PySem.W.keepIn K (.ref f19) = true)
    (a20 : PySem.W.nsIn K mainGlobals "_law_reached" = some (some (.ref f20)))
    (l20 : K.lookup f20 = some ⟨oc20, od20, .func (PySem.W.fnOf "_law_reached" "_law_reached" (defArgs S_reached) (defBody S_reached) (defScope S_reached) .none kV20 dc20 pm20 an20 cd20 ct20), sl20⟩)
    (c20 : PySem.W.codeIn K cd20 "_law_reached" = true)
    (k20 : PySem.W.keepIn K (.ref f20) = true)
    (a21 : PySem.W.nsIn K mainGlobals "_law_every" = some (some (.ref f21)))
    (l21 : K.lookup f21 = some ⟨oc21, od21, .func (PySem.W.fnOf "_law_every" "_law_every" (defArgs S_every) (defBody S_every) (defScope S_every) .none kV21 dc21 pm21 an21 cd21 ct21), sl21⟩)
    (c21 : PySem.W.codeIn K cd21 "_law_every" = true)
    (k21 : PySem.W.keepIn K (.ref f21) = true)
    (a22 : PySem.W.nsIn K mainGlobals "_law_right" = some (some (.ref f22)))
    (l22 : K.lookup f22 = some ⟨oc22, od22, .func (PySem.W.fnOf "_law_right" "_law_right" (defArgs S_right) (defBody S_right) (defScope S_right) .none kV22 dc22 pm22 an22 cd22 ct22), sl22⟩)
    (c22 : PySem.W.codeIn K cd22 "_law_right" = true)
    (k22 : PySem.W.keepIn K (.ref f22) = true)
    (a23 : PySem.W.nsIn K mainGlobals "law" = some (some (.ref f23)))
    (l23 : K.lookup f23 = some ⟨oc23, od23, .func (PySem.W.fnOf "law" "law" (defArgs S_law) (defBody S_law) (defScope S_law) .none kV23 dc23 pm23 an23 cd23 ct23), sl23⟩)
    (c23 : PySem.W.codeIn K cd23 "law" = true)
    (k23 : PySem.W.keepIn K (.ref f23) = true)
    (gOtherPeople : PySem.W.nsIn K mainGlobals "OtherPeople" = some (some (.ref COtherPeople)))
    (xOtherPeople : K.lookup COtherPeople = some (excClassObj nmOtherPeople qOtherPeople COtherPeople NOtherPeople bsOtherPeople tlValueError true snOtherPeople sbOtherPeople abOtherPeople coOtherPeople ddOtherPeople w0OtherPeople w1OtherPeople w2OtherPeople w3OtherPeople w5OtherPeople "ValueError.__new__"))
    (saOtherPeople : PySem.W.findIn K (.ref COtherPeople) "__setattr__" = some (some (.builtin "object.__setattr__")))
    (gaOtherPeople : PySem.W.findIn K (.ref COtherPeople) "__getattribute__" = some (some (.builtin "BaseException.__getattribute__")))
    (ggOtherPeople : PySem.W.findIn K (.ref COtherPeople) "__getattr__" = some none)
    (kCOtherPeople : PySem.W.keepIn K (.ref COtherPeople) = true)
    (caOtherPeople : PySem.W.findIn K (.ref COtherPeople) "__class__" = some (some (.builtin "object.__class__")))
    (tyOtherPeople : PySem.W.typeIn K (.ref COtherPeople) = some (.type "type"))
    (iCOtherPeople : PySem.W.findIn K (.ref COtherPeople) "__init__" = some (some (.ref iOtherPeople)))
    (tIOtherPeople : PySem.W.typeIn K (.ref iOtherPeople) = some (.type "function"))
    (lIOtherPeople : K.lookup iOtherPeople = some ⟨ocOtherPeople, odOtherPeople, .func (PySem.W.fnOf "__init__" "OtherPeople.__init__" (defArgs S_OtherPeople) (defBody S_OtherPeople) (defScope S_OtherPeople) .none kVOtherPeople dcOtherPeople pmOtherPeople anOtherPeople cdOtherPeople ctOtherPeople), slOtherPeople⟩)
    (cIOtherPeople : PySem.W.codeIn K cdOtherPeople "OtherPeople.__init__" = true)
    (kIOtherPeople : PySem.W.keepIn K (.ref iOtherPeople) = true)
    (hsp : PySem.W.specialIn K (.builtin "object.__class__") "__get__" = some (some (.builtin "getset_descriptor.__get__")))
    (htk : PySem.W.takesIn K (.builtin "object.__class__") = some true)
    (zisinstance : PySem.W.nsIn K mainGlobals "isinstance" = some none)
    (zlist : PySem.W.nsIn K mainGlobals "list" = some none)
    (ztuple : PySem.W.nsIn K mainGlobals "tuple" = some none)
    (zlen : PySem.W.nsIn K mainGlobals "len" = some none)
    (zall : PySem.W.nsIn K mainGlobals "all" = some none)
    (zany : PySem.W.nsIn K mainGlobals "any" = some none)
    (zzip : PySem.W.nsIn K mainGlobals "zip" = some none)
    (zbool : PySem.W.nsIn K mainGlobals "bool" = some none)
    (zstr : PySem.W.nsIn K mainGlobals "str" = some none)
    (zint : PySem.W.nsIn K mainGlobals "int" = some none)
    (zabs : PySem.W.nsIn K mainGlobals "abs" = some none)
    (zmax : PySem.W.nsIn K mainGlobals "max" = some none)
    (zmin : PySem.W.nsIn K mainGlobals "min" = some none)
    (zrange : PySem.W.nsIn K mainGlobals "range" = some none)
    (zsorted : PySem.W.nsIn K mainGlobals "sorted" = some none)
    (zenumerate : PySem.W.nsIn K mainGlobals "enumerate" = some none)
    (zset : PySem.W.nsIn K mainGlobals "set" = some none)
    (zsum : PySem.W.nsIn K mainGlobals "sum" = some none)
    (zreversed : PySem.W.nsIn K mainGlobals "reversed" = some none)
    (zrepr : PySem.W.nsIn K mainGlobals "repr" = some none)
    (zdict : PySem.W.nsIn K mainGlobals "dict" = some none)
    (zValueError : PySem.W.nsIn K mainGlobals "ValueError" = some none)
    (zLookupError : PySem.W.nsIn K mainGlobals "LookupError" = some none)
    (zRuntimeError : PySem.W.nsIn K mainGlobals "RuntimeError" = some none)
    (zOverflowError : PySem.W.nsIn K mainGlobals "OverflowError" = some none)
    (zIndexError : PySem.W.nsIn K mainGlobals "IndexError" = some none)
    (zKeyError : PySem.W.nsIn K mainGlobals "KeyError" = some none)
    (zNotImplementedError : PySem.W.nsIn K mainGlobals "NotImplementedError" = some none)
    (ndC : [COtherPeople].Nodup) :
    ∃ fd : FuncData, (∀ (s : Shared) (v : Value), BindsTo s fd ⟨[v], []⟩ [("_law_script", v)]) ∧ ∀ base : Heap, K.In base → base.Ns mainGlobals mg → FnG l.prog w K mg base 8 fa fd ["_law_script"] (spT K) := by
  have e := hfa.symm.trans (PySem.W.mg_of X G a23)
  cases e
  have F0 := fun_mk (st := S_code_of) l0 c0 k0
  have m0 := PySem.W.mg_of X G a0
  have F1 := fun_mk (st := S_codes) l1 c1 k1
  have m1 := PySem.W.mg_of X G a1
  have F2 := fun_mk (st := S_first_intervals) l2 c2 k2
  have m2 := PySem.W.mg_of X G a2
  have F3 := fun_mk (st := S_run_size) l3 c3 k3
  have m3 := PySem.W.mg_of X G a3
  have F4 := fun_mk (st := S_run_index) l4 c4 k4
  have m4 := PySem.W.mg_of X G a4
  have F5 := fun_mk (st := S_next_intervals) l5 c5 k5
  have m5 := PySem.W.mg_of X G a5
  have F6 := fun_mk (st := S_run_lists) l6 c6 k6
  have m6 := PySem.W.mg_of X G a6
  have F7 := fun_mk (st := S_runs) l7 c7 k7
  have m7 := PySem.W.mg_of X G a7
  have F8 := fun_mk (st := S_check_same_people) l8 c8 k8
  have m8 := PySem.W.mg_of X G a8
  have F9 := fun_mk (st := S_leads) l9 c9 k9
  have m9 := PySem.W.mg_of X G a9
  have F10 := fun_mk (st := S_bar) l10 c10 k10
  have m10 := PySem.W.mg_of X G a10
  have F11 := fun_mk (st := S_count_rows) l11 c11 k11
  have m11 := PySem.W.mg_of X G a11
  have F12 := fun_mk (st := S_cell_at) l12 c12 k12
  have m12 := PySem.W.mg_of X G a12
  have F13 := fun_mk (st := S_box) l13 c13 k13
  have m13 := PySem.W.mg_of X G a13
  have F14 := fun_mk (st := S_take) l14 c14 k14
  have m14 := PySem.W.mg_of X G a14
  have F15 := fun_mk (st := S_of) l15 c15 k15
  have m15 := PySem.W.mg_of X G a15
  have F16 := fun_mk (st := S_souls) l16 c16 k16
  have m16 := PySem.W.mg_of X G a16
  have F17 := fun_mk (st := S_sees) l17 c17 k17
  have m17 := PySem.W.mg_of X G a17
  have F18 := fun_mk (st := S_swaps) l18 c18 k18
  have m18 := PySem.W.mg_of X G a18
  have F19 := fun_mk (st := S_turned) l19 c19 k19
  have m19 := PySem.W.mg_of X G a19
  have F20 := fun_mk (st := S_reached) l20 c20 k20
  have m20 := PySem.W.mg_of X G a20
  have F21 := fun_mk (st := S_every) l21 c21 k21
  have m21 := PySem.W.mg_of X G a21
  have F22 := fun_mk (st := S_right) l22 c22 k22
  have m22 := PySem.W.mg_of X G a22
  have F23 := fun_mk (st := S_law) l23 c23 k23
  have m23 := PySem.W.mg_of X G a23
  have B : Blt mg := ⟨PySem.W.mg_none_of X G zisinstance, PySem.W.mg_none_of X G zlist, PySem.W.mg_none_of X G ztuple, PySem.W.mg_none_of X G zlen, PySem.W.mg_none_of X G zall, PySem.W.mg_none_of X G zany, PySem.W.mg_none_of X G zzip, PySem.W.mg_none_of X G zbool, PySem.W.mg_none_of X G zstr, PySem.W.mg_none_of X G zint, PySem.W.mg_none_of X G zabs, PySem.W.mg_none_of X G zmax, PySem.W.mg_none_of X G zmin, PySem.W.mg_none_of X G zrange, PySem.W.mg_none_of X G zsorted, PySem.W.mg_none_of X G zenumerate, PySem.W.mg_none_of X G zset, PySem.W.mg_none_of X G zsum, PySem.W.mg_none_of X G zreversed, PySem.W.mg_none_of X G zrepr, PySem.W.mg_none_of X G zdict, PySem.W.mg_none_of X G zValueError, PySem.W.mg_none_of X G zLookupError, PySem.W.mg_none_of X G zRuntimeError, PySem.W.mg_none_of X G zOverflowError, PySem.W.mg_none_of X G zIndexError, PySem.W.mg_none_of X G zKeyError, PySem.W.mg_none_of X G zNotImplementedError⟩
  have GOtherPeople := fun_mk (st := S_OtherPeople) lIOtherPeople cIOtherPeople kIOtherPeople
  have XOtherPeople : Cl K COtherPeople 0 := cl_mk 0 xOtherPeople saOtherPeople gaOtherPeople ggOtherPeople kCOtherPeople caOtherPeople tyOtherPeople hsp htk
  let c : Ad := ⟨COtherPeople⟩
  have b0 := F0.binds (ps := ["row", "height"]) fun _ _ _ _ _ _ us hl => match us, hl with | [_, _], _ => rfl
  have b1 := F1.binds (ps := ["row"]) fun _ _ _ _ _ _ us hl => match us, hl with | [_], _ => rfl
  have b2 := F2.binds (ps := ["many"]) fun _ _ _ _ _ _ us hl => match us, hl with | [_], _ => rfl
  have b3 := F3.binds (ps := ["interval"]) fun _ _ _ _ _ _ us hl => match us, hl with | [_], _ => rfl
  have b4 := F4.binds (ps := ["intervals", "code"]) fun _ _ _ _ _ _ us hl => match us, hl with | [_, _], _ => rfl
  have b5 := F5.binds (ps := ["intervals", "code"]) fun _ _ _ _ _ _ us hl => match us, hl with | [_, _], _ => rfl
  have b6 := F6.binds (ps := ["row"]) fun _ _ _ _ _ _ us hl => match us, hl with | [_], _ => rfl
  have b7 := F7.binds (ps := ["row"]) fun _ _ _ _ _ _ us hl => match us, hl with | [_], _ => rfl
  have b8 := F8.binds (ps := ["one", "other"]) fun _ _ _ _ _ _ us hl => match us, hl with | [_, _], _ => rfl
  have b9 := F9.binds (ps := ["one", "other"]) fun _ _ _ _ _ _ us hl => match us, hl with | [_, _], _ => rfl
  have b10 := F10.binds (ps := ["one", "other"]) fun _ _ _ _ _ _ us hl => match us, hl with | [_, _], _ => rfl
  have b11 := F11.binds (ps := ["row"]) fun _ _ _ _ _ _ us hl => match us, hl with | [_], _ => rfl
  have b12 := F12.binds (ps := ["_law_script", "_law_k"]) fun _ _ _ _ _ _ us hl => match us, hl with | [_, _], _ => rfl
  have b13 := F13.binds (ps := ["_law_script", "_law_k"]) fun _ _ _ _ _ _ us hl => match us, hl with | [_, _], _ => rfl
  have b14 := F14.binds (ps := ["_law_box_here", "_law_below"]) fun _ _ _ _ _ _ us hl => match us, hl with | [_, _], _ => rfl
  have b15 := F15.binds (ps := ["_law_box_here", "_law_some"]) fun _ _ _ _ _ _ us hl => match us, hl with | [_, _], _ => rfl
  have b16 := F16.binds (ps := ["_law_box_here", "_law_count"]) fun _ _ _ _ _ _ us hl => match us, hl with | [_, _], _ => rfl
  have b17 := F17.binds (ps := ["_law_crowd", "_law_i", "_law_j"]) fun _ _ _ _ _ _ us hl => match us, hl with | [_, _, _], _ => rfl
  have b18 := F18.binds (ps := ["_law_crowd"]) fun _ _ _ _ _ _ us hl => match us, hl with | [_], _ => rfl
  have b19 := F19.binds (ps := ["_law_crowd", "_law_swap"]) fun _ _ _ _ _ _ us hl => match us, hl with | [_, _], _ => rfl
  have b20 := F20.binds (ps := ["_law_crowd", "_law_most"]) fun _ _ _ _ _ _ us hl => match us, hl with | [_, _], _ => rfl
  have b21 := F21.binds (ps := ["_law_souls_here"]) fun _ _ _ _ _ _ us hl => match us, hl with | [_], _ => rfl
  have b22 := F22.binds (ps := ["_law_box_here"]) fun _ _ _ _ _ _ us hl => match us, hl with | [_], _ => rfl
  refine ⟨PySem.W.fnOf "law" "law" (defArgs S_law) (defBody S_law) (defScope S_law) .none kV23 dc23 pm23 an23 cd23 ct23, fun s v => .of_eq rfl, fun base _ _ => ?_⟩
  have M : Mks l.prog w K mg base c := by
    refine ⟨?_⟩
    · exact ⟨XOtherPeople, PySem.W.mg_of X G gOtherPeople, iOtherPeople, _, iCOtherPeople, tIOtherPeople, iniOtherPeople GOtherPeople, kbn_of GOtherPeople 1 [] (fun _ _ _ _ _ _ us ws h1 h2 => match us, ws, h1, h2 with | [_], [], _, _ => rfl)⟩
  have G12 := dk_cell_at (P := l.prog) (w := w) (mg := mg) (base := base) F12  B
  have G13 := dk_box (P := l.prog) (w := w) (mg := mg) (base := base) F13 G12 b12 F12.kp m12 B
  have G14 := dk_take (P := l.prog) (w := w) (mg := mg) (base := base) F14  b14 m14 B 2
  have G15 := dk_of (P := l.prog) (w := w) (mg := mg) (base := base) F15 G14 b14 F14.kp m14 B
  have G16 := dk_souls (P := l.prog) (w := w) (mg := mg) (base := base) F16 G14 b14 F14.kp m14 G15 b15 F15.kp m15 B
  have G0 := dk_code_of (P := l.prog) (w := w) (mg := mg) (base := base) F0  B
  have G1 := dk_codes (P := l.prog) (w := w) (mg := mg) (base := base) F1 G0 b0 F0.kp m0 B
  have G2 := dk_first_intervals (P := l.prog) (w := w) (mg := mg) (base := base) F2  B
  have G3 := dk_run_size (P := l.prog) (w := w) (mg := mg) (base := base) F3  B
  have G4 := dk_run_index (P := l.prog) (w := w) (mg := mg) (base := base) F4  B
  have G5 := dk_next_intervals (P := l.prog) (w := w) (mg := mg) (base := base) F5 G4 b4 F4.kp m4 B
  have G6 := dk_run_lists (P := l.prog) (w := w) (mg := mg) (base := base) F6 G1 b1 F1.kp m1 G2 b2 F2.kp m2 G5 b5 F5.kp m5 B
  have G7 := dk_runs (P := l.prog) (w := w) (mg := mg) (base := base) F7 G1 b1 F1.kp m1 G6 b6 F6.kp m6 G4 b4 F4.kp m4 B
  have G8 := dk_check_same_people (P := l.prog) (w := w) (mg := mg) (base := base) F8  B
  have G10 := dk_bar (P := l.prog) (w := w) (mg := mg) (base := base) F10 G8 b8 F8.kp m8 G7 b7 F7.kp m7 B
  have G9 := dk_leads (P := l.prog) (w := w) (mg := mg) (base := base) F9 G10 b10 F10.kp m10 B
  have G11 := dk_count_rows (P := l.prog) (w := w) (mg := mg) (base := base) F11 G3 b3 F3.kp m3 G7 b7 F7.kp m7 B
  have G17 := dk_sees (P := l.prog) (w := w) (mg := mg) (base := base) F17  B
  have G18 := dk_swaps (P := l.prog) (w := w) (mg := mg) (base := base) F18 G17 b17 F17.kp m17 B
  have G19 := dk_turned (P := l.prog) (w := w) (mg := mg) (base := base) F19  B
  have G20 := dk_reached (P := l.prog) (w := w) (mg := mg) (base := base) F20 G18 b18 F18.kp m18 G19 b19 F19.kp m19 B
  have G21 := dk_every (P := l.prog) (w := w) (mg := mg) (base := base) F21  B
  have G22 := dk_right (P := l.prog) (w := w) (mg := mg) (base := base) F22 G16 b16 F16.kp m16 G14 b14 F14.kp m14 G21 b21 F21.kp m21 G7 b7 F7.kp m7 G20 b20 F20.kp m20 G11 b11 F11.kp m11 G15 b15 F15.kp m15 G10 b10 F10.kp m10 G9 b9 F9.kp m9 B
  exact FnG.imp (dk_law F23 G13 b13 F13.kp m13 G22 b22 F22.kp m22 B) fun vs H Q E z => spT_of law_ok z
theorem walk {l : PySem.W.OpenLaw} {q : Program} {loose : List Str} {XP : (Str → Option Value) → Heap → Prop} {YP : World → Heap → Prop} {d : DefRec} {K : Params → PySem.W.Frag} (hn : l.most = some 63) (hdf : d.params.defaults = [])
    (hY : ∀ (w : World) (h : Heap), YP w h → (K w.params).In h)
    (F : ∀ (w : World) (mg : Str → Option Value) (fa : Addr) (h : Heap), (K w.params).In h → h.Ns mainGlobals mg → mg d.name = some (.ref fa) →
      ∃ fd : FuncData, (∀ (s : Shared) (u : Value), BindsTo s fd ⟨[u], []⟩ [("_law_script", u)]) ∧ ∀ base : Heap, (K w.params).In base → base.Ns mainGlobals mg → FnG l.prog w (K w.params) mg base 8 fa fd ["_law_script"] (spT (K w.params))) :
    PySem.W.WalkO q loose XP YP l.row.toRowW d [] (fun f vs => PySem.call f vs) :=
  walkG (n := 63) (k := 8) (x := "_law_script") (sp := fun w => spT (K w.params)) hn (by decide) hdf ⟨rfl, by decide, by decide⟩ hY F fun _ _ a ns hl hS => ⟨a, ns, rfl, hS, fun _ _ e => e⟩
end Ov
open PySem PySem.W PyProof.Rows
set_option maxRecDepth 100000 in
set_option maxHeartbeats 0 in
theorem PySem.Challenge.cw_overlooks_k60_whole_all_rows_of_few_peop_holds : PySem.Challenge.rw_overlooks_k60_whole_all_rows_of_few_peop.Holds := by
  w_on; o_law; k_head; (case hw => w_witness2)
  k_fill
  refine Ov.walk (l := PySem.Challenge.rw_overlooks_k60_whole_all_rows_of_few_peop) rfl rfl (fun w h Y => PySem.W.kIn_of Y) ?F
  case F =>
    intro w mg fa h KX G hmg
    refine' Ov.all_mk KX G hmg ?a0 ?l0 ?c0 ?k0 ?a1 ?l1 ?c1 ?k1 ?a2 ?l2 ?c2 ?k2 ?a3 ?l3 ?c3 ?k3 ?a4 ?l4 ?c4 ?k4 ?a5 ?l5 ?c5 ?k5 ?a6 ?l6 ?c6 ?k6 ?a7 ?l7 ?c7 ?k7 ?a8 ?l8 ?c8 ?k8 ?a9 ?l9 ?c9 ?k9 ?a10 ?l10 ?c10 ?k10 ?a11 ?l11 ?c11 ?k11 ?a12 ?l12 ?c12 ?k12 ?a13 ?l13 ?c13 ?k13 ?a14 ?l14 ?c14 ?k14 ?a15 ?l15 ?c15 ?k15 ?a16 ?l16 ?c16 ?k16 ?a17 ?l17 ?c17 ?k17 ?a18 ?l18 ?c18 ?k18 ?a19 ?l19 ?c19 ?k19 ?a20 ?l20 ?c20 ?k20 ?a21 ?l21 ?c21 ?k21 ?a22 ?l22 ?c22 ?k22 ?a23 ?l23 ?c23 ?k23 ?gOtherPeople ?xOtherPeople ?saOtherPeople ?gaOtherPeople ?ggOtherPeople ?kCOtherPeople ?caOtherPeople ?tyOtherPeople ?iCOtherPeople ?tIOtherPeople ?lIOtherPeople ?cIOtherPeople ?kIOtherPeople ?hsp ?htk ?zisinstance ?zlist ?ztuple ?zlen ?zall ?zany ?zzip ?zbool ?zstr ?zint ?zabs ?zmax ?zmin ?zrange ?zsorted ?zenumerate ?zset ?zsum ?zreversed ?zrepr ?zdict ?zValueError ?zLookupError ?zRuntimeError ?zOverflowError ?zIndexError ?zKeyError ?zNotImplementedError ?ndC
    (case a0 => k_is)
    (case l0 => k_is)
    (case c0 => k_is)
    (case k0 => k_is)
    (case a1 => k_is)
    (case l1 => k_is)
    (case c1 => k_is)
    (case k1 => k_is)
    (case a2 => k_is)
    (case l2 => k_is)
    (case c2 => k_is)
    (case k2 => k_is)
    (case a3 => k_is)
    (case l3 => k_is)
    (case c3 => k_is)
    (case k3 => k_is)
    (case a4 => k_is)
    (case l4 => k_is)
    (case c4 => k_is)
    (case k4 => k_is)
    (case a5 => k_is)
    (case l5 => k_is)
    (case c5 => k_is)
    (case k5 => k_is)
    (case a6 => k_is)
    (case l6 => k_is)
    (case c6 => k_is)
    (case k6 => k_is)
    (case a7 => k_is)
    (case l7 => k_is)
    (case c7 => k_is)
    (case k7 => k_is)
    (case a8 => k_is)
    (case l8 => k_is)
    (case c8 => k_is)
    (case k8 => k_is)
    (case a9 => k_is)
    (case l9 => k_is)
    (case c9 => k_is)
    (case k9 => k_is)
    (case a10 => k_is)
    (case l10 => k_is)
    (case c10 => k_is)
    (case k10 => k_is)
    (case a11 => k_is)
    (case l11 => k_is)
    (case c11 => k_is)
    (case k11 => k_is)
    (case a12 => k_is)
    (case l12 => k_is)
    (case c12 => k_is)
    (case k12 => k_is)
    (case a13 => k_is)
    (case l13 => k_is)
    (case c13 => k_is)
    (case k13 => k_is)
    (case a14 => k_is)
    (case l14 => k_is)
    (case c14 => k_is)
    (case k14 => k_is)
    (case a15 => k_is)
    (case l15 => k_is)
    (case c15 => k_is)
    (case k15 => k_is)
    (case a16 => k_is)
    (case l16 => k_is)
    (case c16 => k_is)
    (case k16 => k_is)
    (case a17 => k_is)
    (case l17 => k_is)
    (case c17 => k_is)
    (case k17 => k_is)
    (case a18 => k_is)
    (case l18 => k_is)
    (case c18 => k_is)
    (case k18 => k_is)
    (case a19 => k_is)
    (case l19 => k_is)
    (case c19 => k_is)
    (case k19 => k_is)
    (case a20 => k_is)
    (case l20 => k_is)
    (case c20 => k_is)
    (case k20 => k_is)
    (case a21 => k_is)
    (case l21 => k_is)
    (case c21 => k_is)
    (case k21 => k_is)
    (case a22 => k_is)
    (case l22 => k_is)
    (case c22 => k_is)
    (case k22 => k_is)
    (case a23 => k_is)
    (case l23 => k_is)
    (case c23 => k_is)
    (case k23 => k_is)
    (case gOtherPeople => k_is)
    (case xOtherPeople => k_is)
    (case saOtherPeople => k_is)
    (case gaOtherPeople => k_is)
    (case ggOtherPeople => k_is)
    (case kCOtherPeople => k_is)
    (case caOtherPeople => k_is)
    (case tyOtherPeople => k_is)
    (case iCOtherPeople => k_is)
    (case tIOtherPeople => k_is)
    (case lIOtherPeople => k_is)
    (case cIOtherPeople => k_is)
    (case kIOtherPeople => k_is)
    (case hsp => k_is)
    (case htk => k_is)
    (case zisinstance => k_is)
    (case zlist => k_is)
    (case ztuple => k_is)
    (case zlen => k_is)
    (case zall => k_is)
    (case zany => k_is)
    (case zzip => k_is)
    (case zbool => k_is)
    (case zstr => k_is)
    (case zint => k_is)
    (case zabs => k_is)
    (case zmax => k_is)
    (case zmin => k_is)
    (case zrange => k_is)
    (case zsorted => k_is)
    (case zenumerate => k_is)
    (case zset => k_is)
    (case zsum => k_is)
    (case zreversed => k_is)
    (case zrepr => k_is)
    (case zdict => k_is)
    (case zValueError => k_is)
    (case zLookupError => k_is)
    (case zRuntimeError => k_is)
    (case zOverflowError => k_is)
    (case zIndexError => k_is)
    (case zKeyError => k_is)
    (case zNotImplementedError => k_is)
    (case ndC => decide)
